import PyProof.Rows.All
import Wide.All
import OpenK.AllK
import Wide.FinOn
import Lean
import PyProof.EqAt
import PyProof.EqKinds
import PyProof.TupleCall
import PyProof.DictTruth
import PyProof.Conv_int_bool
import PySem.Challenge.RW_weblayers_k06_whole_two_parts
set_option Elab.async false
set_option linter.all false
set_option maxRecDepth 100000
set_option maxHeartbeats 4000000
set_option genSizeOf false
set_option genSizeOfSpec false
section
open PySem PySem.Spec PyProof.Rows Spec
def w1:=@Nat.lt_succ_of_lt
def wd:=@List.replicate_succ
def wh:=@wpAny_seqItems
def wi:=@List.mem_range
def ws:=@if_true
def vR:=@Nat.ne_of_gt
def vS:=@List.getElem?_eq_none
def vT:=@wpAny_isInstance
def vU:=@Nat.le_succ
def vV:=@List.not_mem_nil
def vW:=@List.any_eq_true
def vX:=@wpAny_attempt
def vY:=@decide_eq_false_iff_not
def vZ:=@List.length_eq_zero_iff
def v0:=@List.getElem?_replicate
def v4:=@F.slot_dict_keyiterator_next
def v5:=@wpAny_setField
def v6:=@wpAny_mono
def v7:=@Int.toNat_natCast
def v8:=@PyProof.Rows.callWith_type1
def v9:=@List.mem_filter
def va:=@List.map_congr_left
def vb:=@List.length_nil
def vc:=@Array.getElem?_eq_none
def vd:=@wpAny_rule
def ve:=@beq_iff_eq
def vf:=@List.all_eq_true
def vg:=@wpAny_standAt
def vh:=@if_false
def vi:=@Int.fmod_lt_of_pos
def vj:=@decide_eq_true
def vk:=@List.mem_of_mem_take
def vl:=@List.mem_append_left
def vm:=@Int.fdiv_nonneg
def vn:=@List.any_cons
def vo:=@wpAny_typeNameOfWhole_keyiter
def vp:=@wpAny_fieldsOf
def vq:=@PySem.W.cellsFrom_some
def vr:=@List.getElem?_set_self
def vt:=@wpAny_setField_rec
def vu:=@List.zip_cons_cons
def vv:=@Calls.spliced_cons
def vw:=@wpAny_updateSeq
def vx:=@wpAny_passesOwn
def vy:=@Obj.isFreed_of_fields
def vz:=@List.nodup_cons
def uA:=@List.forIn_cons
def uB:=@Bool.eq_iff_iff
def uC:=@List.flatten_cons
def uD:=@List.ext_getElem?
def uE:=@List.append_assoc
def uF:=@List.any_eq_false
def uG:=@F.plain_list_iadd
def uH:=@Bool.not_eq_true'
def uI:=@Int.fdiv_eq_ediv_of_nonneg
def uJ:=@F.slot_tuple_iterator_next
def uK:=@List.pairwise_iff_getElem
def uL:=@List.drop_eq_getElem_cons
def uM:=@Nat.lt_succ_self
def uN:=@wpAny_setEntries_of
def uO:=@wpAny_typeNameOf_keyiter
def uP:=@List.getElem?_take_of_lt
def uQ:=@F.called_set
def uR:=@wpAny_ite_split
def uS:=@get?_update_seq
def uT:=@List.getElem?_cons_zero
def uU:=@List.find?_cons
def uV:=@List.append_nil
def uW:=@List.drop_of_length_le
def uX:=@wpAny_of_eq
def uY:=@Calls.spliced_nil
def uZ:=@PyProof.Rows.callWith_builtin1
def u0:=@List.map_nil
def u5:=@wpAny_askSetting
def u6:=@Nat.le_add_right
def u7:=@List.prefix_refl
def u8:=@List.getElem_mem
def u9:=@List.eq_nil_of_length_eq_zero
def ua:=@Int.mul_le_mul_of_nonneg_left
def ub:=@F.plain_sum_loop
def uc:=@List.getElem?_set_ne
def ud:=@Array.getElem_toList
def ue:=@List.sum_cons
def uf:=@List.all_cons
def ug:=@typeIs_int
def uh:=@wpAny_letGo
def ui:=@List.drop_succ_cons
def uj:=@Array.getElem_setIfInBounds
def uk:=@wpAny_typeOf
def ul:=@wpAny_pyIter_tuple
def um:=@wpAny_Call_Name_kw
def uo:=@Nat.lt_of_lt_of_eq
def uq:=@Nat.le_of_lt
def ur:=@isSubtype_type
def ut:=@isSubtype_stop
def uu:=@List.getElem?_zip_eq_some
def uv:=@List.exists_mem_of_ne_nil
def uw:=@List.drop_zero
def ux:=@Calls.call_function_entry
def uy:=@wpAny_dictEntries
def uz:=@fits_of_scanBound
def xA:=@bne_self_eq_false
def xB:=@PySem.F.args_tuple_add_2
def xC:=@Obj.cls_mapFields
def xD:=@Nat.not_lt
def xE:=@List.nodup_append
def xF:=@wpAny_handled
def xG:=@or_false
def xH:=@PySem.F.entry_tuple_add
def xI:=@List.pairwise_singleton
def xJ:=@F.plain_set_update_loop
def xK:=@Option.bind_none
def xL:=@List.take_length
def xM:=@List.length_drop
def xN:=@List.getElem_inj
def xO:=@Heap.size_update
def xP:=@PySem.F.slot_tuple_add
def xQ:=@Option.map_eq_some_iff
def xR:=@codeAny_mono
def xS:=@List.map_append
def xT:=@F.slot_zip_next
def xU:=@F.slot_int_rmul
def xV:=@F.plain_proto_collect
def xW:=@F.entry_proto_collect
def xX:=@Bool.or_eq_true
def xY:=@Bool.and_eq_false_iff
def xZ:=@bne_iff_ne
def xa:=@wpAny_updateSeq_pair
def xb:=@wpAny_runValue
def xc:=@Bool.and_false
end
section
open PySem PySem.Spec PyProof.Rows Spec
def wA:=@wpAny_bind
def wB:=@Heap.get?_push_of_some
def wC:=@wpAny_pure
def wD:=@List.getElem?_eq_getElem
def wE:=@Heap.get?_push_size
def wF:=@Nat.le_refl
def wG:=@Heap.lt_size
def wH:=@List.size_toArray
def wI:=@List.mem_cons_self
def wJ:=@List.mem_cons_of_mem
def wK:=@List.getElem?_eq_some_iff
def wL:=@if_neg
def wM:=@if_pos
def wN:=@List.mem_cons
def wO:=@wpAny_newObj_type
def wP:=@Bool.and_eq_true
def wQ:=@Heap.get?_update_other
def wR:=@Bool.false_ne_true
def wS:=@Nat.ne_of_lt
def wT:=@List.length_map
def wU:=@Nat.lt_of_lt_of_le
def wV:=@List.mem_singleton
def wW:=@List.getElem?_map
def wX:=@List.getElem?_append_left
def wY:=@Option.bind_some
def wZ:=@List.mem_append_right
def w4:=@List.map_cons
def w5:=@wpAny_callSpecial?_slot
def w6:=@wpAny_call_entry
def w8:=@List.getElem?_append_right
def w9:=@Heap.size_push
def wa:=@Array.getElem?_eq_getElem
def wb:=@Option.map_some
def wc:=@List.length_cons
def we:=@Array.length_toList
def wf:=@Nat.le_trans
def wg:=@Heap.get?_update_self
def wj:=@Bool.false_eq_true
def wk:=@Int.fmod_nonneg_of_pos
def wm:=@List.mem_of_getElem?
def wn:=@Around.under_plainId
def wo:=@decide_eq_false
def wp:=@List.pairwise_cons
def wq:=@List.map_map
def wt:=@beq_eq_false_iff_ne
def wu:=@wpAny_holding
def wv:=@Array.getElem?_toList
def ww:=@List.getD_eq_getElem?_getD
def wx:=@PySem.mem_of_lookup
def wy:=@decide_eq_true_eq
def wz:=@codeAny_builtin
def vA:=@List.length_take
def vB:=@PyProof.Rows.slot_tuple_getitem
def vC:=@Obj.data_mapFields
def vD:=@plainId_quiet
def vE:=@Nat.lt_irrefl
def vF:=@Nat.zero_le
def vG:=@List.getElem_of_mem
def vH:=@sizeLine_eq
def vI:=@PySem.W.kia_one
def vJ:=@List.mem_append
def vK:=@List.length_append
def vL:=@List.mem_map
def vM:=@List.lookup_cons
def vN:=@wpAny_truthy_bool
def vO:=@wpAny_setState_of
def vP:=@wpAny_field
def vQ:=@of_decide_eq_true
end
namespace L2
open PySem PySem.Spec PyProof.Rows
noncomputable abbrev Key:=Sum Int Str
noncomputable def keyIs:Key->Value->Bool
 | .inl k,v=>Value.isInt k v
 | .inr x,v=>Value.isStrOf x v
noncomputable def keyH(w:World):Key->Int
 | .inl k=>hashInt k
 | .inr x=>hashStr w x
theorem keyIs_shape:∀{k:Key} {v:Value},keyIs k v=true->(∃i t,k=Sum.inl i/\v=Value.int i t)\/(∃x t,k=Sum.inr x/\v=Value.str x t)
 | .inl i,v,h=>by
  obtain⟨t,e⟩:=Value.isInt_shape (k:=i) (v:=v) h
  exact .inl ⟨i,t,rfl,e⟩
 | .inr x,v,h=>by
  obtain⟨t,e⟩:=Value.isStrOf_shape (x:=x) (v:=v) h
  exact .inr ⟨x,t,rfl,e⟩
theorem qc2(i:Int)(t:Tok):keyIs (.inl i) (.int i t)=true:=by simp[keyIs,Value.isInt]
theorem qc3(x:Str)(t:Tok):keyIs (.inr x) (.str x t)=true:=by simp[keyIs,Value.isStrOf]
theorem qhe(a b:Int):decide ((Sum.inl a:Key)=Sum.inl b)=(a == b):=by
 by_cases e:a=b
 .subst e;simp
 .have h:¬(Sum.inl a:Key)=Sum.inl b:=λq=>e (Sum.inl.inj q)
  rw[wo h]
  exact(wt.mpr e).symm
theorem qhf(a b:Str):decide ((Sum.inr a:Key)=Sum.inr b)=decide (a=b):=by
 by_cases e:a=b
 .subst e;simp
 .have h:¬(Sum.inr a:Key)=Sum.inr b:=λq=>e (Sum.inr.inj q)
  rw[wo h,wo e]
theorem qhg(a:Int)(b:Str):decide ((Sum.inl a:Key)=Sum.inr b)=false:=wo (λq=>nomatch q)
theorem qhh(a:Str)(b:Int):decide ((Sum.inr a:Key)=Sum.inl b)=false:=wo (λq=>nomatch q)
noncomputable def mixKind(prog:Program)(w:World):PySem.KeyKind prog w Key where
 is:=keyIs
 hash:=keyH w
 inj:=λv a b ha d=>by
  rcases keyIs_shape ha with ⟨i,t,rfl,rfl⟩|⟨x,t,rfl,rfl⟩
  .rcases keyIs_shape d with ⟨j,u,rfl,e⟩|⟨y,u,rfl,e⟩
   .injection e with e1 _;rw[e1]
   .exact nomatch e
  .rcases keyIs_shape d with ⟨j,u,rfl,e⟩|⟨y,u,rfl,e⟩
   .exact nomatch e
   .injection e with e1 _;rw[e1]
 byValue:=λk v h=>by
  rcases keyIs_shape h with ⟨i,t,rfl,rfl⟩|⟨x,t,rfl,rfl⟩ <;> rfl
 pyHash:=λc h=>by
  rcases keyIs_shape c with ⟨i,t,rfl,rfl⟩|⟨x,t,rfl,rfl⟩
  .exact wpAny_pyHash_int h
  .exact wpAny_pyHash_str h
 eqBool:=λf c h=>by
  rcases keyIs_shape f with ⟨i,t,rfl,rfl⟩|⟨x,t,rfl,rfl⟩
  .rcases keyIs_shape c with ⟨j,u,rfl,rfl⟩|⟨y,u,rfl,rfl⟩
   .rw [qhe]at h;exact wpAny_eqBool_int h
   .rw [qhg]at h;exact SeqAt.EqAt.int_str i t y u _ _ _ _ h
  .rcases keyIs_shape c with ⟨j,u,rfl,rfl⟩|⟨y,u,rfl,rfl⟩
   .rw [qhh]at h;exact SeqAt.EqAt.str_int x t j u _ _ _ _ h
   .rw [qhf]at h;exact wpAny_eqBool_str h
 «strs»:=λk x t v h=>by
  rcases keyIs_shape h with ⟨i,u,rfl,e⟩|⟨y,u,rfl,e⟩
  .exact nomatch e
  .injection e with e1 _
   subst e1
   cases v <;> rfl
theorem qaP(prog:Program)(w:World)(i:Int)(t:Tok):(mixKind prog w).is (.inl i) (.int i t)=true:=qc2 i t
theorem qaQ(prog:Program)(w:World)(x:Str)(t:Tok):(mixKind prog w).is (.inr x) (.str x t)=true:=qc3 x t
end L2
namespace L2
open PySem PySem.Spec PyProof.Rows
inductive V where
 |non|bl (b:Bool)|int (i:Int)|str (x:Str)|byt (b:Array UInt8)|flt (b:UInt64)|ref (a:Addr)|ty (n:String)
 deriving DecidableEq
def RelV:V->Value->Prop
 | .non,u=>u=Value.none
 | .bl b,u=>u=Value.bool b
 | .int i,u=>∃t,u=Value.int i t
 | .str x,u=>∃t,u=Value.str x t
 | .byt b,u=>∃t,u=Value.bytes b t
 | .flt b,u=>∃t,u=Value.float b t
 | .ref a,u=>u=Value.ref a
 | .ty n,u=>u=Value.type n
noncomputable abbrev Vals:List V->List Value->Prop:=Paired RelV
theorem Vals.length{xs:List V}{us:List Value}(r:Vals xs us):xs.length=us.length:=Paired.length r
theorem Vals.get:∀{xs:List V} {us:List Value} {i:Nat} {x:V},Vals xs us->xs[i]?=some x->∃u,us[i]?=some u/\RelV x u
 |_,_,_,_,.nil,e=>by simp at e
 |_,_,0,_,.cons r _,e=>by simp at e;subst e;exact⟨_,rfl,r⟩
 |_,_,i+1,x,.cons _ t,e=>by
  obtain⟨u,a,b⟩:=Vals.get (i:=i) (x:=x) t (by simpa using e)
  exact⟨u,by simpa using a,b⟩
theorem Vals.set{x:V}{u:Value}(r:RelV x u):∀{xs:List V} {us:List Value} (i:Nat),Vals xs us->Vals (xs.set i x) (us.set i u)
 |_,_,_,.nil=>.nil
 |_,_,0,.cons _ t=>.cons r t
 |_,_,i+1,.cons q t=>.cons q (Vals.set r i t)
theorem Vals.append:∀{xs ys:List V} {us a:List Value},Vals xs us->Vals ys a->Vals (xs++ys) (us++a)
 |_,_,_,_,.nil,s=>s
 |_,_,_,_,.cons r t,s=>.cons r (Vals.append t s)
theorem Vals.take:∀{xs:List V} {us:List Value} (n:Nat),Vals xs us->Vals (xs.take n) (us.take n)
 |_,_,0,_=>.nil
 |_,_,_+1,.nil=>.nil
 |_,_,n+1,.cons r t=>.cons r (Vals.take n t)
theorem Vals.drop:∀{xs:List V} {us:List Value} (n:Nat),Vals xs us->Vals (xs.drop n) (us.drop n)
 |_,_,0,r=>r
 |_,_,_+1,.nil=>.nil
 |_,_,n+1,.cons _ t=>Vals.drop n t
def RelO:Option V->Option Value->Prop
 |some v,some u=>RelV v u
 |none,none=>True
 |_,_=>False
noncomputable def KV{κ:Type}:List (κ×V)->List (κ×Value)->Prop:=Paired λ(p:κ×V) (q:κ×Value)=>p.1=q.1/\RelV p.2 q.2
noncomputable def kV:Key->V
 | .inl i=>.int i
 | .inr x=>.str x
inductive HO where
 |lst (xs:List V)
 |tup (xs:List V)
 |dK (kvs:List (Key×V))|dT (kvs:List (List Key×V))
 |set (S:Int->Bool) (n:Nat)
 |ins (C dx:Addr) (fs:List (Str×V))
 |own (x:Addr)
 |xd (fs:List (Str×V))
 |met (f x:Addr)
 |rng (lo hi:Int)
 |frz (o:Obj) (u:HO)
 |tbl (ps:Array Value)
 |ext (φ:Heap->Prop)
noncomputable abbrev Hp:=Addr->Option HO
noncomputable def upd(H:Hp)(a:Addr)(o:HO):Hp:=λb=>if b=a then some o else H b
theorem qr{H:Hp}{a:Addr}{o:HO}:upd H a o a=some o:=by unfold upd;rw[wM rfl]
theorem qk{H:Hp}{a b:Addr}{o:HO}(h:b≠a):upd H a o b=H b:=by unfold upd;rw[wL h]
theorem qiL{H:Hp}{a b:Addr}{o u:HO}(h:H a=some o)(h':H b=some u)(d:o≠u):a≠b:=by
 intro e;subst e;rw[h]at h';exact d (Option.some.inj h')
theorem q8{H:Hp}{a b:Addr}{o:HO}(h:H a=some o)(h':H b=none):a≠b:=by
 intro e;subst e;rw[h]at h';cases h'
theorem yg(h:Heap)(a:Array Value):∀o,(h.push {cls:=.type "tuple",data:=.seq a}).get? h.objs.size=some o->o.dict=none:=λo q=>by
 rw[wE _ rfl]at q;cases q;rfl
section
variable(P:Program)(w:World)
def ObjOk(H:Hp)(h:Heap)(a:Addr):HO->Prop
 | .lst xs=>xs.length<=sizeLine/\∃(b:List Value) (n:Nat),Vals xs b/\h.get? a=some {cls:=.type "list",data:=.seq b.toArray n}
 | .tup xs=>xs.length<=sizeLine/\∃b:List Value,Vals xs b/\IsTup h a b.toArray/\∀o,h.get? a=some o->o.dict=none
 | .dK kvs=>kvs.length<=sizeLine/\(a == sysModules)=false/\∃vs,KV kvs vs/\h.DictOf (mixKind P w) a vs
 | .dT kvs=>kvs.length<=sizeLine/\(a == sysModules)=false/\∃xs:List (List Key×Addr×Value),
   Paired (λ(p:List Key×V) (q:List Key×Addr×Value)=>p.1=q.1/\H q.2.1=some (.tup (p.1.map kV))/\RelV p.2 q.2.2) kvs xs /\
   ∃o es ep,h.get? a=some o/\o.ExactDict/\o.data=.dict es ep/\es.toList=xs.map (entryOfKey (tupleKind (mixKind P w)))/\(xs.map (·.1)).Nodup
 | .set S n=>h.SetOf (intKind P w) a S n
 | .ins C dx fs=>H dx=some (.own a)/\fs.length<=1000/\dx≠a/\h.get? a=some (PySem.W.instObj C dx) /\
   ∃mA,h.Ns1 dx mA/\(∀f,RelO (fs.lookup f) (mA f))/\PySem.Within mA (fs.map (·.1))
 | .own _=>∃o,h.get? a=some o
 | .xd fs=>∃mA,h.Ns1 a mA/\∀f,RelO (fs.lookup f) (mA f)
 | .rng lo hi=>∃t u v,h.get? a=some {cls:=.type "range",data:=.fields #[.int lo t,.int hi u,.int 1 v]}
 | .frz o u=>h.get? a=some o/\ObjOk H h a u
 | .tbl ps=>h.get? a=some {cls:=.none,data:=.fields ps}/\TriplesOk ps.toList
 | .met f x=>h.get? a=some (PySem.W.methodObj (.ref f) (.ref x))
 | .ext c=>c h/\(∃o,h.get? a=some o)/\∀d e:Heap,c d->(∀o,d.get? a=some o->e.get? a=some o)->c e
def HOk(H:Hp)(h:Heap):Prop:=∀a o,H a=some o->ObjOk P w H h a o
end
section
variable{P:Program}{w:World}{H H':Hp}{h h':Heap}{a:Addr}{o:HO}
theorem ObjOk.lt(x:ObjOk P w H h a o):a<h.objs.size:=by
 cases o with
 |lst xs=>obtain⟨_,_,_,_,e⟩:=x;exact wG e
 |tup xs=>obtain⟨_,_,_,p,_⟩:=x;exact p.lt
 |dK kvs=>obtain⟨_,_,_,_,o,_,_,e,_⟩:=x;exact wG e
 |dT kvs=>obtain⟨_,_,_,_,o,_,_,e,_⟩:=x;exact wG e
 |set S n=>obtain⟨o,_,_,_,e,_⟩:=x;exact wG e
 |ins C dx fs=>obtain⟨_,_,_,e,_⟩:=x;exact wG e
 |own y=>obtain⟨_,e⟩:=x;exact wG e
 |xd fs=>obtain⟨_,⟨_,_,_,e,_⟩,_⟩:=x;exact wG e
 |rng lo hi=>obtain⟨_,_,_,e⟩:=x;exact wG e
 |frz ob u=>obtain⟨e,_⟩:=x;exact wG e
 |tbl ps=>exact wG (show h.get? a=some _ from x.1)
 |met f y=>exact wG (show h.get? a=some _ from x)
 |ext b=>obtain⟨_,⟨_,e⟩,_⟩:=x;exact wG e
theorem Paired.mapP{e i:Type}{F G:e->i->Prop}:∀{c:List e} {d:List i},Paired F c d->(∀a b,F a b->G a b)->Paired G c d
 |_,_,.nil,_=>.nil
 |_,_,.cons r t,f=>.cons (f _ _ r) (Paired.mapP t f)
theorem ObjOk.stay(x:ObjOk P w H h a o)(k:∀b u,(b=a\/H b=some (.own a))->h.get? b=some u->h'.get? b=some u)(j:∀b,H b=some (.own a)->H' b=some (.own a))(l:∀b xs,H b=some (.tup xs)->H' b=some (.tup xs)):ObjOk P w H' h' a o:=by
 induction o with
 |lst xs=>obtain⟨z,i,n,r,e⟩:=x;exact⟨z,i,n,r,k _ _ (.inl rfl) e⟩
 |tup xs=>obtain⟨z,i,r,⟨ob,e,c⟩,nd⟩:=x;exact⟨z,i,r,⟨ob,k _ _ (.inl rfl) e,c⟩,λo q=>by rw[k _ _ (.inl rfl) e]at q;cases q;exact nd _ e⟩
 |dK kvs=>obtain⟨z,y,vs,r,ob,es,ep,e,c⟩:=x;exact⟨z,y,vs,r,ob,es,ep,k _ _ (.inl rfl) e,c⟩
 |dT kvs =>
  obtain⟨z,y,xs,r,ob,es,ep,e,c⟩:=x
  exact⟨z,y,xs,Paired.mapP r λp q z=>⟨z.1,l _ _ z.2.1,z.2.2⟩,ob,es,ep,k _ _ (.inl rfl) e,c⟩
 |set S n=>obtain⟨ob,es,ep,t,e,c⟩:=x;exact⟨ob,es,ep,t,k _ _ (.inl rfl) e,c⟩
 |ins C dx fs =>
  obtain⟨d,z,ne,e,mA,⟨od,es,ep,m,c⟩,r⟩:=x
  exact⟨j _ d,z,ne,k _ _ (.inl rfl) e,mA,⟨od,es,ep,k _ _ (.inr d) m,c⟩,r⟩
 |own y=>obtain⟨ob,e⟩:=x;exact⟨ob,k _ _ (.inl rfl) e⟩
 |xd fs=>obtain⟨mA,⟨od,es,ep,e,c⟩,r⟩:=x;exact⟨mA,⟨od,es,ep,k _ _ (.inl rfl) e,c⟩,r⟩
 |rng lo hi=>obtain⟨t,u,v,e⟩:=x;exact⟨t,u,v,k _ _ (.inl rfl) e⟩
 |frz ob u s=>obtain⟨e,q⟩:=x;exact⟨k _ _ (.inl rfl) e,s q⟩
 |tbl ps =>
  obtain⟨e,z⟩:=x
  exact⟨k a _ (.inl rfl) e,z⟩
 |met f y =>
  have e:h.get? a=some (PySem.W.methodObj (.ref f) (.ref y)):=x
  show h'.get? a=some (PySem.W.methodObj (.ref f) (.ref y))
  exact k a _ (.inl rfl) e
 |ext A=>obtain⟨p,⟨o,e⟩,st⟩:=x;exact⟨st _ _ p λo q=>k _ _ (.inl rfl) q,⟨o,k _ _ (.inl rfl) e⟩,st⟩
theorem HOk.lt(x:HOk P w H h)(e:H a=some o):a<h.objs.size:=(x a o e).lt
theorem HOk.fresh(x:HOk P w H h)(e:h.objs.size<=a):H a=none:=by
 cases q:H a with
 |none=>rfl
 |some u=>exact absurd (wU (x.lt q) e) (vE _)
theorem HOk.kept(x:HOk P w H h)(k:∀b u,h.get? b=some u->h'.get? b=some u):HOk P w H h':=λa o e =>
 (x a o e).stay (λb u _ q=>k b u q) (λ_ q=>q) λ_ _ q=>q
theorem HOk.laid(x:HOk P w H h)(k:∀b u,h.get? b=some u->h'.get? b=some u)(f:h.objs.size<=a)(new:ObjOk P w (upd H a o) h' a o):HOk P w (upd H a o) h':=λb u e=>by
 have hn:=x.fresh f
 by_cases d:b=a
 .subst d;rw[qr]at e;cases e;exact new
 .rw [qk d]at e
  exact(x b u e).stay (λc v _ q=>k c v q) (λc q=>by rw[qk (q8 q hn)];exact q) λc xs q=>by rw[qk (q8 q hn)];exact q
end
def Rd(H:Hp)(a:Addr)(u:HO):Prop:=H a=some u\/∃o,H a=some (.frz o u)
theorem Rd.ok{P:Program}{w:World}{H:Hp}{h:Heap}{a:Addr}{u:HO}(r:Rd H a u)(x:HOk P w H h):ObjOk P w H h a u:=by
 rcases r with r|⟨o,r⟩
 .exact x a u r
 .obtain ⟨_,q⟩:=x a _ r
  exact q
def Mut:Option HO->Prop
 |some (.lst _)=>True
 |some (.dK _)=>True
 |some (.dT _)=>True
 |some (.set _ _)=>True
 |some (.ins _ _ _)=>True
 |some (.ext _)=>True
 |_=>False
section
variable{P:Program}{w:World}{H:Hp}{h h':Heap}{x e:Addr}{o':HO}
theorem HOk.write(ok:HOk P w H h)(i:Mut (H x))(n:e=x\/H e=some (.own x))(k:∀b u,b≠e->h.get? b=some u->h'.get? b=some u)(m:∃u,h'.get? e=some u)(new:ObjOk P w (upd H x o') h' x o'):HOk P w (upd H x o') h':=λb u q=>by
 have d:∀c y,H c=some (.own y)->c≠x:=λc y r z=>by subst z;rw[r]at i;exact i
 have f:∀c xs,H c=some (.tup xs)->c≠x:=λc xs r z=>by subst z;rw[r]at i;exact i
 by_cases j:b=x
 .subst j;rw[qr]at q;cases q;exact new
 .rw [qk j]at q
  by_cases a:b=e
  .have o:H b=some (.own x):=by
    rcases n with z|z
    .exact absurd (a.trans z) j
    .rw [a];exact z
   rw[q]at o;cases o
   obtain⟨v,p⟩:=m
   exact⟨v,by rw[a];exact p⟩
  .refine (ok b u q).stay (λc v l r=>k c v ?_ r) (λc r=>by rw[qk (d c b r)];exact r) λc xs r=>by rw[qk (f c xs r)];exact r
   rcases l with rfl|l
   .exact a
   .rintro rfl
    rcases n with z|z
    .exact d c b l z
    .rw [l]at z;cases z;exact j rfl
end
structure Un (fs ex:List Addr) (H H':Hp) (h h':Heap):Prop where
 keep:∀b o,h.get? b=some o->H b=none->b∉fs->b∉ex->h'.get? b=some o
 slot:∀b o,h.get? b=some o->H b=none->b∈fs->b∉ex->∃sl,h'.get? b=some {o with slots:=sl}
 free:∀b o,h.get? b=some o->H b=none->b∉ex->H' b=none
 there:∀b o,h.get? b=some o->b∉ex->∃o',h'.get? b=some o'
 tups:∀b xs,H b=some (.tup xs)->H' b=some (.tup xs)
 frzs:∀b o u,H b=some (.frz o u)->H' b=some (.frz o u)
 tbls:∀b ps,H b=some (.tbl ps)->∃more,H' b=some (.tbl (ps++more))
section
variable{fs fs' ex ex':List Addr}{H H1 H2:Hp}{h h1 h2 h':Heap}{a x e:Addr}{o:HO}
theorem Un.any(u:Un fs ex H H1 h h1){b:Addr}{ob:Obj}(q:h.get? b=some ob)(n:H b=none)(hx:b∉ex):∃sl,h1.get? b=some {ob with slots:=sl}:=by
 by_cases c:b∈fs
 .exact u.slot b ob q n c hx
 .exact ⟨ob.slots,u.keep b ob q n c hx⟩
theorem Un.kept(k:∀b u,h.get? b=some u->h'.get? b=some u):Un fs ex H H h h' :=
 ⟨λb ob q _ _ _=>k b ob q,λb ob q _ _ _=>⟨ob.slots,k b ob q⟩,λ_ _ _ n _=>n,λb ob q _=>⟨ob,k b ob q⟩,λ_ _ q=>q,λ_ _ _ q=>q,λ_ ps q=>⟨#[],by rw[q];simp⟩⟩
theorem Un.refl:Un fs ex H H h h:=Un.kept λ_ _ q=>q
theorem Un.laid(k:∀b u,h.get? b=some u->h'.get? b=some u)(c:h.objs.size<=a)(hn:H a=none):Un fs ex H (upd H a o) h h' where
 keep:=λb u q _ _ _=>k b u q
 slot:=λb u q _ _ _=>⟨u.slots,k b u q⟩
 free:=λb u q n _=>by rw[qk (wS (wU (wG q) c))];exact n
 there:=λb u q _=>⟨u,k b u q⟩
 tups:=λb xs q=>by rw[qk (q8 q hn)];exact q
 frzs:=λb u xs q=>by rw[qk (q8 q hn)];exact q
 tbls:=λb ps q=>⟨#[],by rw[qk (q8 q hn),q];simp⟩
theorem Un.write(d:Mut (H x))(j:e=x\/H e=some (.own x))(k:∀b u,b≠e->h.get? b=some u->h'.get? b=some u)(f:∃u,h'.get? e=some u):Un fs ex H (upd H x o) h h':=by
 have hx:∀b,H b=none->b≠x:=λb n z=>by subst z;rw[n]at d;exact d
 have i:∀b,H b=none->b≠e:=λb n z=>by
  subst z
  rcases j with r|r
  .exact hx b n r
  .rw [n]at r;cases r
 have hm:∀b u,H b=some u->¬Mut (some u)->b≠x:=λb u q nm z=>by subst z;rw[q]at d;exact nm d
 refine⟨λb u q n _ _=>k b u (i b n) q,λb u q n _ _=>⟨u.slots,k b u (i b n) q⟩,λb u q n _=>by rw[qk (hx b n)];exact n,λb u q _=>?_,
  λb xs q=>by rw[qk (hm b _ q λz=>z)];exact q,λb u xs q=>by rw[qk (hm b _ q λz=>z)];exact q,λb ps q=>⟨#[],by rw[qk (hm b _ q λz=>z),q];simp⟩⟩
 by_cases c:b=e
 .subst c;exact f
 .exact ⟨u,k b u c q⟩
end
structure GK (g g':Array GenState):Prop where
 bare:AllBare g'
 sz:g.size<=g'.size
 old:∀i,i<g.size->g'[i]?=g[i]?
theorem GK.refl{g:Array GenState}(b:AllBare g):GK g g:=⟨b,wF _,λ_ _=>rfl⟩
theorem GK.self{g g':Array GenState}(x:GK g g'):GK g' g':=GK.refl x.bare
theorem GK.trans{g c d:Array GenState}(a:GK g c)(b:GK c d):GK g d:=⟨b.bare,wf a.sz b.sz,λi hi=>(b.old i (wU hi a.sz)).trans (a.old i hi)⟩
noncomputable def codeTab(K:PySem.W.Frag)(c T:Addr):Bool:=match K.lookup c with
 |some ⟨cls,_,.fields vs,_⟩=>(cls == .type "code")&&(match(vs.getD 11 Value.none:Value),(vs[11]?:Option Value),(vs.getD 18 Value.none:Value),(vs.getD 7 Value.none:Value),(vs.getD 9 Value.none:Value),(vs.getD 10 Value.none:Value)with
  | .ref a,some (.ref b),.str _ _,.int _ _,.bool _,.int _ _=>a == T&&b == T&&c != T
  |_,_,_,_,_,_=>false)
 |_=>false
noncomputable def trk(h:Heap)(H:Hp):List Addr:=(List.range h.objs.size).filter λa=>(H a).isSome
noncomputable def hidT(h:Heap)(H:Hp):Heap:=PySem.W.hideAll h (trk h H)
theorem qc4(h:Heap)(H:Hp):(hidT h H).objs.size=h.objs.size:=PySem.W.hideAll_size _ _
theorem qdK{h:Heap}{H:Hp}{b:Addr}{o:Obj}(e:h.get? b=some o)(n:H b=none):(hidT h H).get? b=some o :=
 PySem.W.hideAll_get _ e λhm=>by
  have q:(H b).isSome=true:=(v9.mp hm).2
  rw[n]at q;simp at q
theorem qfN{h:Heap}{H:Hp}{b:Addr}{o:Obj}(e:(hidT h H).get? b=some o):h.get? b=some o/\H b=none:=by
 have a:h.get? b=some o:=PySem.W.of_hideAll (trk h H) e
 refine⟨a,?_⟩
 cases q:H b with
 |none=>rfl
 |some x =>
  have hm:b∈trk h H:=v9.mpr ⟨wi.mpr (wG a),by simp[q]⟩
  have z:(hidT h H).get? b=none:=PySem.W.hideAll_none (trk h H) hm
  rw[z]at e;cases e
end L2
namespace L2
open PySem PySem.Spec PyProof.Rows
structure Mod (K:PySem.W.Frag) (mg:Str->Option Value) (base:Heap):Prop where
 kin:K.In base
 glob:base.Ns mainGlobals mg
 blt:∃mb,base.Ns builtinsNs mb/\∀x:Str,x≠"__name__"->mb x=bootBuiltins x
 nolimit:base.NoLimit
 bmod:∃bm ob,mg "__builtins__"=some (.ref bm)/\bm≠builtinsNs/\base.get? bm=some ob/\ob.cls=.type "module"/\ob.dict=some builtinsNs/\ob.data=.plain
structure Cx where
 prog:Program
 w:World
 K:PySem.W.Frag
 mg:Str->Option Value
 base:Heap
 A:Around
 N:List Str
 s₀:Shared
 H₀:Hp
 env:Env
 outer:List Env
 stack:List Env
 ex:List Addr
 fn:Str->Bool
 calm:Bool
 pn:List (Addr×Obj)
 xe:Value->Shared->Prop
noncomputable def frs(l:List Env):List Addr:=l.filterMap (·.frame)
noncomputable abbrev Cx.fs(X:Cx):List Addr:=frs X.outer
def Vis(sc:Scope)(x:Str):Prop:=sc.names.lookup x=some .local\/sc.names.lookup x=some .cell\/sc.names.lookup x=some .free
def Loc(sc:Scope)(x:Str):Prop:=sc.names.lookup x=some .local\/sc.names.lookup x=some .cell
noncomputable def Look(env:Env)(h:Heap)(m:Str->Option Value)(x:Str)(u:Value):Prop :=
 (env.kindOf x=some .local/\m x=some u)\/((env.kindOf x=some .cell\/env.kindOf x=some .free)/\∃c,env.cells.lookup x=some c/\h.IsCell c (some u))
structure Cx.Ok (X:Cx):Prop where
 mod:Mod X.K X.mg X.base
 kind:X.env.scope.kind=.function
 glob:X.env.globals=mainGlobals
 blt:X.env.builtins=builtinsNs
 above:X.s₀.heap.objs.size<=X.env.locals
 inj:∀x y c,X.env.cells.lookup x=some c->X.env.cells.lookup y=some c->x=y
 has:∀x,(X.env.kindOf x=some .cell\/X.env.kindOf x=some .free)->∃c,X.env.cells.lookup x=some c
 cab:∀x c,X.fn x=true->X.env.cells.lookup x=some c->X.s₀.heap.objs.size<=c
 hd:X.calm=true->X.A.handled=none
 frames:X.A.frames=some X.stack
 stk:X.stack=X.outer\/(X.stack=X.env::X.outer/\X.env.frame=some X.env.locals)
 exf:∀b∈X.ex,b≠X.env.locals/\∀x c,X.env.cells.lookup x=some c->c≠b
 bs:∀b o,X.base.get? b=some o->X.s₀.heap.get? b=some o/\X.H₀ b=none
 bsz:X.base.objs.size<=X.s₀.heap.objs.size
 noex:∀b o,X.base.get? b=some o->b∉X.ex
 exfs:∀b∈X.ex,b∉X.fs
 funs:X.s₀.heap.FunFrames X.base X.outer
 frf:∀b∈X.fs,X.H₀ b=none
 tab:∀c T,codeTab X.K c T=true->∃ps,X.H₀ T=some (.tbl ps)
structure Inv (X:Cx) (pins:List (Addr×Obj)) (σ:List (Option V)) (H:Hp) (s:Shared):Prop where
 ok:X.Ok
 os:s.os=X.s₀.os
 bare:GK X.s₀.gens s.gens
 base:Un X.fs X.ex X.H₀ H X.s₀.heap s.heap
 loc:∃m,s.heap.Ns X.env.locals m/\∀(i:Nat) (x:Str) (v:V),X.N[i]?=some x->σ[i]?=some (some v)->Vis X.env.scope x->∃u,RelV v u/\Look X.env s.heap m x u
 cell:∀x c,X.env.cells.lookup x=some c->∃v,s.heap.IsCell c v
 free:H X.env.locals=none
 freeC:∀x c,X.env.cells.lookup x=some c->H c=none
 pin:∀p∈X.pn++pins,s.heap.get? p.1=some p.2/\H p.1=none/\p.1≠X.env.locals/\p.1∉X.fs/\∀v,p.2.data≠.cell v
 hok:HOk X.prog X.w H s.heap
 len:σ.length=X.N.length
section
variable{X:Cx}{pins:List (Addr×Obj)}{σ:List (Option V)}{H H':Hp}{s:Shared}{h':Heap}
theorem Cx.Ok.nofr(ok:X.Ok){b:Addr}{o:Obj}(e:X.base.get? b=some o):b∉X.fs:=λa=>by
 have:=(ok.funs.mem a).1
 rw[e]at this;cases this
theorem Inv.bs(I:Inv X pins σ H s):∀b o,X.base.get? b=some o->s.heap.get? b=some o/\H b=none:=λb o e =>
 ⟨I.base.keep b o (I.ok.bs b o e).1 (I.ok.bs b o e).2 (I.ok.nofr e) (I.ok.noex b o e),I.base.free b o (I.ok.bs b o e).1 (I.ok.bs b o e).2 (I.ok.noex b o e)⟩
theorem Inv.bk(I:Inv X pins σ H s):∀b o,X.base.get? b=some o->s.heap.get? b=some o:=λb o e=>(I.bs b o e).1
theorem Inv.mod(I:Inv X pins σ H s):Mod X.K X.mg X.base:=I.ok.mod
theorem Inv.kIn(I:Inv X pins σ H s):X.K.In s.heap:=I.ok.mod.kin.keeps I.bk
theorem Inv.nolimit(I:Inv X pins σ H s):s.heap.NoLimit:=I.ok.mod.nolimit.keeps I.bk
theorem Inv.lt(I:Inv X pins σ H s):X.env.locals<s.heap.objs.size:=let ⟨_,hn,_⟩:=I.loc;hn.lt
theorem Inv.sz(I:Inv X pins σ H s):X.s₀.heap.objs.size<=s.heap.objs.size:=wf I.ok.above (uq I.lt)
theorem Inv.nofs(I:Inv X pins σ H s){a:Addr}(h:s.heap.objs.size<=a):a∉X.fs:=λb=>by
 obtain⟨_,o,c,_⟩:=I.ok.funs.mem b
 exact absurd (wU (wG c) (wf I.sz h)) (vE _)
theorem Inv.cne(I:Inv X pins σ H s):∀x c,X.env.cells.lookup x=some c->c≠X.env.locals:=λx c e z=>by
 obtain⟨v,o,d,hd⟩:=I.cell x c e
 obtain⟨m,⟨o',es,ep,a,b,_⟩,_⟩:=I.loc
 rw[z,a]at d;cases d;rw[b]at hd;cases hd
theorem Inv.funs(I:Inv X pins σ H s):s.heap.FunFrames X.base X.outer:=by
 have all:∀(l:List Env),(∀b∈frs l,b∈X.fs)->X.s₀.heap.FunFrames X.base l->s.heap.FunFrames X.base l:=by
  intro l
  induction l with
  |nil=>intro _ _;trivial
  |cons env r h =>
   intro f i
   obtain⟨j,⟨L,o,a,hn,m,hd⟩,n⟩:=i
   have c:L∈X.fs:=f L (by unfold frs;rw[List.filterMap_cons,a];exact wI)
   obtain⟨sl,e⟩:=I.base.slot L o m (I.ok.frf L c) c λz=>I.ok.exfs L z c
   exact⟨j,⟨L,_,a,hn,e,hd⟩,h (λb d=>f b (by unfold frs;rw[List.filterMap_cons,a];exact wJ _ d)) n⟩
 exact all X.outer (λ_ d=>d) I.ok.funs
theorem Inv.stack(I:Inv X pins σ H s):s.heap.FunFrames X.base X.stack:=by
 rcases I.ok.stk with e|⟨e,hf⟩
 .rw [e];exact I.funs
 .rw [e]
  obtain⟨m,hn,_⟩:=I.loc
  refine .cons (by rw[I.ok.kind];decide) hf hn ?_ I.funs
  exact Heap.get?_none_of_le (wf I.ok.bsz I.ok.above)
theorem Inv.stkSub(I:Inv X pins σ H s):∀b∈frs X.stack,b∈X.env.locals::X.fs:=λb a=>by
 rcases I.ok.stk with e|⟨e,hf⟩
 .rw [e]at a;exact wJ _ a
 .rw [e]at a
  unfold frs at a
  rw[List.filterMap_cons,hf]at a
  exact a
theorem Inv.stkFree(I:Inv X pins σ H s):∀b∈frs X.stack,H b=none:=λb a=>by
 rcases wN.mp (I.stkSub b a)with e|a
 .rw [e];exact I.free
 .obtain ⟨_,o,c,_⟩:=I.ok.funs.mem a
  exact I.base.free b o c (I.ok.frf b a) λz=>I.ok.exfs b z a
theorem Inv.step{g':Array GenState}{t':Nat}{d':Drawn}{ch:List Addr}(I:Inv X pins σ H s)(a:∀b∈ch,(b∈X.ex\/X.s₀.heap.objs.size<=b)/\b≠X.env.locals/\(∀x c,X.env.cells.lookup x=some c->c≠b)/\∀p∈X.pn++pins,p.1≠b)(keep:∀b o,b≠X.env.locals->b∉X.fs->b∉ch->s.heap.get? b=some o->H b=none->h'.get? b=some o)(slot:∀b o,b≠X.env.locals->b∈X.fs->b∉ch->s.heap.get? b=some o->H b=none->∃sl,h'.get? b=some {o with slots:=sl})(free:∀b o,b∉ch->s.heap.get? b=some o->H b=none->H' b=none)(there:∀b o,b∉ch->s.heap.get? b=some o->∃o',h'.get? b=some o')(tups:∀b xs,H b=some (.tup xs)->H' b=some (.tup xs))(frzs:∀b o u,H b=some (.frz o u)->H' b=some (.frz o u))(tbls:∀b ps,H b=some (.tbl ps)->∃more,H' b=some (.tbl (ps++more)))(ns:∀m,s.heap.Ns X.env.locals m->h'.Ns X.env.locals m)(hok:HOk X.prog X.w H' h')(L:GK s.gens g'):
  Inv X pins σ H' {s with heap:=h',gens:=g',drawn:=d',toks:=t' }:=by
 have B:∀b o,X.s₀.heap.get? b=some o->b≠X.env.locals:=λb o e=>wS (wU (wG e) I.ok.above)
 have j:∀b o,X.s₀.heap.get? b=some o->b∉X.ex->b∉ch:=λb o e hx y=>by
  rcases(a b y).1 with z|z
  .exact hx z
  .exact absurd (wU (wG e) z) (vE _)
 have f:∀x c,X.env.cells.lookup x=some c->∀v,s.heap.IsCell c v->h'.IsCell c v:=λx c e v ⟨o,A,hd⟩=>by
  have h:c∉ch:=λz=>(a c z).2.2.1 x c e rfl
  by_cases F:c∈X.fs
  .obtain ⟨sl,q⟩:=slot c o (I.cne x c e) F h A (I.freeC x c e)
   exact⟨_,q,hd⟩
  .exact ⟨o,keep c o (I.cne x c e) F h A (I.freeC x c e),hd⟩
 refine⟨I.ok,I.os,I.bare.trans L,⟨λb o e n y hx=>?_,λb o e n y hx=>?_,λb o e n hx=>?_,λb o e hx=>?_,λb xs e=>tups b xs (I.base.tups b xs e),λb o xs e=>frzs b o xs (I.base.frzs b o xs e),λb ps e=>?_⟩,?_,λx c e=>?_,?_,λx c e=>?_,λp J=>?_,hok,I.len⟩
 .exact keep b o (B b o e) y (j b o e hx) (I.base.keep b o e n y hx) (I.base.free b o e n hx)
 .obtain ⟨sl,e1⟩:=I.base.slot b o e n y hx
  obtain⟨E,C⟩:=slot b _ (B b o e) y (j b o e hx) e1 (I.base.free b o e n hx)
  exact⟨E,C⟩
 .obtain ⟨o',e1⟩:=I.base.there b o e hx
  exact free b o' (j b o e hx) e1 (I.base.free b o e n hx)
 .obtain ⟨o',e1⟩:=I.base.there b o e hx
  exact there b o' (j b o e hx) e1
 .obtain ⟨m1,e1⟩:=I.base.tbls b ps e
  obtain⟨m2,C⟩:=tbls b _ e1
  exact⟨m1++m2,by rw[C,Array.append_assoc]⟩
 .obtain ⟨m,hn,M⟩:=I.loc
  refine⟨m,ns m hn,λi x v e1 C N=>?_⟩
  obtain⟨u,r,l⟩:=M i x v e1 C N
  refine⟨u,r,?_⟩
  rcases l with l|⟨k,c,e,z⟩
  .exact .inl l
  .exact .inr ⟨k,c,e,f x c e _ z⟩
 .obtain ⟨v,z⟩:=I.cell x c e
  exact⟨v,f x c e v z⟩
 .obtain ⟨m,⟨o,_,_,A,_⟩,_⟩:=I.loc
  exact free _ o (λz=>(a _ z).2.1 rfl) A I.free
 .obtain ⟨v,o,A,hd⟩:=I.cell x c e
  exact free c o (λz=>(a c z).2.2.1 x c e rfl) A (I.freeC x c e)
 .obtain ⟨e,n,ne,K,d⟩:=I.pin p J
  have h:p.1∉ch:=λz=>(a p.1 z).2.2.2 p J rfl
  exact⟨keep p.1 p.2 ne K h e n,free p.1 p.2 h e n,ne,K,d⟩
theorem Inv.un{t':Nat}(I:Inv X pins σ H s)(u:Un X.fs [] H H' s.heap h')(hok:HOk X.prog X.w H' h'):Inv X pins σ H' {s with heap:=h',toks:=t' }:=by
 obtain⟨m,⟨o,es,ep,f,r⟩,_⟩:=id I.loc
 obtain⟨sl,h⟩:=u.any f I.free (by simp)
 exact I.step (g':=s.gens) (d':=s.drawn) (ch:=[]) (λ_ z=>nomatch z) (λb o _ c _ e n=>u.keep b o e n c (by simp)) (λb o _ c _ e n=>u.slot b o e n c (by simp)) (λb o _ e n=>u.free b o e n (by simp)) (λb o _ e=>u.there b o e (by simp)) u.tups u.frzs u.tbls (λj hm=>by
  obtain⟨o',es',d,a,i⟩:=hm
  rw[f]at a;cases a
  exact⟨_,es',d,h,i⟩) hok I.bare.self
theorem Inv.call{g':Array GenState}{t':Nat}{d':Drawn}{ch:List Addr}(I:Inv X pins σ H s)(u:Un (frs X.stack) ch H H' s.heap h')(hok:HOk X.prog X.w H' h')(l:GK s.gens g')(d:∀b∈ch,(b∈X.ex\/X.s₀.heap.objs.size<=b)/\b≠X.env.locals/\(∀x c,X.env.cells.lookup x=some c->c≠b)/\∀p∈X.pn++pins,p.1≠b):
  Inv X pins σ H' {s with heap:=h',gens:=g',drawn:=d',toks:=t' }:=by
 obtain⟨m,⟨o,es,ep,j,r⟩,_⟩:=id I.loc
 obtain⟨sl,h⟩:=u.any j I.free λz=>(d _ z).2.1 rfl
 exact I.step (ch:=ch) d (λb o h q a e n=>u.keep b o e n (λz=>(wN.mp (I.stkSub b z)).elim h q) a) (λb o _ _ a e n=>u.any e n a) (λb o a e n=>u.free b o e n a) (λb o a e=>u.there b o e a) u.tups u.frzs u.tbls (λy hm=>by
  obtain⟨o',es',i,f,v⟩:=hm
  rw[j]at f;cases f
  exact⟨_,es',i,h,v⟩) hok l
theorem Inv.turned{t':Nat}{it:Addr}(I:Inv X pins σ H s)(k:∀b o,b≠it->s.heap.get? b=some o->h'.get? b=some o)(hn:H it=none)(f:it≠X.env.locals)(h:it∈X.ex\/X.s₀.heap.objs.size<=it)(i:∀x c,X.env.cells.lookup x=some c->c≠it)(j:∀p∈X.pn++pins,p.1≠it):Inv X pins σ H {s with heap:=h',toks:=t' }:=by
 have d:∀b u,H b=some u->b≠it:=λb u e z=>by rw[z,hn]at e;cases e
 refine I.step (g':=s.gens) (d':=s.drawn) (ch:=[it]) (λb l=>?_) (λb o _ _ a e _=>k b o (λz=>a (by simp[z])) e) (λb o _ _ a e _=>⟨o.slots,k b o (λz=>a (by simp[z])) e⟩) (λ_ _ _ _ n=>n)
  (λb o a e=>⟨o,k b o (λz=>a (by simp[z])) e⟩) (λ_ _ e=>e) (λ_ _ _ e=>e) (λb ps e=>⟨#[],by rw[e];simp⟩) (λm hm=>?_) (λb u e=>?_) I.bare.self
 .have e:b=it:=by simpa using l
  subst e
  exact⟨h,f,i,j⟩
 .obtain ⟨o,es,ep,w,r⟩:=hm
  exact⟨o,es,ep,k _ o (Ne.symm f) w,r⟩
 .refine (I.hok b u e).stay (λc v a q=>k c v ?_ q) (λ_ q=>q) λ_ _ q=>q
  rcases a with z|z
  .rw [z];exact d b u e
  .exact d c _ z
theorem Inv.tok(I:Inv X pins σ H s)(t:Nat):Inv X pins σ H {s with toks:=t}:=I.un (h':=s.heap) (t':=t) Un.refl I.hok
theorem Inv.kept{t':Nat}(I:Inv X pins σ H s)(k:∀b u,s.heap.get? b=some u->h'.get? b=some u):Inv X pins σ H {s with heap:=h',toks:=t' }:=I.un (Un.kept k) (I.hok.kept k)
theorem Inv.laid{a:Addr}{o:HO}{t':Nat}(I:Inv X pins σ H s)(k:∀b u,s.heap.get? b=some u->h'.get? b=some u)(c:s.heap.objs.size<=a)(new:ObjOk X.prog X.w (upd H a o) h' a o):
  Inv X pins σ (upd H a o) {s with heap:=h',toks:=t' }:=I.un (Un.laid k c (I.hok.fresh c)) (I.hok.laid k c new)
theorem Inv.write{x e:Addr}{o:HO}{t':Nat}(I:Inv X pins σ H s)(c:Mut (H x))(d:e=x\/H e=some (.own x))(k:∀b u,b≠e->s.heap.get? b=some u->h'.get? b=some u)(a:∃u,h'.get? e=some u)(new:ObjOk X.prog X.w (upd H x o) h' x o):Inv X pins σ (upd H x o) {s with heap:=h',toks:=t' }:=I.un (Un.write c d k a) (I.hok.write c d k a new)
theorem Inv.pins_of{a:List (Addr×Obj)}(I:Inv X pins σ H s)(h:∀p∈a,s.heap.get? p.1=some p.2/\H p.1=none/\p.1≠X.env.locals/\p.1∉X.fs/\∀v,p.2.data≠.cell v):Inv X a σ H s :=
 ⟨I.ok,I.os,I.bare,I.base,I.loc,I.cell,I.free,I.freeC,λp b=>(vJ.mp b).elim (λz=>I.pin p (vl _ z)) (h p),I.hok,I.len⟩
theorem qaR{N:List Str}(c:N.Nodup){i j:Nat}{x:Str}(a:N[i]?=some x)(b:N[j]?=some x):i=j:=by
 obtain⟨e,e1⟩:=wK.mp a
 obtain⟨f,d⟩:=wK.mp b
 exact(xN c).mp (e1.trans d.symm)
theorem yQ{M:Model}{A:Around}{E:Value->Shared->Prop}{i:Nat}{x:Str}{v:V}{u:Value}{Q:Unit->Shared->Prop}(I:Inv X pins σ H s)(hN:X.N.Nodup)(hi:X.N[i]?=some x)(hx:Loc X.env.scope x)(r:RelV v u)(h:∀s',Inv X pins (σ.set i (some v)) H s'->(∃a,Heap.SameBut a s.heap s'.heap/\(a=X.env.locals\/X.env.cells.lookup x=some a))->Q () s')(hf:X.fn x=true\/X.env.scope.names.lookup x=some .local:=by first|exact .inl rfl|exact .inr rfl|assumption):wpAny M A (storeName X.env x u) Q E s:=by
 obtain⟨m,hn,hl⟩:=id I.loc
 have R:(X.env.scope.kind == .class || (X.env.scope.kind == .module&&X.env.locals != X.env.globals))=false:=by rw[I.ok.kind];rfl
 have J:i<σ.length:=by rw[I.len];exact(wK.mp hi).1
 have cne:=I.cne
 have l:∀{a:Addr} {h':Heap},(∃o,s.heap.get? a=some o/\H a=none)->Heap.SameBut a s.heap h'->HOk X.prog X.w H h':=λ{a h'} ha f b ob e=>by
  obtain⟨_,_,C⟩:=ha
  refine(I.hok b ob e).stay (λc Z B q=>(f.2 c ?_).trans q) (λ_ q=>q) λ_ _ q=>q
  rintro rfl
  rcases B with rfl|B
  .rw [C]at e;cases e
  .rw [C]at B;cases B
 rcases hx with K|K
 .refine wpAny_storeName_local K hn (λh' a0 f=>?_) R
  obtain⟨oL,_,_,a1,_⟩:=id hn
  refine h _ ⟨I.ok,I.os,I.bare,⟨λb o e n L hx=>?_,λb o e n L hx=>?_,I.base.free,λb o e hx=>?_,I.base.tups,I.base.frzs,I.base.tbls⟩,⟨_,a0,λj y v' e1 F e3=>?_⟩,λy c e=>?_,I.free,I.freeC,λp hp=>?_,l ⟨oL,a1,I.free⟩ f,by simpa using I.len⟩ ⟨_,f,.inl rfl⟩
  .exact (f.2 b (wS (wU (wG e) I.ok.above))).trans (I.base.keep b o e n L hx)
  .obtain ⟨sl,e1⟩:=I.base.slot b o e n L hx
   exact⟨sl,(f.2 b (wS (wU (wG e) I.ok.above))).trans e1⟩
  .obtain ⟨o',e1⟩:=I.base.there b o e hx
   exact⟨o',(f.2 b (wS (wU (wG e) I.ok.above))).trans e1⟩
  .by_cases O:j=i
   .subst O
    rw[hi]at e1;cases e1
    rw[vr J]at F
    cases F
    exact⟨u,r,.inl ⟨K,by simp⟩⟩
   .rw [uc (Ne.symm O)]at F
    obtain⟨u',r',q⟩:=hl j y v' e1 F e3
    refine⟨u',r',?_⟩
    rcases q with ⟨k,e⟩|⟨k,c,e,z⟩
    .refine .inl ⟨k,?_⟩
     have:y≠x:=λe=>O (qaR hN e1 (e ▸ hi))
     simp[this,e]
    .exact .inr ⟨k,c,e,z.sameBut f (cne y c e)⟩
  .obtain ⟨Z,z⟩:=I.cell y c e
   exact⟨Z,z.sameBut f (cne y c e)⟩
  .obtain ⟨e,n,ne,nf,d⟩:=I.pin p hp
   exact⟨(f.2 p.1 ne).trans e,n,ne,nf,d⟩
 .have P:X.fn x=true:=by
   rcases hf with z|z
   .exact z
   .rw [z]at K;cases K
  obtain⟨c,B⟩:=I.ok.has x (.inl K)
  obtain⟨Z,z⟩:=I.cell x c B
  refine wpAny_storeName_cell I.ok.kind K B z (λh' S f=>?_)
  obtain⟨oc,U,W⟩:=id z
  refine h {s with heap:=h' } ⟨I.ok,I.os,I.bare,⟨λb o e n L hx=>?_,λb o e n L hx=>?_,I.base.free,λb o e hx=>?_,I.base.tups,I.base.frzs,I.base.tbls⟩,⟨m,hn.sameBut f (Ne.symm (cne x c B)),λj y v' e1 F e3=>?_⟩,λy c' e=>?_,I.free,I.freeC,λp hp=>?_,l ⟨oc,U,I.freeC x c B⟩ f,by simpa using I.len⟩ ⟨c,f,.inr B⟩
  .exact (f.2 b (wS (wU (wG e) (I.ok.cab x c P B)))).trans (I.base.keep b o e n L hx)
  .obtain ⟨sl,e1⟩:=I.base.slot b o e n L hx
   exact⟨sl,(f.2 b (wS (wU (wG e) (I.ok.cab x c P B)))).trans e1⟩
  .obtain ⟨o',e1⟩:=I.base.there b o e hx
   exact⟨o',(f.2 b (wS (wU (wG e) (I.ok.cab x c P B)))).trans e1⟩
  .by_cases O:j=i
   .subst O
    rw[hi]at e1;cases e1
    rw[vr J]at F
    cases F
    exact⟨u,r,.inr ⟨.inl K,c,B,S⟩⟩
   .rw [uc (Ne.symm O)]at F
    obtain⟨u',r',q⟩:=hl j y v' e1 F e3
    refine⟨u',r',?_⟩
    rcases q with q|⟨k,c',e,z'⟩
    .exact .inl q
    .refine .inr ⟨k,c',e,z'.sameBut f ?_⟩
     rintro rfl
     exact O (qaR hN e1 (I.ok.inj _ _ _ e B ▸ hi))
  .by_cases Y:c'=c
   .subst Y;exact⟨_,S⟩
   .obtain ⟨w2,z2⟩:=I.cell y c' e
    exact⟨w2,z2.sameBut f Y⟩
  .obtain ⟨e,n,ne,nf,d⟩:=I.pin p hp
   refine⟨(f.2 p.1 ?_).trans e,n,ne,nf,d⟩
   intro q
   rw[q,U]at e
   have q':oc=p.2:=Option.some.inj e
   exact d Z (by rw[<-q'];exact W)
theorem yu{M:Model}{A:Around}{E:Value->Shared->Prop}{i:Nat}{x:Str}{v:V}{u:Value}{Q:Unit->Shared->Prop}(I:Inv X pins σ H s)(a:X.N.Nodup)(hi:X.N[i]?=some x)(hx:Loc X.env.scope x)(r:RelV v u)(h:∀s',Inv X pins (σ.set i (some v)) H s'->Q () s')(b:X.fn x=true\/X.env.scope.names.lookup x=some .local:=by first|exact .inl rfl|exact .inr rfl|assumption):wpAny M A (storeName X.env x u) Q E s :=
 yQ I a hi hx r (λs' c _=>h s' c) b
theorem Inv.call'{s':Shared}{ch:List Addr}(I:Inv X pins σ H s)(d:s'.os=s.os)(u:Un (frs X.stack) ch H H' s.heap s'.heap)(hok:HOk X.prog X.w H' s'.heap)(f:GK s.gens s'.gens)(a:∀b∈ch,(b∈X.ex\/X.s₀.heap.objs.size<=b)/\b≠X.env.locals/\(∀x c,X.env.cells.lookup x=some c->c≠b)/\∀p∈X.pn++pins,p.1≠b):Inv X pins σ H' s':=by
 obtain⟨h',g',d',t',o'⟩:=s'
 have e:o'=s.os:=d
 subst e
 exact I.call (g':=g') (t':=t') (d':=d') u hok f a
end
noncomputable abbrev XK:=Value->Option Addr->Hp->Prop
noncomputable abbrev St:=List (Option V)
noncomputable abbrev VK:=V->Hp->Prop
noncomputable abbrev TE:=St->Hp->VK->Prop
noncomputable abbrev TT:=St->Hp->(Bool->Hp->Prop)->Prop
noncomputable abbrev TA:=St->Hp->(List V->Hp->Prop)->Prop
structure Ends where
 nx:St->Hp->Prop
 rt:VK
 bk:St->Hp->Prop:=λ_ _=>False
 ct:St->Hp->Prop:=λ_ _=>False
noncomputable abbrev TS:=Ends->St->Hp->Prop
def EP(X:Cx)(pins:List (Addr×Obj))(a:St)(Q:VK)(u:Value)(s':Shared):Prop:=∃v H',Inv X pins a H' s'/\RelV v u/\Q v H'
def TP(X:Cx)(pins:List (Addr×Obj))(a:St)(Q:Bool->Hp->Prop)(b:Bool)(s':Shared):Prop:=∃H',Inv X pins a H' s'/\Q b H'
def AP(X:Cx)(pins:List (Addr×Obj))(a:St)(Q:List V->Hp->Prop)(us:List Value)(s':Shared):Prop:=∃vs H',Inv X pins a H' s'/\Vals vs us/\Q vs H'
noncomputable def SP(X:Cx)(pins:List (Addr×Obj))(D:Ends)(f:Flow)(s':Shared):Prop :=
 match f with
 | .next=>∃a H',Inv X pins a H' s'/\D.nx a H'
 | .brk=>∃a H',Inv X pins a H' s'/\D.bk a H'
 | .cont=>∃a H',Inv X pins a H' s'/\D.ct a H'
 | .ret u=>∃v a H',Inv X pins a H' s'/\RelV v u/\D.rt v H'
noncomputable def PE(X:Cx)(e:Expr)(t:TE):Prop :=
 ∀(pins:List (Addr×Obj)) (s:Shared) (a:St) (H:Hp) (Q:VK),Inv X pins a H s->t a H Q->wpAny (model X.prog X.w) X.A (eval e X.env) (EP X pins a Q) X.xe s
noncomputable def PT(X:Cx)(e:Expr)(t:TT):Prop :=
 ∀(pins:List (Addr×Obj)) (s:Shared) (a:St) (H:Hp) (Q:Bool->Hp->Prop),Inv X pins a H s->t a H Q->wpAny (model X.prog X.w) X.A (isTrue e X.env (eval e X.env)) (TP X pins a Q) X.xe s
noncomputable def PW(X:Cx)(e:Expr)(t:TT):Prop :=
 ∀(a:Sem Value) (pins:List (Addr×Obj)) (s:Shared) (b:St) (H:Hp) (Q:Bool->Hp->Prop),Inv X pins b H s->t b H Q->wpAny (model X.prog X.w) X.A (isTrue e X.env a) (TP X pins b Q) X.xe s
theorem PW.pt{X:Cx}{e:Expr}{t:TT}(h:PW X e t):PT X e t:=h _
noncomputable def PA(X:Cx)(es:List Expr)(t:TA):Prop :=
 ∀(pos:Pos) (pins:List (Addr×Obj)) (s:Shared) (a:St) (H:Hp) (Q:List V->Hp->Prop),Inv X pins a H s->t a H Q->wpAny (model X.prog X.w) X.A (spliced (backTo pos (starEach es X.env))) (AP X pins a Q) X.xe s
noncomputable def PS(X:Cx)(st:Stmt)(t:TS):Prop :=
 ∀(pins:List (Addr×Obj)) (s:Shared) (a:St) (H:Hp) (D:Ends),Inv X pins a H s->t D a H->wpAny (model X.prog X.w) X.A (exec st X.env) (SP X pins D) X.xe s
noncomputable def PSs(X:Cx)(st:List Stmt)(t:TS):Prop :=
 ∀(pins:List (Addr×Obj)) (s:Shared) (a:St) (H:Hp) (D:Ends),Inv X pins a H s->t D a H->wpAny (model X.prog X.w) X.A (execs st X.env) (SP X pins D) X.xe s
theorem thn{b:Type}{t:Sem b}{Q Q':b->Shared->Prop}{M:Model}{A:Around}{E:Value->Shared->Prop}{s:Shared}(h:wpAny M A t Q E s)(c:∀a s,Q a s->Q' a s):wpAny M A t Q' E s:=v6 h c λ_ _ x=>x
end L2
namespace L2
open PySem PySem.Spec PyProof.Rows
section
variable{X:Cx}
theorem bin{a b:Expr}{j l:TE}(ha:PE X a j)(n:PE X b l){pins:List (Addr×Obj)}{s:Shared}{c:St}{H:Hp}{R:V->V->Hp->Prop}(I:Inv X pins c H s)(h:j c H λx i=>l c i λy H2=>R x y H2){m:Type}{Q:m->Shared->Prop}{f:Value->Value->Sem m}(o:∀v u s2 x y H2,Inv X pins c H2 s2->RelV x v->RelV y u->R x y H2->wpAny (model X.prog X.w) X.A (f v u) Q X.xe s2):
  wpAny (model X.prog X.w) X.A (eval a X.env) (λv d=>wpAny (model X.prog X.w) X.A (eval b X.env) (λu e=>wpAny (model X.prog X.w) X.A (f v u) Q X.xe e) X.xe d) X.xe s:=by
 refine thn (ha pins s c H _ I h) λv s1 ⟨x,i,p,q,q1⟩=>?_
 refine thn (n pins s1 c i _ p q1) λu s2 ⟨y,H2,r,z,q2⟩=>?_
 exact o v u s2 x y H2 r q z q2
noncomputable def tVar(i:Nat):TE:=λa H Q=>∃v,a[i]?=some (some v)/\Q v H
noncomputable def tC(v:V):TE:=λ_ H Q=>Q v H
theorem qhi{i:Nat}{x:Str}{pos:Pos}(d:X.N[i]?=some x)(f:Vis X.env.scope x)(hd:(x == ("__debug__":Str))=false:=by decide)(b:(x == ("__classdict__":Str))=false:=by decide):PE X (.Name x pos) (tVar i):=by
 intro pins s j H Q I h
 obtain⟨v,e,h⟩:=h
 obtain⟨m,hn,n⟩:=I.loc
 obtain⟨u,r,l⟩:=n i x v d e f
 have fin:EP X pins j Q u s:=⟨v,H,I,r,h⟩
 rcases l with ⟨a,hm⟩|⟨a,c,hc,hcell⟩
 .exact wpAny_Name (wpAny_loadName_local I.ok.kind a hn hm fin) hd
 .rcases a with a|a
  .exact wpAny_Name (wpAny_loadName_cell I.ok.kind a hc hcell fin) hd
  .exact wpAny_Name (wpAny_loadName_free I.ok.kind a hc hcell fin b) hd
theorem qhj{i j pos}:PE X (.Constant (.int i) j pos) (tC (.int i)):=λ_ _ _ H _ I h=>wpAny_Constant_int ⟨.int i,H,I.tok _,⟨_,rfl⟩,h⟩
theorem qiM{b j pos}:PE X (.Constant (.bool b) j pos) (tC (.bl b)):=λ_ _ _ H _ I h=>Constant_bool ⟨.bl b,H,I,rfl,h⟩
def Gl(X:Cx)(x:Str):Prop:=X.env.kindOf x=some .globalImplicit
theorem qcg{E:Value->Shared->Prop}{pins:List (Addr×Obj)}{s:Shared}{a:St}{H:Hp}{x:Str}{u:Value}{pos:Pos}{Q:Value->Shared->Prop}(I:Inv X pins a H s)(b:Gl X x)(hm:X.mg x=some u)(h:Q u s)(hd:(x == ("__debug__":Str))=false:=by decide):wpAny (model X.prog X.w) X.A (eval (.Name x pos) X.env) Q E s :=
 Calls.Name_function_global I.ok.kind b (Calls.loadGlobal_global (by rw[I.ok.glob];exact I.mod.glob.keeps I.bk) hm h) hd
theorem zG{E:Value->Shared->Prop}{pins:List (Addr×Obj)}{s:Shared}{a:St}{H:Hp}{x:Str}{u:Value}{pos:Pos}{Q:Value->Shared->Prop}(I:Inv X pins a H s)(b:Gl X x)(hm:X.mg x=none)(c:bootBuiltins x=some u)(h:Q u s)(hn:x≠"__name__":=by decide)(hd:(x == ("__debug__":Str))=false:=by decide):wpAny (model X.prog X.w) X.A (eval (.Name x pos) X.env) Q E s:=by
 obtain⟨mb,d,e⟩:=I.mod.blt
 exact Calls.Name_function_global I.ok.kind b (Calls.loadGlobal_builtin (by rw[I.ok.glob];exact I.mod.glob.keeps I.bk) hm (by rw[I.ok.blt];exact d.keeps I.bk) ((e x hn).trans c) h) hd
theorem qfO{x:Str}{v:V}{u:Value}{pos:Pos}(a:Gl X x)(hm:X.mg x=some u)(r:RelV v u)(hd:(x == ("__debug__":Str))=false:=by decide):PE X (.Name x pos) (tC v) :=
 λ_ _ _ H _ I h=>qcg I a hm ⟨v,H,I,r,h⟩ hd
theorem qfP{x:Str}{v:V}{u:Value}{pos:Pos}(a:Gl X x)(hm:X.mg x=none)(b:bootBuiltins x=some u)(r:RelV v u)(hn:x≠"__name__":=by decide)(hd:(x == ("__debug__":Str))=false:=by decide):PE X (.Name x pos) (tC v) :=
 λ_ _ _ H _ I h=>zG I a hm b ⟨v,H,I,r,h⟩ hn hd
variable{a b:Expr}{ta tb:TE}{pos:Pos}
variable{tA tB':TT}{rest:List Expr}
noncomputable def tAnd(t u:TT):TT:=λd H Q=>t d H λc e=>if c=true then u d e Q else Q false e
noncomputable def tOr(t u:TT):TT:=λd H Q=>t d H λc e=>if c=true then Q true e else u d e Q
noncomputable def tNot(t:TT):TT:=λd H Q=>t d H λc e=>Q (!c) e
theorem qfQ(ha:PT X a tA):PW X (.BoolOp .And [a] pos) tA:=by
 intro f pins s d H Q I h
 refine isTrue_and (thn (ha pins s d H Q I h) λc s1 e=>?_)
 cases c with
 |true=>exact isTrue_and_nil e
 |false=>exact e
theorem qhk(ha:PT X a tA):PW X (.BoolOp .Or [a] pos) tA:=by
 intro f pins s d H Q I h
 refine isTrue_or (thn (ha pins s d H Q I h) λc s1 e=>?_)
 cases c with
 |false=>exact isTrue_or_nil e
 |true=>exact e
theorem qhl(ha:PT X a tA)(i:PW X (.BoolOp .And (b::rest) pos) tB'):PW X (.BoolOp .And (a::b::rest) pos) (tAnd tA tB'):=by
 intro j pins s d H Q I h
 refine isTrue_and (thn (ha pins s d H _ I h) λc s1 ⟨e,f,q1⟩=>?_)
 cases c with
 |true=>exact i j pins s1 d e Q f q1
 |false=>exact⟨e,f,q1⟩
theorem qiN(ha:PT X a tA)(i:PW X (.BoolOp .Or (b::rest) pos) tB'):PW X (.BoolOp .Or (a::b::rest) pos) (tOr tA tB'):=by
 intro j pins s d H Q I h
 refine isTrue_or (thn (ha pins s d H _ I h) λc s1 ⟨e,f,q1⟩=>?_)
 cases c with
 |true=>exact⟨e,f,q1⟩
 |false=>exact i j pins s1 d e Q f q1
theorem qhm(ha:PT X a tA):PT X (.UnaryOp .Not a pos) (tNot tA):=by
 intro pins s d H Q I h
 exact isTrue_not (ha pins s d H (λc e=>Q (!c) e) I h)
noncomputable def tAndV(ta tb:TE):TE:=λd H Q=>ta d H λx e=>∃c,x=.bl c/\if c=true then tb d e Q else Q (.bl false) e
noncomputable def tNotV(ta:TE):TE:=λd H Q=>ta d H λx e=>∃c,x=.bl c/\Q (.bl (!c)) e
theorem qhn{op}{t:TE}(h:PE X a t):PE X (.BoolOp op [a] pos) t:=λpins s c H Q I d=>BoolOp_one (h pins s c H Q I d)
theorem qho(ha:PE X a ta)(i:PE X (.BoolOp .And (b::rest) pos) tb):PE X (.BoolOp .And (a::b::rest) pos) (tAndV ta tb):=by
 intro pins s d H Q I h
 refine BoolOp_and (thn (ha pins s d H _ I h) λv s1 ⟨x,e,f,j,q1⟩=>?_)
 obtain⟨c,rfl,q1⟩:=q1
 cases j
 refine vN ?_
 cases c with
 |true=>exact i pins s1 d e Q f q1
 |false=>exact⟨.bl false,e,f,rfl,q1⟩
theorem qhp(ha:PE X a ta):PE X (.UnaryOp .Not a pos) (tNotV ta):=by
 intro pins s d H Q I h
 refine UnaryOp_ (thn (ha pins s d H _ I h) λv s1 ⟨x,e,f,i,q1⟩=>?_)
 obtain⟨c,rfl,q1⟩:=q1
 cases i
 exact not_of (vN ⟨.bl (!c),e,f,rfl,q1⟩)
end
end L2
namespace L2
open PySem PySem.Spec PyProof.Rows
noncomputable def SqL(K:PySem.W.Frag)(H:Hp)(a:Addr)(xs:List V):Prop :=
 Rd H a (.lst xs) \/
  ∃(o:Obj) (b:Array Value) (n:Nat),K.lookup a=some o/\o.cls=.type "list"/\o.dict=none/\o.data=.seq b n/\b.size<=sizeLine/\Vals xs b.toList
noncomputable def SqT(K:PySem.W.Frag)(H:Hp)(a:Addr)(xs:List V):Prop :=
 Rd H a (.tup xs) \/
  ∃(o:Obj) (b:Array Value) (n:Nat),K.lookup a=some o/\o.cls=.type "tuple"/\o.data=.seq b n/\b.size<=sizeLine/\Vals xs b.toList
noncomputable def absV:Value->Option V
 | .none=>some .non
 | .bool b=>some (.bl b)
 | .int i _=>some (.int i)
 | .str x _=>some (.str x)
 | .bytes b _=>some (.byt b)
 | .float b _=>some (.flt b)
 | .ref a=>some (.ref a)
 | .type n=>some (.ty n)
 |_=>none
theorem RelV.abs{x:V}{u:Value}(r:RelV x u):absV u=some x:=by
 cases x with
 |non=>cases r;rfl
 |bl _=>cases r;rfl
 |int _=>obtain⟨t,rfl⟩:=r;rfl
 |str _=>obtain⟨t,rfl⟩:=r;rfl
 |byt _=>obtain⟨t,rfl⟩:=r;rfl
 |flt _=>obtain⟨t,rfl⟩:=r;rfl
 |ref _=>cases r;rfl
 |ty _=>cases r;rfl
theorem RelV.inj{x y:V}{u:Value}(r:RelV x u)(q:RelV y u):x=y:=Option.some.inj (r.abs.symm.trans q.abs)
theorem Vals.inj:∀{xs ys:List V} {us:List Value},Vals xs us->Vals ys us->xs=ys
 |_,_,_,.nil,.nil=>rfl
 |_,_,_,.cons r t,.cons r' t'=>by rw[r.inj r',Vals.inj t t']
section
variable{X:Cx}{pins:List (Addr×Obj)}{σ:St}{H:Hp}{s:Shared}{a:Addr}{xs ys:List V}
theorem Inv.list(I:Inv X pins σ H s)(h:SqL X.K H a xs):∃b:List Value,Vals xs b/\PlainL s.heap a b.toArray/\xs.length<=sizeLine:=by
 rcases h with h|⟨o,b,n,hk,hc,hd,hs,hz,r⟩
 .obtain ⟨z,b,n,r,e⟩:=h.ok I.hok
  exact⟨b,r,⟨_,n,e,rfl,rfl,rfl⟩,z⟩
 .refine ⟨b.toList,r,⟨o,n,I.kIn a o hk,hc,hd,by simpa using hs⟩,?_⟩
  have e:=r.length
  simp only[we]at e
  lia
theorem Inv.tuple(I:Inv X pins σ H s)(h:SqT X.K H a xs):∃b:List Value,Vals xs b/\IsTup s.heap a b.toArray/\xs.length<=sizeLine:=by
 rcases h with h|⟨o,b,n,hk,hc,hs,hz,r⟩
 .obtain ⟨z,b,r,p,_⟩:=h.ok I.hok
  exact⟨b,r,p,z⟩
 .refine ⟨b.toList,r,⟨o,I.kIn a o hk,hc,n,by simpa using hs⟩,?_⟩
  have e:=r.length
  simp only[we]at e
  lia
theorem Inv.list_inj(I:Inv X pins σ H s)(h:SqL X.K H a xs)(h':SqL X.K H a ys):xs=ys:=by
 obtain⟨b,r,⟨o,n,e,_,_,d⟩,_⟩:=I.list h
 obtain⟨its',f,⟨o',i,c,_,_,d'⟩,_⟩:=I.list h'
 rw[e]at c;cases c
 rw[d]at d'
 injection d' with d1 _
 have:b=its':=by simpa using congrArg Array.toList d1
 subst this
 exact r.inj f
theorem Inv.tuple_inj(I:Inv X pins σ H s)(h:SqT X.K H a xs)(h':SqT X.K H a ys):xs=ys:=by
 obtain⟨b,r,⟨o,e,_,n,d⟩,_⟩:=I.tuple h
 obtain⟨its',f,⟨o',c,_,i,d'⟩,_⟩:=I.tuple h'
 rw[e]at c;cases c
 rw[d]at d'
 injection d' with d1 _
 have:b=its':=by simpa using congrArg Array.toList d1
 subst this
 exact r.inj f
end
noncomputable abbrev Cx.wish(X:Cx)(E:Value->Shared->Prop):Cx:={X with xe:=E}
noncomputable abbrev Cx.nox(X:Cx):Cx:=X.wish λ_ _=>False
theorem Cx.Ok.wish{X:Cx}(ok:X.Ok)(E:Value->Shared->Prop):(X.wish E).Ok :=
 ⟨ok.mod,ok.kind,ok.glob,ok.blt,ok.above,ok.inj,ok.has,ok.cab,ok.hd,ok.frames,ok.stk,ok.exf,ok.bs,ok.bsz,ok.noex,ok.exfs,ok.funs,ok.frf,ok.tab⟩
theorem Cx.Ok.unwish{X:Cx}{E:Value->Shared->Prop}(ok:(X.wish E).Ok):X.Ok :=
 ⟨ok.mod,ok.kind,ok.glob,ok.blt,ok.above,ok.inj,ok.has,ok.cab,ok.hd,ok.frames,ok.stk,ok.exf,ok.bs,ok.bsz,ok.noex,ok.exfs,ok.funs,ok.frf,ok.tab⟩
section
variable{X:Cx}{pins:List (Addr×Obj)}{σ:St}{H:Hp}{s:Shared}{E:Value->Shared->Prop}
theorem Inv.wish(I:Inv X pins σ H s)(E:Value->Shared->Prop):Inv (X.wish E) pins σ H s:=⟨I.ok.wish E,I.os,I.bare,I.base,I.loc,I.cell,I.free,I.freeC,I.pin,I.hok,I.len⟩
theorem Inv.unwish(I:Inv (X.wish E) pins σ H s):Inv X pins σ H s:=⟨I.ok.unwish,I.os,I.bare,I.base,I.loc,I.cell,I.free,I.freeC,I.pin,I.hok,I.len⟩
theorem SP.unwish{D:Ends}{f:Flow}{s':Shared}(h:SP (X.wish E) pins D f s'):SP X pins D f s':=by
 cases f with
 |next=>obtain⟨a,H',I,q⟩:=h;exact⟨a,H',I.unwish,q⟩
 |brk=>obtain⟨a,H',I,q⟩:=h;exact⟨a,H',I.unwish,q⟩
 |cont=>obtain⟨a,H',I,q⟩:=h;exact⟨a,H',I.unwish,q⟩
 |ret u=>obtain⟨v,a,H',I,r,q⟩:=h;exact⟨v,a,H',I.unwish,r,q⟩
theorem PSs.nox{st:List Stmt}{t:TS}(h:PSs X.nox st t):PSs X st t:=λpins s σ H D I a =>
 v6 (h pins s σ H D (I.wish _) a) (λ_ _ q=>q.unwish) λ_ _ z=>False.elim z
end
section
variable{X:Cx}{st:Stmt}{rest:List Stmt}{t u:TS}{e:Expr}{te:TE}{pos:Pos}
noncomputable def tNext:TS:=λD a H=>D.nx a H
noncomputable def tSeq(t u:TS):TS:=λD a H=>t {D with nx:=u D} a H
theorem qfR:PSs X [] tNext:=λ_ _ a H _ I h=>wpAny_execs_nil ⟨a,H,I,h⟩
theorem qdL(b:PS X st t)(c:PSs X rest u):PSs X (st::rest) (tSeq t u):=by
 intro pins s d H D I h
 refine wpAny_execs_cons (thn (b pins s d H {D with nx:=u D} I h) λf s1 q=>?_)
 cases f with
 |next =>
  obtain⟨a,H',i,q⟩:=q
  exact c pins s1 a H' D i q
 |ret v=>exact q
 |brk=>exact q
 |cont=>exact q
theorem Inv.quiet{pins:List (Addr×Obj)}{a:St}{H:Hp}{s:Shared}(I:Inv X pins a H s):interactive X.env=false:=by simp[interactive,I.ok.kind]
noncomputable def tDrop(te:TE):TS:=λD a H=>te a H λ_ b=>D.nx a b
theorem qfS(b:PE X e te)(c:swapsWith e none pos.line X.env=pure false:=by rfl):PS X (.Expr e pos) (tDrop te):=by
 intro pins s a H D I h
 exact wpAny_Expr_any (thn (b pins s a H _ I h) λv s1 ⟨x,d,f,i,q1⟩=>⟨a,d,f,q1⟩) I.quiet c
noncomputable def tRet(te:TE):TS:=λD a H=>te a H D.rt
theorem qhq(b:PE X e te):PS X (.Return (some e) pos) (tRet te):=by
 intro pins s a H D I h
 exact wpAny_Return_some (thn (b pins s a H _ I h) λv s1 ⟨x,c,d,f,q1⟩=>⟨x,a,c,d,f,q1⟩)
noncomputable def tIfS(c:TT)(t u:TS):TS:=λD a H=>c a H λb d=>if b=true then t D a d else u D a d
theorem qiO{c:Expr}{a b:List Stmt}{i:TT}(m:PT X c i)(ha:PSs X a t)(n:PSs X b u):PS X (.If c a b pos) (tIfS i t u):=by
 intro pins s f H D I h
 refine wpAny_If (thn (m pins s f H _ I h) λd s1 ⟨j,l,q1⟩=>?_)
 cases d with
 |true=>exact ha pins s1 f j D l q1
 |false=>exact n pins s1 f j D l q1
noncomputable def tNever:TS:=λ_ _ _=>False
theorem qdM:PS X st tNever:=λ_ _ _ _ _ _ h=>h.elim
end
noncomputable abbrev TG:=V->St->Hp->(St->Hp->Prop)->Prop
noncomputable abbrev TGs:=List V->St->Hp->(St->Hp->Prop)->Prop
noncomputable def PG(X:Cx)(a:Expr)(t:TG):Prop :=
 ∀(pins:List (Addr×Obj)) (s:Shared) (c:St) (H:Hp) (v:V) (u:Value) (Q:St->Hp->Prop),Inv X pins c H s->RelV v u->t v c H Q ->
  wpAny (model X.prog X.w) X.A (assign a X.env u) (λ_ s'=>∃b H',Inv X pins b H' s'/\Q b H') X.xe s
noncomputable def PGs(X:Cx)(ts:List Expr)(t:TGs):Prop :=
 ∀(pins:List (Addr×Obj)) (s:Shared) (b:St) (H:Hp) (vs:List V) (us:List Value) (Q:St->Hp->Prop),Inv X pins b H s->Vals vs us->t vs b H Q ->
  wpAny (model X.prog X.w) X.A (assignInOrder ((assignEach ts X.env).map (·.2)) us) (λ_ s'=>∃a H',Inv X pins a H' s'/\Q a H') X.xe s
noncomputable abbrev TSet:=V->V->V->Hp->(Hp->Prop)->Prop
noncomputable def PSet(X:Cx)(t:TSet):Prop :=
 ∀(pins:List (Addr×Obj)) (s:Shared) (a:St) (H:Hp) (o i v:V) (b c u:Value) (Q:Hp->Prop),Inv X pins a H s->RelV o b->RelV i c->RelV v u->t o i v H Q ->
  wpAny (model X.prog X.w) X.A (setItem b c u) (λ_ s'=>∃H',Inv X pins a H' s'/\Q H') X.xe s
section
variable{X:Cx}{pos:Pos}
noncomputable def gName(i:Nat):TG:=λv a H Q=>Q (a.set i (some v)) H
theorem qfT{i:Nat}{x:Str}(a:X.N.Nodup)(hi:X.N[i]?=some x)(hx:Loc X.env.scope x)(b:X.fn x=true\/X.env.scope.names.lookup x=some .local:=by first|exact .inl rfl|exact .inr rfl|assumption):PG X (.Name x pos) (gName i):=by
 intro pins s d H v u Q I r h
 exact wpAny_assign_Name (yu I a hi hx r (λs' c=>⟨_,H,c,h⟩) b)
noncomputable def gNil:TGs:=λvs a H Q=>vs=[]/\Q a H
noncomputable def gCons(t:TG)(u:TGs):TGs:=λvs b H Q=>∃v r,vs=v::r/\t v b H λa H'=>u r a H' Q
theorem qfU:PGs X [] gNil:=by
 intro pins s a H vs us Q I r h
 obtain⟨e,h⟩:=h
 subst e
 cases r
 exact assignInOrder_nil ⟨a,H,I,h⟩
theorem qdN{e:Expr}{es:List Expr}{t:TG}{u:TGs}(b:PG X e t)(c:PGs X es u)(d:(assignEach (e::es) X.env).map (·.2)=assign e X.env::(assignEach es X.env).map (·.2):=by rfl):PGs X (e::es) (gCons t u):=by
 intro pins s f H vs us Q I r h
 obtain⟨v,m,e1,h⟩:=h
 subst e1
 cases r with
 |cons r i =>
  rw[d]
  refine assignInOrder_cons (thn (b pins s f H _ _ _ I r h) λ_ s1 ⟨a,j,l,q1⟩=>?_)
  exact c pins s1 a j _ _ Q l i q1
noncomputable def gTup(K:PySem.W.Frag)(n:Nat)(t:TGs):TG:=λv b H Q=>∃a xs,v=.ref a/\SqT K H a xs/\xs.length=n/\t xs b H Q
theorem qhr{es:List Expr}{k:Nat}{t:TGs}{n:Nat}(j:X.calm=true)(h:PGs X es t)(hn:(assignEach es X.env).length=n:=by rfl)(c:(assignEach es X.env).findIdx? (·.1)=none:=by rfl):PG X (.Tuple es k pos) (gTup X.K n t):=by
 intro pins s f H v u Q I r d
 obtain⟨a,xs,e1,l,m,d⟩:=d
 subst e1
 cases r
 obtain⟨p,i,q,hz⟩:=I.tuple l
 refine assign_Tuple_tuple (I.ok.hd j) q (by simp[hn,<-m,i.length]) c λh' hx=>?_
 have w:Inv X pins f H {s with heap:=h' }:=I.kept (t':=s.toks) λb o e=>hx b o (wS (wG e)) e
 exact h pins _ f H xs _ Q w (by simpa using i) d
noncomputable def gSub(b ti:TE)(t:TSet):TG:=λv a H Q=>b a H λo c=>ti a c λi H2=>t o i v H2 λH3=>Q a H3
theorem qhs{o i:Expr}{d ti:TE}{t:TSet}(e:PE X o d)(hi:PE X i ti)(f:PSet X t)(ha:∀v,assign (.Subscript o i pos) X.env v=(do
   let a <-holding [v] (eval o X.env)
   let b <-holding [v,a] (eval i X.env)
   standAt pos
   holding [v,a,b] (setItem a b v)
   release [v,a,b] []):=by intro _;rfl):PG X (.Subscript o i pos) (gSub d ti t):=by
 intro pins s c H v u Q I r h
 rw[ha]
 refine wA (wu (thn (e pins s c H _ I h) λa s1 ⟨x,j,l,m,q1⟩=>?_))
 refine wA (wu (thn (hi pins s1 c j _ l q1) λb s2 ⟨y,H2,n,p,q2⟩=>?_))
 refine wA (vg (wA (wu (thn (f pins s2 c H2 x y v a b u _ n m p r q2) λ_ z ⟨H3,q,w⟩=>?_))))
 exact wpAny_release ⟨c,H3,q,w⟩
noncomputable def tAsg(b:TE)(g:TG):TS:=λD a H=>b a H λx c=>g x a c D.nx
theorem qht{tg e:Expr}{a:TE}{g:TG}(c:PE X e a)(d:PG X tg g)(f:swapsWithSole [tg] e pos.line X.env=pure false:=by rfl)(i:swappedStores [tg] e X.env=pure none:=by rfl)(j:(assignEach [tg] X.env).map (·.2)=[assign tg X.env]:=by rfl):PS X (.Assign [tg] e pos) (tAsg a g):=by
 intro pins s b H D I h
 refine wpAny_Assign_stores (thn (c pins s b H _ I h) λv s1 ⟨x,l,m,n,q1⟩=>?_) f i
 rw[j]
 exact thn (d pins s1 b l x v _ m n q1) λ_ s2 q=>q
theorem qhu{i:Nat}{x:Str}{e:Expr}{b:TE}{a:Pos}(c:X.N.Nodup)(hi:X.N[i]?=some x)(hx:Loc X.env.scope x)(d:PE X e b)(f:swapsWith e (some (.Name x a)) pos.line X.env=pure false:=by rfl)(j:X.fn x=true\/X.env.scope.names.lookup x=some .local:=by first|exact .inl rfl|exact .inr rfl|assumption):
  PS X (.Assign [.Name x a] e pos) (tAsg b (gName i)):=by
 intro pins s l H D I h
 refine wpAny_Assign_Name (thn (d pins s l H _ I h) λv s1 ⟨y,m,n,o,q1⟩=>?_) f
 exact yu n c hi hx o (λs2 p=>⟨_,m,p,q1⟩) j
noncomputable def tPar(i j:Nat)(b:TA):TS:=λD a H=>b a H λvs c=>∃v w,vs=[v,w]/\D.nx ((a.set i (some v)).set j (some w)) c
theorem qhv{i j:Nat}{x y:Str}{a b:Expr}{u:TA}{f l pt:Pos}{kt k2 pt2}(J:X.calm=true)(z:X.N.Nodup)(hi:X.N[i]?=some x)(K:X.N[j]?=some y)(m:i≠j)(hx:X.env.scope.names.lookup x=some .local)(B:X.env.scope.names.lookup y=some .local)(ha:PA X [a,b] u)(L:swappedStores [.Tuple [.Name x f,.Name y l] kt pt] (.Tuple [a,b] k2 pt2) X.env=pure (some [x,y]))(M:swapsWithSole [.Tuple [.Name x f,.Name y l] kt pt] (.Tuple [a,b] k2 pt2) pos.line X.env=pure false:=by rfl):
  PS X (.Assign [.Tuple [.Name x f,.Name y l] kt pt] (.Tuple [a,b] k2 pt2) pos) (tPar i j u):=by
 intro pins s C H D I h
 rw[exec_Assign_arm]
 refine wA (vg ?_)
 rw[M]
 refine wA (wC ?_)
 rw[wL (by decide)]
 refine wA (Tuple_ (thn (ha _ pins s C H _ I h) λus s1 ⟨vs,E,O,P,q1⟩=>?_))
 obtain⟨v,w,e1,q1⟩:=q1
 subst e1
 obtain⟨c,d,rfl,Q,n⟩:∃c d,us=[c,d]/\RelV v c/\RelV w d:=by
  cases P with
  |cons p q =>
   cases q with
   |cons R S =>
    cases S
    exact⟨_,_,rfl,p,R⟩
 refine wO ?_ (by show 2<=sizeLine;decide)
 have U:Inv X pins C E {s1 with heap:=s1.heap.push {cls:=.type "tuple",data:=.seq [c,d].toArray}}:=O.kept (t':=s1.toks) λb o e=>wB _ e
 rw[L]
 refine wA (wC ?_)
 show wpAny (model X.prog X.w) X.A (do rule "assign.swapped-stores";let items <-unpackItems (.ref s1.heap.objs.size) 2 none;assignInOrder [λv=>bindName X.env y v,λv=>bindName X.env x v] items.reverse;pure Flow.next) _ _ _
 refine wA (vd (wA (unpackItems_tuple (items:=#[c,d]) (I.ok.hd J) (IsTup.new s1.heap _) λh' r=>?_)))
 have W:=U.kept (h':=h') (t':=s1.toks) λb o e=>r b o (wS (wG e)) e
 show wpAny _ _ (assignInOrder [λv=>bindName X.env y v,λv=>bindName X.env x v] [d,c] >>= λ_=>pure Flow.next) _ _ _
 refine wA (assignInOrder_cons (wpAny_bindName (yu W z K (.inl B) n (λs2 Y=>?_) (.inr B))))
 refine assignInOrder_cons (wpAny_bindName (yu Y z hi (.inl hx) Q (λZ F=>assignInOrder_nil (wC ?_)) (.inr hx)))
 rw[List.set_comm _ _ (Ne.symm m)]at F
 exact⟨_,E,F,q1⟩
end
section
variable{X:Cx}{pos:Pos}
noncomputable def tWhile(c:TT)(h:TS):TS:=λD a H=>∃W:Nat->St->Hp->Prop,(∃m,W m a H)/\∀m a H,W m a H ->
 c a H λb e=>if b=true then ∃N:St->Hp->Prop,(∀d H',N d H'->∃f,f<m/\W f d H')/\h {D with nx:=N,ct:=N,bk:=D.nx} a e else D.nx a e
theorem qdO{c:Expr}{body:List Stmt}{q:TT}{r:TS}(u:PassesOwn (model X.prog X.w) X.A X.env X.xe)(B:PT X c q)(C:PSs X body r):PS X (.While c body [] pos) (tWhile q r):=by
 intro pins s E H D I h
 obtain⟨W,⟨F,J⟩,e⟩:=h
 refine wpAny_While (codeAny_whileLoop (λn s'=>∃i H',Inv X pins i H' s'/\W n i H') ?_ F ⟨E,H,I,J⟩)
 rintro n s1 ⟨d,x,K,L⟩
 refine vx u (thn (B pins s1 d x _ K (e n d x L)) λb s2 ⟨H2,y,q2⟩=>?_)
 cases b with
 |true =>
  obtain⟨N,z,q2⟩:=q2
  rw[wM rfl]
  refine vx u (thn (C pins s2 d H2 _ y q2) λf M j=>?_)
  cases f with
  |next =>
   obtain⟨a,H3,l,m⟩:=j
   obtain⟨o,hm,p⟩:=z a H3 m
   exact⟨o,hm,a,H3,l,p⟩
  |cont =>
   obtain⟨a,H3,l,m⟩:=j
   obtain⟨o,hm,p⟩:=z a H3 m
   exact⟨o,hm,a,H3,l,p⟩
  |brk=>exact j
  |ret v=>exact j
 |false =>
  rw[wL wR]
  exact wpAny_execs_nil ⟨d,H2,y,q2⟩
end
structure It where
 go:Nat->Hp->Prop
 yld:Nat->Hp->V->Hp->Prop
 stop:Nat->Hp->Prop
noncomputable def FpOk(X:Cx)(pins:List (Addr×Obj))(H:Hp)(b:Addr):Prop :=
 H b=none/\b≠X.env.locals/\b∉X.fs/\(b∈X.ex\/X.s₀.heap.objs.size<=b)/\(∀x c,X.env.cells.lookup x=some c->c≠b)/\∀p∈X.pn++pins,p.1≠b
theorem Inv.fpOk{X:Cx}{pins:List (Addr×Obj)}{d:St}{H H':Hp}{s:Shared}{b:Addr}(I:Inv X pins d H s)(a:s.heap.objs.size<=b)(hn:H' b=none):FpOk X pins H' b:=by
 refine⟨hn,vR (wU I.lt a),I.nofs a,.inr (wf I.sz a),λx c e z=>?_,λp f z=>?_⟩
 .obtain ⟨v,q⟩:=I.cell x c e
  exact absurd (wU q.lt (by rw[z];exact a)) (vE _)
 .exact absurd (wU (wG (I.pin p f).1) (by rw[z];exact a)) (vE _)
structure Turn (P:Program) (w:World) (K:PySem.W.Frag) (tg:Expr) (J:It) (fp:List Addr) (it:Addr) (tn:Nat->Heap->Prop):Prop where
 mem:it∈fp
 obj:∀i h,tn i h->∀b∈fp,∃o,h.get? b=some o/\∀v,o.data≠.cell v
 keep:∀i h h',tn i h->(∀b∈fp,∀o,h.get? b=some o->h'.get? b=some o)->tn i h'
 item:∀(X:Cx),X.prog=P->X.w=w->X.K=K->X.calm=true->∀(i:Nat) (pins:List (Addr×Obj)) (s:Shared) (σ:St) (H:Hp) (E:Value->Shared->Prop),Inv X pins σ H s->(∀b∈fp,FpOk X pins H b)->tn i s.heap->J.go i H ->
  wpAny (model P w) X.A (pyNext (.ref it)) (λr s1=>∃u,r=some u /\
   wpAny (model P w) X.A (letOwnedTupleGo tg (.ref it) u) (λ_ s2=>∃x H',Inv X pins σ H' s2/\RelV x u/\J.yld i H x H'/\tn (i+1) s2.heap/\∀b∈fp,H' b=none) E s1) E s
 done:∀(X:Cx),X.prog=P->X.w=w->X.K=K->X.calm=true->∀(i:Nat) (pins:List (Addr×Obj)) (s:Shared) (σ:St) (H:Hp) (E:Value->Shared->Prop),Inv X pins σ H s->(∀b∈fp,FpOk X pins H b)->tn i s.heap->J.stop i H ->
  wpAny (model P w) X.A (pyNext (.ref it)) (λr s1=>r=none/\Inv X pins σ H s1) E s
 self:∀(A:Around) (i:Nat) (s:Shared) (Q:Value->Shared->Prop) (E:Value->Shared->Prop),tn i s.heap->Q (.ref it) s->wpAny (model P w) A (pyIter (.ref it)) Q E s
noncomputable abbrev TI:=St->Hp->(It->Hp->Prop)->Prop
noncomputable def PIE(X:Cx)(pins:List (Addr×Obj))(c:St)(tg:Expr)(R:It->Hp->Prop)(a:Value)(s2:Shared):Prop :=
 ∃(it:Addr) (fp:List Addr) (tn:Nat->Heap->Prop) (J:It) (H':Hp),a=.ref it/\Inv X pins c H' s2/\Turn X.prog X.w X.K tg J fp it tn/\tn 0 s2.heap/\(∀b∈fp,FpOk X pins H' b)/\R J H'
noncomputable def PI(X:Cx)(tg iter:Expr)(b:TI):Prop :=
 ∀(pins:List (Addr×Obj)) (s:Shared) (a:St) (H:Hp) (R:It->Hp->Prop),Inv X pins a H s->b a H R ->
  wpAny (model X.prog X.w) X.A (eval iter X.env) (λv s1=>wpAny (model X.prog X.w) X.A (pyIter v) (PIE X pins a tg R) X.xe s1) X.xe s
theorem qdP{M:Model}{A:Around}{E:Value->Shared->Prop}{s:Shared}{tg:Expr}{it:Addr}{u:Value}{o:Obj}{n:String}{vs:Array Value}{Q:Unit->Shared->Prop}(b:s.heap.get? it=some o)(c:o.cls=.type n)(hd:o.data=.fields vs)(hn:["enumerate","zip","dict_itemiterator","dict_reverseitemiterator","odict_iterator","itertools.zip_longest","itertools.pairwise"].contains n=false)(a:Q () s):wpAny M A (letOwnedTupleGo tg (.ref it) u) Q E s:=by
 unfold letOwnedTupleGo
 cases tg <;> first
  |exact wC a
  | (cases u <;> first
    |exact wC a
    | (refine wA (wpAny_load b ?_)
       rw[c,hd]
       show wpAny M A (if(["enumerate","zip","dict_itemiterator","dict_reverseitemiterator","odict_iterator","itertools.zip_longest","itertools.pairwise"].contains n&&vs[0]? == some (rawInt _))=true then _ else _) Q E s
       rw[wL (by intro h;rw[hn,Bool.false_and]at h;cases h)]
       exact wC a))
noncomputable def Itl(K:PySem.W.Frag)(a:Addr):It :=
 ⟨λi H=>∃xs x,SqL K H a xs/\xs[i]?=some x,λi H x H'=>H'=H/\∀xs,SqL K H a xs->xs[i]?=some x,λi H=>∃xs,SqL K H a xs/\xs.length<=i⟩
noncomputable def Itt(K:PySem.W.Frag)(a:Addr):It :=
 ⟨λi H=>∃xs x,SqT K H a xs/\xs[i]?=some x,λi H x H'=>H'=H/\∀xs,SqT K H a xs->xs[i]?=some x,λi H=>∃xs,SqT K H a xs/\xs.length<=i⟩
theorem qc5{P:Program}{w:World}{K:PySem.W.Frag}{tg:Expr}(a it:Addr):Turn P w K tg (Itl K a) [it] it (λi h=>h.IsListIter it a i) where
 mem:=by simp
 obj:=λi h st b f=>by
  have e:b=it:=by simpa using f
  subst e
  obtain⟨o,e,c,d⟩:=st
  exact⟨o,e,λv z=>by rw[d]at z;cases z⟩
 keep:=λi h h' st k=>st.at λo e=>k it (by simp) o e
 item:=by
  intro X n q r N i pins s O H E I l st y
  subst n q r
  obtain⟨xs,x,m,hx⟩:=y
  obtain⟨A,B,p,hz⟩:=I.list m
  obtain⟨u,Q,R⟩:=B.get hx
  obtain⟨C,F,S,J,L,M⟩:=l it (by simp)
  refine wpAny_pyNext_list_item st p.isList (x:=u) (by simpa using Q) λh' j U=>?_
  have Y:Inv X pins O H {s with heap:=h' }:=I.turned (t':=s.toks) (λb o f e=>(U.2 b f).trans e) C F J L M
  obtain⟨o,e,c,d⟩:=id j
  exact⟨u,rfl,qdP (s:={s with heap:=h' }) e c d (by decide) ⟨x,H,Y,R,⟨rfl,λys Z=>by rw[I.list_inj Z m];exact hx⟩,j,λb f=>(l b f).1⟩⟩
 done:=by
  intro X n q r N i pins s O H E I l st y
  subst n q r
  obtain⟨xs,m,hx⟩:=y
  obtain⟨A,B,p,hz⟩:=I.list m
  obtain⟨C,F,S,J,L,M⟩:=l it (by simp)
  have hl:=B.length
  exact wpAny_pyNext_list_end (I.ok.hd N) st p.isList (by simp;lia) λh' eb=>⟨rfl,I.turned (t':=s.toks) (λb o f e=>eb b o f e) C F J L M⟩
 self:=λ_ _ _ _ _ st h=>wpAny_pyIter_listiter st h
theorem qbG{P:Program}{w:World}{K:PySem.W.Frag}{tg:Expr}(a it:Addr):Turn P w K tg (Itt K a) [it] it (λi h=>h.IsTupleIter it a i) where
 mem:=by simp
 obj:=λi h st b f=>by
  have e:b=it:=by simpa using f
  subst e
  obtain⟨o,e,c,d⟩:=st
  exact⟨o,e,λv z=>by rw[d]at z;cases z⟩
 keep:=λi h h' st k=>st.at λo e=>k it (by simp) o e
 item:=by
  intro X q r y N i pins s O H E I m st A
  subst q r y
  obtain⟨xs,x,n,hx⟩:=A
  obtain⟨j,B,p,hz⟩:=I.tuple n
  obtain⟨u,Q,R⟩:=B.get hx
  obtain⟨C,F,S,J,L,M⟩:=m it (by simp)
  refine wpAny_pyNext_tuple_item st (show s.heap.IsTuple a j.toArray from p) (x:=u) (by simpa using Q) λh' l U=>?_
  have Y:Inv X pins O H {s with heap:=h' }:=I.turned (t':=s.toks) (λb o f e=>(U.2 b f).trans e) C F J L M
  obtain⟨o,e,c,d⟩:=id l
  exact⟨u,rfl,qdP (s:={s with heap:=h' }) e c d (by decide) ⟨x,H,Y,R,⟨rfl,λys Z=>by rw[I.tuple_inj Z n];exact hx⟩,l,λb f=>(m b f).1⟩⟩
 done:=by
  intro X q r y N i pins s O H E I m st A
  subst q r y
  obtain⟨xs,n,hx⟩:=A
  obtain⟨j,B,p,hz⟩:=I.tuple n
  obtain⟨C,F,S,J,L,M⟩:=m it (by simp)
  have hl:=B.length
  exact wpAny_pyNext_tuple_end (I.ok.hd N) st (show s.heap.IsTuple a j.toArray from p) (by simp;lia) λh' eb=>⟨rfl,I.turned (t':=s.toks) (λb o f e=>eb b o f e) C F J L M⟩
 self:=λ_ _ _ _ _ st h=>wpAny_pyIter_tupleiter st h
end L2
namespace L2
open PySem PySem.Spec PyProof.Rows
section
variable{X:Cx}{tg:Expr}
noncomputable def tFor(e:TI)(g:TG)(f:TS):TS:=λD a H=>e a H λJ h=>∃W:Nat->Nat->St->Hp->Prop,(∃m,W 0 m a h)/\∀i m a H,W i m a H ->
 (J.stop i H/\D.nx a H)\/(J.go i H/\∃N:St->Hp->Prop,(∀b H',N b H'->∃d,d<m/\W (i+1) d b H')/\∀x H',J.yld i H x H'->g x a H' λc H2=>f {D with nx:=N,ct:=N,bk:=D.nx} c H2)
noncomputable def pinsAt(fp:List Addr)(h:Heap):List (Addr×Obj):=fp.filterMap λb=>(h.get? b).map λo=>(b,o)
theorem q9{fp:List Addr}{h:Heap}{b:Addr}{o:Obj}(a:b∈fp)(e:h.get? b=some o):(b,o)∈pinsAt fp h:=List.mem_filterMap.mpr ⟨b,a,by rw[e];rfl⟩
theorem qc6{fp:List Addr}{h:Heap}{p:Addr×Obj}(a:p∈pinsAt fp h):p.1∈fp/\h.get? p.1=some p.2:=by
 obtain⟨b,c,e⟩:=List.mem_filterMap.mp a
 cases q:h.get? b with
 |none=>rw[q]at e;cases e
 |some o =>
  rw[q]at e
  have d:(b,o)=p:=Option.some.inj e
  subst d
  exact⟨c,q⟩
theorem Inv.pinned{pins:List (Addr×Obj)}{a:St}{H:Hp}{s:Shared}{fp:List Addr}(I:Inv X pins a H s)(h:∀b∈fp,FpOk X pins H b)(i:∀b∈fp,∃o,s.heap.get? b=some o/\∀v,o.data≠.cell v):Inv X (pins++pinsAt fp s.heap) a H s :=
 I.pins_of λp j=>(vJ.mp j).elim (λz=>I.pin p (wZ _ z)) λz=>by
  obtain⟨c,e⟩:=qc6 z
  obtain⟨l,m,n,_⟩:=h p.1 c
  obtain⟨o,f,d⟩:=i p.1 c
  rw[e]at f;cases f
  exact⟨e,l,m,n,d⟩
theorem Inv.unpinned{pins pl:List (Addr×Obj)}{a:St}{H:Hp}{s:Shared}(I:Inv X (pins++pl) a H s):Inv X pins a H s:=I.pins_of λp b=>I.pin p (wZ _ (vl _ b))
theorem qhw{iter:Expr}{body:List Stmt}{Y:TI}{g:TG}{Z:TS}{pos:Pos}(E:PassesOwn (model X.prog X.w) X.A X.env X.xe)(hc:X.calm=true)(hi:PI X tg iter Y)(hg:PG X tg g)(c:PSs X body Z)(hs:∀x,foldedSetIterable iter X.env x=pure x:=by intro _;rfl):PS X (.For tg iter body [] pos) (tFor Y g Z):=by
 intro pins s σ H D I h
 refine wpAny_For (thn (hi pins s σ H _ I h) λv s1 h1=>thn h1 λa0 s2 h2=>?_) hs
 obtain⟨it,fp,tn,J,H2,e,I2,T,O,f2,W,⟨m0,w0⟩,F⟩:=h2
 subst e
 have j:∀{H':Hp},(∀b∈fp,H' b=none)->∀b∈fp,FpOk X pins H' b:=λhn b c=>⟨hn b c,(f2 b c).2⟩
 refine codeAny_forLoop_any (λn s'=>∃i l H',Inv X pins l H' s'/\tn i s'.heap/\(∀b∈fp,H' b=none)/\W i n l H') ?_ m0 ⟨0,σ,H2,I2,O,λb c=>(f2 b c).1,w0⟩
 rintro n s3 ⟨i,p,H3,I3,K,L,w3⟩
 rcases F i n p H3 w3 with ⟨stop,qn⟩|⟨go,N,hN,step⟩
 .refine vx E (thn (T.done X rfl rfl rfl hc i pins s3 p H3 X.xe I3 (j L) K stop) λr s4 ⟨P,I4⟩=>?_)
  subst P
  exact wpAny_execs_nil ⟨p,H3,I4,qn⟩
 .refine vx E (thn (T.item X rfl rfl rfl hc i pins s3 p H3 X.xe I3 (j L) K go) λr s4 ⟨u,P,h4⟩=>?_)
  subst P
  refine vx E (thn h4 λ_ s5 ⟨x,H5,I5,r5,y5,C,Q⟩=>?_)
  have R:=I5.pinned (j Q) (T.obj _ _ C)
  refine vx E (thn (hg _ s5 p H5 x u _ R r5 (step x H5 y5)) λ_ s6 ⟨S,H6,I6,q6⟩=>?_)
  refine vx E (thn (c _ s6 S H6 _ I6 q6) λf U B=>?_)
  have q:∀{a:St} {y:Hp},Inv X (pins++pinsAt fp s5.heap) a y U->N a y->∃m,m<n/\∃i l H',Inv X pins l H' U/\tn i U.heap/\(∀b∈fp,H' b=none)/\W i m l H':=λ{a y} z M=>by
   obtain⟨m',hm,w7⟩:=hN a y M
   refine⟨m',hm,i+1,a,y,z.unpinned,T.keep _ _ _ C λb c o e=>(z.pin (b,o) (wZ _ (wZ _ (q9 c e)))).1,λb c=>?_,w7⟩
   obtain⟨o,e,d⟩:=T.obj _ _ C b c
   exact(z.pin (b,o) (wZ _ (wZ _ (q9 c e)))).2.1
  cases f with
  |next=>obtain⟨a,y,z,M⟩:=B;exact q z M
  |cont=>obtain⟨a,y,z,M⟩:=B;exact q z M
  |brk=>obtain⟨a,y,z,B⟩:=B;exact⟨a,y,z.unpinned,B⟩
  |ret v=>obtain⟨x7,a,y,z,r7,B⟩:=B;exact⟨x7,a,y,z.unpinned,r7,B⟩
end
end L2
namespace L2
open PySem PySem.Spec PyProof.Rows
noncomputable abbrev R2:=V->V->Hp->VK->Prop
noncomputable def OpR(X:Cx)(f:Value->Value->Sem Value)(r:R2):Prop :=
 ∀(pins:List (Addr×Obj)) (s:Shared) (a:St) (H:Hp) (x y:V) (v u:Value) (Q:VK),Inv X pins a H s->RelV x v->RelV y u->r x y H Q ->
  wpAny (model X.prog X.w) X.A (f v u) (EP X pins a Q) X.xe s
noncomputable def CallR(X:Cx)(f:Value)(r:List V->Hp->VK->Prop):Prop :=
 ∀(pins:List (Addr×Obj)) (s:Shared) (a:St) (H:Hp) (xs:List V) (us:List Value) (Q:VK),Inv X pins a H s->Vals xs us->r xs H Q ->
  wpAny (model X.prog X.w) X.A (call f us) (EP X pins a Q) X.xe s
noncomputable def TruR(X:Cx)(r:V->Hp->(Bool->Hp->Prop)->Prop):Prop :=
 ∀(pins:List (Addr×Obj)) (s:Shared) (a:St) (H:Hp) (x:V) (v:Value) (Q:Bool->Hp->Prop),Inv X pins a H s->RelV x v->r x H Q ->
  wpAny (model X.prog X.w) X.A (truthy v) (TP X pins a Q) X.xe s
noncomputable def tOp(r:R2)(b c:TE):TE:=λa H Q=>b a H λx d=>c a d λy H2=>r x y H2 Q
noncomputable def rI(C:Int->Int->Prop)(g:Int->Int->V):R2:=λx y H Q=>∃i j,x=.int i/\y=.int j/\C i j/\Q (g i j) H
noncomputable def rI0(g:Int->Int->V):R2:=λx y H Q=>∃i j,x=.int i/\y=.int j/\Q (g i j) H
section
variable{X:Cx}{a b c:Expr}{ta tb tc:TE}{pos:Pos}
theorem binT(ha:PE X a ta)(l:PE X b tb){pins:List (Addr×Obj)}{s:Shared}{d:St}{H:Hp}{R:V->V->Hp->Prop}(I:Inv X pins d H s)(h:ta d H λx j=>tb d j λy H2=>R x y H2){Q:Value->Shared->Prop}{f:Value->Value->Sem Value}(m:∀v u s2 x y H2,Inv X pins d H2 s2->RelV x v->RelV y u->R x y H2->wpAny (model X.prog X.w) X.A (f v u) Q X.xe s2):
  wpAny (model X.prog X.w) X.A (eval a X.env) (λv e=>wpAny (model X.prog X.w) X.A (eval b X.env) (λu i=>wpAny (model X.prog X.w) X.A (f v u) Q X.xe i) X.xe e) X.xe s:=by
 refine thn (ha pins s d H _ I h) λv s1 ⟨x,j,n,o,q1⟩=>?_
 refine thn (l pins s1 d j _ n q1) λu s2 ⟨y,H2,p,q,q2⟩=>?_
 exact m v u s2 x y H2 p o q q2
theorem qiP{op:Operator}{r:R2}(d:OpR X (binaryOp op) r)(ha:PE X a ta)(e:PE X b tb):PE X (.BinOp a op b pos) (tOp r ta tb):=by
 intro pins s f H Q I h
 exact wpAny_BinOp (binT ha e I h λv u s2 x y H2 i j l q=>d pins s2 f H2 x y v u Q i j l q)
theorem opI{f:Value->Value->Sem Value}{C:Int->Int->Prop}{g:Int->Int->Int}(d:∀(i j:Int) (t u:Tok) (s:Shared) (Q:Value->Shared->Prop) (E:Value->Shared->Prop),C i j->Q (.int (g i j) s.toks) {s with toks:=s.toks+1}->wpAny (model X.prog X.w) X.A (f (.int i t) (.int j u)) Q E s):
  OpR X f (rI C λi j=>.int (g i j)):=by
 intro pins s n H x y v u Q I e l h
 obtain⟨i,j,rfl,rfl,m,q⟩:=h
 obtain⟨t,rfl⟩:=e
 obtain⟨t',rfl⟩:=l
 exact d i j t t' s _ _ m ⟨.int (g i j),H,I.tok _,⟨_,rfl⟩,q⟩
theorem opB0{f:Value->Value->Sem Value}{g:Int->Int->Bool}(d:∀(i j:Int) (t u:Tok) (s:Shared) (Q:Value->Shared->Prop) (E:Value->Shared->Prop),Q (.bool (g i j)) s->wpAny (model X.prog X.w) X.A (f (.int i t) (.int j u)) Q E s):
  OpR X f (rI0 λi j=>.bl (g i j)):=by
 intro pins s m H x y v u Q I e l h
 obtain⟨i,j,rfl,rfl,q⟩:=h
 obtain⟨t,rfl⟩:=e
 obtain⟨t',rfl⟩:=l
 exact d i j t t' s _ _ ⟨.bl (g i j),H,I,rfl,q⟩
theorem qbH(k:Nat):(0:Int)<=2^k:=by
 rw[two_pow_cast]
 exact Int.natCast_nonneg _
theorem qhx:OpR X (binaryOp .RShift) (rI (λ_ j=>0<=j) λi j=>.int (i / 2^j.toNat)):=opI λi j _ _ _ _ _ d q =>
 rshift_int d (by rw[uI i (qbH _)];exact q)
end
section
variable{X:Cx}{a b c:Expr}{ta tb tc:TE}{pos:Pos}
theorem qdQ{pins:List (Addr×Obj)}{d:St}{H:Hp}{s:Shared}{Q:VK}{k f:Bool}(I:Inv X pins d H s)(q:Q (.bl k) H)(e:k=f):EP X pins d Q (.bool f) s:=by
 subst e
 exact⟨.bl k,H,I,rfl,q⟩
theorem qiQ:OpR X (compareOp .Lt) (rI0 λi j=>.bl (decide (i<j))):=opB0 λ_ _ _ _ _ _ _ q=>lt_int q
theorem qiR:OpR X (compareOp .LtE) (rI0 λi j=>.bl (decide (i<=j))):=opB0 λ_ _ _ _ _ _ _ q=>le_int q
theorem qiS:OpR X (compareOp .Gt) (rI0 λi j=>.bl (decide (j<i))):=opB0 λ_ _ _ _ _ _ _ q=>gt_int q
theorem qiT:OpR X (compareOp .GtE) (rI0 λi j=>.bl (decide (j<=i))):=opB0 λ_ _ _ _ _ _ _ q=>ge_int q
theorem qhy:OpR X (compareOp .Is) (λx y H Q=>y=.non/\Q (.bl (decide (x=.non))) H):=by
 intro pins s f H x y v u Q I d e h
 obtain⟨rfl,q⟩:=h
 cases e
 refine is_none_gen (qdQ I q ?_)
 cases x <;> first
  | (cases d;rfl)
  | (obtain⟨t,rfl⟩:=d;rfl)
theorem qfV:OpR X (compareOp .IsNot) (λx y H Q=>y=.non/\Q (.bl (!decide (x=.non))) H):=by
 intro pins s f H x y v u Q I d e h
 obtain⟨rfl,q⟩:=h
 cases e
 refine isnot_none_gen (qdQ I q ?_)
 cases x <;> first
  | (cases d;rfl)
  | (obtain⟨t,rfl⟩:=d;rfl)
theorem qfW{op:CmpOp}{r:R2}(d:OpR X (compareOp op) r)(ha:PE X a ta)(e:PE X b tb)(hm:behindInMarks op b=false):PE X (.Compare a [op] [b] pos) (tOp r ta tb):=by
 intro pins s f H Q I h
 exact wpAny_Compare1 (binT ha e I h λv u s2 x y H2 i j l q=>d pins s2 f H2 x y v u Q i j l q) hm
noncomputable def tTest(t:TE):TT:=λd H Q=>t d H λx H'=>∃k,x=.bl k/\Q k H'
theorem qfX{op:CmpOp}{r:R2}(f:OpR X (compareOp op) r)(ha:PE X a ta)(i:PE X b tb)(hm:behindInMarks op b=false):PT X (.Compare a [op] [b] pos) (tTest (tOp r ta tb)):=by
 intro pins s d H Q I h
 refine wpAny_isTrue_Compare1 (thn (ha pins s d H _ I h) λv s1 ⟨x,j,l,m,q1⟩=>thn (i pins s1 d j _ l q1) λu s2 ⟨y,H2,n,o,q2⟩ =>
  thn (f pins s2 d H2 x y v u _ n m o q2) λc A ⟨z,H3,p,q,k,e,w⟩=>?_) hm
 subst e
 cases q
 exact vN ⟨H3,p,w⟩
noncomputable def tChain(r e:R2)(ta tb tc:TE):TE:=λd H Q=>ta d H λx f=>tb d f λy H2=>r x y H2 λz H3=>∃k,z=.bl k /\
 (if k=true then tc d H3 λh i=>e y h i Q else Q (.bl false) H3)
theorem qdR{op f:CmpOp}{r l:R2}(p:OpR X (compareOp op) r)(j:OpR X (compareOp f) l)(ha:PE X a ta)(q:PE X b tb)(w:PE X c tc)(hm:lastMarks [op,f] [b,c]=false:=by with_unfolding_all rfl):PE X (.Compare a [op,f] [b,c] pos) (tChain r l ta tb tc):=by
 intro pins s i H Q I h
 refine Compare_chain (thn (ha pins s i H _ I h) λv s1 ⟨x,A,B,C,q1⟩=>chain_link (thn (q pins s1 i A _ B q1) λu s2 ⟨y,H2,E,m,q2⟩ =>
  thn (p pins s2 i H2 x y v u _ E C m q2) λd F ⟨z,H3,n,J,k,e,o⟩=>?_)) hm
 subst e
 cases J
 refine vN ?_
 cases k with
 |false=>exact ite_ff ⟨.bl false,H3,n,rfl,o⟩
 |true=>exact ite_tt (chain_last (thn (w pins F i H3 _ n o) λK L ⟨M,N,O,P,R⟩=>j pins L i N y M u K Q O m P R))
theorem qdS{op f:CmpOp}{r l:R2}(p:OpR X (compareOp op) r)(j:OpR X (compareOp f) l)(ha:PE X a ta)(q:PE X b tb)(w:PE X c tc)(hm:lastMarks [op,f] [b,c]=false:=by with_unfolding_all rfl):PT X (.Compare a [op,f] [b,c] pos) (tTest (tChain r l ta tb tc)):=by
 intro pins s i H Q I h
 refine isTrue_chain (thn (ha pins s i H _ I h) λv s1 ⟨x,A,B,C,q1⟩=>test_link (thn (q pins s1 i A _ B q1) λu s2 ⟨y,H2,E,m,q2⟩ =>
  thn (p pins s2 i H2 x y v u _ E C m q2) λd F ⟨z,H3,n,J,k,e,o⟩=>?_)) hm
 subst e
 cases J
 refine vN ?_
 cases k with
 |false =>
  obtain⟨k',K,L⟩:=o
  cases K
  exact ite_ff ⟨H3,n,L⟩
 |true =>
  refine ite_tt (test_last (thn (w pins F i H3 _ n o) λM N ⟨O,P,R,S,U⟩=>thn (j pins N i P y O u M _ R m S U) λd' s5 ⟨z2,W,Y,Z,k2,e2,q5⟩=>?_))
  subst e2
  cases Z
  exact vN ⟨W,Y,q5⟩
noncomputable def TruV(K:PySem.W.Frag)(x:V)(H:Hp)(k:Bool):Prop :=
 match x with
 | .non=>k=false
 | .bl b=>k=b
 | .int i=>k=(i != 0)
 | .str y=>y.length<=sizeLine/\k=((y.length:Int) != 0)
 | .byt y=>y.size<=sizeLine/\k=((y.size:Int) != 0)
 | .ref p=>(∃xs,SqL K H p xs/\k=!xs.isEmpty)\/(∃xs,SqT K H p xs/\k=!xs.isEmpty)\/∃kvs,H p=some (.dK kvs)/\k=!kvs.isEmpty
 |_=>False
theorem qbI{κ:Type}{kvs:List (κ×V)}{vs:List (κ×Value)}(r:KV kvs vs):(!vs.isEmpty)=!kvs.isEmpty:=by
 cases r <;> rfl
theorem ji{xs:List V}{d:List Value}(r:Vals xs d):(!d.toArray.isEmpty)=!xs.isEmpty:=by
 cases r <;> simp
theorem line63:(sizeLine:Nat)<2^63:=by rw[vH];decide
theorem qhz:TruR X (λx H Q=>∃k,TruV X.K x H k/\Q k H):=by
 intro pins s u H x v Q I j h
 obtain⟨k,e,q⟩:=h
 have z:=line63
 have A:sizeLine=16777216:=vH
 cases x with
 |non =>
  cases j
  have d:k=false:=e
  subst d
  exact truthy_none ⟨H,I,q⟩
 |bl b =>
  cases j
  have d:k=b:=e
  subst d
  exact vN ⟨H,I,q⟩
 |int i =>
  obtain⟨t,rfl⟩:=j
  have d:k=(i != 0):=e
  subst d
  exact PySem.P.truthy_int ⟨H,I,q⟩
 |str y =>
  obtain⟨t,rfl⟩:=j
  obtain⟨n,d⟩:y.length<=sizeLine/\k=((y.length:Int) != 0):=e
  subst d
  exact PySem.P.truthy_str (by lia) ⟨H,I.tok _,q⟩
 |byt y =>
  obtain⟨t,rfl⟩:=j
  obtain⟨n,d⟩:y.size<=sizeLine/\k=((y.size:Int) != 0):=e
  subst d
  exact PySem.W.truthy_bytes (by lia) ⟨H,I.tok _,q⟩
 |ref p =>
  cases j
  have d:(∃xs,SqL X.K H p xs/\k=!xs.isEmpty)\/(∃xs,SqT X.K H p xs/\k=!xs.isEmpty)\/∃kvs,H p=some (.dK kvs)/\k=!kvs.isEmpty:=e
  rcases d with ⟨xs,hx,d⟩|⟨xs,hx,d⟩|⟨kvs,hx,d⟩
  .subst d
   obtain⟨l,r,pl,hz⟩:=I.list hx
   have f:=r.length
   exact wpAny_truthy_list pl.isList (by simp only[wH];lia) ⟨H,I.tok _,by rw[ji r];exact q⟩
  .subst d
   obtain⟨l,r,pl,hz⟩:=I.tuple hx
   have f:=r.length
   exact truthy_tuple pl (by simp only[wH];lia) ⟨H,I.tok _,by rw[ji r];exact q⟩
  .subst d
   obtain⟨hz,o,vs,r,m⟩:kvs.length<=sizeLine/\(p == sysModules)=false/\∃vs,KV kvs vs/\s.heap.DictOf (mixKind X.prog X.w) p vs:=I.hok p _ hx
   have f:kvs.length=vs.length:=Paired.length r
   exact wpAny_truthy_dict o m (by lia) ⟨H,I.tok _,by rw[qbI r];exact q⟩
 |_=>exact(show False from e).elim
theorem qdT(ha:PE X a ta)(f:∀d,isTrue a X.env d=(do let v <-d;standAt a.pos;holding [v] (truthy v))):
  PT X a (λe H Q=>ta e H λx H'=>∃k,TruV X.K x H' k/\Q k H'):=by
 intro pins s e H Q I h
 exact isTrue_plain (thn (ha pins s e H _ I h) λv s1 ⟨x,i,j,l,q1⟩=>qhz pins s1 e i x v Q j l q1) (f _)
theorem qbJ:OpR X (binaryOp .Add) (λx y H Q=>∃i j,x=.str i/\y=.str j/\i.length+j.length<=sizeLine/\Q (.str (i++j)) H):=by
 intro pins s f H x y v u Q I d e h
 obtain⟨i,j,rfl,rfl,hz,q⟩:=h
 obtain⟨t,rfl⟩:=d
 obtain⟨t',rfl⟩:=e
 exact add_str (λt' tk=>⟨.str (i++j),H,I.tok _,⟨_,rfl⟩,q⟩) hz
theorem vals1{x:V}{us:List Value}(r:Vals [x] us):∃u,us=[u]/\RelV x u:=by
 cases r with
 |cons d e=>cases e;exact⟨_,rfl,d⟩
theorem vals2{x y:V}{us:List Value}(r:Vals [x,y] us):∃u d,us=[u,d]/\RelV x u/\RelV y d:=by
 cases r with
 |cons e f =>
  cases f with
  |cons h i=>cases i;exact⟨_,_,rfl,e,h⟩
theorem qdU:CallR X (.builtin "abs") (λxs H Q=>∃i,xs=[.int i]/\Q (.int (if i<0 then -i else i)) H):=by
 intro pins s d H xs us Q I r h
 obtain⟨i,rfl,q⟩:=h
 obtain⟨u,rfl,t,rfl⟩:=vals1 r
 exact call_abs_int λu tk=>⟨.int (if i<0 then -i else i),H,I.tok _,⟨_,rfl⟩,q⟩
theorem qc7(e:X.calm=true):CallR X (.builtin "max") (λxs H Q=>∃i j,xs=[.int i,.int j]/\Q (.int (if j>i then j else i)) H):=by
 intro pins s f H xs us Q I r h
 obtain⟨i,j,rfl,q⟩:=h
 obtain⟨u,l,rfl,⟨t,rfl⟩,⟨t',rfl⟩⟩:=vals2 r
 refine max_two_ints (I.ok.hd e) λh' tk k=>⟨_,H,I.kept k,?_,q⟩
 by_cases d:j>i
 .rw [wM d,wM d];exact⟨_,rfl⟩
 .rw [wL d,wL d];exact⟨_,rfl⟩
theorem qc8(e:X.calm=true):CallR X (.builtin "min") (λxs H Q=>∃i j,xs=[.int i,.int j]/\Q (.int (if j<i then j else i)) H):=by
 intro pins s f H xs us Q I r h
 obtain⟨i,j,rfl,q⟩:=h
 obtain⟨u,l,rfl,⟨t,rfl⟩,⟨t',rfl⟩⟩:=vals2 r
 refine min_two_ints (I.ok.hd e) λh' tk k=>⟨_,H,I.kept k,?_,q⟩
 by_cases d:j<i
 .rw [wM d,wM d];exact⟨_,rfl⟩
 .rw [wL d,wL d];exact⟨_,rfl⟩
noncomputable def LenV(K:PySem.W.Frag)(x:V)(H:Hp)(n:Nat):Prop :=
 match x with
 | .str y=>y.length<=sizeLine/\n=y.length
 | .byt y=>y.size<=sizeLine/\n=y.size
 | .ref p=>(∃xs,SqL K H p xs/\n=xs.length)\/∃xs,SqT K H p xs/\n=xs.length
 |_=>False
theorem qdV:CallR X (.builtin "len") (λxs H Q=>∃x n,xs=[x]/\LenV X.K x H n/\Q (.int n) H):=by
 intro pins s o H xs us Q I r h
 obtain⟨x,n,rfl,e,q⟩:=h
 obtain⟨u,rfl,i⟩:=vals1 r
 have v:=line63
 have w:sizeLine=16777216:=vH
 cases x with
 |str y =>
  obtain⟨t,rfl⟩:=i
  obtain⟨m,f⟩:y.length<=sizeLine/\n=y.length:=e
  subst f
  exact len_str (by lia) ⟨.int _,H,I.tok _,⟨_,rfl⟩,q⟩
 |byt y =>
  obtain⟨t,rfl⟩:=i
  obtain⟨m,f⟩:y.size<=sizeLine/\n=y.size:=e
  subst f
  exact PySem.W.len_bytes (by lia) ⟨.int _,H,I.tok _,⟨_,rfl⟩,q⟩
 |ref p =>
  cases i
  have f:(∃xs,SqL X.K H p xs/\n=xs.length)\/∃xs,SqT X.K H p xs/\n=xs.length:=e
  rcases f with ⟨xs,hx,f⟩|⟨xs,hx,f⟩
  .subst f
   obtain⟨j,l,pl,hz⟩:=I.list hx
   have d:=l.length
   exact Calls.call_len_list pl.isList (by simp only[wH];lia) ⟨.int xs.length,H,I.tok _,⟨_,by simp only[wH];rw[d]⟩,q⟩
  .subst f
   obtain⟨j,l,pl,hz⟩:=I.tuple hx
   have d:=l.length
   exact len_tuple pl (by simp only[wH];lia) ⟨.int xs.length,H,I.tok _,⟨_,by simp only[wH];rw[d]⟩,q⟩
 |_=>exact(show False from e).elim
end
end L2
namespace L2
open PySem PySem.Spec PyProof.Rows
structure ObjM (h:Heap) (x dx C:Addr) (mA:Str->Option Value):Prop where
 obj:h.get? x=some (PySem.W.instObj C dx)
 ns:h.Ns1 dx mA
 ne:dx≠x
theorem qc9{h:Heap}{dx:Addr}{mA:Str->Option Value}(n:h.Ns1 dx mA):∃od,h.get? dx=some od/\∀name,PySem.W.lookIn name od=some (mA name):=by
 obtain⟨o,es,ep,c,hd,d,_,hm⟩:=n
 refine⟨o,c,λname=>?_⟩
 have e:=hm name
 unfold nsFind findBy at e
 rw[<-Array.find?_toList]at e
 unfold PySem.W.lookIn
 rw[hd]
 dsimp only
 split
 .rename_i y q
  rw[q]at e
  exact congrArg some e
 .rename_i q
  rw[q]at e
  have a:es.toList.any (·.refKey)=false:=by
   rw[uF]
   intro y f
   obtain⟨z,t,b⟩:=d y (Array.mem_toList_iff.mp f)
   simp[DictEntry.refKey,b]
  have i:¬es.toList.any (·.refKey)=true:=by rw[a];exact wR
  rw[wL i]
  exact congrArg some e
theorem ObjM.look{h:Heap}{x dx C:Addr}{mA:Str->Option Value}(I:ObjM h x dx C mA):∃od,PySem.W.InstAt h x (PySem.W.instObj C dx) C (some od)/\∀name,PySem.W.lookIn name od=some (mA name) :=
 let ⟨od,a,b⟩:=qc9 I.ns
 ⟨od,⟨I.obj,rfl,rfl,a⟩,b⟩
theorem RelO.some_of{v:V}{o:Option Value}(r:RelO (some v) o):∃u,o=some u/\RelV v u:=by
 cases o with
 |none=>exact(show False from r).elim
 |some u=>exact⟨u,rfl,r⟩
section
variable{P:Program}{w:World}{H H':Hp}{h h':Heap}{a C dx:Addr}{fs fs':List (Str×V)}
theorem qfY(hok:HOk P w H h)(e:H a=some (.ins C dx fs)):∃mA,ObjM h a dx C mA/\(∀f,RelO (fs.lookup f) (mA f))/\PySem.Within mA (fs.map (·.1))/\fs.length<=1000/\H dx=some (.own a):=by
 obtain⟨d,z,ne,ob,mA,n,r,q⟩:=(show ObjOk P w H h a (.ins C dx fs)from hok a _ e)
 exact⟨mA,⟨ob,n,ne⟩,r,q,z,d⟩
end
structure Cls (K:PySem.W.Frag) (C:Addr):Prop where
 pg:PySem.W.plainGet K C Str.empty=true
 hd:PySem.W.hasDictIn K C=true
 po:PySem.W.plainOver K C=true
 sa:PySem.W.findIn K (.ref C) "__setattr__"=some (some (.builtin "object.__setattr__"))
theorem Cls.get{K:PySem.W.Frag}{C:Addr}(c:Cls K C)(f:Str):PySem.W.plainGet K C f=true:=c.pg
section
variable{X:Cx}{pins:List (Addr×Obj)}{σ:St}{H:Hp}{s:Shared}{A:Around}{E:Value->Shared->Prop}{Q:Value->Shared->Prop}{c:Value}{b:Bool}
inductive TyOf (K:PySem.W.Frag) (H:Hp):V->Value->Prop where
 |non:TyOf K H .non (.type "NoneType")
 |bl (x:Bool):TyOf K H (.bl x) (.type "bool")
 |int (i:Int):TyOf K H (.int i) (.type "int")
 |str (x:Str):TyOf K H (.str x) (.type "str")
 |flt (x:UInt64):TyOf K H (.flt x) (.type "float")
 |lst {a:Addr} {xs:List V} (e:H a=some (.lst xs)):TyOf K H (.ref a) (.type "list")
 |frz {a:Addr} {o:Obj} {xs:List V} (e:H a=some (.frz o (.lst xs))):TyOf K H (.ref a) (.type "list")
 |tup {a:Addr} {xs:List V} (e:H a=some (.tup xs)):TyOf K H (.ref a) (.type "tuple")
 |dK {a:Addr} {kvs:List (Key×V)} (e:H a=some (.dK kvs)):TyOf K H (.ref a) (.type "dict")
 |dT {a:Addr} {kvs:List (List Key×V)} (e:H a=some (.dT kvs)):TyOf K H (.ref a) (.type "dict")
 |ins {a C dx:Addr} {fs:List (Str×V)} (e:H a=some (.ins C dx fs)) (cl:Cls K C) (ha:PySem.W.findIn K (.ref C) "__class__"=some (some (.builtin "object.__class__")))
   (hn:PySem.W.specialIn K (.builtin "object.__class__") "__get__"=some (some (.builtin "getset_descriptor.__get__"))) (htk:PySem.W.takesIn K (.builtin "object.__class__")=some true)
   (hm:PySem.W.mroIn K C (.type "object")=some true):TyOf K H (.ref a) (.ref C)
theorem qda{x:V}{u t:Value}(I:Inv X pins σ H s)(d:RelV x u)(ty:TyOf X.K H x t)(e:PySem.W.kitOne X.K t c=some b)(h:∀tk,Q (.bool b) {s with toks:=tk}):
  wpAny (model X.prog X.w) A (call (.builtin "isinstance") [u,c]) Q E s:=by
 cases ty with
 |non=>cases (show u=Value.none from d);exact vI PySem.W.kitx_none I.kIn True.intro e (λz=>nomatch z) h
 |bl y=>cases (show u=Value.bool y from d);exact vI PySem.W.kitx_bool I.kIn True.intro e (λz=>nomatch z) h
 |int i=>obtain⟨t,q⟩:=(show ∃t,u=Value.int i t from d);cases q;exact vI PySem.W.kitx_int I.kIn True.intro e (λz=>nomatch z) h
 |str y=>obtain⟨t,q⟩:=(show ∃t,u=Value.str y t from d);cases q;exact vI PySem.W.kitx_str I.kIn True.intro e (λz=>nomatch z) h
 |flt y=>obtain⟨t,q⟩:=(show ∃t,u=Value.float y t from d);cases q;exact vI PySem.W.kitx_float I.kIn True.intro e (λz=>nomatch z) h
 | @lst a xs f =>
  cases (show u=Value.ref a from d)
  obtain⟨_,_,n,_,j⟩:=(show ObjOk X.prog X.w H s.heap a (.lst xs)from I.hok a _ f)
  exact vI PySem.W.kitx_list I.kIn ⟨_,j,rfl⟩ e (λz=>nomatch z) h
 | @frz a ob xs f =>
  cases (show u=Value.ref a from d)
  obtain⟨_,_,_,n,_,j⟩:=(show ObjOk X.prog X.w H s.heap a (.frz ob (.lst xs))from I.hok a _ f)
  exact vI PySem.W.kitx_list I.kIn ⟨_,j,rfl⟩ e (λz=>nomatch z) h
 | @tup a xs f =>
  cases (show u=Value.ref a from d)
  obtain⟨_,_,_,p,_⟩:=(show ObjOk X.prog X.w H s.heap a (.tup xs)from I.hok a _ f)
  obtain⟨o,j,l,_⟩:=p
  exact vI PySem.W.kitx_tuple I.kIn ⟨o,j,l⟩ e (λz=>nomatch z) h
 | @dK a kvs f =>
  cases (show u=Value.ref a from d)
  obtain⟨_,_,vs,_,p⟩:=(show ObjOk X.prog X.w H s.heap a (.dK kvs)from I.hok a _ f)
  obtain⟨o,es,ep,j,l,_⟩:=p
  exact vI PySem.W.kitx_dict I.kIn ⟨o,j,l.1⟩ e (λz=>nomatch z) h
 | @dT a kvs f =>
  cases (show u=Value.ref a from d)
  obtain⟨_,_,xs,_,o,es,ep,j,l,_⟩:=(show ObjOk X.prog X.w H s.heap a (.dT kvs)from I.hok a _ f)
  exact vI PySem.W.kitx_dict I.kIn ⟨o,j,l.1⟩ e (λz=>nomatch z) h
 | @ins a C dx fs f cl ha hn htk hm =>
  cases (show u=Value.ref a from d)
  obtain⟨mA,O,_⟩:=qfY I.hok f
  obtain⟨od,J,_⟩:=O.look
  exact vI (PySem.W.kitx_own (cl.get _) cl.hd ha hn htk hm) I.kIn J e (λz=>nomatch z) h
end
end L2
namespace L2
open PySem PySem.Spec PyProof.Rows
structure Room (k:Nat) (A:Around):Prop where
 hd:A.handled=none
 dp:A.depth+3*k+5<recursionLimit
 un:A.units+16*k+200<cLine
theorem Room.mono{j k:Nat}{A:Around}(r:Room k A)(h:j<=k):Room j A:=⟨r.hd,by have:=r.dp;lia,by have:=r.un;lia⟩
theorem Room.deeper{k:Nat}{A:Around}(r:Room (k+1) A)(env:Env):Room k (A.deeper env) :=
 ⟨r.hd,by have:=r.dp;show A.depth+1+3*k+5<_;lia,by have:=r.un;show A.units+3+16*k+200<_;lia⟩
theorem Room.depth{k:Nat}{A:Around}(r:Room k A):A.depth<recursionLimit:=by have:=r.dp;lia
theorem Room.units{k:Nat}{A:Around}(r:Room k A):A.units+64<cLine:=by have:=r.un;lia
noncomputable def tNil:TA:=λ_ H Q=>Q [] H
noncomputable def tCons(b:TE)(tr:TA):TA:=λa H Q=>b a H λx c=>tr a c λxs H2=>Q (x::xs) H2
section
variable{X:Cx}{e:Expr}{es:List Expr}{te:TE}{t:TA}{pos:Pos}
theorem qbK:PA X [] tNil:=λ_ _ _ _ H Q I h=>uY ⟨[],H,I,.nil,h⟩
theorem jc(ha:PE X e te)(b:PA X es t)(c:starEach (e::es) X.env=(false,eval e X.env)::starEach es X.env:=by rfl):PA X (e::es) (tCons te t):=by
 intro pos pins s a H Q I h
 rw[c]
 show wpAny _ _ (spliced ((false,eval e X.env)::backTo pos (starEach es X.env))) _ _ s
 refine vv (thn (ha pins s a H _ I h) λu s1 ⟨x,d,f,i,q1⟩=>?_)
 exact thn (b pos pins s1 a d _ f q1) λus s2 ⟨xs,H2,j,l,q2⟩=>⟨x::xs,H2,j,.cons i l,q2⟩
noncomputable def tTup(t:TA):TE:=λb H Q=>t b H λxs a=>xs.length<=sizeLine/\∀p,a p=none->Q (.ref p) (upd a p (.tup xs))
noncomputable def tLst(t:TA):TE:=λb H Q=>t b H λxs a=>xs.length<=sizeLine/\∀p,a p=none->Q (.ref p) (upd a p (.lst xs))
theorem qhA{x1}(h:PA X es t):PE X (.Tuple es x1 pos) (tTup t):=by
 intro pins s d H Q I f
 refine wpAny_Tuple_spliced (thn (h pos pins s d H _ I f) λus s1 ⟨xs,a,c,r,z,q⟩=>⟨by rw[<-r.length];exact z,?_⟩)
 have i:a s1.heap.objs.size=none:=c.hok.fresh (wF _)
 refine⟨.ref s1.heap.objs.size,upd a s1.heap.objs.size (.tup xs),c.laid (t':=s1.toks) (λb u e=>wB _ e) (wF _) ?_,rfl,q _ i⟩
 exact⟨z,us,r,⟨_,wE _ rfl,rfl,_,rfl⟩,yg _ _⟩
theorem qhB(h:PA X es t):PE X (.List es pos) (tLst t):=by
 intro pins s d H Q I f
 refine wpAny_List_spliced (thn (h pos pins s d H _ I f) λus s1 ⟨xs,a,c,r,z,q⟩=>⟨by rw[<-r.length];exact z,?_⟩)
 have i:a s1.heap.objs.size=none:=c.hok.fresh (wF _)
 refine⟨.ref s1.heap.objs.size,upd a s1.heap.objs.size (.lst xs),c.laid (t':=s1.toks) (λb u e=>wB _ e) (wF _) ?_,rfl,q _ i⟩
 exact⟨z,us,0,r,wE _ rfl⟩
end
noncomputable abbrev Sp:=List V->Hp->VK->XK->Prop
noncomputable abbrev CXT:=List Env->Hp->Shared->XK->Value->Shared->Prop
structure Env0 (P:Program) (w:World) (K:PySem.W.Frag) (mg:Str->Option Value) (base:Heap) (A:Around) (outer:List Env) (s:Shared) (H:Hp):Prop where
 frames:A.frames=some outer
 mod:Mod K mg base
 bs:∀b o,base.get? b=some o->s.heap.get? b=some o/\H b=none
 bsz:base.objs.size<=s.heap.objs.size
 funs:s.heap.FunFrames base outer
 frf:∀b∈frs outer,H b=none
 hok:HOk P w H s.heap
 bare:AllBare s.gens
 tab:∀c T,codeTab K c T=true->∃ps,H T=some (.tbl ps)
noncomputable def CE(outer:List Env)(P:Program)(w:World)(H:Hp)(s:Shared)(Q:VK)(u:Value)(s':Shared):Prop :=
 ∃v H',s'.os=s.os/\GK s.gens s'.gens/\Un (frs outer) [] H H' s.heap s'.heap/\HOk P w H' s'.heap/\RelV v u/\Q v H'
noncomputable def CR(CX:CXT)(outer:List Env)(P:Program)(w:World)(H:Hp)(s:Shared)(Q:VK)(E:XK)(r:Result)(s':Shared):Prop :=
 match r with
 | .ok (.ret u)=>CE outer P w H s Q u s'
 | .ok _=>False
 | .error e=>CX outer H s E e s'
structure FnOk (P:Program) (w:World) (K:PySem.W.Frag) (mg:Str->Option Value) (base:Heap) (CX:CXT) (k:Nat) (f:Addr) (fd:FuncData) (ps:List Str) (sp:Sp):Prop where
 len:∀vs H Q E,sp vs H Q E->vs.length=ps.length
 run:∀(A:Around) (outer:List Env) (s:Shared) (H:Hp) (args:Args) (us:List Value) (vs:List V) (Q:VK) (E:XK),Room k A->Env0 P w K mg base A outer s H->BindsTo s fd args (ps.zip us)->Vals vs us->sp vs H Q E ->
  codeAny (model P w) A (.call (.ref f) args) (CR CX outer P w H s Q E) s
section
variable{X:Cx}{pins:List (Addr×Obj)}{σ:St}{H:Hp}{s s':Shared}
theorem Inv.env0(I:Inv X pins σ H s):Env0 X.prog X.w X.K X.mg X.base X.A X.stack s H :=
 ⟨I.ok.frames,I.ok.mod,I.bs,wf I.ok.bsz I.sz,I.stack,I.stkFree,I.hok,I.bare.bare,λc T z=>let ⟨ps,e⟩:=I.ok.tab c T z;let ⟨m,a⟩:=I.base.tbls _ _ e;⟨_,a⟩⟩
theorem Inv.after{Q:VK}{u:Value}(I:Inv X pins σ H s)(h:CE X.stack X.prog X.w H s Q u s'):EP X pins σ Q u s':=by
 obtain⟨v,H',os,bare,un,hok,r,q⟩:=h
 obtain⟨c,g,d,t,a⟩:=s'
 obtain rfl:a=s.os:=os
 exact⟨v,H',I.call (h':=c) (g':=g) (d':=d) (t':=t) (ch:=[]) un hok bare (λb z=>absurd z (by simp)),r,q⟩
end
noncomputable def tCall(sp:Sp)(dvs:List V)(E:XK)(t:TA):TE:=λa H Q=>t a H λvs b=>sp (vs++dvs) b Q E
noncomputable def Binds(K:PySem.W.Frag)(fd:FuncData)(ps:List Str)(ds:List Value):Prop :=
 ∀(s:Shared) (us:List Value),K.In s.heap->(us++ds).length=ps.length->BindsTo s fd ⟨us,[]⟩ (ps.zip (us++ds))
theorem Binds.all{K:PySem.W.Frag}{fd:FuncData}{ps:List Str}(h:∀us:List Value,us.length=ps.length->bindArgs fd ⟨us,[]⟩=pure (ps.zip us)):Binds K fd ps []:=λs us _ a=>by
 rw[uV]at a ⊢
 exact .of_eq (h us a)
def Passes(CX:CXT)(X:Cx)(E:XK):Prop:=∀(pins:List (Addr×Obj)) (a:St) (H:Hp) (s:Shared) (e:Value) (s':Shared),Inv X pins a H s->CX X.stack H s E e s'->X.xe e s'
section
variable{X:Cx}{CX:CXT}{k:Nat}{f C:Addr}{fd:FuncData}{ps:List Str}{sp:Sp}{dvs:List V}{ds:List Value}{E:XK}{x m:Str}{p pos apos:Pos}{e o:Expr}{es:List Expr}{ta:TE}{t:TA}
theorem qhC{pins:List (Addr×Obj)}{b:St}{H:Hp}{s:Shared}{Q:VK}{us:List Value}{vs:List V}(F:FnOk X.prog X.w X.K X.mg X.base CX k f fd ps sp)(d:Room k X.A)(i:Binds X.K fd ps ds)(hd:Vals dvs ds)(hx:Passes CX X E)(I:Inv X pins b H s)(r:Vals vs us)(h:sp (vs++dvs) H Q E):wpAny (model X.prog X.w) X.A (call (.ref f) us) (EP X pins b Q) X.xe s:=by
 have c:Vals (vs++dvs) (us++ds):=r.append hd
 have j:(us++ds).length=ps.length:=by rw[<-c.length];exact F.len _ _ _ _ h
 refine wpAny_call (xR (F.run X.A X.stack s H ⟨us,[]⟩ (us++ds) (vs++dvs) Q E d I.env0 (i s us I.kIn j) c h) λr s' a=>?_)
 cases r with
 |error e=>exact hx pins b H s e s' I a
 |ok l =>
  cases l with
  |ret u=>exact I.after a
  |next=>exact False.elim a
  |brk=>exact False.elim a
  |cont=>exact False.elim a
theorem qfZ(F:FnOk X.prog X.w X.K X.mg X.base CX k f fd ps sp)(d:Room k X.A)(i:Gl X x)(hm:X.mg x=some (.ref f))(j:PySem.W.keepIn X.K (.ref f)=true)(l:Binds X.K fd ps ds)(hd:Vals dvs ds)(hx:Passes CX X E)(ha:PA X (e::es) t)(a:(x == ("__debug__":Str))=false:=by decide)(n:starEach (e::es) X.env=(false,eval e X.env)::starEach es X.env:=by rfl)(b:(backTo pos (starEach es X.env)).any (·.1)=false:=by rfl):
  PE X (.Call (.Name x p) (e::es) [] pos) (tCall sp dvs E t):=by
 intro pins s u H Q I h
 refine um (qcg I i hm ?_ a)
 refine PySem.W.callWith_K (h₀:=X.base) I.ok.mod.kin j (thn (ha pos pins s u H _ I h) λus s1 ⟨vs,v,c,r,q⟩=>⟨c.kIn,?_⟩) n b
 exact qhC F d l hd hx c r q
end
structure FnScope (N P:List Str) (sc:Scope):Prop where
 kind:sc.kind=.function
 co:sc.isCoroutine=false
 gen:sc.isGenerator=false
 nd:N.Nodup
 pre:N.take P.length=P
 par:∀x∈P,sc.names.lookup x=some .local\/sc.names.lookup x=some .cell
 nofree:∀y∈sc.names,y.2≠.free
theorem jX{kindOf:Str->Option NameKind}{x:Str}:∀{a:List (Str×Value)} {m:Str->Option Value},(∀v,(x,v)∉a)->bindL kindOf a m x=m x
 |[],_,_=>rfl
 | (n,v)::r,m,h=>by
  unfold bindL
  rw[jX λw b=>h w (wJ _ b)]
  split
  .have:x≠n:=by rintro rfl;exact h v wI
   simp[this]
  .rfl
theorem jY{kindOf:Str->Option NameKind}{x:Str}:∀{a:List (Str×Value)} {m:Str->Option Value},(∀v,(x,v)∉a)->bindC kindOf a m x=m x
 |[],_,_=>rfl
 | (n,v)::r,m,h=>by
  unfold bindC
  rw[jY λw b=>h w (wJ _ b)]
  split
  .rfl
  .have:x≠n:=by rintro rfl;exact h v wI
   simp[this]
theorem jZ{kindOf:Str->Option NameKind}{x:Str}{v:Value}:∀{P:List Str} {vs:List Value} {i:Nat} {m:Str->Option Value},P.Nodup->P[i]?=some x->vs[i]?=some v->kindOf x=some .local ->
  bindL kindOf (P.zip vs) m x=some v
 |[],_,_,_,_,h,_,_=>by simp at h
 |_::_,[],_,_,_,_,h,_=>by simp at h
 |p::P,w::vs,0,m,nd,h1,h2,hk=>by
  simp at h1 h2;subst h1;subst h2
  show bindL kindOf ((p,w)::P.zip vs) m p=_
  unfold bindL
  rw[jX λv a=>(vz.mp nd).1 (List.of_mem_zip a).1,wM hk]
  simp
 |p::P,w::vs,i+1,m,nd,h1,h2,hk=>by
  show bindL kindOf ((p,w)::P.zip vs) m x=_
  unfold bindL
  exact jZ (i:=i) (vz.mp nd).2 (by simpa using h1) (by simpa using h2) hk
theorem j0{kindOf:Str->Option NameKind}{x:Str}{v:Value}:∀{P:List Str} {vs:List Value} {i:Nat} {m:Str->Option Value},P.Nodup->P[i]?=some x->vs[i]?=some v->kindOf x≠some .local ->
  bindC kindOf (P.zip vs) m x=some v
 |[],_,_,_,_,h,_,_=>by simp at h
 |_::_,[],_,_,_,_,h,_=>by simp at h
 |p::P,w::vs,0,m,nd,h1,h2,hk=>by
  simp at h1 h2;subst h1;subst h2
  show bindC kindOf ((p,w)::P.zip vs) m p=_
  unfold bindC
  rw[jY λv a=>(vz.mp nd).1 (List.of_mem_zip a).1,wL hk]
  simp
 |p::P,w::vs,i+1,m,nd,h1,h2,hk=>by
  show bindC kindOf ((p,w)::P.zip vs) m x=_
  unfold bindC
  exact j0 (i:=i) (vz.mp nd).2 (by simpa using h1) (by simpa using h2) hk
noncomputable def start(N:List Str)(vs:List V):St:=vs.map some++List.replicate (N.length-vs.length) none
noncomputable def cxOf(CX:CXT)(P:Program)(w:World)(K:PySem.W.Frag)(mg:Str->Option Value)(base:Heap)(N:List Str)(a:Str)(scope:Scope)(f:Addr)(c:Value)(A:Around)(outer:List Env)(s:Shared)(H:Hp)(E:XK):Cx where
 prog:=P
 w:=w
 K:=K
 mg:=mg
 base:=base
 A:=A.deeper (envOfC a scope s.heap.objs.size f c)
 N:=N
 s₀:=s
 H₀:=H
 env:=envOfC a scope s.heap.objs.size f c
 outer:=outer
 stack:=envOfC a scope s.heap.objs.size f c::outer
 ex:=[]
 calm:=true
 fn:=λ_=>true
 pn:=[]
 xe:=λe s'=>wpAny (model P w) (A.deeper (envOfC a scope s.heap.objs.size f c)) (leaving (envOfC a scope s.heap.objs.size f c) e) (λ_ b=>CX outer H s E e b) (λd b=>CX outer H s E d b) s'
theorem qaS{sc:Scope}{n:Nat}{x:Str}(h:sc.names.lookup x=some .cell):∃c,(cellsFrom n sc.names []).lookup x=some c:=by
 have q:=vq sc.names n [] (.inl h)
 exact Option.isSome_iff_exists.mp q
theorem qdb{CX:CXT}{P:Program}{w:World}{K:PySem.W.Frag}{mg:Str->Option Value}{base:Heap}{N ps:List Str}{d:Str}{scope:Scope}{f:Addr}{F:Value}{A:Around}{outer:List Env}{s s1:Shared}{H:Hp}{E:XK}{us:List Value}{vs:List V}(S:FnScope N ps scope)(hd:A.handled=none)(l:Env0 P w K mg base A outer s H)(Q:vs.length=ps.length)(r:Vals vs us)(x:InCallC s s.heap.objs.size (bindL (envOfC d scope s.heap.objs.size f F).kindOf (ps.zip us) λ_=>none) (cellsFrom (s.heap.objs.size+1) scope.names []) (bindC (envOfC d scope s.heap.objs.size f F).kindOf (ps.zip us) λ_=>none) s1):
  Inv (cxOf CX P w K mg base N d scope f F A outer s H E) [] (start N vs) H s1:=by
 have M:ps.length<=N.length:=by have:=congrArg List.length S.pre;rw[vA]at this;lia
 obtain⟨I,tk,rfl,J⟩:=x.done
 have m:∀b:Addr,b∉(cxOf CX P w K mg base N d scope f F A outer s H E).ex:=λb z=>absurd (show b∈([]:List Addr)from z) (by simp)
 refine⟨⟨l.mod,S.kind,rfl,rfl,wF _,λy z c I j=>?_,λy o=>?_,λy c _ h=>?_,λ_=>hd,Around.frames_deeper l.frames,.inr ⟨rfl,rfl⟩,λb z=>absurd z (m b),l.bs,l.bsz,λb _ _=>m b,λb z=>absurd z (m b),l.funs,l.frf,l.tab⟩,
  rfl,GK.refl l.bare,Un.kept J,⟨_,x.toInCall.ns,λi y v I j R=>?_⟩,λy c h=>⟨_,x.cell y c h⟩,l.hok.fresh (wF _),λy c h=>?_,λp B=>absurd (show p∈([]:List (Addr×Obj))from B) (by simp),l.hok.kept J,?_⟩
 .exact name_of_addr x.apart (wx I) (wx j)
 .have o:scope.names.lookup y=some .cell\/scope.names.lookup y=some .free:=o
  rcases o with o|o
  .exact qaS o
  .exact absurd rfl (S.nofree _ (wx o))
 .exact uq (x.above y c (wx h))
 .have hi:i<vs.length:=by
   unfold start at j
   by_cases hi:i<vs.length
   .exact hi
   .rw [w8 (by simpa using hi)]at j
    rw[v0]at j
    split at j <;> cases j
  have ha:vs[i]?=some v:=by
   unfold start at j
   rw[wX (by simpa using hi),wW]at j
   cases e:vs[i]? with
   |none=>rw[e]at j;cases j
   |some a=>rw[e]at j;cases j;rfl
  obtain⟨u,L,O⟩:=r.get ha
  have B:ps[i]?=some y:=by
   rw[<-S.pre,uP (by lia)];exact I
  have C:ps.Nodup:=by rw[<-S.pre];exact S.nd.sublist (List.take_sublist _ _)
  refine⟨u,O,?_⟩
  rcases S.par y (wm B)with k|k
  .exact .inl ⟨k,jZ C B L k⟩
  .obtain ⟨c,e⟩:=qaS (n:=s.heap.objs.size+1) k
   refine .inr ⟨.inl k,c,e,?_⟩
   have q:=x.cell y c e
   rw[j0 C B L (by show scope.names.lookup y≠_;rw[k];decide)]at q
   exact q
 .exact l.hok.fresh (uq (x.above y c (wx h)))
 .unfold start
  show _=N.length
  rw[vK,wT,List.length_replicate]
  lia
theorem qiU{CX:CXT}{P:Program}{w:World}{K:PySem.W.Frag}{mg:Str->Option Value}{base:Heap}{k:Nat}{f:Addr}{name a:Str}{d:Arguments}{body:List Stmt}{scope:Scope}{L kV doc pm c ct oc:Value}{an od:Option Addr}{osl:Array (Option Value)}{N ps:List Str}{sp:Sp}(O:K.lookup f=some ⟨oc,od,.func (PySem.W.fnOf name a d body scope L kV doc pm an c ct),osl⟩)(z:PySem.W.codeIn K c a=true)(S:FnScope N ps scope)(len:∀vs H Q E,sp vs H Q E->vs.length=ps.length)(i:∀(A:Around) (outer:List Env) (s:Shared) (H:Hp) (vs:List V) (Q:VK) (E:XK),Room k (A.deeper (envOfC a scope s.heap.objs.size f c))->sp vs H Q E ->
   ∃t,PSs (cxOf CX P w K mg base N a scope f c A outer s H E) body t/\t {nx:=λ_ H'=>Q .non H',rt:=Q} (start N vs) H):
  FnOk P w K mg base CX (k+1) f (PySem.W.fnOf name a d body scope L kV doc pm an c ct) ps sp:=by
 refine⟨len,λA outer s H args us vs Q E B m R r p=>?_⟩
 have U:=len _ _ _ _ p
 have M:K.In s.heap:=m.mod.kin.keeps λb o e=>(m.bs b o e).1
 have C:s.heap.NoLimit:=m.mod.nolimit.keeps λb o e=>(m.bs b o e).1
 have j:∀y∈ps.zip us,scope.names.lookup y.1=some .local\/(scope.names.lookup y.1=some .cell/\((cellsFrom (s.heap.objs.size+1) scope.names []).lookup y.1).isSome=true):=λ⟨n,v⟩ X=>by
  rcases S.par n (List.of_mem_zip X).1 with q|q
  .exact .inl q
  .exact .inr ⟨q,vq _ _ _ (.inl q)⟩
 refine codeAny_call_function B.depth (M _ _ O) rfl S.co S.gen rfl (PySem.W.codeRec_of M z) (R _ _ _ _ ?_)
 refine wpAny_newFunctionEnv_cells S.kind j λenv Y s1 x=>?_
 subst Y
 refine⟨C.keeps x.toInCall.keep,codeAny_func ?_⟩
 obtain⟨t,Z,hq⟩:=i A outer s H vs Q E (B.deeper _) p
 have I:Inv (cxOf CX P w K mg base N a scope f c A outer s H E) [] (start N vs) H s1:=qdb S B.hd m U r x
 refine v6 (Z [] s1 (start N vs) H _ I hq) (λfl s' l=>?_) λe s' l=>l
 have fin:∀{h:St} {H':Hp} {v:V} {u:Value},Inv (cxOf CX P w K mg base N a scope f c A outer s H E) [] h H' s'->RelV v u->Q v H'->CE outer P w H s Q u s' :=
  λ{h H' v u} J F q=>⟨v,H',J.os,J.bare,J.base,J.hok,F,q⟩
 cases fl with
 |ret u =>
  obtain⟨v,h,H',J,F,q⟩:=l
  exact fin J F q
 |next =>
  obtain⟨h,H',J,q⟩:=l
  exact fin (v:=V.non) (u:=Value.none) J rfl q
 |brk =>
  obtain⟨_,_,_,q⟩:=l
  exact False.elim q
 |cont =>
  obtain⟨_,_,_,q⟩:=l
  exact False.elim q
end L2
namespace L2
open PySem PySem.Spec PyProof.Rows
section
variable{X:Cx}{x:Str}{p pos:Pos}{e:Expr}{es:List Expr}{t:TA}{id T:String}{r:List V->Hp->VK->Prop}
noncomputable def tCB(r:List V->Hp->VK->Prop)(t:TA):TE:=λa H Q=>t a H λvs b=>r vs b Q
theorem qaT(d:CallR X (.builtin id) r)(f:Gl X x)(hm:X.mg x=none)(i:bootBuiltins x=some (.builtin id))(ha:PA X (e::es) t)(hn:x≠"__name__":=by decide)(a:(x == ("__debug__":Str))=false:=by decide)(j:starEach (e::es) X.env=(false,eval e X.env)::starEach es X.env:=by rfl)(b:(backTo pos (starEach es X.env)).any (·.1)=false:=by rfl):PE X (.Call (.Name x p) (e::es) [] pos) (tCB r t):=by
 intro pins s c H Q I h
 refine um (zG I f hm i ?_ hn a)
 exact uZ (thn (ha pos pins s c H _ I h) λus s1 ⟨vs,l,m,n,q1⟩=>d pins s1 c l vs us Q m n q1) j b
theorem qdc(d:CallR X (.type T) r)(f:Gl X x)(hm:X.mg x=none)(i:bootBuiltins x=some (.type T))(ha:PA X (e::es) t)(hn:x≠"__name__":=by decide)(a:(x == ("__debug__":Str))=false:=by decide)(j:starEach (e::es) X.env=(false,eval e X.env)::starEach es X.env:=by rfl)(b:(backTo pos (starEach es X.env)).any (·.1)=false:=by rfl):PE X (.Call (.Name x p) (e::es) [] pos) (tCB r t):=by
 intro pins s c H Q I h
 refine um (zG I f hm i ?_ hn a)
 exact v8 (thn (ha pos pins s c H _ I h) λus s1 ⟨vs,l,m,n,q1⟩=>d pins s1 c l vs us Q m n q1) j b
end
end L2
namespace HT
open PySem PyProof.Rows
noncomputable def lexLt:List Int->List Int->Bool
 |[],[]=>false
 |[],_::_=>true
 |_::_,[]=>false
 |x::xs,y::ys=>if x=y then lexLt xs ys else decide (x<y)
theorem qS(x y:Int)(xs ys:List Int):lexLt (x::xs) (y::ys)=if x=y then lexLt xs ys else decide (x<y):=rfl
theorem yn:lexLt [] []=false:=rfl
theorem zR(y:Int)(ys:List Int):lexLt [] (y::ys)=true:=rfl
theorem zS(x:Int)(xs:List Int):lexLt (x::xs) []=false:=rfl
theorem qaU(A:Around)(s:Shared)(a:Int)(t:Tok)(c:Int)(u:Tok):∃e,SeqAt.EqAt A s (.int a t) (.int c u) e/\(e=true ↔ a=c) :=
 ⟨(a == c),SeqAt.EqAt.int_int a t c u,by simp⟩
theorem qdW(A:Around)(s:Shared)(a:Int)(t:Tok)(c:Int)(u:Tok)(prog:Program)(w:World)(E:Value->Shared->Prop)(Q:Value->Shared->Prop)(h:Q (.bool (decide (a<c))) s):
  wpAny (model prog w) A (richCompare .Lt (.int a t) (.int c u)) Q E s :=
 (PyProof.Rows.lt_int h:wpAny (model prog w) A (compareOp .Lt (.int a t) (.int c u)) Q E s)
section
open PySem.SeqAt
open PySem.AutoSeq1 (wpAny_loadPart')
open PySem.MeetsSeq PySem.MeetsSeq2 PySem.MeetsSeq3
theorem jR(l b:Addr)(items f:Array Value)(n O:Nat)(P I:Option Addr)(sl J:Array (Option Value))(ns E:List Int)(hi:IntsAre items.toList ns)(M:IntsAre f.toList E):
  Meets (Builtin.«tuple.__lt__» ⟨[.ref l,.ref b],[]⟩)
   (λ_ R s=>s.heap.get? l=some {cls:=.type "tuple",dict:=P,data:=.seq items n,slots:=sl}/\s.heap.get? b=some {cls:=.type "tuple",dict:=I,data:=.seq f O,slots:=J} /\
    R (.ok (.ret (.bool (lexLt ns E)))) s) :=
 .of_wp λprog w A R s h=>by
  obtain⟨F,g,d,tk,os⟩:=s;obtain⟨Q,S,h⟩:=h
  have Y:=AutoSeq1.sub_tuple_tuple
  have Z:items.size=ns.length:=by rw[<-hi.length];simp
  have z2:f.size=E.length:=by rw[<-M.length];simp
  wp_walk using wpAny_loadPart' Q,wpAny_loadPart' S,wpAny_forIn_list _ (λrest b s'=>b.1=none/\s'=⟨F,g,d,tk,os⟩/\∃(vs H:List Value) (j m:List Int),rest=vs.zip H /\
   IntsAre vs j/\IntsAre H m/\j.length+f.size=m.length+items.size/\R (.ok (.ret (.bool (lexLt j m)))) ⟨F,g,d,tk,os⟩) _
  case turn =>
   rintro⟨y,x⟩ rest b s' ⟨v,rfl,vs,H,j,m,hz,z,o,i,p⟩
   cases z with
   |nil=>rw[List.zip_nil_left]at hz;cases hz
   |cons a t B =>
    cases o with
    |nil=>rw[List.zip_nil_right]at hz;cases hz
    |cons c u C =>
     rw[vu]at hz
     injection hz with K hrest
     injection K with U hx
     subst U hx
     rw[qS]at p
     simp only[wc]at i
     obtain⟨e,W,r⟩:=qaU A.in1 ⟨F,g,d,tk,os⟩ a t c u
     refine wA (W prog w _ _ ?_)
     cases e with
     |true =>
      rw[wM (r.mp rfl)]at p
      wp_walk
      exact⟨rfl,rfl,_,_,_,_,hrest,B,C,by lia,p⟩
     |false =>
      rw[wL (λq=>absurd (r.mpr q) wR)]at p
      have L:=qdW A.in1 ⟨F,g,d,tk,os⟩ a t c u prog w
      wp_walk using L
      exact⟨_,rfl,by simpa using p⟩
  case fin =>
   rintro⟨b1,b2⟩ s' ⟨v,rfl,vs,H,j,m,hz,z,o,i,p⟩
   simp only at v
   subst v
   have N:lexLt j m=decide (items.size<f.size):=by
    cases z with
    |nil =>
     cases o with
     |nil =>
      simp only[vb]at i
      rw[yn]
      exact(wo (by lia)).symm
     |cons c u X =>
      simp only[vb,wc]at i
      rw[zR]
      exact(vj (by lia)).symm
    |cons a t N =>
     cases o with
     |nil =>
      simp only[vb,wc]at i
      rw[zS]
      exact(wo (by lia)).symm
     |cons c u X =>
      rw[vu]at hz
      cases hz
   rw[N]at p
   wp_walk
   exact⟨_,rfl,by simpa[Builtin.Tuple.tupleCompareSizes]using p⟩
  case h =>
   exact⟨rfl,rfl,items.toList,f.toList,ns,E,rfl,hi,M,by lia,h⟩
end
section
variable{prog:Program}{w:World}{A:Around}{E:Value->Shared->Prop}{s:Shared}
theorem qbL{l b:Addr}{items a:Array Value}{ns c:List Int}{Q:Value->Shared->Prop}(r:IsTup s.heap l items)(u:IsTup s.heap b a)(hi:IntsAre items.toList ns)(v:IntsAre a.toList c)(y:A.units<cLine)(h:Q (.bool (lexLt ns c)) s):wpAny (model prog w) A (compareOp .Lt (.ref l) (.ref b)) Q E s:=by
 obtain⟨⟨cls,z,data,sl⟩,o,p,n,hd⟩:=id r
 obtain⟨⟨q,i,j,m⟩,d,e,B,f⟩:=id u
 simp only at p hd e f
 subst p hd e f
 exact richCompare_meets_room (op:=.Lt) ⟨_,o,rfl⟩ ⟨_,d,rfl⟩ PySem.F.slot_tuple_lt PySem.F.entry_tuple_lt (PySem.F.args_tuple_lt_2 _ _) (jR l b items a n B z i sl m ns c hi v)
  ⟨o,d,show Value.bool (lexLt ns c)≠Value.notImplemented/\Q (.bool (lexLt ns c)) s from⟨(λx=>nomatch x),h⟩⟩ y
theorem qf0{t b:Addr}{vs a:List Value}{Q:Value->Shared->Prop}(v:IsTup s.heap t vs.toArray)(x:IsTup s.heap b a.toArray)(o:vs≠[])(y:a=[]->Q (.ref t) s)(z:a≠[]->Q (.ref s.heap.objs.size) {s with heap:=s.heap.push {cls:=.type "tuple",data:=.seq (vs++a).toArray}})(hsz:vs.length+a.length<=sizeLine):wpAny (model prog w) A (binaryOp .Add (.ref t) (.ref b)) Q E s:=by
 obtain⟨⟨cls,p,data,sl⟩,j,q,n,hd⟩:=id v
 obtain⟨⟨r,d,m,f⟩,c,h,u,i⟩:=id x
 simp only at q hd h i
 subst q hd h i
 have e:vs.toArray++a.toArray=(vs++a).toArray:=by simp
 by_cases l:a=[]
 .exact concat_meets ⟨_,j,rfl⟩ ⟨_,c,rfl⟩ noFill_tuple_add seq_tuple_add xP xH (xB _ _)
   (tuple_addW1 t b vs.toArray a.toArray n u p d sl f (by simpa using o) (by simp[l])) ⟨j,c,y l⟩
 .refine concat_meets ⟨_,j,rfl⟩ ⟨_,c,rfl⟩ noFill_tuple_add seq_tuple_add xP xH (xB _ _)
   (tuple_addW2 t b vs.toArray a.toArray n u p d sl f (by simpa using o) (by simpa using l) (by rw[wH,wH];exact hsz)) ⟨j,c,?_⟩
  rw[e]
  exact z l
noncomputable def sIx(n d:Nat):Option Int->Nat
 |none=>d
 |some v=>if v<0 then(v+(n:Int)).toNat else min v.toNat n
theorem qhD(n d:Nat)(hd:d<=n)(o:Option Int):sIx n d o<=n:=by
 cases o with
 |none=>exact hd
 |some v =>
  show(if v<0 then(v+(n:Int)).toNat else min v.toNat n)<=n
  by_cases a:v<0
  .rw [wM a];lia
  .rw [wL a];exact Nat.min_le_right _ _
theorem qch(v:Int)(n d:Nat):(if v<0 then max (v+(n:Int)) 0 else min v (n:Int))=((sIx n d (some v):Nat):Int):=by
 show(if v<0 then max (v+(n:Int)) 0 else min v (n:Int))=(((if v<0 then(v+(n:Int)).toNat else min v.toNat n):Nat):Int)
 by_cases a:v<0
 .simp only[wM a];lia
 .simp only[wL a];lia
theorem qbM(lo hi:Option Int)(n:Nat):Builtin.Slice.sliceAdjust lo hi 1 (n:Int)=(((sIx n 0 lo:Nat):Int),((sIx n n hi:Nat):Int)):=by
 have a:¬((1:Int)<0):=by lia
 unfold Builtin.Slice.sliceAdjust
 simp only[a,vh]
 refine Prod.ext ?_ ?_
 .cases lo with
  |none=>rfl
  |some v=>exact qch v n 0
 .cases hi with
  |none=>rfl
  |some v=>exact qch v n n
theorem qbN(i j:Nat):Builtin.Slice.slicePlaces (i:Int) (j:Int) 1=j-i:=by
 unfold Builtin.Slice.slicePlaces
 have a:(1:Int)>0:=by lia
 simp only[a,ws,Int.ediv_one]
 split <;> lia
theorem jj{v:Value}{o:Option Int}{Q:Option Int->Shared->Prop}(p:IsPart v o)(h:Q o s):wpAny (model prog w) A (Builtin.Slice.slicePartIndex v) Q E s:=by
 cases p with
 |none=>exact slicePart_none h
 |int i t=>exact slicePart_int h
theorem zy{sl:Addr}{c d:Value}{lo hi:Option Int}{n:Nat}{Q:Int×Int×Nat->Shared->Prop}(e:s.heap.IsSliceOf sl c d .none)(pl:IsPart c lo)(f:IsPart d hi)(h:Q (((sIx n 0 lo:Nat):Int),1,sIx n n hi-sIx n 0 lo) s):wpAny (model prog w) A (Builtin.Slice.sliceApplied (.ref sl) (pure (n:Int))) Q E s:=by
 obtain⟨os,a,i,b⟩:=id e
 unfold Builtin.Slice.sliceApplied Builtin.Slice.sliceFields
 refine wA (wA (vP a b (x:=c) rfl (wA (vP a b (x:=d) rfl (wA (vP a b (x:=.none) rfl (wC ?_)))))))
 refine wA (slicePart_none ?_)
 show wpAny _ _ (if((1:Int) == 0)=true then _ else _) _ _ s
 rw[wL (by decide)]
 refine wA (jj pl (wA (jj f (wA (wC ?_)))))
 show wpAny _ _ (match Builtin.Slice.sliceAdjust lo hi 1 (n:Int)with|(lo,hi)=>pure (lo,(1:Int),Builtin.Slice.slicePlaces lo hi 1)) _ _ s
 rw[qbM lo hi n]
 show wpAny _ _ (pure (((sIx n 0 lo:Nat):Int),(1:Int),Builtin.Slice.slicePlaces ((sIx n 0 lo:Nat):Int) ((sIx n n hi:Nat):Int) 1)) _ _ s
 rw[qbN]
 exact wC h
theorem qdX(xs:Array Value)(i k:Nat):((List.range k).filterMap λ(m:Nat)=>xs[((i:Int)+(m:Int)*1).toNat]?).toArray=((xs.toList.drop i).take k).toArray:=by
 have e:(λ(m:Nat)=>xs[((i:Int)+(m:Int)*1).toNat]?)=λm=>xs[i+m]?:=by
  funext m
  have:((i:Int)+(m:Int)*1).toNat=i+m:=by lia
  rw[this]
 rw[e]
 have:=pick_run xs i k
 rw[List.filterMap_map]at this
 have a:((λx=>xs[x]?)∘λx=>i+x)=λm=>xs[i+m]?:=rfl
 rw[a]at this
 rw[this]
theorem yv{t sl:Addr}{items:Array Value}{i j:Value}{lo hi:Option Int}{Q:Value->Shared->Prop}(b:IsTup s.heap t items)(l:s.heap.IsSliceOf sl i j .none)(pl:IsPart i lo)(n:IsPart j hi)(o:¬(sIx items.size 0 lo=0/\sIx items.size items.size hi=items.size))(h:Q (.ref s.heap.objs.size) {s with heap:=s.heap.push {cls:=.type "tuple",data:=.seq ((items.toList.drop (sIx items.size 0 lo)).take (sIx items.size items.size hi-sIx items.size 0 lo)).toArray}})(hsz:items.size<=sizeLine):wpAny (model prog w) A (getItem (.ref t) (.ref sl)) Q E s:=by
 have a:sizeOk (.seq ((items.toList.drop (sIx items.size 0 lo)).take (sIx items.size items.size hi-sIx items.size 0 lo)).toArray):=by
  show((items.toList.drop (sIx items.size 0 lo)).take (sIx items.size items.size hi-sIx items.size 0 lo)).toArray.size<=sizeLine
  rw[wH,vA,xM,we]
  lia
 have r:sIx items.size items.size hi<=items.size:=qhD _ _ (wF _) hi
 obtain⟨os,c,d,p⟩:=id l
 have e:s.TypeIs (.ref sl) "slice":=⟨os,c,d⟩
 unfold getItem
 try with_reducible refine wu ?_
 first|refine wA (wC ?_)|skip
 refine wA (wpAny_sequenceKey b.typeIs (by decide) ?_)
 refine wA (w5 (name:=Str.ofString "__getitem__") b.typeIs vB
  (w6 vB b.typeIs entry_tuple_getitem ?_ (args_tuple_getitem _ _)))
 show wpAny _ _ (Builtin.Tuple.tupleItemsOf (.ref t) >>= _) _ _ s
 refine wA (tupleItemsOf_ b ?_)
 refine wA (uk e ?_)
 rw[wM (by decide)]
 refine wA (zy l pl n ?_)
 have f:¬((((sIx items.size 0 lo:Nat):Int) == 0&&(1:Int) == 1&&(sIx items.size items.size hi-sIx items.size 0 lo) == items.size)=true):=by
  intro q
  rw[wP,wP]at q
  have q1:((sIx items.size 0 lo:Nat):Int)=0:=eq_of_beq q.1.1
  have q2:sIx items.size items.size hi-sIx items.size 0 lo=items.size:=eq_of_beq q.2
  exact o ⟨by lia,by lia⟩
 show wpAny _ _ (if(((sIx items.size 0 lo:Nat):Int) == 0&&(1:Int) == 1&&(sIx items.size items.size hi-sIx items.size 0 lo) == items.size)=true then _ else _) _ _ s
 rw[wL f,qdX]
 first
  |exact wA (m:=Builtin.Tuple.tupleExact _) (wO (wC ⟨_,rfl,wC h⟩) a)
  |exact wA (m:=Builtin.Tuple.tupleExact _) (wO (wA (wC (wC ⟨_,rfl,wC h⟩))) a)
  |exact wA (wA (m:=Builtin.Tuple.tupleExact _) (wO (wC (wC ⟨_,rfl,wC h⟩)) a))
  |exact wA (wA (m:=Builtin.Tuple.tupleExact _) (wO (wC ⟨_,rfl,wC h⟩) a))
end
end HT
namespace L2
open PySem PySem.Spec PyProof.Rows
noncomputable abbrev TO:=St->Hp->(Option Int->Hp->Prop)->Prop
noncomputable def PO(X:Cx)(e:Option Expr)(t:TO):Prop :=
 ∀(pins:List (Addr×Obj)) (s:Shared) (a:St) (H:Hp) (Q:Option Int->Hp->Prop),Inv X pins a H s->t a H Q ->
  wpAny (model X.prog X.w) X.A (evalPart e X.env) (λu s'=>∃o H',Inv X pins a H' s'/\IsPart u o/\Q o H') X.xe s
noncomputable def tNoPart:TO:=λ_ H Q=>Q none H
noncomputable def tPart(t:TE):TO:=λa H Q=>t a H λx b=>∃i,x=.int i/\Q (some i) b
theorem qL{ns:List Int}:∀{us:List Value},Vals (ns.map V.int) us->IntsAre us ns:=by
 induction ns with
 |nil=>intro us r;rw[u0]at r;cases r;exact .nil
 |cons n ns a =>
  intro us r
  rw[w4]at r
  cases r with
  |cons b c =>
   obtain⟨t,e⟩:=b
   subst e
   exact .cons n t (a c)
section
variable{X:Cx}{e:Expr}{te:TE}{lo hi:Option Expr}{tl th:TO}{pos p2:Pos}
theorem qf1:PO X none tNoPart:=by
 intro pins s a H Q I h
 rw[evalPart_none]
 exact wC ⟨none,H,I,.none,h⟩
theorem qf2(h:PE X e te):PO X (some e) (tPart te):=by
 intro pins s a H Q I b
 rw[evalPart_some]
 refine thn (h pins s a H _ I b) λu s1 ⟨x,c,d,f,q1⟩=>?_
 obtain⟨i,rfl,q⟩:=q1
 obtain⟨t,rfl⟩:=f
 exact⟨some i,c,d,.int i t,q⟩
noncomputable def SlR(X:Cx)(r:V->Option Int->Option Int->Hp->VK->Prop):Prop :=
 ∀(pins:List (Addr×Obj)) (s:Shared) (a:St) (H:Hp) (x:V) (v b c:Value) (lo hi:Option Int) (sl:Addr) (Q:VK),Inv X pins a H s->RelV x v->s.heap.IsSliceOf sl b c .none->IsPart b lo->IsPart c hi->r x lo hi H Q ->
  ∃T id,typeLookup (.type T) "__getitem__"=pure (some (.builtin id))/\s.TypeIs v T/\wpAny (model X.prog X.w) X.A (getItem v (.ref sl)) (EP X pins a Q) X.xe s
theorem SlR.or{r a:V->Option Int->Option Int->Hp->VK->Prop}(h:SlR X r)(h':SlR X a):SlR X (λx lo hi H Q=>r x lo hi H Q\/a x lo hi H Q):=by
 intro pins s b H x v c d lo hi sl Q I f i pl j q
 rcases q with q|q
 .exact h pins s b H x v c d lo hi sl Q I f i pl j q
 .exact h' pins s b H x v c d lo hi sl Q I f i pl j q
noncomputable def tSl(r:V->Option Int->Option Int->Hp->VK->Prop)(te:TE)(tl th:TO):TE:=λa H Q=>te a H λx b=>tl a b λl H2=>th a H2 λu H3=>r x l u H3 Q
theorem qdY{r:V->Option Int->Option Int->Hp->VK->Prop}(i:SlR X r)(j:PE X e te)(m:PO X lo tl)(n:PO X hi th):PE X (.Subscript e (.Slice lo hi none p2) pos) (tSl r te tl th):=by
 intro pins s c H Q I h
 refine Subscript_ (thn (j pins s c H _ I h) λv s1 ⟨x,o,p,y,q1⟩=>?_)
 refine wpAny_Slice (thn (m pins s1 c o _ p q1) λd s2 ⟨l,H2,z,pl,q2⟩=>thn (n pins s2 c H2 _ z q2) λf a ⟨u,H3,B,C,E⟩=>?_)
 rw[evalPart_none]
 refine wC ?_
 have F:Inv X pins c H3 {a with heap:=a.heap.push {cls:=.type "slice",data:=.fields #[d,f,.none]}}:=B.kept (t':=a.toks) λb ob q=>wB _ q
 obtain⟨T,id,J,K,L⟩:=i pins {a with heap:=a.heap.push {cls:=.type "slice",data:=.fields #[d,f,.none]}} c H3 x v d f l u a.heap.objs.size Q F y (Heap.IsSliceOf.new ..) pl C E
 show wpAny (model X.prog X.w) X.A (subscriptTail e (.Slice lo hi none p2) v (.ref a.heap.objs.size)) (EP X pins c Q) X.xe {a with heap:=a.heap.push {cls:=.type "slice",data:=.fields #[d,f,.none]}}
 exact tail_any (ops:=[.ref a.heap.objs.size,v]) K J L (by with_unfolding_all rfl)
noncomputable def cutV(xs:List V)(lo hi:Option Int):List V:=(xs.drop (HT.sIx xs.length 0 lo)).take (HT.sIx xs.length xs.length hi-HT.sIx xs.length 0 lo)
theorem y2(xs:List V)(lo hi:Option Int):(cutV xs lo hi).length<=xs.length:=by
 unfold cutV
 rw[vA,xM]
 lia
def rSlT(K:PySem.W.Frag):V->Option Int->Option Int->Hp->VK->Prop:=λx lo hi H Q=>∃a xs,x=.ref a/\SqT K H a xs /\
 ¬(HT.sIx xs.length 0 lo=0/\HT.sIx xs.length xs.length hi=xs.length)/\∀p,H p=none->Q (.ref p) (upd H p (.tup (cutV xs lo hi)))
theorem qhE:SlR X (rSlT X.K):=by
 intro pins s n H x v p u lo hi sl Q I i j pl l h
 obtain⟨a,xs,rfl,hx,m,q⟩:=h
 cases i
 obtain⟨d,r,f,hz⟩:=I.tuple hx
 have c:d.toArray.size=xs.length:=by rw[wH];exact r.length.symm
 refine⟨"tuple",_,vB.lookup,f.typeIs,?_⟩
 refine HT.yv f j pl l (by rw[c];exact m) ?_ (by rw[c];exact hz)
 rw[c]
 refine⟨.ref s.heap.objs.size,_,I.laid (t':=s.toks) (o:=.tup (cutV xs lo hi)) (λb ob q=>wB _ q) (wF _) ?_,rfl,q _ (I.hok.fresh (wF _))⟩
 exact⟨wf (y2 xs lo hi) hz,_,(r.drop (HT.sIx xs.length 0 lo)).take (HT.sIx xs.length xs.length hi-HT.sIx xs.length 0 lo),IsTup.new _ _,yg _ _⟩
noncomputable def rLtT(K:PySem.W.Frag):R2:=λx y H Q=>∃a b ns c,x=.ref a/\y=.ref b/\SqT K H a (ns.map V.int)/\SqT K H b (c.map V.int)/\Q (.bl (HT.lexLt ns c)) H
theorem qhF(i:X.A.units<cLine):OpR X (compareOp .Lt) (rLtT X.K):=by
 intro pins s r H x y v u Q I j l h
 obtain⟨a,b,ns,f,rfl,rfl,ha,m,q⟩:=h
 cases j
 cases l
 obtain⟨d,n,o,_⟩:=I.tuple ha
 obtain⟨c,p,p2,_⟩:=I.tuple m
 have i1:IntsAre d.toArray.toList ns:=qL n
 have i2:IntsAre c.toArray.toList f:=qL p
 exact HT.qbL o p2 i1 i2 i ⟨.bl (HT.lexLt ns f),H,I,rfl,q⟩
noncomputable def rCatT(K:PySem.W.Frag):R2:=λx y H Q=>∃a b xs ys,x=.ref a/\y=.ref b/\SqT K H a xs/\SqT K H b ys/\xs≠[]/\xs.length+ys.length<=sizeLine /\
 (ys=[]->Q (.ref a) H)/\(ys≠[]->∀p,H p=none->Q (.ref p) (upd H p (.tup (xs++ys))))
theorem Vals.nil_iff{xs:List V}{us:List Value}(r:Vals xs us):us=[] ↔ xs=[]:=by
 cases r with
 |nil=>simp
 |cons _ _=>simp
theorem qf3:OpR X (binaryOp .Add) (rCatT X.K):=by
 intro pins s p H x y v u Q I i j h
 obtain⟨a,b,xs,ys,rfl,rfl,ha,l,hx,hz,q1,q2⟩:=h
 cases i
 cases j
 obtain⟨m,d,n,_⟩:=I.tuple ha
 obtain⟨f,c,p2,_⟩:=I.tuple l
 refine HT.qf0 n p2 (λz=>hx (d.nil_iff.mp z)) (λz=>⟨.ref a,H,I,rfl,q1 (c.nil_iff.mp z)⟩) (λz=>?_) (by rw[<-d.length,<-c.length];exact hz)
 refine⟨.ref s.heap.objs.size,_,I.laid (t':=s.toks) (o:=.tup (xs++ys)) (λb ob q=>wB _ q) (wF _) ?_,rfl,q2 (λw=>z (c.nil_iff.mpr w)) _ (I.hok.fresh (wF _))⟩
 exact⟨by rw[vK];exact hz,_,d.append c,IsTup.new _ _,yg _ _⟩
end
end L2
namespace L2
open PySem PySem.Spec PyProof.Rows
noncomputable def ixN(n:Nat)(i:Int):Option Nat:=if 0<=i then(if i<n then some i.toNat else none)else if -(n:Int)<=i then some (i+n).toNat else none
noncomputable def atI{a:Type}(xs:List a)(i:Int):Option a:=(ixN xs.length i).bind λj=>xs[j]?
theorem qci{n:Nat}{i:Int}{j:Nat}(h:ixN n i=some j):seqIndex? i n=some j/\j<n/\-(n:Int)<=i/\i<n:=by
 unfold ixN at h
 by_cases b:0<=i
 .rw [wM b]at h
  by_cases a:i<n
  .rw [wM a]at h
   have e:i.toNat=j:=Option.some.inj h
   exact⟨by rw[seqIndex_of b a,e],by lia,by lia,a⟩
  .rw [wL a]at h;cases h
 .rw [wL b]at h
  by_cases a:-(n:Int)<=i
  .rw [wM a]at h
   have e:(i+n).toNat=j:=Option.some.inj h
   exact⟨by rw[seqIndex_neg (by lia) a,e],by lia,a,by lia⟩
  .rw [wL a]at h;cases h
theorem qcj{a:Type}{xs:List a}{i:Int}{v:a}(h:atI xs i=some v):∃j,seqIndex? i xs.length=some j/\xs[j]?=some v/\j<xs.length/\-(xs.length:Int)<=i/\i<xs.length:=by
 unfold atI at h
 cases e:ixN xs.length i with
 |none=>rw[e]at h;cases h
 |some j =>
  rw[e]at h
  obtain⟨b,c,d,f⟩:=qci e
  exact⟨j,b,h,c,d,f⟩
def PlainIx(b:Expr):Prop:=∀o i,subscripted b false o i=operate [o,i] (getItem o i)
noncomputable def IxR(X:Cx)(r:R2):Prop :=
 ∀(b a:Expr) (pins:List (Addr×Obj)) (s:Shared) (c:St) (H:Hp) (x y:V) (v u:Value) (Q:VK),Inv X pins c H s->RelV x v->RelV y u->r x y H Q ->
  subscripted a false v u=operate [v,u] (getItem v u)->wpAny (model X.prog X.w) X.A (subscriptTail b a v u) (EP X pins c Q) X.xe s
noncomputable def MtR(X:Cx)(id:String)(r:V->List V->Hp->VK->Prop):Prop :=
 ∀(pins:List (Addr×Obj)) (s:Shared) (a:St) (H:Hp) (x:V) (xs:List V) (v:Value) (us:List Value) (Q:VK),Inv X pins a H s->RelV x v->Vals xs us->r x xs H Q ->
  wpAny (model X.prog X.w) X.A (call (.builtin id) (v::us)) (EP X pins a Q) X.xe s
section
variable{X:Cx}{a b:Expr}{ta tb:TE}{pos:Pos}
theorem IxR.or{r e:R2}(h:IxR X r)(h':IxR X e):IxR X (λx y H Q=>r x y H Q\/e x y H Q):=by
 intro c d pins s f H x y v u Q I i j q l
 rcases q with q|q
 .exact h c d pins s f H x y v u Q I i j q l
 .exact h' c d pins s f H x y v u Q I i j q l
theorem qiV{r:R2}(c:IxR X r)(ha:PE X a ta)(d:PE X b tb)(e:PlainIx b):PE X (.Subscript a b pos) (tOp r ta tb):=by
 intro pins s f H Q I h
 exact Subscript_ (binT ha d I h λv u s2 x y H2 i j l q=>c a b pins s2 f H2 x y v u Q i j l q (e _ _))
noncomputable def rIxL(K:PySem.W.Frag):R2:=λx y H Q=>∃p xs i v,x=.ref p/\y=.int i/\SqL K H p xs/\atI xs i=some v/\Q v H
noncomputable def rIxT(K:PySem.W.Frag):R2:=λx y H Q=>∃p xs i v,x=.ref p/\y=.int i/\SqT K H p xs/\atI xs i=some v/\Q v H
theorem qf4:IxR X (rIxL X.K):=by
 intro d e pins s n H x y v u Q I C E h o
 obtain⟨p,xs,i,z,rfl,rfl,F,J,q⟩:=h
 cases C
 obtain⟨t,rfl⟩:=E
 obtain⟨f,r,pl,hz⟩:=I.list F
 obtain⟨j,c,L,P,M,N⟩:=qcj J
 obtain⟨w,A,l⟩:=r.get L
 have O:=r.length
 have hn:=line63
 have fin:EP X pins n Q w s:=⟨z,H,I,l,q⟩
 by_cases B:0<=i
 .have m:i.toNat=j:=by
   rw[seqIndex_of B N]at c
   exact Option.some.inj c
  exact item_listR pl.isList B (by lia) (by rw[m];simpa using A) fin o
 .have m:(i+(f.toArray.size:Int)).toNat=j:=by
   rw[seqIndex_neg (by lia) M]at c
   rw[wH,<-O]
   exact Option.some.inj c
  exact subscriptTail_builtinR (x:=w) pl.isList.typeIs slot_list_getitem.lookup
   (wpAny_getItem_list_neg (Q:=λr s'=>r=w/\EP X pins n Q r s') pl.isList (by lia) (by rw[wH] <;> lia) (by lia) (by rw[m];simpa using A) ⟨rfl,fin⟩) o
theorem qhG:IxR X (rIxT X.K):=by
 intro c d pins s f H x y v u Q I l m h n
 obtain⟨p,xs,i,z,rfl,rfl,o,A,q⟩:=h
 cases l
 obtain⟨t,rfl⟩:=m
 obtain⟨B,r,pl,hz⟩:=I.tuple o
 obtain⟨j,C,E,L,M,N⟩:=qcj A
 obtain⟨w,F,e⟩:=r.get E
 have J:=r.length
 have hn:=line63
 have fin:EP X pins f Q w s:=⟨z,H,I,e,q⟩
 exact subscriptTail_builtinR (x:=w) pl.typeIs slot_tuple_getitem.lookup
  (getItem_tuple (j:=j) (Q:=λr s'=>r=w/\EP X pins f Q r s') pl (by lia) (by lia) (by rw[wH,<-J];exact C) (by simpa using F) ⟨rfl,fin⟩) n
theorem qbO(c:List Value)(n j:Nat)(u:Value):Obj.mapSeq (·.setIfInBounds j u) {cls:=.type "list",data:=.seq c.toArray n}={cls:=.type "list",data:=.seq (c.set j u).toArray n}:=by
 simp[Obj.mapSeq]
theorem Inv.lst{pins:List (Addr×Obj)}{d:St}{H:Hp}{s:Shared}{p:Addr}{xs:List V}(I:Inv X pins d H s)(h:H p=some (.lst xs)):
  ∃(c:List Value) (n:Nat),Vals xs c/\s.heap.get? p=some {cls:=.type "list",data:=.seq c.toArray n}/\xs.length<=sizeLine:=by
 obtain⟨z,c,n,r,e⟩:=I.hok p _ h
 exact⟨c,n,r,e,z⟩
theorem Inv.lstUpd{pins:List (Addr×Obj)}{i:St}{H:Hp}{s:Shared}{p:Addr}{xs ys:List V}{c its':List Value}{n d:Nat}{f:Obj->Obj}(I:Inv X pins i H s)(h:H p=some (.lst xs))(l:s.heap.get? p=some {cls:=.type "list",data:=.seq c.toArray n})(j:f {cls:=.type "list",data:=.seq c.toArray n}={cls:=.type "list",data:=.seq its'.toArray d})(r:Vals ys its')(hz:ys.length<=sizeLine)(t:Nat):
  Inv X pins i (upd H p (.lst ys)) {s with heap:=s.heap.update p f,toks:=t}:=by
 have e:(s.heap.update p f).get? p=some {cls:=.type "list",data:=.seq its'.toArray d}:=by
  rw[wg f l (by rw[j] <;> rfl),j]
 refine I.write (x:=p) (e:=p) (by rw[h];trivial) (.inl rfl) (λb u m q=>(wQ _ _ (Ne.symm m)).trans q) ⟨_,e⟩ ?_
 exact⟨hz,its',d,r,e⟩
noncomputable def rSetL:V->V->V->Hp->(Hp->Prop)->Prop:=λo i v H Q=>∃p xs k j,o=.ref p/\i=.int k/\H p=some (.lst xs)/\ixN xs.length k=some j/\Q (upd H p (.lst (xs.set j v)))
theorem qdZ:PSet X rSetL:=by
 intro pins s A H o i v F J u Q I B ri C h
 obtain⟨p,xs,k,j,rfl,rfl,m,E,q⟩:=h
 cases B
 obtain⟨t,rfl⟩:=ri
 obtain⟨c,n,r,e,hz⟩:=I.lst m
 obtain⟨d,K,w,x⟩:=qci E
 have f:=r.length
 have hn:=line63
 have y:Inv X pins A (upd H p (.lst (xs.set j v))) {s with heap:=s.heap.update p (Obj.mapSeq (·.setIfInBounds j u))} :=
  I.lstUpd m e (qbO c n j u) (r.set C j) (by rw[List.length_set];exact hz) s.toks
 by_cases z:0<=k
 .have l:k.toNat=j:=by
   rw[seqIndex_of z x]at d
   exact Option.some.inj d
  exact PySem.W.ki_setAt e z (by lia) (by rw[wH,<-f];exact x) (by rw[l];exact⟨_,y,q⟩)
 .have l:(k+(c.toArray.size:Int)).toNat=j:=by
   rw[seqIndex_neg (by lia) w]at d
   rw[wH,<-f]
   exact Option.some.inj d
  exact PySem.W.ki_setBack e (by lia) (by rw[wH,<-f];exact w) (by lia) (by rw[l];exact⟨_,y,q⟩)
theorem qaf(lo hi:Option Int)(n:Nat):(sliceBounds lo hi none n).1=((HT.sIx n 0 lo:Nat):Int)/\(sliceBounds lo hi none n).2.1=((HT.sIx n n hi:Nat):Int)/\(sliceBounds lo hi none n).2.2=1:=by
 refine⟨?_,?_,rfl⟩
 .cases lo with
  |none=>simp[sliceBounds,HT.sIx]
  |some i =>
   simp only[sliceBounds,HT.sIx,Option.getD_none,show(1:Int)>0 by decide,ws]
   by_cases h:i<0
   .simp only[h,ws] <;> lia
   .simp only[h,vh] <;> lia
 .cases hi with
  |none=>simp[sliceBounds,HT.sIx]
  |some i =>
   simp only[sliceBounds,HT.sIx,Option.getD_none,show(1:Int)>0 by decide,ws]
   by_cases h:i<0
   .simp only[h,ws] <;> lia
   .simp only[h,vh] <;> lia
theorem jS(c:List Value)(lo hi:Option Int):slicePick c.toArray lo hi none=((c.drop (HT.sIx c.length 0 lo)).take (HT.sIx c.length c.length hi-HT.sIx c.length 0 lo)).toArray:=by
 obtain⟨d,e,f⟩:=qaf lo hi c.toArray.size
 unfold slicePick
 rw[d,e,f]
 simp only[sliceRange_one,pick_run,wH] <;> rfl
def rSlL(K:PySem.W.Frag):V->Option Int->Option Int->Hp->VK->Prop:=λx lo hi H Q=>∃a xs,x=.ref a/\SqL K H a xs/\∀p,H p=none->Q (.ref p) (upd H p (.lst (cutV xs lo hi)))
theorem qf5:SlR X (rSlL X.K):=by
 intro pins s l H x v m n lo hi sl Q I e f pl i h
 obtain⟨a,xs,rfl,hx,q⟩:=h
 cases e
 obtain⟨j,r,d,hz⟩:=I.list hx
 have c:=r.length
 refine⟨"list",_,slot_list_getitem.lookup,d.isList.typeIs,?_⟩
 refine wpAny_getItem_list_slice d.isList f pl i .none (by simp) ?_ (by rw[wH] <;> lia)
 rw[jS,<-c]
 refine⟨.ref s.heap.objs.size,_,I.laid (t':=s.toks) (o:=.lst (cutV xs lo hi)) (λb ob q=>wB _ q) (wF _) ?_,rfl,q _ (I.hok.fresh (wF _))⟩
 exact⟨wf (y2 xs lo hi) hz,_,0,(r.drop (HT.sIx xs.length 0 lo)).take (HT.sIx xs.length xs.length hi-HT.sIx xs.length 0 lo),wE _ rfl⟩
noncomputable def flatV:V->Bool
 | .non=>true
 | .bl _=>true
 | .int _=>true
 | .str _=>true
 |_=>false
noncomputable def eqV:V->V->Bool
 | .non,.non=>true
 | .bl a,.bl b=>a == b
 | .bl a,.int b=>(if a then 1 else 0) == b
 | .int a,.bl b=>a == (if b then 1 else 0)
 | .int a,.int b=>a == b
 | .str a,.str b=>a == b
 |_,_=>false
theorem qhH{A:Around}{s:Shared}{y x:V}{u v:Value}(d:RelV y u)(c:RelV x v)(f:flatV y=true)(e:flatV x=true):SeqAt.EqAt A s u v (eqV y x):=by
 cases y with
 |non =>
  cases d
  cases x with
  |non=>cases c;exact SeqAt.EqAt.same _
  |bl b=>cases c;exact SeqAt.EqAt.none_bool b
  |int b=>obtain⟨t,rfl⟩:=c;exact SeqAt.EqAt.none_int b t
  |str b=>obtain⟨t,rfl⟩:=c;exact SeqAt.EqAt.none_str b t
  |_=>exact absurd (show false=true from e) wR
 |bl a =>
  cases d
  cases x with
  |non=>cases c;exact SeqAt.EqAt.bool_none a
  |bl b=>cases c;exact SeqAt.EqAt.bool_bool a b
  |int b=>obtain⟨t,rfl⟩:=c;exact SeqAt.EqAt.bool_int a b t
  |str b=>obtain⟨t,rfl⟩:=c;exact SeqAt.EqAt.bool_str a b t
  |_=>exact absurd (show false=true from e) wR
 |int a =>
  obtain⟨t',rfl⟩:=d
  cases x with
  |non=>cases c;exact SeqAt.EqAt.int_none a t'
  |bl b=>cases c;exact SeqAt.EqAt.int_bool a t' b
  |int b=>obtain⟨t,rfl⟩:=c;exact SeqAt.EqAt.int_int a t' b t
  |str b=>obtain⟨t,rfl⟩:=c;exact SeqAt.EqAt.int_str a t' b t
  |_=>exact absurd (show false=true from e) wR
 |str a =>
  obtain⟨t',rfl⟩:=d
  cases x with
  |non=>cases c;exact SeqAt.EqAt.str_none a t'
  |bl b=>cases c;exact SeqAt.EqAt.str_bool a t' b
  |int b=>obtain⟨t,rfl⟩:=c;exact SeqAt.EqAt.str_int a t' b t
  |str b=>obtain⟨t,rfl⟩:=c;exact SeqAt.EqAt.str_str a t' b t
  |_=>exact absurd (show false=true from e) wR
 |_=>exact absurd (show false=true from f) wR
noncomputable def eqU(x:V)(u:Value):Bool:=match u with
 | .none=>eqV .non x
 | .bool b=>eqV (.bl b) x
 | .int i _=>eqV (.int i) x
 | .str z _=>eqV (.str z) x
 |_=>false
theorem qd0{x y:V}{u:Value}(r:RelV y u)(f:flatV y=true):eqU x u=eqV y x:=by
 cases y with
 |non=>cases r;rfl
 |bl b=>cases r;rfl
 |int i=>obtain⟨t,rfl⟩:=r;rfl
 |str z=>obtain⟨t,rfl⟩:=r;rfl
 |_=>exact absurd (show false=true from f) wR
theorem yw{x:V}:∀{xs:List V} {us:List Value},Vals xs us->xs.all flatV=true->us.any (eqU x)=xs.any λy=>eqV y x
 |_,_,.nil,_=>rfl
 |y::xs,u::us,.cons r t,f=>by
  rw[uf,wP]at f
  rw[vn,vn,qd0 r f.1,yw t f.2]
theorem zT{A:Around}{s:Shared}{x:V}{v:Value}(d:RelV x v)(e:flatV x=true):∀{xs:List V} {us:List Value},Vals xs us->xs.all flatV=true->∀u∈us,SeqAt.EqAt A s u v (eqU x u)
 |_,_,.nil,_=>λu c=>by cases c
 |y::xs,u::us,.cons r t,f=>λh c=>by
  rw[uf,wP]at f
  rcases wN.mp c with rfl|c
  .rw [qd0 r f.1];exact qhH r d f.1 e
  .exact zT d e t f.2 h c
noncomputable def inV(x:V)(xs:List V):Bool:=xs.any λy=>eqV y x
noncomputable def rIn(K:PySem.W.Frag)(c:Bool):R2:=λx y H Q=>∃p xs,y=.ref p/\(SqL K H p xs\/SqT K H p xs)/\flatV x=true/\xs.all flatV=true/\Q (.bl (if c then !inV x xs else inV x xs)) H
theorem qdd:OpR X (compareOp .In) (rIn X.K false):=by
 intro pins s l H x y v u Q I f j h
 obtain⟨p,xs,rfl,d,i,fs,q⟩:=h
 cases j
 rcases d with d|d
 .obtain ⟨c,r,pl,hz⟩:=I.list d
  refine SeqAt.in_listAt (eqU x) pl.isList (λw e=>zT f i r fs w (by simpa using e)) ⟨.bl _,H,I,rfl,?_⟩
  rw[show c.toArray.any (eqU x)=c.any (eqU x) by simp,yw r fs]
  exact q
 .obtain ⟨c,r,pl,hz⟩:=I.tuple d
  refine SeqAt.in_tupleAt (eqU x) pl (λw e=>zT f i r fs w (by simpa using e)) ⟨.bl _,H,I,rfl,?_⟩
  rw[show c.toArray.any (eqU x)=c.any (eqU x) by simp,yw r fs]
  exact q
theorem qag:OpR X (compareOp .NotIn) (rIn X.K true):=by
 intro pins s l H x y v u Q I f j h
 obtain⟨p,xs,rfl,d,i,fs,q⟩:=h
 cases j
 rcases d with d|d
 .obtain ⟨c,r,pl,hz⟩:=I.list d
  refine SeqAt.notIn_listAt (eqU x) pl.isList (λw e=>zT f i r fs w (by simpa using e)) ⟨.bl _,H,I,rfl,?_⟩
  rw[show c.toArray.any (eqU x)=c.any (eqU x) by simp,yw r fs]
  exact q
 .obtain ⟨c,r,pl,hz⟩:=I.tuple d
  refine SeqAt.notIn_tupleAt (eqU x) pl (λw e=>zT f i r fs w (by simpa using e)) ⟨.bl _,H,I,rfl,?_⟩
  rw[show c.toArray.any (eqU x)=c.any (eqU x) by simp,yw r fs]
  exact q
theorem CallR.or{f:Value}{r c:List V->Hp->VK->Prop}(h:CallR X f r)(h':CallR X f c):CallR X f (λxs H Q=>r xs H Q\/c xs H Q):=by
 intro pins s d H xs us Q I e q
 rcases q with q|q
 .exact h pins s d H xs us Q I e q
 .exact h' pins s d H xs us Q I e q
theorem jT:CallR X (.type "tuple") (λxs H Q=>∃p ys,xs=[.ref p]/\((SqL X.K H p ys/\∀l,H l=none->Q (.ref l) (upd H l (.tup ys)))\/(SqT X.K H p ys/\Q (.ref p) H))):=by
 intro pins s i H xs us Q I r h
 obtain⟨p,ys,rfl,h⟩:=h
 obtain⟨u,rfl,n⟩:=vals1 r
 cases n
 rcases h with ⟨d,q⟩|⟨d,q⟩
 .obtain ⟨c,f,pl,hz⟩:=I.list d
  have j:=f.length
  refine call_tuple_list pl.isList (λh' kp=>?_) (by simp only[wH] <;> lia)
  have m:Inv X pins i H {s with heap:=h' }:=I.kept (t':=s.toks) kp
  have v:Inv X pins i (upd H h'.objs.size (.tup ys)) {s with heap:=h'.push {cls:=.type "tuple",data:=.seq c.toArray}} :=
   m.laid (t':=s.toks) (λb o e=>wB _ e) (wF _) (show ObjOk X.prog X.w _ _ _ (.tup ys)from⟨hz,c,f,IsTup.new _ _,yg _ _⟩)
  exact⟨.ref h'.objs.size,_,v,rfl,q _ (m.hok.fresh (wF _))⟩
 .obtain ⟨c,f,pl,hz⟩:=I.tuple d
  exact call_tuple_same pl ⟨.ref p,H,I,rfl,q⟩
def tyV(K:PySem.W.Frag)(T:String)(x:V)(H:Hp):Prop:=match x with
 | .str _=>T="str"
 | .int _=>T="int"
 | .ref p=>(T="list"/\∃xs,SqL K H p xs)\/(T="tuple"/\∃o,K.lookup p=some o/\o.cls=.type "tuple"/\o.dict=none) \/
   (T="dict"/\((∃kvs,H p=some (.dK kvs))\/∃kvs,H p=some (.dT kvs)))\/(T="set"/\∃S n,H p=some (.set S n))
 |_=>False
theorem qhI{pins:List (Addr×Obj)}{h:St}{H:Hp}{s:Shared}{T:String}{x:V}{v:Value}(I:Inv X pins h H s)(r:RelV x v)(ty:tyV X.K T x H):
  s.TypeIs v T/\∀a,v=.ref a->∃ob,s.heap.get? a=some ob/\ob.dict=none:=by
 cases x with
 |str z =>
  obtain⟨t,rfl⟩:=r
  cases (show T="str" from ty)
  exact⟨typeIs_str s z t,λ_ e=>nomatch e⟩
 |int i =>
  obtain⟨t,rfl⟩:=r
  cases (show T="int" from ty)
  exact⟨ug s i t,λ_ e=>nomatch e⟩
 |ref p =>
  cases r
  rcases ty with ⟨rfl,xs,j⟩|⟨rfl,o,d,hc,hd⟩|⟨rfl,d⟩|⟨rfl,S,n,d⟩
  .obtain ⟨l,_,pl,_⟩:=I.list j
   refine⟨pl.isList.typeIs,λa e=>?_⟩
   cases e
   obtain⟨o,n,e,c,hd,_⟩:=pl
   exact⟨o,e,hd⟩
  .refine ⟨⟨o,I.kIn p o d,hc⟩,λa e=>?_⟩
   cases e
   exact⟨o,I.kIn _ o d,hd⟩
  .have z:∃o,s.heap.get? p=some o/\o.ExactDict:=by
    rcases d with ⟨kvs,d⟩|⟨kvs,d⟩
    .obtain ⟨_,_,_,_,o,_,_,e,ex,_⟩:=I.hok p _ d
     exact⟨o,e,ex⟩
    .obtain ⟨_,_,_,_,o,_,_,e,ex,_⟩:=I.hok p _ d
     exact⟨o,e,ex⟩
   obtain⟨o,e,ex⟩:=z
   refine⟨⟨o,e,ex.1⟩,λa f=>?_⟩
   cases f
   exact⟨o,e,ex.2.1⟩
  .obtain ⟨o,_,_,_,e,ex,_⟩:=I.hok p _ d
   refine⟨⟨o,e,ex.1⟩,λa f=>?_⟩
   cases f
   exact⟨o,e,ex.2.1⟩
 |_=>exact False.elim ty
noncomputable def tBM(K:PySem.W.Frag)(T:String)(r:V->List V->Hp->VK->Prop)(e:TE)(t:TA):TE:=λc H Q=>e c H λx d=>tyV K T x d/\t c d λxs H2=>r x xs H2 Q
variable{o e:Expr}{es:List Expr}{to:TE}{t:TA}{name:Str}{apos cpos:Pos}{T id:String}{r:V->List V->Hp->VK->Prop}
theorem qiW(q:PlainAttrs T)(slot:Slot T name id)(j:typeOf (.builtin id)=pure (.type "method_descriptor"))(hm:MtR X id r)(u:PE X o to)(ha:PA X (e::es) t)(d:attributeBase o name X.env (eval o X.env)=eval o X.env:=by rfl)(i:((backTo cpos (starEach (e::es) X.env)).all (λx=>!x.1)&&(backToKw cpos (keywordEach [] X.env)).all (λx=>x.1.isSome)
   && decide ((e::es).length+([]:List Keyword).length+(if([]:List Keyword).isEmpty then 0 else 1)<30))=true:=by rfl)(f:(apos.endLine == cpos.line)=true:=by rfl)(w:starEach (e::es) X.env=(false,eval e X.env)::starEach es X.env:=by rfl)(c:(backTo cpos (starEach es X.env)).any (·.1)=false:=by rfl):
  PE X (.Call (.Attribute o name apos) (e::es) [] cpos) (tBM X.K T r to t):=by
 intro pins s l H Q I h
 refine wpAny_Call_method_late d i f rfl (thn (u pins s l H _ I h) λv s1 ⟨x,y,m,n,ty,q1⟩=>?_)
 obtain⟨z,A⟩:=qhI m n ty
 refine⟨T,id,q,slot,j,z,A,?_⟩
 have p:=ha cpos pins s1 l y _ m q1
 rw[w]at p ⊢
 refine Calls.callWith_builtin (by show(false || (backTo cpos (starEach es X.env)).any (·.1))=false;rw[c] <;> rfl) (Calls.evalArgs_plain ?_)
 exact thn p λus s2 ⟨vs,H2,B,C,q2⟩=>hm pins s2 l H2 x vs v us Q B n C q2
/- xs.append(e),list.index on a module's tuple .. are MtR facts of 06m -/
end
end L2
namespace L2
open PySem PySem.Spec PyProof.Rows
noncomputable def MtM(X:Cx)(id:String)(r:V->List V->Hp->VK->Prop):Prop :=
 ∀(pins:List (Addr×Obj)) (s:Shared) (a:St) (H:Hp) (x:V) (xs:List V) (v:Value) (us:List Value) (Q:VK),Inv X pins a H s->RelV x v->Vals xs us->r x xs H Q ->
  wpAny (model X.prog X.w) X.A (call (.builtin id) (v::us)) (EP X pins a Q) X.xe s
theorem Vals.one:∀{x:V} {us:List Value},Vals [x] us->∃u,us=[u]/\RelV x u
 |_,_,.cons r .nil=>⟨_,rfl,r⟩
theorem Vals.eraseIdx:∀{xs:List V} {us:List Value} (i:Nat),Vals xs us->Vals (xs.eraseIdx i) (us.eraseIdx i)
 |_,_,_,.nil=>.nil
 |_,_,0,.cons _ t=>t
 |_,_,i+1,.cons r t=>.cons r (Vals.eraseIdx i t)
theorem Vals.rep{xs:List V}{us:List Value}(h:Vals xs us):∀k:Nat,Vals (List.replicate k xs).flatten (List.replicate k us).flatten
 |0=>.nil
 |k+1=>by
  rw[wd,wd,uC,uC]
  exact Vals.append h (Vals.rep h k)
theorem j3{a:Type}:∀(l:List a) (i:Nat),(l.eraseIdx i).length<=l.length
 |[],_=>wF _
 |_::_,0=>vU _
 |_::r,i+1=>Nat.succ_le_succ (j3 r i)
theorem yR(a:List Value):∀(k:Nat) (b:List Value),
  List.foldl (λc d=>c++d) b.toArray (List.replicate k a.toArray)=(b++(List.replicate k a).flatten).toArray
 |0,b=>by simp
 |k+1,b=>by
  have e:b.toArray++a.toArray=(b++a).toArray:=by simp
  have f:(b++a)++(List.replicate k a).flatten=b++(List.replicate (k+1) a).flatten:=by
   rw[wd,uC,uE]
  rw[<-f,<-yR a k (b++a),<-e,wd,List.foldl_cons]
section
variable{X:Cx}{pins:List (Addr×Obj)}{σ:St}{H:Hp}{s:Shared}{l b:Addr}{xs ys zs:List V}
theorem Inv.lset{a its':List Value}{n:Nat}{f:Array Value->Array Value}{t':Nat}(I:Inv X pins σ H s)(c:H l=some (.lst xs))(e:s.heap.get? l=some {cls:=.type "list",data:=.seq a.toArray n})(d:f a.toArray=its'.toArray)(h:Vals ys its')(hz:ys.length<=sizeLine):
  Inv X pins σ (upd H l (.lst ys)) {s with heap:=s.heap.update l (Obj.mapSeq f),toks:=t' }:=by
 have q:=PySem.IsL.update e f
 rw[d]at q
 refine I.write (x:=l) (e:=l) (by rw[c];exact trivial) (.inl rfl) (λm u i j=>(wQ s.heap (Obj.mapSeq f) (Ne.symm i)).trans j) ⟨_,q⟩ ?_
 exact⟨hz,its',_,h,q⟩
theorem Inv.lnew{a:List Value}{t':Nat}(I:Inv X pins σ H s)(c:Vals ys a)(hz:ys.length<=sizeLine):
  Inv X pins σ (upd H s.heap.objs.size (.lst ys)) {s with heap:=s.heap.push {cls:=.type "list",data:=.seq a.toArray},toks:=t' } :=
 I.laid (λ_ _ q=>wB _ q) (wF _) ⟨hz,a,0,c,wE _ rfl⟩
theorem Inv.fresh(I:Inv X pins σ H s):H s.heap.objs.size=none:=I.hok.fresh (wF _)
theorem Inv.lstM(I:Inv X pins σ H s)(c:H l=some (.lst xs)):xs.length<=sizeLine/\∃(a:List Value) (n:Nat),Vals xs a/\xs.length=a.length/\s.heap.get? l=some {cls:=.type "list",data:=.seq a.toArray n}:=by
 obtain⟨z,a,n,r,e⟩:=I.hok l _ c
 exact⟨z,a,n,r,r.length,e⟩
theorem notLongL{n:Nat}(h:n<=sizeLine):Builtin.List.listTooLong n=false:=by
 unfold Builtin.List.listTooLong
 exact wo (by lia)
end
section
variable{X:Cx}
def rAppend:V->List V->Hp->VK->Prop:=λx vs H Q=>∃l xs y,x=.ref l/\vs=[y]/\H l=some (.lst xs)/\xs.length<sizeLine/\Q .non (upd H l (.lst (xs++[y])))
theorem qde:MtM X "list.append" rAppend:=by
 intro pins s i H x vs v us Q I c d h
 obtain⟨l,xs,y,rfl,rfl,b,hz,q⟩:=h
 cases c
 obtain⟨u,rfl,f⟩:=d.one
 obtain⟨z,a,n,r,j,e⟩:=I.lstM b
 refine call_meets F.slot_list_append ⟨_,e,rfl⟩ F.entry_list_append (F.args_list_append_2 _ _) (PySem.list_append l a.toArray n u (by rw[wH];lia)) ⟨e,?_⟩
 refine⟨.non,_,I.lset (its':=a++[u]) b e (by simp) (r.append (.cons f .nil)) ?_,rfl,q⟩
 rw[vK,List.length_singleton]
 lia
def rPopAt:V->List V->Hp->VK->Prop:=λx vs H Q=>∃l xs i k y,x=.ref l/\vs=[.int i]/\H l=some (.lst xs)/\-(2^63)<=i/\i<2^63/\seqIndex? i xs.length=some k/\xs[k]?=some y/\Q y (upd H l (.lst (xs.eraseIdx k)))
theorem qd1:MtM X "list.pop" rPopAt:=by
 intro pins s E H x vs v us Q I d f h
 obtain⟨l,xs,i,k,y,rfl,rfl,c,j,m,o,p,q⟩:=h
 cases d
 obtain⟨u,rfl,A⟩:=f.one
 obtain⟨t,rfl⟩:=A
 obtain⟨z,a,n,r,B,e⟩:=I.lstM c
 obtain⟨w,C,b⟩:=r.get p
 refine call_meets F.slot_list_pop ⟨_,e,rfl⟩ F.entry_list_pop (F.args_list_pop_2 _ _)
  (MeetsSeq.list_pop_at l a.toArray n i t k w (fitsIndex_both j m) (by rw[wH,<-B];exact o) (by rw[<-wv];exact C) (by rw[wH];lia)) ⟨e,?_⟩
 refine⟨y,_,I.lset (its':=a.eraseIdx k) c e ?_ (r.eraseIdx k) ?_,b,q⟩
 .show a.toArray.eraseIdxIfInBounds k=(a.eraseIdx k).toArray
  rw[List.eraseIdxIfInBounds_toArray]
 .have:=j3 xs k
  lia
theorem qah{a:Type}(xs:List a)(k:Nat):(List.replicate k xs).flatten.length=k*xs.length:=by
 induction k with
 |zero=>simp
 |succ k b=>rw[wd,uC,vK,b,Nat.succ_mul,Nat.add_comm]
end
section
variable{prog:Program}{w:World}{A:Around}{E:Value->Shared->Prop}{s:Shared}
set_option maxRecDepth 100000 in
end
end L2
namespace L2
open PySem PySem.Spec PyProof.Rows
section
variable{κ:Type}[DecidableEq κ]
noncomputable def valV(kvs:List (κ×V))(k:κ):Option V:=(kvs.find? λa=>decide (a.1=k)).map (·.2)
noncomputable def putK(kvs:List (κ×V))(k:κ)(v:V):List (κ×V) :=
 if(kvs.any λa=>decide (a.1=k))=true then kvs.map (λa=>if a.1=k then(a.1,v)else a)else kvs++[(k,v)]
theorem yx{p:κ×V}{r:List (κ×V)}{k:κ}(e:p.1=k):valV (p::r) k=some p.2:=by simp[valV,uU,e]
theorem yy{p:κ×V}{r:List (κ×V)}{k:κ}(e:¬p.1=k):valV (p::r) k=valV r k:=by simp[valV,uU,e]
theorem qaV(k:κ):∀kvs:List (κ×V),(kvs.any λa=>decide (a.1=k))=(valV kvs k).isSome
 |[]=>rfl
 |p::r=>by
  rw[vn]
  by_cases e:p.1=k
  .simp only[yx e,vj e,Bool.true_or,Option.isSome_some]
  .rw [yy e,wo e,Bool.false_or];exact qaV k r
theorem y4(kvs:List (κ×V))(k:κ)(v:V):(putK kvs k v).length<=kvs.length+1:=by
 unfold putK
 split
 .rw [wT];lia
 .rw [vK,wc,vb];lia
theorem RelO.isSome_eq{o:Option V}{u:Option Value}(r:RelO o u):o.isSome=u.isSome:=by
 cases o with
 |none=>cases u with
  |none=>rfl
  |some _=>exact(show False from r).elim
 |some _=>cases u with
  |none=>exact(show False from r).elim
  |some _=>rfl
theorem KV.val{kvs:List (κ×V)}{vs:List (κ×Value)}(r:KV kvs vs)(k:κ):RelO (valV kvs k) (valueAt vs k):=by
 unfold KV at r
 induction r with
 |nil=>exact True.intro
 | @cons p q ps a h t f =>
  obtain⟨d,i⟩:=h
  by_cases e:p.1=k
  .have c:q.1=k:=d.symm.trans e
   have b:valueAt (q::a) k=some q.2:=by simp[valueAt,uU,c]
   rw[yx e,b];exact i
  .have c:¬q.1=k:=λz=>e (d.trans z)
   have b:valueAt (q::a) k=valueAt a k:=by simp[valueAt,uU,c]
   rw[yy e,b];exact f
theorem KV.any{kvs:List (κ×V)}{vs:List (κ×Value)}(r:KV kvs vs)(k:κ):(kvs.any λa=>decide (a.1=k))=vs.any λa=>decide (a.1=k):=by
 unfold KV at r
 induction r with
 |nil=>rfl
 |cons h t b=>rw[vn,vn,b,h.1]
theorem KV.repl{kvs:List (κ×V)}{vs:List (κ×Value)}(r:KV kvs vs)(k:κ){y:V}{u:Value}(c:RelV y u):
  KV (kvs.map λa=>if a.1=k then(a.1,y)else a) (vs.map λa=>if a.1=k then(a.1,u)else a):=by
 unfold KV at r ⊢
 induction r with
 |nil=>exact .nil
 | @cons p q ps i h t d =>
  rw[w4,w4]
  refine .cons ?_ d
  obtain⟨b,f⟩:=h
  by_cases e:p.1=k
  .rw [wM e,wM (b.symm.trans e)];exact⟨b,c⟩
  .rw [wL e,wL (λz=>e (b.trans z))];exact⟨b,f⟩
theorem KV.put{kvs:List (κ×V)}{vs:List (κ×Value)}(r:KV kvs vs)(k:κ){y:V}{u:Value}(a:RelV y u):KV (putK kvs k y) (stored vs k u):=by
 unfold putK stored
 rw[r.any k]
 by_cases e:(vs.any λb=>decide (b.1=k))=true
 .rw [wM e,wM e];exact r.repl k a
 .rw [wL e,wL e];exact Paired.snoc r ⟨rfl,a⟩
theorem KV.length{kvs:List (κ×V)}{vs:List (κ×Value)}(r:KV kvs vs):kvs.length=vs.length:=Paired.length r
end
theorem qd2{P:Program}{w:World}{k:Key}{u:Value}(r:RelV (kV k) u):(mixKind P w).is k u=true:=by
 cases k with
 |inl i=>obtain⟨t,e⟩:=(show ∃t,u=Value.int i t from r);subst e;exact qaP P w i t
 |inr x=>obtain⟨t,e⟩:=(show ∃t,u=Value.str x t from r);subst e;exact qaQ P w x t
theorem j4{P:Program}{w:World}:∀{ks:List Key} {us:List Value},Vals (ks.map kV) us->ItemsAre (mixKind P w) ks us
 |[],_,r=>by rw[u0]at r;cases r;exact .nil
 |k::ks,_,r=>by
  rw[w4]at r
  cases r with
  |cons h t=>exact .cons (qd2 h) (j4 t)
noncomputable abbrev KT(H:Hp):List (List Key×V)->List (List Key×Addr×Value)->Prop:=Paired λp q=>p.1=q.1/\H q.2.1=some (.tup (p.1.map kV))/\RelV p.2 q.2.2
theorem KT.val{H:Hp}{kvs:List (List Key×V)}{xs:List (List Key×Addr×Value)}(r:KT H kvs xs)(k:List Key):RelO (valV kvs k) ((atKey xs k).map (·.2)):=by
 induction r with
 |nil=>exact True.intro
 | @cons p q ps a h t f =>
  obtain⟨d,_,i⟩:=h
  by_cases e:p.1=k
  .have c:q.1=k:=d.symm.trans e
   have b:atKey (q::a) k=some q.2:=by simp[atKey,uU,c]
   rw[yx e,b];exact i
  .have c:¬q.1=k:=λz=>e (d.trans z)
   have b:atKey (q::a) k=atKey a k:=by simp[atKey,uU,c]
   rw[yy e,b];exact f
theorem KT.repl{H:Hp}{kvs:List (List Key×V)}{xs:List (List Key×Addr×Value)}(r:KT H kvs xs)(k:List Key){y:V}{u:Value}(d:RelV y u):
  KT H (kvs.map λb=>if b.1=k then(b.1,y)else b) (xs.map (putAt k u)):=by
 induction r with
 |nil=>exact .nil
 | @cons p q ps j h t f =>
  rw[w4,w4]
  refine .cons ?_ f
  obtain⟨a,c,i⟩:=h
  unfold putAt
  by_cases e:p.1=k
  .rw [wM e,wM (a.symm.trans e)];exact⟨a,c,d⟩
  .rw [wL e,wL (λz=>e (a.trans z))];exact⟨a,c,i⟩
theorem KT.put{H:Hp}{kvs:List (List Key×V)}{xs:List (List Key×Addr×Value)}(r:KT H kvs xs)(k:List Key){b:Addr}{y:V}{u:Value}(c:H b=some (.tup (k.map kV)))(a:RelV y u):
  KT H (putK kvs k y) (storedH xs k b u):=by
 have e:(kvs.any λd=>decide (d.1=k))=(atKey xs k).isSome:=by
  rw[qaV,(r.val k).isSome_eq,Option.isSome_map]
 unfold putK storedH
 rw[e]
 by_cases q:(atKey xs k).isSome=true
 .rw [wM q,wM q];exact r.repl k a
 .rw [wL q,wL q];exact Paired.snoc r ⟨rfl,c,a⟩
theorem KT.keeps{H H':Hp}{kvs:List (List Key×V)}{xs:List (List Key×Addr×Value)}(r:KT H kvs xs)(a:∀b ys,H b=some (.tup ys)->H' b=some (.tup ys)):KT H' kvs xs :=
 Paired.mapP r λ_ _ z=>⟨z.1,a _ _ z.2.1,z.2.2⟩
section
variable{P:Program}{w:World}{H:Hp}{h:Heap}{a:Addr}
theorem qg0{u:HO}(ok:HOk P w H h)(e:Rd H a u):ObjOk P w H h a u:=e.ok ok
theorem qck{kvs:List (Key×V)}(ok:HOk P w H h)(e:Rd H a (.dK kvs)):kvs.length<=sizeLine/\(a == sysModules)=false/\∃vs,KV kvs vs/\h.DictOf (mixKind P w) a vs :=
 show ObjOk P w H h a (.dK kvs)from qg0 ok e
theorem qiX{kvs:List (Key×V)}(ok:HOk P w H h)(e:H a=some (.dK kvs)):kvs.length<=sizeLine/\(a == sysModules)=false/\∃vs,KV kvs vs/\h.DictOf (mixKind P w) a vs:=qck ok (.inl e)
theorem qbP{ks:List Key}(ok:HOk P w H h)(e:H a=some (.tup (ks.map kV))):(tupleKind (mixKind P w)).is h ks a:=by
 obtain⟨_,b,r,⟨o,c,d,n,f⟩,_⟩:=(show ObjOk P w H h a (.tup (ks.map kV))from ok a _ e)
 exact⟨o,b.toArray,n,c,d,f,by simpa using j4 r⟩
theorem qcl{kvs:List (List Key×V)}(ok:HOk P w H h)(e:Rd H a (.dT kvs)):kvs.length<=sizeLine/\(a == sysModules)=false /\
  ∃xs,KT H kvs xs/\h.DictOfH (tupleKind (mixKind P w)) a xs:=by
 obtain⟨z,y,xs,r,o,es,ep,c,d,f,i,j⟩:=(show ObjOk P w H h a (.dT kvs)from qg0 ok e)
 refine⟨z,y,xs,r,o,es,ep,c,d,f,i,λx hx=>?_,j⟩
 have all:∀{l:List (List Key×V)} {m:List (List Key×Addr×Value)},KT H l m->∀x∈m,(tupleKind (mixKind P w)).is h x.1 x.2.1:=by
  intro l m q
  induction q with
  |nil=>intro x hx;exact nomatch hx
  | @cons p q ps s b t n =>
   intro x hx
   rcases wN.mp hx with e|hx
   .subst e
    exact qbP ok (by rw[<-b.1];exact b.2.1)
   .exact n x hx
 exact all r x hx
theorem qiY{kvs:List (List Key×V)}(ok:HOk P w H h)(e:H a=some (.dT kvs)):kvs.length<=sizeLine/\(a == sysModules)=false /\
  ∃xs,KT H kvs xs/\h.DictOfH (tupleKind (mixKind P w)) a xs:=qcl ok (.inl e)
end
noncomputable def DGet(H:Hp)(a:Addr)(y:V)(r:Option V):Prop :=
 (∃kvs k,Rd H a (.dK kvs)/\y=kV k/\r=valV kvs k)\/∃kvs k b,Rd H a (.dT kvs)/\y=.ref b/\H b=some (.tup (k.map kV))/\r=valV kvs k
noncomputable def DPut(H:Hp)(a:Addr)(y v:V)(H':Hp):Prop :=
 (∃kvs k,H a=some (.dK kvs)/\y=kV k/\kvs.length<sizeLine/\H'=upd H a (.dK (putK kvs k v))) \/
 ∃kvs k b,H a=some (.dT kvs)/\y=.ref b/\H b=some (.tup (k.map kV))/\kvs.length<sizeLine/\H'=upd H a (.dT (putK kvs k v))
theorem DGet.t{H:Hp}{a b:Addr}{kvs:List (List Key×V)}{k:List Key}(e:H a=some (.dT kvs))(c:H b=some (.tup (k.map kV))):DGet H a (.ref b) (valV kvs k):=.inr ⟨kvs,k,b,.inl e,rfl,c,rfl⟩
theorem DPut.k{H:Hp}{a:Addr}{kvs:List (Key×V)}{k:Key}{v:V}(e:H a=some (.dK kvs))(b:kvs.length<sizeLine):DPut H a (kV k) v (upd H a (.dK (putK kvs k v))):=.inl ⟨kvs,k,e,rfl,b,rfl⟩
theorem DPut.t{H:Hp}{a b:Addr}{kvs:List (List Key×V)}{k:List Key}{v:V}(e:H a=some (.dT kvs))(c:H b=some (.tup (k.map kV)))(d:kvs.length<sizeLine):
  DPut H a (.ref b) v (upd H a (.dT (putK kvs k v))):=.inr ⟨kvs,k,b,e,rfl,c,d,rfl⟩
section
variable{X:Cx}{pins:List (Addr×Obj)}{σ:St}{H:Hp}{s:Shared}{a:Addr}{y v:V}{u r:Value}{o:Option V}{A:Around}{E:Value->Shared->Prop}
theorem Inv.big(I:Inv X pins σ H s):sysModules<s.heap.objs.size:=by
 have h:mainGlobals<s.heap.objs.size:=(I.mod.glob.keeps I.bk).lt
 exact Nat.lt_trans (by decide) h
theorem qdf{Q:Value->Shared->Prop}(x:A.units+1<cLine)(I:Inv X pins σ H s)(g:DGet H a y (some v))(q:RelV y u)(h:∀f s',Inv X pins σ H s'->RelV v f->Q f s'):
  wpAny (model X.prog X.w) A (getItem (.ref a) u) Q E s:=by
 rcases g with ⟨kvs,k,e,i,l⟩|⟨kvs,k,b,e,i,eb,l⟩
 .subst i
  obtain⟨z,hd,vs,c,j⟩:=qck I.hok e
  obtain⟨f,m,d⟩:=RelO.some_of (v:=v) (o:=valueAt vs k) (by rw[l];exact c.val k)
  exact wpAny_getItem_of (qd2 q) j.mapOf m (h f _ (I.tok _) d)
 .subst i
  cases (show u=Value.ref b from q)
  obtain⟨z,hd,xs,c,j⟩:=qcl I.hok e
  obtain⟨f,m,d⟩:=RelO.some_of (v:=v) (o:=(atKey xs k).map (·.2)) (by rw[l];exact c.val k)
  obtain⟨p,B,n⟩:=xQ.mp m
  refine wpAny_getItem_heap (tupleKind_room_in1 x) (qbP I.hok eb) j B ?_
  rw[n]
  exact h f _ (I.tok _) d
theorem qcm{h':Heap}{t':Nat}{ob:HO}(I:Inv X pins σ H s)(c:Mut (H a))(d:Heap.SameBut a s.heap h')(f:∃q,h'.get? a=some q)(new:ObjOk X.prog X.w (upd H a ob) h' a ob):
  Inv X pins σ (upd H a ob) {s with heap:=h',toks:=t' } :=
 I.write (x:=a) (e:=a) c (.inl rfl) (λb q h z=>(d.2 b h).trans z) f new
theorem qhJ{P:Program}{w:World}{H':Hp}{h':Heap}{kvs:List (Key×V)}{vs:List (Key×Value)}(z:kvs.length<=sizeLine)(hd:(a == sysModules)=false)(b:KV kvs vs)(c:h'.DictOf (mixKind P w) a vs):
  ObjOk P w H' h' a (.dK kvs):=⟨z,hd,vs,b,c⟩
theorem qdg{H':Hp}{Q:Unit->Shared->Prop}(J:A.units+1<cLine)(I:Inv X pins σ H s)(g:DPut H a y v H')(B:RelV y u)(C:RelV v r)(h:∀s',Inv X pins σ H' s'->Q () s'):
  wpAny (model X.prog X.w) A (setItem (.ref a) u r) Q E s:=by
 rcases g with ⟨kvs,k,e,j,l,m⟩|⟨kvs,k,b,e,j,eb,l,m⟩
 .subst j m
  obtain⟨z,hd,vs,d,n⟩:=qiX I.hok e
  have hz:vs.length<=sizeLine:=by rw[<-d.length];exact z
  have p:(putK kvs k v).length<=sizeLine:=by have:=y4 kvs k v;lia
  refine wpAny_setItem_pairs (hsz:=hz) (qd2 B) n λh' f x=>h _ ?_
  have K:∃q,h'.get? a=some q:=let ⟨q,_,_,i,_⟩:=f;⟨q,i⟩
  exact qcm I (by rw[e];exact True.intro) x K (qhJ p hd (d.put k C) f)
 .subst j m
  cases (show u=Value.ref b from B)
  obtain⟨z,hd,xs,d,n⟩:=qiY I.hok e
  have hz:xs.length<=sizeLine:=by rw[<-Paired.length d];exact z
  have p:(putK kvs k v).length<=sizeLine:=by have:=y4 kvs k v;lia
  refine wpAny_setItem_heap (hsz:=hz) (tupleKind_room_in1 J) (qbP I.hok eb) n λh' f x=>h _ ?_
  obtain⟨q,es,ep,i,L,M,N,_,O⟩:=f
  refine qcm I (by rw[e];exact True.intro) x ⟨q,i⟩ ⟨p,hd,_,(d.put k eb C).keeps λc ys F=>?_,q,es,ep,i,L,M,N,O⟩
  rw[qk (qiL F e (λz=>nomatch z))]
  exact F
end
theorem qaW{X:Cx}{pins:List (Addr×Obj)}{d:St}{H:Hp}{s:Shared}{a:Addr}{y:V}{o:Option V}(I:Inv X pins d H s)(g:DGet H a y o):s.TypeIs (.ref a) "dict":=by
 rcases g with ⟨kvs,k,e,_,_⟩|⟨kvs,k,b,e,_,_,_⟩
 .obtain ⟨_,_,vs,_,c⟩:=qck I.hok e
  exact c.typeIs
 .obtain ⟨_,_,xs,_,c⟩:=qcl I.hok e
  exact c.typeIs
theorem qd3{P:Program}{w:World}{H:Hp}(h:Heap)(a:sysModules<h.objs.size):ObjOk P w H (h.push {cls:=.type "dict",data:=.dict #[]}) h.objs.size (.dK []) :=
 ⟨vF _,wt.mpr (Ne.symm (wS a)),[],.nil,Heap.DictOf.new h⟩
theorem qd4{P:Program}{w:World}{H:Hp}(h:Heap)(a:sysModules<h.objs.size):ObjOk P w H (h.push {cls:=.type "dict",data:=.dict #[]}) h.objs.size (.dT []) :=
 ⟨vF _,wt.mpr (Ne.symm (wS a)),[],.nil,_,#[],0,wE _ rfl,⟨rfl,rfl,rfl⟩,rfl,rfl,List.nodup_nil⟩
noncomputable def tDNewK:TE:=λ_ H Q=>∀p,H p=none->Q (.ref p) (upd H p (.dK []))
noncomputable def tDNewT:TE:=λ_ H Q=>∀p,H p=none->Q (.ref p) (upd H p (.dT []))
section
variable{X:Cx}{pos:Pos}
theorem qd5:PE X (.Dict [] [] pos) tDNewK:=λpins s b H Q I h =>
 wpAny_Dict_empty ⟨.ref s.heap.objs.size,_,I.laid (a:=s.heap.objs.size) (o:=.dK []) (t':=s.toks) (λ_ _ q=>wB _ q) (wF _) (qd3 s.heap I.big),rfl,h _ (I.hok.fresh (wF _))⟩
theorem qd6:PE X (.Dict [] [] pos) tDNewT:=λpins s b H Q I h =>
 wpAny_Dict_empty ⟨.ref s.heap.objs.size,_,I.laid (a:=s.heap.objs.size) (o:=.dT []) (t':=s.toks) (λ_ _ q=>wB _ q) (wF _) (qd4 s.heap I.big),rfl,h _ (I.hok.fresh (wF _))⟩
end
def IsD(H:Hp)(a:Addr):Prop:=(∃kvs,Rd H a (.dK kvs))\/∃kvs,Rd H a (.dT kvs)
theorem qhK{X:Cx}{pins:List (Addr×Obj)}{i:St}{H:Hp}{s:Shared}{a:Addr}(I:Inv X pins i H s)(d:IsD H a):
  s.TypeIs (.ref a) "dict"/\(∀b,Value.ref a=.ref b->∃ob,s.heap.get? b=some ob/\ob.dict=none)/\(a == sysModules)=false:=by
 rcases d with ⟨kvs,e⟩|⟨kvs,e⟩
 .obtain ⟨_,hd,vs,_,c⟩:=qck I.hok e
  refine⟨c.typeIs,λb q=>?_,hd⟩
  cases q
  obtain⟨ob,_,_,f,h,_⟩:=c
  exact⟨ob,f,h.2.1⟩
 .obtain ⟨_,hd,xs,_,c⟩:=qcl I.hok e
  refine⟨c.typeIs,λb q=>?_,hd⟩
  cases q
  obtain⟨ob,_,_,f,h,_⟩:=c
  exact⟨ob,f,h.2.1⟩
end L2
namespace Att
open PySem PySem.W PySem.Calls PyProof.Rows
theorem jb{P:Params}{h:Heap}:∀(ns:List Int) (vs:List Value),WellAll P h vs (ns.map WData.int)->IntsAre vs ns:=by
 intro ns
 induction ns with
 |nil =>
  intro vs w
  rw[u0]at w
  cases w
  exact .nil
 |cons n ns c =>
  intro vs w
  rw[w4]at w
  cases w with
  |cons a b =>
   cases a
   exact .cons _ _ (c _ b)
theorem qdh{l:OpenLaw}{n:Nat}(hn:l.most=some n){P:Params}{h:Heap}{args:List WData}{b:List Value}(c:l.row.toRowW.claim.pre args=true)(m:WellAll P h b args):
  ∃a vs ns,b=[Value.ref a]/\args=[WData.list (ns.map WData.int)]/\h.get? a=some {cls:=.type "list",data:=.seq vs.toArray}/\IntsAre vs ns/\ns.length<=n:=by
 have o:WShape.hasAll [] args [.list .int]=true:=(pre_splitW c).1
 have p:l.pre.holds [] {args:=args}=true:=(pre_splitW c).2
 obtain⟨d,r,rfl,s,u⟩:=hasAllW_cons o
 obtain rfl:=hasAllW_nil u
 obtain⟨xs,rfl,v⟩:=hasW_list s
 obtain⟨ns,rfl⟩:=items_int v
 have e:ns.length<=n:=by
  unfold OpenLaw.pre at p
  have i:(WTm.not (.lt (.lit (.int (n:Int))) (.len (.arg 0)))).holds [] {args:=[.list (ns.map .int)]}=true:=by
   have i:=(holds_andW p).1
   rw[hn]at i
   exact i
  have j:=condW_of i (w_not (w_lt w_lit (w_len_list (w_arg rfl))))
  rw[wT]at j
  refine Nat.le_of_not_lt λq=>?_
  have w:(n:Int)<((ns.length:Nat):Int):=by omega
  first
   | (rw[vj w]at j;exact absurd j (by decide))
   | (simp at j;omega)
 cases m with
 |cons x y =>
  cases y
  cases x with
  |list z f=>exact⟨_,_,ns,rfl,rfl,z,jb ns _ f,e⟩
theorem qdi(l:OpenLaw)(args:List WData):l.row.toRowW.claim.post args (.bool true) args=true :=
 postW_of (r:=l.row.toRowW) (X:=(true == true))
  (show WShape.has [] (.bool true) .bool=true by first|rfl|decide|simp[WShape.has,WShape.arms,WShape.armsAll])
  (show(WTm.eq .res (.lit (.bool true))).value [] {args:=args,res:=some (.bool true),after:=args}=some (.bool (true == true))from w_eq_bool (w_res rfl) w_lit) rfl
theorem attach_call{l:OpenLaw}{n:Nat}{q:Program}{c:List Str}{y:(Str->Option Value)->Heap->Prop}{z:World->Heap->Prop}{d:DefRec}(hn:l.most=some n)(s:d.params.defaults=[])(call:∀(w:World) (s₀ b:Shared) (mg mb:Str->Option Value) (h:Addr) (o:Obj) (pm p doc:Value) (a:Addr) (vs:List Value) (ns:List Int),
   Ground q c [] y w s₀ mg mb b.heap->z w b.heap ->
   b.heap.get? h=some o->o.data=.func (docDef d.name d.params d.body d.scope pm p doc)->b.heap.CodeRec p d.name->mg d.name=some (.ref h) ->
   b.heap.get? a=some {cls:=.type "list",data:=.seq vs.toArray}->IntsAre vs ns->ns.length<=n->b.gens=#[] ->
   codeAny (model l.prog w) callerA (.call (.ref h) ⟨[.ref a],[]⟩) (λr s'=>r=.ok (.ret (.bool true))/\OldK b.heap s'.heap/\s'.os=b.os/\AllBare s'.gens) b):
  WalkO q c y z l.row.toRowW d [] (λf vs=>PySem.call f vs):=by
 intro w s₀ b mg mb G Y h o pm p doc E kV F hd u A v H args B O i C I x J
 obtain rfl:E=.none:=Dflts.none A s
 obtain rfl:kV=.none:=Dflts.noKw A
 obtain⟨a,vs,ns,rfl,rfl,j,e,m⟩:=qdh hn i x
 refine enter_call (xR (call w s₀ b mg mb h o pm p doc a vs ns G Y F (fd_plain hd) u v j e m H) λr s' K=>?_)
 obtain⟨rfl,L,M,N⟩:=K
 exact⟨.inl ⟨.bool true,.bool true,[],rfl,λ_=>rfl,.bool true,qdi l _,λ_=>⟨List.Pairwise.nil,λ_ hm=>(nomatch hm)⟩⟩,L,M,N⟩
end Att
namespace L2
open PySem PySem.Spec PyProof.Rows
theorem vals_ints:∀{vs:List Value} {ns:List Int},IntsAre vs ns->Vals (ns.map V.int) vs
 |_,_,.nil=>.nil
 |_,_,.cons n t h=>.cons ⟨t,rfl⟩ (vals_ints h)
end L2
namespace L2
open PySem PySem.Spec PyProof.Rows
noncomputable def defArgs(s:Stmt):Arguments:=match s with
 | .FunctionDef _ a _ _ _ _ _ _ _ _=>a
 |_=>{posonlyargs:=[],args:=[],vararg:=none,kwonlyargs:=[],kw_defaults:=[],kwarg:=none,defaults:=[]}
noncomputable def defBody(s:Stmt):List Stmt:=match s with
 | .FunctionDef _ _ b _ _ _ _ _ _ _=>b
 |_=>[]
noncomputable def defScope(s:Stmt):Scope:=match s with
 | .FunctionDef _ _ _ _ _ _ sc _ _ _=>sc
 |_=>{kind:=.function,names:=[],isGenerator:=false,isCoroutine:=false}
noncomputable abbrev CX0:CXT:=λ_ _ _ _ _ _=>False
noncomputable abbrev E0:XK:=λ_ _ _=>False
theorem pass0{X:Cx}:Passes CX0 X E0:=λ_ _ _ _ _ _ _ h=>h.elim
theorem qg1{A:Around}{k:Nat}(a:Room k A):A.units+1<cLine:=Nat.lt_of_le_of_lt (Nat.add_le_add_left (by decide:1<=64) _) a.units
end L2
namespace HT
open PySem PySem.Spec PyProof.Rows
section
variable{prog:Program}{w:World}{A:Around}{E:Value->Shared->Prop}{s:Shared}
theorem jU{t:Addr}{items:Array Value}{Q:Bool->Shared->Prop}(a:IsTup s.heap t items)(h:Q true s):wpAny (model prog w) A (Builtin.Tuple.tupleIsExact (.ref t)) Q E s:=by
 unfold Builtin.Tuple.tupleIsExact
 refine wA (uk a.typeIs ?_)
 exact wC h
theorem ym{t sl:Addr}{items:Array Value}{f i:Value}{lo hi:Option Int}{Q:Value->Shared->Prop}(a:IsTup s.heap t items)(j:s.heap.IsSliceOf sl f i .none)(pl:IsPart f lo)(m:IsPart i hi)(l:sIx items.size 0 lo=0/\sIx items.size items.size hi=items.size)(h:Q (.ref t) s):wpAny (model prog w) A (getItem (.ref t) (.ref sl)) Q E s:=by
 obtain⟨os,c,d,n⟩:=id j
 have e:s.TypeIs (.ref sl) "slice":=⟨os,c,d⟩
 unfold getItem
 try with_reducible refine wu ?_
 first|refine wA (wC ?_)|skip
 refine wA (wpAny_sequenceKey a.typeIs (by decide) ?_)
 refine wA (w5 (name:=Str.ofString "__getitem__") a.typeIs vB
  (w6 vB a.typeIs entry_tuple_getitem ?_ (args_tuple_getitem _ _)))
 show wpAny _ _ (Builtin.Tuple.tupleItemsOf (.ref t) >>= _) _ _ s
 refine wA (tupleItemsOf_ a ?_)
 refine wA (uk e ?_)
 rw[wM (by decide)]
 refine wA (zy j pl m ?_)
 have b:(((sIx items.size 0 lo:Nat):Int) == 0&&(1:Int) == 1&&(sIx items.size items.size hi-sIx items.size 0 lo) == items.size)=true:=by
  rw[l.1,l.2];simp
 show wpAny _ _ (if(((sIx items.size 0 lo:Nat):Int) == 0&&(1:Int) == 1&&(sIx items.size items.size hi-sIx items.size 0 lo) == items.size)=true then _ else _) _ _ s
 rw[wM b]
 refine wA (jU a ?_)
 rw[wM rfl]
 refine wA (vd ?_)
 exact wA (wC (wC ⟨_,rfl,wC h⟩))
end
end HT
namespace HT
open PySem PySem.Spec PyProof.Rows
theorem yS:fillsNumberSlot (.type "tuple") "mul"=pure false :=
 PySem.fillsNumberSlot_seq (id:="tuple.__mul__") (r:=some (.builtin "tuple.__rmul__")) F.slot_tuple_mul.lookup (by decide +kernel) F.slot_tuple_rmul.lookup (by decide +kernel)
theorem qai:seqRepeat? (.type "tuple")=pure (some (.builtin "tuple.__mul__")):=by
 unfold seqRepeat?
 rw[PySem.seqSlot_of (T:="tuple") (name:="__mul__") (id:="tuple.__mul__") F.slot_tuple_mul.lookup (by decide +kernel),PySem.seqSlot_of (T:="tuple") (name:="__rmul__") (id:="tuple.__rmul__") F.slot_tuple_rmul.lookup (by decide +kernel)]
 rfl
section
variable{prog:Program}{w:World}{A:Around}{E:Value->Shared->Prop}{s:Shared}
theorem qd7{a:Int}{t:Tok}{l:Addr}{items:Array Value}{Q:_->Shared->Prop}(b:IsTup s.heap l items)(h:Q (.done (.ret Value.notImplemented)) s):wpAny (model prog w) A (Builtin.«int.__rmul__» ⟨[.int a t,.ref l],[]⟩) Q E s:=by
 obtain⟨o,f,e,n,hd⟩:=b
 obtain⟨i,g,d,tk,os⟩:=s
 obtain⟨c,j,m,sl⟩:=o
 cases e
 cases hd
 wp_walk
 exact h
theorem qf6{l:Addr}{items:Array Value}{k:Int}{t:Tok}{Q:_->Shared->Prop}(p:IsTup s.heap l items)(F:-(2^63)<=k)(H:k<2^63)(hz:items.size*k.toNat<=sizeLine)(r:(items=#[]\/k=1)->Q (.done (.ret (.ref l))) s)(hn:(¬(items=#[]\/k=1))->Q (.done (.ret (.ref s.heap.objs.size))) {s with heap:=s.heap.push {cls:=.type "tuple",data:=.seq ((List.replicate k.toNat items.toList).flatten).toArray}}):
  wpAny (model prog w) A (Builtin.«tuple.__mul__» ⟨[.ref l,.int k t],[]⟩) Q E s:=by
 obtain⟨o,I,u,n,hd⟩:=p
 obtain⟨J,g,d,tk,os⟩:=s
 obtain⟨c,K,L,sl⟩:=o
 cases u
 cases hd
 have b:(decide (k < -(2^63)) || decide (k>=2^63))=false:=by simp;lia
 by_cases z:items=#[]\/k=1
 .have f:(items.isEmpty || k == 1)=true:=by
   rcases z with z|z
   .rw [z];rfl
   .rw [z];simp
  wp_walk
  rw[wL (by rw[b];exact wR)]
  wp_walk
  exact r z
 .have f:(items.isEmpty || k == 1)=false:=by
   simp only[Bool.or_eq_false_iff,wt]
   exact⟨by rw[<-Bool.not_eq_true];intro q;exact z (.inl (by simpa using q)),λq=>z (.inr q)⟩
  wp_walk
  rw[wL (by rw[b];exact wR)]
  wp_walk
  have ne:items.isEmpty=false:=(Bool.or_eq_false_iff.mp f).1
  by_cases h:k<=0
  .have a:(decide (k<=0) || items.isEmpty)=true:=by rw[vj h];rfl
   rw[wM a]
   wp_walk
   have e:k.toNat=0:=by lia
   have:=hn z
   rw[e]at this
   exact this
  .have a:(decide (k<=0) || items.isEmpty)=false:=by rw[wo h,ne];rfl
   rw[wL (by rw[a];exact wR)]
   have i:(items.size:Int)*k=((items.size*k.toNat:Nat):Int):=by
    rw[Int.natCast_mul];congr 1;lia
   have v:¬((items.size:Int)*k>(2^63-1) / 8):=by
    rw[i]
    have:((sizeLine:Nat):Int)<=(2^63-1) / 8:=by decide
    lia
   have x:Builtin.Tuple.tupleTooMany ((items.size:Int)*k)=false:=by
    unfold Builtin.Tuple.tupleTooMany
    rw[i,wo]
    lia
   have y:List.foldl (λB C=>B++C) #[] (List.replicate k.toNat items)=(List.replicate k.toNat items.toList).flatten.toArray:=by
    have:=L2.yR items.toList k.toNat []
    rw[List.nil_append]at this
    simpa using this
   rw[wL v]
   wp_walk
   rw[y]
   rw[wL (by rw[x];exact wR)]
   have j:sizeOk (.seq (List.replicate k.toNat items.toList).flatten.toArray):=by
    show(List.replicate k.toNat items.toList).flatten.toArray.size<=sizeLine
    rw[wH,L2.qah,we,Nat.mul_comm]
    exact hz
   show wpAny _ _ (Builtin.Tuple.tupleExact _ >>= _) _ _ _
   first
    |exact wA (m:=Builtin.Tuple.tupleExact _) (wO (wC (hn z)) j)
    |exact wA (m:=Builtin.Tuple.tupleExact _) (wO (hn z) j)
end
end HT
namespace L2
open PySem PySem.Spec PyProof.Rows
section
variable{X:Cx}
def rSlW(K:PySem.W.Frag):V->Option Int->Option Int->Hp->VK->Prop:=λx lo hi H Q=>∃a xs,x=.ref a/\SqT K H a xs /\
 (HT.sIx xs.length 0 lo=0/\HT.sIx xs.length xs.length hi=xs.length)/\Q x H
theorem qf7:SlR X (rSlW X.K):=by
 intro pins s l H x v m n lo hi sl Q I e f pl i h
 obtain⟨a,xs,rfl,hx,j,q⟩:=h
 cases e
 obtain⟨c,r,d,hz⟩:=I.tuple hx
 have b:c.toArray.size=xs.length:=by rw[wH];exact r.length.symm
 refine⟨"tuple",_,vB.lookup,d.typeIs,?_⟩
 exact HT.ym d f pl i (by rw[b];exact j) ⟨.ref a,H,I,rfl,q⟩
noncomputable def rRepT(K:PySem.W.Frag):R2:=λx y H Q=>∃a k xs,x=.ref a/\y=.int k/\SqT K H a xs/\-(2^63)<=k/\k<2^63/\xs.length*k.toNat<=sizeLine /\
 ((xs=[]\/k=1)->Q x H)/\((¬(xs=[]\/k=1))->∀p,H p=none->Q (.ref p) (upd H p (.tup (List.replicate k.toNat xs).flatten)))
theorem qf8:OpR X (binaryOp .Mult) (rRepT X.K):=by
 intro pins s p H x y v u Q I i j h
 obtain⟨a,k,xs,rfl,rfl,hx,l,m,hz,q1,q2⟩:=h
 cases i
 obtain⟨t,rfl⟩:=j
 obtain⟨d,r,f,n⟩:=I.tuple hx
 have c:d.length=xs.length:=r.length.symm
 have e:(d.toArray=#[]\/k=1) ↔ (xs=[]\/k=1):=by
  constructor
  .rintro (z|z)
   .left
    have:d=[]:=by simpa using z
    rw[this]at c;exact vZ.mp (by simpa using c.symm)
   .exact .inr z
  .rintro (z|z)
   .left
    rw[z]at c
    have:d=[]:=vZ.mp (by simpa using c)
    rw[this]
   .exact .inr z
 refine wpAny_binaryOp_repeat_ref (T:="tuple") (U:="int") (by decide) f.typeIs (λs'=>ug s' k t) HT.yS F.fills_int_mul xU HT.qai F.slot_int_index.lookup ?_
 refine w6 xU (ug s k t) F.entry_int_rmul (HT.qd7 f ⟨_,rfl,rfl,f.typeIs,?_⟩) (F.args_int_rmul_2 _ _)
 refine w6 F.slot_tuple_mul f.typeIs F.entry_tuple_mul (HT.qf6 f l m (by rw[wH,c];exact hz) (λz=>⟨_,rfl,.ref a,H,I,rfl,q1 (e.mp z)⟩) λz=>⟨_,rfl,?_⟩) (F.args_tuple_mul_2 _ _)
 refine⟨.ref s.heap.objs.size,_,I.laid (t':=s.toks) (o:=.tup (List.replicate k.toNat xs).flatten) (λb ob q=>wB _ q) (wF _) ?_,rfl,q2 (λy=>z (e.mpr y)) _ (I.hok.fresh (wF _))⟩
 exact⟨by rw[qah,Nat.mul_comm];exact hz,_,r.rep k.toNat,IsTup.new _ _,yg _ _⟩
end
end L2
namespace HT
open PySem PyProof.Rows
theorem qd8(A:Around)(s:Shared)(a:Int)(t:Tok)(c:Int)(u:Tok)(prog:Program)(w:World)(E:Value->Shared->Prop)(Q:Value->Shared->Prop)(h:Q (.bool (decide (c<=a))) s):
  wpAny (model prog w) A (richCompare .GtE (.int a t) (.int c u)) Q E s :=
 (PyProof.Rows.ge_int h:wpAny (model prog w) A (compareOp .GtE (.int a t) (.int c u)) Q E s)
theorem qd9(a c:Int):(!decide (a<c))=decide (c<=a):=by rw[uB];simp
theorem qea(a c:Nat):(!decide (a<c))=decide (c<=a):=by rw[uB];simp
section
open PySem.SeqAt
open PySem.AutoSeq1 (wpAny_loadPart')
open PySem.MeetsSeq PySem.MeetsSeq2 PySem.MeetsSeq3
theorem jV(l b:Addr)(items f:Array Value)(n O:Nat)(P I:Option Addr)(sl J:Array (Option Value))(ns E:List Int)(hi:IntsAre items.toList ns)(M:IntsAre f.toList E):
  Meets (Builtin.«tuple.__ge__» ⟨[.ref l,.ref b],[]⟩)
   (λ_ R s=>s.heap.get? l=some {cls:=.type "tuple",dict:=P,data:=.seq items n,slots:=sl}/\s.heap.get? b=some {cls:=.type "tuple",dict:=I,data:=.seq f O,slots:=J} /\
    R (.ok (.ret (.bool (!lexLt ns E)))) s) :=
 .of_wp λprog w A R s h=>by
  obtain⟨F,g,d,tk,os⟩:=s;obtain⟨Q,S,h⟩:=h
  have Y:=AutoSeq1.sub_tuple_tuple
  have Z:items.size=ns.length:=by rw[<-hi.length];simp
  have z2:f.size=E.length:=by rw[<-M.length];simp
  wp_walk using wpAny_loadPart' Q,wpAny_loadPart' S,wpAny_forIn_list _ (λrest b s'=>b.1=none/\s'=⟨F,g,d,tk,os⟩/\∃(vs H:List Value) (j m:List Int),rest=vs.zip H /\
   IntsAre vs j/\IntsAre H m/\j.length+f.size=m.length+items.size/\R (.ok (.ret (.bool (!lexLt j m)))) ⟨F,g,d,tk,os⟩) _
  case turn =>
   rintro⟨y,x⟩ rest b s' ⟨v,rfl,vs,H,j,m,hz,z,o,i,p⟩
   cases z with
   |nil=>rw[List.zip_nil_left]at hz;cases hz
   |cons a t B =>
    cases o with
    |nil=>rw[List.zip_nil_right]at hz;cases hz
    |cons c u C =>
     rw[vu]at hz
     injection hz with K hrest
     injection K with U hx
     subst U hx
     rw[qS]at p
     simp only[wc]at i
     obtain⟨e,W,r⟩:=qaU A.in1 ⟨F,g,d,tk,os⟩ a t c u
     refine wA (W prog w _ _ ?_)
     cases e with
     |true =>
      rw[wM (r.mp rfl)]at p
      wp_walk
      exact⟨rfl,rfl,_,_,_,_,hrest,B,C,by lia,p⟩
     |false =>
      rw[wL (λq=>absurd (r.mpr q) wR)]at p
      have L:=qd8 A.in1 ⟨F,g,d,tk,os⟩ a t c u prog w
      rw[qd9]at p
      wp_walk using L
      exact⟨_,rfl,by simpa using p⟩
  case fin =>
   rintro⟨b1,b2⟩ s' ⟨v,rfl,vs,H,j,m,hz,z,o,i,p⟩
   simp only at v
   subst v
   have N:lexLt j m=decide (items.size<f.size):=by
    cases z with
    |nil =>
     cases o with
     |nil =>
      simp only[vb]at i
      rw[yn]
      exact(wo (by lia)).symm
     |cons c u X =>
      simp only[vb,wc]at i
      rw[zR]
      exact(vj (by lia)).symm
    |cons a t N =>
     cases o with
     |nil =>
      simp only[vb,wc]at i
      rw[zS]
      exact(wo (by lia)).symm
     |cons c u X =>
      rw[vu]at hz
      cases hz
   rw[N,qea]at p
   wp_walk
   exact⟨_,rfl,by simpa[Builtin.Tuple.tupleCompareSizes]using p⟩
  case h =>
   exact⟨rfl,rfl,items.toList,f.toList,ns,E,rfl,hi,M,by lia,h⟩
end
section
variable{prog:Program}{w:World}{A:Around}{E:Value->Shared->Prop}{s:Shared}
theorem qbQ{l b:Addr}{items a:Array Value}{ns c:List Int}{Q:Value->Shared->Prop}(r:IsTup s.heap l items)(u:IsTup s.heap b a)(hi:IntsAre items.toList ns)(v:IntsAre a.toList c)(y:A.units<cLine)(h:Q (.bool (!lexLt ns c)) s):wpAny (model prog w) A (compareOp .GtE (.ref l) (.ref b)) Q E s:=by
 obtain⟨⟨cls,z,data,sl⟩,o,p,n,hd⟩:=id r
 obtain⟨⟨q,i,j,m⟩,d,e,B,f⟩:=id u
 simp only at p hd e f
 subst p hd e f
 exact richCompare_meets_room (op:=.GtE) ⟨_,o,rfl⟩ ⟨_,d,rfl⟩ PySem.F.slot_tuple_ge PySem.F.entry_tuple_ge (PySem.F.args_tuple_ge_2 _ _) (jV l b items a n B z i sl m ns c hi v)
  ⟨o,d,show Value.bool (!lexLt ns c)≠Value.notImplemented/\Q (.bool (!lexLt ns c)) s from⟨(λx=>nomatch x),h⟩⟩ y
end
end HT
namespace L2
open PySem PySem.Spec PyProof.Rows
section
variable{X:Cx}{e:Expr}{te:TE}{pos p2 p3 p4:Pos}
noncomputable def rGeT(K:PySem.W.Frag):R2:=λx y H Q=>∃a b ns c,x=.ref a/\y=.ref b/\SqT K H a (ns.map V.int)/\SqT K H b (c.map V.int)/\Q (.bl (!HT.lexLt ns c)) H
theorem qhL(i:X.A.units<cLine):OpR X (compareOp .GtE) (rGeT X.K):=by
 intro pins s r H x y v u Q I j l h
 obtain⟨a,b,ns,f,rfl,rfl,ha,m,q⟩:=h
 cases j
 cases l
 obtain⟨d,n,o,_⟩:=I.tuple ha
 obtain⟨c,p,p2,_⟩:=I.tuple m
 have i1:IntsAre d.toArray.toList ns:=qL n
 have i2:IntsAre c.toArray.toList f:=qL p
 exact HT.qbQ o p2 i1 i2 i ⟨.bl (!HT.lexLt ns f),H,I,rfl,q⟩
end
end L2
namespace HT
open PySem PyProof.Rows
section
variable{prog:Program}{w:World}{A:Around}{E:Value->Shared->Prop}{s:Shared}
def Many(h:Heap)(d:Addr)(n:Nat):Prop:=∃o es ep,h.get? d=some o/\o.data=.dict es ep/\es.size=n
theorem qbR{d:Addr}{n:Nat}(hd:(d == sysModules)=false):
  MeetsIn prog w (Builtin.«dict.__len__» ⟨[.ref d],[]⟩) (λ_ R s=>Many s.heap d n/\R (.ok (.ret (.int n s.toks))) {s with toks:=s.toks+1}):=by
 refine .of_wp λA R s b=>?_
 obtain⟨⟨o,es,ep,c,a,rfl⟩,h⟩:=b
 have size:∀{A:Around} {E:Value->Shared->Prop},wpAny (model prog w) A (dictSize d) (λk s'=>k=es.size/\s'=s) E s:=by
  intro A E;unfold dictSize;exact wA (uy c a (wC ⟨rfl,rfl⟩))
 refine wA (m:=dictSize d) (v6 size (λk s' ks=>?_) λ_ _ z=>z)
 obtain⟨e1,e⟩:=ks
 subst e1 e
 exact wA (wpAny_pendingCount_other hd (wpAny_ret_mkInt h))
theorem qdj{d:Addr}{n:Nat}{Q:Value->Shared->Prop}(hd:(d == sysModules)=false)(hm:Many s.heap d n)(b:s.TypeIs (.ref d) "dict")(c:(n:Int)<2^63)(h:Q (.int n (s.toks+1)) {s with toks:=s.toks+1+1}):wpAny (model prog w) A (call (.builtin "len") [.ref d]) Q E s:=by
 have low:¬((n:Nat):Int)<0:=by lia
 have a:¬((n:Nat):Int)>=2^63:=by lia
 have slot:∀{A:Around} {Q:Value->Shared->Prop},Q (.int n s.toks) {s with toks:=s.toks+1}->wpAny (model prog w) A (call (.builtin "dict.__len__") [.ref d]) Q E s:=λq =>
  call_meetsIn F.slot_dict_len b F.entry_dict_len (F.args_dict_len_1 _) (qbR (n:=n) hd) ⟨hm,q⟩
 refine ux kind_len plain_len entry_len (args_len1 _) ?_
 unfold Builtin.«len»
 refine wA (m:=oneArg "len" _) (wC (wA (w5 (name:=Str.ofString "__len__") b F.slot_dict_len (slot ?_))))
 refine wA (wu (wC (wA (uh ?_))))
 show wpAny _ _ (if((n:Nat):Int)<0 then _ else if((n:Nat):Int)>=2^63 then _ else _) _ _ _
 rw[wL low,wL a];exact wA (wpAny_mkInt (wC ⟨_,rfl,h⟩))
end
end HT
namespace L2
open PySem PySem.Spec PyProof.Rows
section
variable{X:Cx}
theorem qdk:CallR X (.builtin "len") (λxs H Q=>∃a kvs,xs=[V.ref a]/\H a=some (.dT kvs)/\Q (.int kvs.length) H):=by
 intro pins s j H xs us Q I r h
 obtain⟨a,kvs,rfl,ha,q⟩:=h
 obtain⟨u,rfl,d⟩:=vals1 r
 cases d
 obtain⟨z,y,ys,c,o,es,ep,e,l,f,i,m⟩:=(show ObjOk X.prog X.w H s.heap a (.dT kvs)from I.hok a _ ha)
 have hn:es.size=kvs.length:=by
  have e1:=congrArg List.length i
  rw[wT,we]at e1
  rw[e1,c.length]
 have b:((kvs.length:Nat):Int)<2^63:=by rw[vH]at z;lia
 exact HT.qdj y ⟨o,es,ep,e,f,hn⟩ (qhK I (.inr ⟨kvs,.inl ha⟩)).1 b ⟨.int kvs.length,H,I.tok _,⟨_,rfl⟩,q⟩
end
end L2
namespace R
open PySem PySem.Spec L2
open PyProof.Rows hiding St
namespace DN
end DN
end R
namespace R
open PySem PySem.Spec L2
open PyProof.Rows hiding St
namespace SN
def Good(t:SetTable):Prop:=t.plain=true->t.place.toList.Pairwise (· < ·)/\t.dummies=#[]
theorem jk{xs:Array Nat}{j:Nat}(h:xs.toList.Pairwise (· < ·)):∀(f lo hi:Nat),hi<=xs.size->lo<=hi->hi-lo<=f->(∀i,i<lo->xs.getD i j<j)->(∀i,hi<=i->i<xs.size->j<=xs.getD i j) ->
  SetTable.below.go xs j f lo hi<=xs.size/\(∀i,i<SetTable.below.go xs j f lo hi->xs.getD i j<j)/\∀i,SetTable.below.go xs j f lo hi<=i->i<xs.size->j<=xs.getD i j
 |0,lo,hi,h1,h2,h3,h4,h5=>by
  have e:lo=hi:=by omega
  subst e
  unfold SetTable.below.go
  exact⟨h1,h4,h5⟩
 |f+1,lo,hi,h1,h2,h3,h4,h5=>by
  unfold SetTable.below.go
  by_cases o:lo<hi
  .rw [wM o]
   dsimp only
   have c:lo<=(lo+hi) / 2:=by omega
   have l:(lo+hi) / 2<hi:=by omega
   generalize (lo+hi) / 2=m at c l ⊢
   have mono:∀a b,a<=b->b<xs.size->xs.getD a j<=xs.getD b j:=λa b n p=>by
    have ha:a<xs.size:=by omega
    rw[show xs.getD a j=xs[a] by simp[Array.getD,ha],show xs.getD b j=xs[b] by simp[Array.getD,p]]
    rcases Nat.lt_or_eq_of_le n with q|q
    .have:=(uK.mp h) a b (by simpa using ha) (by simpa using p) q
     simpa using uq this
    .subst q;exact wF _
   by_cases q:xs.getD m j<j
   .rw [wM q]
    exact jk h f (m+1) hi h1 (by omega) (by omega) (λi d=>Nat.lt_of_le_of_lt (mono i m (by omega) (by omega)) q) h5
   .rw [wL q]
    exact jk h f lo m (by omega) c (by omega) h4 (λi d r=>wf (by omega) (mono m i d r))
  .rw [wL o]
   have e:lo=hi:=by omega
   subst e
   exact⟨h1,h4,h5⟩
theorem qaX{xs:Array Nat}(j:Nat)(h:xs.toList.Pairwise (· < ·)):SetTable.below xs j<=xs.size/\(∀i,i<SetTable.below xs j->xs.getD i j<j)/\∀i,SetTable.below xs j<=i->i<xs.size->j<=xs.getD i j:=by
 unfold SetTable.below
 exact jk h xs.size 0 xs.size (wF _) (vF _) (by omega) (λi hi=>absurd hi (Nat.not_lt_zero _)) (λi b a=>absurd a (by omega))
theorem zk{xs:Array Nat}{i j:Nat}(h:i<xs.size):xs.getD i j=xs[i]:=by simp[Array.getD,h]
theorem qdl{xs:Array Nat}{j:Nat}(h:xs.toList.Pairwise (· < ·))(n:xs[SetTable.below xs j]?≠some j):(SetTable.insertAt xs (SetTable.below xs j) j).toList.Pairwise (· < ·):=by
 obtain⟨b1,f,l⟩:=qaX j h
 generalize SetTable.below xs j=p at b1 f l n ⊢
 rw[SetTable.toList_insertAt,List.pairwise_append]
 have gt:∀i,p<=i->(hi:i<xs.size)->j<xs[i]:=λi m hi=>by
  have o:=l p (wF _) (by omega)
  rw[zk (by omega)]at o
  have r:xs[p]≠j:=λe=>n (by rw[wa (by omega),e])
  rcases Nat.lt_or_eq_of_le m with q|q
  .have:=(uK.mp h) p i (by simp;omega) (by simpa using hi) q
   simp only[ud]at this
   omega
  .subst q;omega
 refine⟨h.sublist (List.take_sublist _ _),wp.mpr ⟨λx hx=>?_,h.sublist (List.drop_sublist _ _)⟩,λa ha b c=>?_⟩
 .obtain ⟨i,hi,e⟩:=vG hx
  simp only[xM,we]at hi
  rw[List.getElem_drop,ud]at e
  rw[<-e];exact gt (p+i) (by omega) (by omega)
 .have d:a<j:=by
   obtain⟨i,hi,e⟩:=vG ha
   simp only[vA,we]at hi
   rw[List.getElem_take,ud]at e
   have:=f i (by omega)
   rw[zk (by omega),e]at this;exact this
  rcases wN.mp c with rfl|c
  .exact d
  .obtain ⟨i,hi,e⟩:=vG c
   simp only[xM,we]at hi
   rw[List.getElem_drop,ud]at e
   have:=gt (p+i) (by omega) (by omega)
   omega
theorem qcn(j:Nat):SetTable.has #[] j=false:=by unfold SetTable.has;simp
theorem qaY{t:SetTable}{h:Int}(hd:t.dummies=#[]):∀(f:Nat) (p:SetTable.Probe),p.dummy=none->∀j d,SetTable.probe.go t (λ_=>h+1) h f p=some (.empty j d)->d=none/\t.slot j=.empty
 |0,p,_,j,d,e=>by unfold SetTable.probe.go at e;exact nomatch e
 |f+1,p,hp,j,d,e=>by
  have nd:t.slot p.j≠.dummy:=by
   unfold SetTable.slot
   dsimp only
   rw[hd,qcn]
   split <;> simp
  have a:∀q:SetTable.Probe,(t.advance q).dummy=q.dummy:=λq=>by
   unfold SetTable.advance;split <;> rfl
  unfold SetTable.probe.go at e
  cases z:t.slot p.j with
  |empty =>
   rw[z]at e
   dsimp only at e
   cases e
   exact⟨hp,z⟩
  |dummy=>exact absurd z nd
  |live i =>
   rw[z]at e
   have b:((h+1:Int) == h)=false:=by rw[wt];omega
   simp only[b,wj,vh]at e
   exact qaY hd f _ ((a p).trans hp) j d e
theorem qbS{t:SetTable}{j:Nat}(h:t.slot j=.empty):t.place[SetTable.below t.place j]?≠some j:=λe=>by
 unfold SetTable.slot at h
 dsimp only at h
 rw[e]at h
 simp at h
theorem qdm{t:SetTable}{h:Int}{j:Nat}{b:Bool}(hd:t.dummies=#[])(e:t.freeSlot h=some (j,b)):t.place[SetTable.below t.place j]?≠some j:=by
 unfold SetTable.freeSlot SetTable.probe at e
 split at e
 .rename_i c d z
  obtain⟨rfl,a⟩:=qaY hd _ _ rfl _ _ z
  cases e
  exact qbS a
 .exact nomatch e
theorem qeb{t:SetTable}{h:Int}{j:Nat}{b:Bool}(g:Good t)(e:t.freeSlot h=some (j,b)):Good (t.put j).1:=λd=>by
 have a:t.plain=true:=d
 obtain⟨f,c⟩:=g a
 refine⟨qdl f (qdm c e),?_⟩
 show(if SetTable.has t.dummies j then _ else t.dummies)=#[]
 rw[c,qcn];rfl
theorem zm(t:SetTable)(n:Nat):Good (t.standIn n):=λa=>nomatch a
theorem jl{t:SetTable}{n:Nat}(g:Good t):Good (t.orStandIn n):=by
 unfold SetTable.orStandIn;split
 .exact g
 .exact zm _ _
theorem jW{t:SetTable}{n:Nat}:(t.orStandIn n).led=t.led:=by
 unfold SetTable.orStandIn;split <;> rfl
theorem qaZ{t:SetTable}{es:Array (Int×Value)}{h:Int}{x:Value}(g:Good t):Good (layNew t es h x).2.1/\(layNew t es h x).2.1.led=t.led:=by
 unfold layNew
 split
 .rename_i slot a z
  exact⟨jl (qeb g z),jW⟩
 .exact ⟨zm _ _,rfl⟩
theorem qdn{c d f:Nat}{led plain:Bool}{i:Array Int}{t:SetTable}{o:Array Nat}(e:SetTable.laid c d f led plain i=some (t,o)):Good t/\t.led=led:=by
 unfold SetTable.laid at e
 cases z:SetTable.layClean c i with
 |none=>rw[z]at e;exact nomatch e
 |some l =>
  rw[z]at e
  simp only[Option.bind_eq_bind,wY,Option.pure_def,Option.some.injEq,Prod.mk.injEq]at e
  obtain⟨rfl,_⟩:=e
  refine⟨λ_=>⟨?_,rfl⟩,rfl⟩
  show(((List.range (c+1)).filterMap λj=>(l.getD j none).map (j,·)).map (·.1)).Pairwise (· < ·)
  rw[List.pairwise_map,List.pairwise_filterMap]
  refine List.Pairwise.imp ?_ List.pairwise_lt_range
  intro a b h x hx y m
  obtain⟨u,_,rfl⟩:=xQ.mp hx
  obtain⟨v,_,rfl⟩:=xQ.mp m
  exact h
theorem qbT{t:SetTable}{es:Array (Int×Value)}{n:Nat}:Good (relayAll t es n).2.1/\(relayAll t es n).2.1.led=t.led:=by
 unfold relayAll
 split
 .rename_i t' a z
  dsimp only
  split
  .exact qdn z
  .exact ⟨zm _ _,rfl⟩
 .exact ⟨zm _ _,rfl⟩
noncomputable def setO(es:Array (Int×Value))(ep:Nat)(t:SetTable):Obj:={cls:=.type "set",dict:=none,data:=.set es ep t}
structure SetD (led:Bool) (ks:List Int) (es:Array (Int×Value)) (t:SetTable):Prop where
 hash:∀e∈es.toList,∃k tk,e.2=.int k tk/\e.1=hashInt k
 nums:∃ns,IntsAre (es.toList.map (·.2)) ns/\ns.Perm ks
 few:es.size<scanBound
 fits:t.fits es.size=true
 led:t.led=led
 good:Good t
def SetL(h:Heap)(a:Addr)(led:Bool)(ks:List Int):Prop:=∃es ep t,h.get? a=some (setO es ep t)/\SetD led ks es t
section
variable{prog:Program}{w:World}{A:Around}{E:Value->Shared->Prop}{s:Shared}
theorem SetL.at{h h':Heap}{a:Addr}{led:Bool}{ks:List Int}(x:SetL h a led ks)(e:∀o,h.get? a=some o->h'.get? a=some o):SetL h' a led ks :=
 let ⟨es,ep,t,b,d⟩:=x;⟨es,ep,t,e _ b,d⟩
theorem SetD.elems{led:Bool}{ks:List Int}{es:Array (Int×Value)}{t:SetTable}(d:SetD led ks es t):ElemsOf (intKind prog w) es.toList:=λe a=>by
 obtain⟨k,tk,e1,b⟩:=d.hash e a
 rw[e1]
 exact⟨⟨k,intKind_is _ _ _ _,b⟩,rfl⟩
theorem SetD.len{led:Bool}{ks:List Int}{es:Array (Int×Value)}{t:SetTable}(d:SetD led ks es t):es.size=ks.length:=by
 obtain⟨ns,a,b⟩:=d.nums
 have:=a.length
 rw[wT,we]at this
 rw[this,b.length_eq]
theorem j5{k n:Int}{t:Tok}:(Value.int n t).isInt k=true ↔ k=n:=by simp only[Value.isInt,ve];exact eq_comm
theorem qaj{ks:List Int}{led:Bool}{es:Array (Int×Value)}{t:SetTable}(d:SetD led ks es t)(k:Int):(∃e∈es.toList,(intKind prog w).is k e.2=true) ↔ k∈ks:=by
 obtain⟨ns,f,i⟩:=d.nums
 rw[<-i.mem_iff]
 have:∀{vs:List Value} {ns:List Int},IntsAre vs ns->((∃v∈vs,(intKind prog w).is k v=true) ↔ k∈ns):=λ{vs ns} h=>by
  induction h with
  |nil=>simp
  |cons n t r j =>
   rw[wN,<-j]
   constructor
   .rintro ⟨v,b,a⟩
    rcases wN.mp b with rfl|b
    .exact .inl ((j5 (t:=t)).mp a)
    .exact .inr ⟨v,b,a⟩
   .rintro (e|⟨v,b,a⟩)
    .exact ⟨_,wI,(j5 (t:=t)).mpr e⟩
    .exact ⟨v,wJ _ b,a⟩
 rw[<-this f]
 constructor
 .rintro ⟨e,c,a⟩;exact⟨e.2,List.mem_map_of_mem c,a⟩
 .rintro ⟨v,b,a⟩;obtain⟨e,c,rfl⟩:=vL.mp b;exact⟨e,c,a⟩
theorem zH{vs a:List Value}(p:a.Perm vs):∀{ns:List Int},IntsAre vs ns->∃b,IntsAre a b/\b.Perm ns:=by
 induction p with
 |nil=>intro ns h;cases h;exact⟨_,.nil,.refl _⟩
 |cons x q i =>
  intro ns h
  cases h with
  |cons n t r=>obtain⟨m,c,d⟩:=i r;exact⟨_,.cons n t c,d.cons _⟩
 |swap x y l =>
  intro ns h
  cases h with
  |cons n t r =>
   cases r with
   |cons m u j=>exact⟨_,.cons _ _ (.cons _ _ j),.swap _ _ _⟩
 |trans p q e f =>
  intro ns h
  obtain⟨m,c,d⟩:=f h
  obtain⟨o,v,z⟩:=e c
  exact⟨o,v,z.trans d⟩
theorem yz:∀{vs:List Value} {ns:List Int} {k:Int} {tk:Tok},IntsAre vs ns->IntsAre (vs++[.int k tk]) (ns++[k])
 |_,_,k,tk,.nil=>.cons k tk .nil
 |_,_,_,_,.cons n t r=>.cons n t (yz r)
theorem SetD.perm{led:Bool}{ks:List Int}{es es':Array (Int×Value)}{t t':SetTable}(d:SetD led ks es t)(p:es'.toList.Perm es.toList)(a:t'.fits es'.size=true)(b:t'.led=t.led)(c:Good t'):SetD led ks es' t' where
 hash:=λe f=>d.hash e (p.mem_iff.mp f)
 nums:=by
  obtain⟨ns,h,i⟩:=d.nums
  obtain⟨m,j,l⟩:=zH (p.map (·.2)) h
  exact⟨m,j,l.trans i⟩
 few:=by have:=p.length_eq;simp only[we]at this;rw[this];exact d.few
 fits:=a
 led:=b.trans d.led
 good:=c
theorem SetD.add{led:Bool}{ks:List Int}{es:Array (Int×Value)}{t t':SetTable}{k:Int}{tk:Tok}{es':Array (Int×Value)}(d:SetD led ks es t)(p:es'.toList.Perm (es.push (hashInt k,.int k tk)).toList)(a:ks.length+1<scanBound)(b:t'.fits es'.size=true)(c:t'.led=t.led)(f:Good t'):SetD led (ks++[k]) es' t' where
 hash:=λe i=>by
  have:=p.mem_iff.mp i
  rw[Array.toList_push]at this
  rcases vJ.mp this with h|h
  .exact d.hash e h
  .rw [wV]at h;subst h;exact⟨k,tk,rfl,rfl⟩
 nums:=by
  obtain⟨ns,j,l⟩:=d.nums
  rw[Array.toList_push]at p
  have q:=p.map (·.2)
  rw[xS]at q
  obtain⟨m,n,o⟩:=zH q (yz j)
  exact⟨m,n,o.trans (l.append_right _)⟩
 few:=by have:=p.length_eq;simp only[we,Array.size_push]at this;rw[this,d.len];exact a
 fits:=b
 led:=c.trans d.led
 good:=f
theorem qa0{h:Heap}{a:Addr}{es es':Array (Int×Value)}{ep:Nat}{t t':SetTable}(b:h.get? a=some (setO es ep t)):(h.update a (Obj.putSet es' t')).get? a=some (setO es' (ep+1) t'):=by
 have:=wg (Obj.putSet es' t') b (by rw[putSet_of es' t' rfl];rfl)
 rw[putSet_of es' t' rfl]at this
 exact this
theorem qa1{g:Bool->Sem Unit}(u:∀(b:Bool) (f:Shared) (Q':Unit->Shared->Prop),Q' () f->wpAny (model prog w) A (g b) Q' E f){a:Addr}{es:Array (Int×Value)}{ep:Nat}{t:SetTable}(r:s.heap.get? a=some (setO es ep t)){led:Bool}{ks:List Int}{c:Array (Int×Value)}{t2:SetTable}(d:SetD led ks c t2){e:Bool}{R:Option Bool->Shared->Prop}(h:∀h',Heap.SameBut a s.heap h'->SetL h' a led ks->R (some true) {s with heap:=h' }):
  wpAny (model prog w) A (do
    storeSet a c t2
    if(!e&&t2.tooFull)=true then do
      g (relayAll t2 c (SetTable.grown c.size)).2.2
      storeSet a (relayAll t2 c (SetTable.grown c.size)).1 (relayAll t2 c (SetTable.grown c.size)).2.1
      pure (some true)
     else pure (some true)) R E s:=by
 refine wA (wpAny_storeSet_of r rfl ?_ (uz d.few))
 have j:=qa0 (es':=c) (t':=t2) r
 have i:=Heap.SameBut.update s.heap a (Obj.putSet c t2)
 split
 .have m:=relayAll_perm t2 c (SetTable.grown c.size)
  have l:=relayAll_fits t2 c (SetTable.grown c.size)
  obtain⟨o,p⟩:=qbT (t:=t2) (es:=c) (n:=SetTable.grown c.size)
  generalize relayAll t2 c (SetTable.grown c.size)=Rl at m l o p ⊢
  obtain⟨v,t3,q⟩:=Rl
  dsimp only at m l o p ⊢
  have d2:=d.perm m l p o
  refine wA (u _ _ _ ?_)
  refine wA (wpAny_storeSet_of j rfl ?_ (uz d2.few))
  exact wC (h _ (i.trans (Heap.SameBut.update _ a _)) ⟨_,_,_,qa0 j,d2⟩)
 .exact wC (h _ i ⟨_,_,_,j,d⟩)
theorem qhM{a:Addr}{led:Bool}{ks:List Int}{k:Int}{tk:Tok}{Q:Bool->Shared->Prop}(M:SetL s.heap a led ks)(J:ks.length+1<scanBound)(h:∀h',Heap.SameBut a s.heap h'->SetL h' a led (step_dedup ks k)->∀b,Q b {s with heap:=h' }):
  wpAny (model prog w) A (setAddHashed a (.int k tk) (hashInt k)) Q E s:=by
 obtain⟨es,ep,t,r,d⟩:=M
 have u:ElemsOf (intKind prog w) es.toList:=d.elems
 have hd:(setO es ep t).data=.set es ep t:=rfl
 have v:=intKind_is prog w k tk
 unfold setAddHashed setAddHashedIn
 refine wu (wA (vO r hd d.fits ?_))
 dsimp only
 rw[byScan_of (knd:=intKind prog w) rfl d.few u]
 simp only[↓reduceIte]
 unfold setAddByScan
 refine wA ?_
 refine wA (vd ?_)
 refine wA (wpAny_setScan_of (knd:=intKind prog w) v r hd d.fits u ?_)
 have hm:=qaj (prog:=prog) (w:=w) d k
 cases hr':List.findIdx? (λe=>(intKind prog w).is k e.2) es.toList with
 |some j =>
  dsimp only
  obtain⟨N,B,_⟩:=List.findIdx?_eq_some_iff_getElem.mp hr'
  have C:k∈ks:=hm.mp ⟨es.toList[j],u8 N,B⟩
  refine wC (wC ?_)
  have e:s={s with heap:=s.heap}:=by cases s;rfl
  have F:step_dedup ks k=ks:=by unfold step_dedup;rw[wM (vW.mpr ⟨k,C,by simp⟩)]
  have:=h s.heap (Heap.SameBut.refl a s.heap) (by rw[F];exact⟨es,ep,t,r,d⟩) false
  rw[e];exact this
 |none =>
  dsimp only
  have C:k∉ks:=λq=>by
   obtain⟨e,O,P⟩:=hm.mpr q
   have:=List.findIdx?_eq_none_iff.mp hr' e O
   rw[P]at this;exact Bool.noConfusion this
  have F:step_dedup ks k=ks++[k]:=by
   unfold step_dedup
   rw[wL]
   intro q
   obtain⟨x,hx,H⟩:=vW.mp q
   have:x=k:=by simpa using H
   exact C (this ▸ hx)
  have I:∀(b:Bool) {i:Shared} {Q':Unit->Shared->Prop},Q' () i->wpAny (model prog w) A (match b with|true=>rule "set.scan.the-table-gave-way" |false=>pure ()) Q' E i :=
   λb i Q' l=>by cases b <;> first|exact wC l|exact vd l
  have c:=layNew_perm t es (hashInt k) (.int k tk)
  have f:=layNew_fits t es (hashInt k) (.int k tk)
  obtain⟨y,z⟩:=qaZ (es:=es) (h:=hashInt k) (x:=.int k tk) d.good
  generalize layNew t es (hashInt k) (.int k tk)=L at c f y z ⊢
  obtain⟨R,t1,p,K⟩:=L
  dsimp only at c f y z ⊢
  refine wA (I _ ?_)
  have m:∀h',Heap.SameBut a s.heap h'->SetL h' a led (ks++[k])->Q true {s with heap:=h' }:=λh' H S=>h h' H (by rw[F];exact S) true
  split
  .refine wA ?_
   rw[hashByValue_scannable 8 (show(Value.int k tk).scannable=true from rfl)]
   refine wC ?_
   refine qa1 ?_ r (d.add c J f z y) ?_
   .intro b i Q' l;cases b <;> first|exact wC l|exact vd l
   .intro h' n o;dsimp only;exact wC (m h' n o)
  .refine wA (wC ?_)
   simp only[↓reduceIte]
   refine qa1 ?_ r (d.add c J f z y) ?_
   .intro b i Q' l;cases b <;> first|exact wC l|exact vd l
   .intro h' n o;dsimp only;exact wC (m h' n o)
end
section
variable{prog:Program}{w:World}{A:Around}{R:Result->Shared->Prop}{I:Addr}{fp wr:List Addr}{G:Array GenState->Array GenState->Prop}{n:Nat}{P:Nat->Value->Prop}{St:Nat->Shared->Prop}
theorem loop(W:WalksS prog w A.in1 I fp wr G n P St)(S:Addr)(j:S∉fp)(led:Bool)(val:Nat->Int)(l:∀i v,P i v->∃t,v=.int (val i) t)(f:n+1<scanBound):
  ∀(k i:Nat) (s:Shared),n-i=k->i<=n->St i s->SetL s.heap S led (firstMet val i) ->
   (∀s',Moved (S::wr) G s s'->SetL s'.heap S led (firstMet val n)->R (.ok (.ret .none)) s') ->
   codeAny (model prog w) A (.builtin "set.update.loop" ⟨[.ref S,.ref I],[]⟩) R s:=by
 have m:S∉wr:=λh=>j (W.sub _ h)
 have a:∀b∈wr,b∈S::wr:=λb f=>wJ _ f
 intro k
 induction k with
 |zero =>
  intro i s K hi c y z
  have B:i=n:=by omega
  subst B
  refine wz F.entry_set_update_loop ?_
  rw[wn xJ _]
  show wpAny _ A.in1 (pyNext (.ref I) >>= _) _ _ s
  refine wA (W.done s _ _ c λs' hm=>?_)
  show wpAny _ A.in1 (ret Value.none) _ _ s'
  exact wC (z s' (hm.mono a) (y.at λo e=>hm.heap S o m e))
 |succ k L =>
  intro i s K hi c y z
  have p:i<n:=by omega
  refine wz F.entry_set_update_loop ?_
  rw[wn xJ _]
  show wpAny _ A.in1 (pyNext (.ref I) >>= _) _ _ s
  refine wA (W.item i s _ _ p c λv s' M q hm=>?_)
  obtain⟨t,rfl⟩:=l i v M
  have C:SetL s'.heap S led (firstMet val i):=y.at λo e=>hm.heap S o m e
  show wpAny _ A.in1 (holding [Value.int (val i) t] (setAdd S (.int (val i) t)) >>= _) _ _ s'
  refine wA (wu ?_)
  unfold setAdd
  refine wu ?_
  refine wA ((intKind prog w).pyHash (k:=val i) (intKind_is _ _ _ _) ?_)
  have d:(firstMet val i).length+1<scanBound:=by have:=firstMet_length_le val i;omega
  refine qhM (s:={s' with toks:=s'.toks+1}) C d λh' r E _=>?_
  have H:SetL h' S led (firstMet val (i+1)):=by rw[firstMet_succ];exact E
  refine wC ⟨vD xJ _,L (i+1) _ (by omega) p (W.frame _ s' _ _ q (vU _) λb f o e=>?_) H λJ u x=>?_⟩
  .rw [r.2 b (λh:b=S=>j (by rw[<-h];exact f))];exact e
  .refine z J (Moved.trans W.gtrans ((hm.mono a).then_heap (vU _) λb o f e=>?_) u) x
   rw[r.2 b (λh:b=S=>f (by rw[h];exact wI))];exact e
end
theorem qa2:isSubtype (.type "tuple") (.type "set")=pure false:=by rw[ur];kernel_rfl
theorem yA:isSubtype (.type "tuple") (.type "frozenset")=pure false:=by rw[ur];kernel_rfl
section
variable{prog:Program}{w:World}{A:Around}{E:Value->Shared->Prop}{s:Shared}
noncomputable abbrev ledW(w:World):Bool:=!w.params.followText "set-order"
theorem qec(a:Value){Q₁:Value->Shared->Prop}(h:Q₁ (.ref s.heap.objs.size) {s with heap:=s.heap.push (setO #[] 0 (.fresh 0 0 (ledW w)))}):
  codeAny (model prog w) A (.call (.builtin "set.__new__") ⟨[.type "set",a],[]⟩) (wants Q₁ E) s:=by
 refine codeAny_of_tree ?_
 show wpAny _ A.in1 (do checkBuiltinCall "set.__new__" ⟨[.type "set",a],[]⟩;again (.builtin "set.__new__" ⟨[.type "set",a],[]⟩)) _ _ s
 refine wA (uX (F.newCall_set_1 a) (wC ⟨vD F.plain_set_new _,wz F.entry_set_new ?_⟩))
 rw[wn F.plain_set_new _]
 unfold Builtin.«set.__new__» Builtin.Frozenset.newClass
 have b:=sub_set_self
 obtain⟨c,g,d,tk,os⟩:=s
 dsimp only
 wp_walk
 refine u5 (wC ?_)
 dsimp only
 simp only[newObj]
 refine wA (wpAny_alloc (wC ?_))
 exact wC h
theorem qed(led:Bool):SetD led [] #[] (.fresh 0 0 led) where
 hash:=λe a=>by simp at a
 nums:=⟨[],.nil,.refl _⟩
 few:=by decide
 fits:=rfl
 led:=rfl
 good:=λ_=>⟨by show([]:List Nat).Pairwise _;exact .nil,rfl⟩
set_option maxHeartbeats 3200000 in
theorem set_tup{l:Addr}{items:Array Value}{ns:List Int}{Q:Value->Shared->Prop}(hh:A.handled=none)(hl:s.heap.IsTuple l items)(hi:IntsAre items.toList ns)(J:items.size+1<scanBound)(h:∀(h':Heap) (tk:Nat),SetL h' s.heap.objs.size (ledW w) (firstMet (λi=>ns.getD i 0) items.size) ->
   (∀b o,b<s.heap.objs.size->s.heap.get? b=some o->h'.get? b=some o)->Q (.ref s.heap.objs.size) {s with heap:=h',toks:=tk}):
  wpAny (model prog w) A (call (.type "set") [.ref l]) Q E s:=by
 obtain⟨c,tl,Z⟩:=uQ.mro
 have K:=uQ.made
 have a0:=uQ.sub
 refine wpAny_call (codeAny_of_tree ?_)
 show wpAny _ _ (callAny (.type "set") _) _ _ _
 refine wC ⟨Code.quiet_builtin _ (by decide +kernel),wz F.entry_type_call ?_⟩
 rw[Around.under_plain (weight_type_call_type "set" [.ref l] []) rfl]
 have h1:=uQ.notType
 have h2:=uQ.canCreate
 have a4:=F.typeCall_set_1 (.ref l)
 repeat (any_goals (first|assumption|wp_step))
 refine xR (qec (.ref l) (E:=E) (Q₁:=λobj f=>obj=.ref s.heap.objs.size/\f={s with heap:=s.heap.push (setO #[] 0 (.fresh 0 0 (ledW w)))}) ⟨rfl,rfl⟩) λr f L=>?_
 cases r with
 |error e=>exact L
 |ok fl =>
  cases fl with
  |ret obj =>
   obtain⟨rfl,rfl⟩:=L
   have hS:(s.heap.push (setO #[] 0 (.fresh 0 0 (ledW w)))).get? s.heap.objs.size=some (setO #[] 0 (.fresh 0 0 (ledW w))):=wE _ rfl
   have hT:Shared.TypeIs {s with heap:=s.heap.push (setO #[] 0 (.fresh 0 0 (ledW w)))} (.ref s.heap.objs.size) "set":=⟨_,hS,rfl⟩
   have a5:=uQ.init.lookup
   have a6:=uQ.init.bind (.ref s.heap.objs.size)
   repeat (any_goals (first|assumption|wp_step))
   refine xR (codeAny_call_builtin (R:=wants (λr j=>r=.none/\∃h' tk,j={s with heap:=h',toks:=tk} /\
     SetL h' s.heap.objs.size (ledW w) (firstMet (λi=>ns.getD i 0) items.size) /\
     (∀b o,b<s.heap.objs.size->s.heap.get? b=some o->h'.get? b=some o)) E) uQ.init.plain F.entry_set_init (check_set_init_1 hT ?_)) λq j a=>?_
   .obtain ⟨ol,u,x,nl,y⟩:=hl
    obtain⟨a1,m,M,d⟩:=ol
    simp only at x y
    subst x;subst y
    have z:(s.heap.push (setO #[] 0 (.fresh 0 0 (ledW w)))).get? l=some {cls:=.type "tuple",dict:=m,data:=.seq items nl,slots:=d}:=wB _ u
    have a2:=qa2
    have a3:=yA
    have a7:(Value.type "tuple" == Value.type "dict")=false:=by decide
    have B:(s.heap.push (setO #[] 0 (.fresh 0 0 (ledW w)))).IsTuple l items:=⟨_,z,rfl,nl,rfl⟩
    unfold Builtin.«set.__init__» noKeywords Builtin.Frozenset.updateFrom
    generalize N:pyIter=PI
    wp_walk
    subst N
    refine ul B ?_
    refine wA (xb ?_)
    have C:l<s.heap.objs.size:=wG u
    have O:A.in1.in1.in1.handled=none:=by simp[hh]
    have H:l≠(s.heap.push (setO #[] 0 (.fresh 0 0 (ledW w)))).objs.size:=by
     rw[w9];exact wS (w1 C)
    have P:s.heap.objs.size∉[(s.heap.push (setO #[] 0 (.fresh 0 0 (ledW w)))).objs.size,l]:=by
     rw[w9];simp only[wN,wV,vV,xG,not_or]
     exact⟨wS (uM _),vR C⟩
    have I:∀(i:Nat) (v:Value),items[i]?=some v->∃t,v=.int ((λi=>ns.getD i 0) i) t:=λi v hv =>
     IntsAre.int_at hi i v (by rw[wv];exact hv)
    refine loop ((Walks.tuple O _ l H items).toS) s.heap.objs.size
     P (ledW w) (λi=>ns.getD i 0) I J (items.size-0) 0 _ (by omega) (vF _)
     ⟨⟨_,wE _ rfl,rfl,rfl⟩,(B.push _)⟩ ?hS0 ?hR
    case hS0 =>
     exact⟨_,_,_,wB _ hS,qed _⟩
    case hR =>
     intro s' hm n
     obtain⟨h',g',d',S,U⟩:=s'
     have eg:g'=s.gens:=hm.gens
     have ed:d'=s.drawn:=hm.drawn
     have eo:U=s.os:=hm.os
     subst eg;subst ed;subst eo
     show wpAny _ _ _ _ _ _
     refine wC ?_
     show wpAny _ _ (ret Value.none) _ _ _
     refine wC ⟨rfl,h',S,rfl,n,λb o J e=>?_⟩
     have W:b≠s.heap.objs.size:=wS J
     have X:b≠(s.heap.push (setO #[] 0 (.fresh 0 0 (ledW w)))).objs.size:=by
      rw[w9];exact wS (w1 J)
     exact hm.heap b o (by simp only[wN,wV,vV,xG,not_or];exact⟨W,X⟩) (wB _ (wB _ e))
   .cases q with
    |error e=>exact a
    |ok p =>
     cases p with
     |ret r =>
      obtain⟨rfl,h',tk,rfl,n,Y⟩:=a
      repeat (any_goals (first|assumption|wp_step))
      exact h _ _ n Y
     |_=>exact a.elim
  |_=>exact L.elim
end
end SN
end R
section
set_option maxHeartbeats 400000
namespace R
open PySem PySem.Spec L2
open PyProof.Rows hiding St
namespace SN
theorem qbU:entryFor table "set.__iter__"=some Builtin.«frozenset.__iter__» :=
 entryFor_alias (id':="frozenset.__iter__") (by kernel_rfl) rfl (by decide +kernel) (by kernel_rfl)
theorem qC:Slot "set_iterator" "__next__" "set_iterator.__next__" :=
 .of (owner:="set_iterator") (n:="__next__") (by rw[typeLookup_type,builtinLookup_eq_fast];kernel_rfl) (by decide +kernel) (by decide +kernel) (by decide +kernel)
  (by first|exact .inl (by decide +kernel)|exact .inr (by decide +kernel)) (by rw[ur];kernel_rfl)
theorem zI:entryFor table "set_iterator.__next__"=some Builtin.«set_iterator.__next__»:=entryFor_of_tree (by kernel_rfl)
theorem yh(a:Value):argsOk "set_iterator.__next__" ⟨[a],[]⟩:=by unfold argsOk;kernel_rfl
theorem jm{a:Type}{l:List a}{i:Nat}(h:i<l.length):(l[i]::l.eraseIdx i).Perm l:=by
 rw[List.eraseIdx_eq_take_drop_succ]
 have e:l=l.take i++l[i]::l.drop (i+1):=by rw[<-uL h,List.take_append_drop]
 exact List.perm_middle.symm.trans (by rw[<-e])
theorem qco{c:Type}(a:Nat->Nat):∀(f k:Nat) (left:List c) (b:Array c),left.length<=f->(pickOrder.go a f k left b).toList.Perm (b.toList++left)
 |0,k,left,b,h=>by
  have:left=[]:=u9 (by omega)
  subst this
  unfold pickOrder.go;simp
 |f+1,k,left,b,h=>by
  unfold pickOrder.go
  by_cases d:left=[]
  .subst d;simp
  .have e:0<left.length:=List.length_pos_iff.mpr d
   have hi:a k % left.length<left.length:=Nat.mod_lt _ e
   rw[wD hi]
   dsimp only
   refine(qco a f _ _ _ (by rw[List.length_eraseIdx_of_lt hi];omega)).trans ?_
   rw[Array.toList_push,uE]
   exact List.Perm.append_left _ (jm hi)
theorem yT{b:Type}(a:Nat->Nat)(xs:Array b):(pickOrder a xs).toList.Perm xs.toList:=by
 unfold pickOrder
 have:=qco a xs.size 0 xs.toList #[] (by simp)
 simpa using this
section
variable{prog:Program}{w:World}{A:Around}{E:Value->Shared->Prop}{s:Shared}
theorem qak{src:Source}{n:Nat}{Q:Nat->Shared->Prop}(hn:n≠0)(h:∀i,i<n->∀d',Q i {s with drawn:=d' }):wpAny (model prog w) A (choose src n) Q E s :=
 λ_ _ _=>by unfold choose;rw[Sem.wp_choose];exact⟨hn,h _ (Nat.mod_lt _ (Nat.pos_of_ne_zero hn)) _⟩
theorem qcp{b:Type}:∀(n:Nat) (xs:List b) (s:Shared) {Q:List b->Shared->Prop},(n=xs.length)->(∀ys d',ys.Perm xs->Q ys {s with drawn:=d' })->wpAny (model prog w) A (drawOrder n xs) Q E s
 |0,xs,s,Q,hn,h=>by
  have:xs=[]:=u9 hn.symm
  subst this
  unfold drawOrder
  have e:s={s with drawn:=s.drawn}:=by cases s;rfl
  rw[e];exact wC (h [] _ (.refl _))
 |n+1,[],s,Q,hn,h=>by simp at hn
 |n+1,x::r,s,Q,hn,h=>by
  unfold drawOrder
  refine wA (qak (by simp) λi hi d'=>?_)
  rw[wD hi]
  dsimp only
  refine wA (qcp n _ _ (by rw[List.length_eraseIdx_of_lt hi];simp at hn ⊢;exact hn) λys a c=>wC ?_)
  exact h _ a ((c.cons _).trans (jm hi))
theorem za{Q:Bool->Shared->Prop}(h:Q (w.params.followText "set-order") s):wpAny (model prog w) A setsByText Q E s:=by
 unfold setsByText
 exact wA (u5 (wC h))
def ItO(h:Heap)(I a:Addr)(n ep:Nat)(first:Value)(i:Nat):Prop:=∃o,h.get? I=some o/\o.cls=.type "set_iterator"/\o.data=.fields #[first,.int i 0,.ref a,.int n 0,.int ep 0]
theorem ItO.at{h h':Heap}{I a:Addr}{n ep:Nat}{first:Value}{i:Nat}(x:ItO h I a n ep first i)(e:∀o,h.get? I=some o->h'.get? I=some o):ItO h' I a n ep first i:=let ⟨o,b,r⟩:=x;⟨o,e o b,r⟩
theorem ItO.typeIs{s:Shared}{I a:Addr}{n ep:Nat}{first:Value}{i:Nat}(x:ItO s.heap I a n ep first i):s.TypeIs (.ref I) "set_iterator":=let ⟨o,b,c,_⟩:=x;⟨o,b,c⟩
theorem ItO.set{h:Heap}{I a:Addr}{n ep:Nat}{first:Value}{i j:Nat}(x:ItO h I a n ep first i):ItO (h.update I (Obj.mapFields (·.setIfInBounds 1 (rawInt j)))) I a n ep first j:=by
 obtain⟨o,b,c,hd⟩:=x
 exact⟨_,wg _ b (vy (vC hd _)),(xC ..).trans c,by rw[vC hd];simp[rawInt]⟩
theorem ItO.first{h:Heap}{I a:Addr}{n ep:Nat}{first:Value}{i j:Nat}(x:ItO h I a n ep first i):ItO (h.update I (Obj.mapFields (·.setIfInBounds 0 (rawInt j)))) I a n ep (.int j 0) i:=by
 obtain⟨o,b,c,hd⟩:=x
 exact⟨_,wg _ b (vy (vC hd _)),(xC ..).trans c,by rw[vC hd];simp[rawInt]⟩
theorem qa3{I a:Addr}{es:Array (Int×Value)}{t:SetTable}{ep slot slot' i:Nat}{x:Value}{Q:Option Value->Shared->Prop}(c:ItO s.heap I a es.size ep (.int slot 0) i)(ha:s.heap.get? a=some (setO es ep t))(p:t.fits es.size=true)(hn:∀(q:Around) (r:Value->Shared->Prop) (Q':Option (Value×Nat)->Shared->Prop),Q' (some (x,slot')) s->wpAny (model prog w) q (setNext a slot i ep) Q' r s)(u:∀h',ItO h' I a es.size ep (.int slot' 0) (i+1)->(∀b o,b≠I->s.heap.get? b=some o->h'.get? b=some o)->Q (some x) {s with heap:=h' }):wpAny (model prog w) A (pyNext (.ref I)) Q E s:=by
 have h:=c.typeIs
 obtain⟨o,l,z,hd⟩:=id c
 unfold pyNext
 refine wA (vX (w5 (name:=Str.ofString "__next__") h qC (w6 qC h zI ?_ (yh _))))
 unfold Builtin.«set_iterator.__next__»
 refine wA (wC (wA (vp l hd ?_)))
 dsimp only
 refine wA (uN ha rfl p ?_)
 rw[wL (by simp)]
 simp only[v7]
 refine wA (hn _ _ _ ?_)
 dsimp only
 refine wA (v5 l hd (by simp) ?_)
 have m:=c.first (j:=slot')
 obtain⟨B,d,v,f⟩:=id m
 refine wA (v5 d f (by simp) ?_)
 have y:=m.set (j:=i+1)
 refine wC ⟨_,rfl,wC (u _ y λb o n e=>?_)⟩
 exact(wQ _ _ (Ne.symm n)).trans ((wQ _ _ (Ne.symm n)).trans e)
theorem yB{I a:Addr}{es:Array (Int×Value)}{t:SetTable}{ep slot i:Nat}{Q:Option Value->Shared->Prop}(h:A.handled=none)(c:ItO s.heap I a es.size ep (.int slot 0) i)(ha:s.heap.get? a=some (setO es ep t))(j:t.fits es.size=true)(hn:∀(l:Around) (n:Value->Shared->Prop) (Q':Option (Value×Nat)->Shared->Prop),Q' none s->wpAny (model prog w) l (setNext a slot i ep) Q' n s)(p:∀h',(∀b o,b≠I->s.heap.get? b=some o->h'.get? b=some o)->Q none {s with heap:=h' }):wpAny (model prog w) A (pyNext (.ref I)) Q E s:=by
 have d:=c.typeIs
 obtain⟨o,f,r,hd⟩:=id c
 unfold pyNext
 refine wA (vX (w5 (name:=Str.ofString "__next__") d qC (w6 qC d zI ?_ (yh _))))
 unfold Builtin.«set_iterator.__next__»
 refine wA (wC (wA (vp f hd ?_)))
 dsimp only
 refine wA (uN ha rfl j ?_)
 rw[wL (by simp)]
 simp only[v7]
 refine wA (hn _ _ _ ?_)
 dsimp only
 refine wA (m:=setField (.ref I) 2 .none) (v5 f hd (by simp) (?_:wpAny _ _ (newExc (.type "StopIteration") [] >>= _) _ _ _))
 refine wA ?_
 unfold newExc newTuple
 refine wA (wO (wA (uX (t:=firstArgMember _ _) (a:=Value.none) (by first|rfl|(simp only[firstArgMember];rfl)) (wO ?_ (by size_fits)))) (by size_fits))
 unfold raiseNew
 refine wA (xF ?_)
 rw[show A.in1.handled=none from h]
 refine wA (wC (wpAny_throw ?_))
 refine wA (vT (T:="StopIteration") (b:=true) ⟨_,wE _ rfl,rfl⟩ ut ?_)
 exact wC (p _ λb o q e=>(((Heap.SameBut.update ..).extBut.push _).push _) b o q e)
theorem qf9{I a T:Addr}{es:Array (Int×Value)}{t:SetTable}{ep i p:Nat}{pl:List Nat}{x:Value}{hx:Int}{Q:Option Value->Shared->Prop}(c:ItO s.heap I a es.size ep (.ref T) i)(ha:s.heap.get? a=some (setO es ep t))(m:t.fits es.size=true)(d:s.heap.IsTuple T (pl.map λ(k:Nat)=>rawInt k).toArray)(r:pl[i]?=some p)(f:es[p]?=some (hx,x))(u:∀h',ItO h' I a es.size ep (.ref T) (i+1)->(∀b o,b≠I->s.heap.get? b=some o->h'.get? b=some o)->Q (some x) {s with heap:=h' }):wpAny (model prog w) A (pyNext (.ref I)) Q E s:=by
 have n:=c.typeIs
 obtain⟨o,q,z,hd⟩:=id c
 obtain⟨B,h,_,C,l⟩:=d
 unfold pyNext
 refine wA (vX (w5 (name:=Str.ofString "__next__") n qC (w6 qC n zI ?_ (yh _))))
 unfold Builtin.«set_iterator.__next__»
 refine wA (wC (wA (vp q hd ?_)))
 dsimp only
 refine wA (uN ha rfl m ?_)
 rw[wL (by simp)]
 refine wA (wh h l ?_)
 have e1:(pl.map λ(k:Nat)=>Value.int (k:Int) 0).toArray[i]?=some (Value.int p 0):=by simp[r]
 simp only[v7,rawInt,e1]
 unfold setNextDrawn
 refine wA (wA (vO ha rfl m ?_))
 dsimp only
 rw[wL (by simp)]
 rw[f]
 refine wC ?_
 refine wA (v5 q hd (by simp) ?_)
 have v:=c.set (j:=i+1)
 refine wC ⟨_,rfl,wC (u _ v λb o y e=>?_)⟩
 exact(wQ _ _ (Ne.symm y)).trans e
theorem qa4{I a T:Addr}{es:Array (Int×Value)}{t:SetTable}{ep i:Nat}{pl:List Nat}{Q:Option Value->Shared->Prop}(r:A.handled=none)(c:ItO s.heap I a es.size ep (.ref T) i)(ha:s.heap.get? a=some (setO es ep t))(u:t.fits es.size=true)(d:s.heap.IsTuple T (pl.map λ(k:Nat)=>rawInt k).toArray)(v:pl[i]?=none)(x:∀h',(∀b o,b≠I->s.heap.get? b=some o->h'.get? b=some o)->Q none {s with heap:=h' }):wpAny (model prog w) A (pyNext (.ref I)) Q E s:=by
 have p:=c.typeIs
 obtain⟨o,f,y,hd⟩:=id c
 obtain⟨z,h,_,B,j⟩:=d
 unfold pyNext
 refine wA (vX (w5 (name:=Str.ofString "__next__") p qC (w6 qC p zI ?_ (yh _))))
 unfold Builtin.«set_iterator.__next__»
 refine wA (wC (wA (vp f hd ?_)))
 dsimp only
 refine wA (uN ha rfl u ?_)
 rw[wL (by simp)]
 refine wA (wh h j ?_)
 have e1:(pl.map λ(k:Nat)=>Value.int (k:Int) 0).toArray[i]?=none:=by simpa using v
 simp only[v7,rawInt,e1]
 refine wA (v5 f hd (by simp) ?_)
 have l:=wg (Obj.mapFields (·.setIfInBounds 0 (Value.int 0 0))) f (vy (vC hd _))
 have n:=vC hd (·.setIfInBounds 0 (Value.int 0 0))
 refine wA (m:=setField (.ref I) 2 .none) (v5 l n (by simp) (?_:wpAny _ _ (newExc (.type "StopIteration") [] >>= _) _ _ _))
 refine wA ?_
 unfold newExc newTuple
 refine wA (wO (wA (uX (t:=firstArgMember _ _) (a:=Value.none) (by first|rfl|(simp only[firstArgMember];rfl)) (wO ?_ (by size_fits)))) (by size_fits))
 unfold raiseNew
 refine wA (xF ?_)
 rw[show A.in1.handled=none from r]
 refine wA (wC (wpAny_throw ?_))
 refine wA (vT (T:="StopIteration") (b:=true) ⟨_,wE _ rfl,rfl⟩ ut ?_)
 exact wC (x _ λb o q e=>wB _ (wB _ ((wQ _ _ (Ne.symm q)).trans ((wQ _ _ (Ne.symm q)).trans e))))
end
end SN
end R
end
section
set_option maxHeartbeats 400000
namespace R
open PySem PySem.Spec L2
open PyProof.Rows hiding St
namespace SN
section
variable{prog:Program}{w:World}{A:Around}{E:Value->Shared->Prop}{s:Shared}
theorem qcq:Slot "set_iterator" "__iter__" "set_iterator.__iter__" :=
 .of (owner:="set_iterator") (n:="__iter__") (by rw[typeLookup_type,builtinLookup_eq_fast];kernel_rfl) (by decide +kernel) (by decide +kernel) (by decide +kernel)
  (by first|exact .inl (by decide +kernel)|exact .inr (by decide +kernel)) (by rw[ur];kernel_rfl)
theorem qee:entryFor table "set_iterator.__iter__"=some Builtin.«dict_keyiterator.__iter__»:=entryFor_alias (id':="dict_keyiterator.__iter__") (by kernel_rfl) rfl (by decide +kernel) (by kernel_rfl)
theorem qga(a:Value):argsOk "set_iterator.__iter__" ⟨[a],[]⟩:=by unfold argsOk;kernel_rfl
theorem qal{I a:Addr}{n ep i:Nat}{first:Value}{Q:Value->Shared->Prop}(b:ItO s.heap I a n ep first i)(h:Q (.ref I) s):wpAny (model prog w) A (pyIter (.ref I)) Q E s:=by
 refine wpAny_pyIter_slot b.typeIs qcq (w6 qcq b.typeIs qee ?_ (qga _))
 show wpAny _ _ (ret (.ref I)) _ _ s
 exact wC ⟨_,rfl,"set_iterator",_,b.typeIs,qC.lookup,h⟩
theorem qef(r:A.handled=none)(I a:Addr)(p:a≠I){es:Array (Int×Value)}{ep:Nat}{t:SetTable}(l:t.fits es.size=true)(d:w.params.followText "set-order"=true):
  Walks prog w A I [I,a] [I] es.size (λi v=>((pickOrder (w.params.setOrder a ep) es).toList.map (·.2))[i]?=some v) (λi h=>(∃slot:Nat,ItO h I a es.size ep (.int slot 0) i)/\h.get? a=some (setO es ep t)) where
 sub:=λb d=>by simp at d;simp[d]
 frame:=λ_ _ _ st f=>⟨let ⟨k,x⟩:=st.1;⟨k,x.at λo e=>f I (by simp) o e⟩,f a (by simp) _ st.2⟩
 item:=λi s Q E hi st m=>by
  obtain⟨⟨slot,c⟩,ha⟩:=st
  have u:(pickOrder (w.params.setOrder a ep) es).size=es.size:=by
   have:=(yT (w.params.setOrder a ep) es).length_eq
   simpa using this
  have hx:(pickOrder (w.params.setOrder a ep) es)[i]?=some (pickOrder (w.params.setOrder a ep) es)[i]:=wa (by omega)
  refine qa3 (slot':=slot) (x:=((pickOrder (w.params.setOrder a ep) es)[i]'(by omega)).2) c ha l (λy B Q' q=>?_) λh' n f=>?_
  .unfold setNext
   refine wA (vO ha rfl l ?_)
   dsimp only
   refine wA (za ?_)
   rw[d]
   simp only[ws,xA,wj,vh]
   unfold setWalk
   refine wA (wA (vO ha rfl l ?_))
   dsimp only
   refine wA (za ?_)
   rw[d]
   simp only[ws]
   refine wA (u5 (wC ?_))
   refine wC ?_
   show Q' (((pickOrder (w.params.setOrder a ep) es)[i]?).map λe=>(e.2,slot)) _
   rw[hx];exact q
  .refine m _ h' s.toks ?_ ⟨⟨slot,n⟩,f a _ p ha⟩ λb o j e=>f b o (λz=>j (by simp[z])) e
   rw[wW,wv,hx];rfl
 done:=λs Q E st m=>by
  obtain⟨⟨slot,c⟩,ha⟩:=st
  have u:(pickOrder (w.params.setOrder a ep) es).size=es.size:=by
   have:=(yT (w.params.setOrder a ep) es).length_eq
   simpa using this
  refine yB r c ha l (λy B Q' q=>?_) λh' f=>m h' s.toks λb o j e=>f b o (λz=>j (by simp[z])) e
  unfold setNext
  refine wA (vO ha rfl l ?_)
  dsimp only
  refine wA (za ?_)
  rw[d]
  simp only[ws,xA,wj,vh]
  unfold setWalk
  refine wA (wA (vO ha rfl l ?_))
  dsimp only
  refine wA (za ?_)
  rw[d]
  simp only[ws]
  refine wA (u5 (wC ?_))
  refine wC ?_
  show Q' (((pickOrder (w.params.setOrder a ep) es)[es.size]?).map λe=>(e.2,slot)) _
  rw[vc (by omega)];exact q
 self:=λ_ s Q E st m=>by
  obtain⟨⟨slot,c⟩,_⟩:=st
  exact qal c m
noncomputable def slotAt(t:SetTable)(i:Nat):Nat:=if i=0 then 0 else t.place.getD (i-1) 0+1
theorem jo{t:SetTable}(h:t.place.toList.Pairwise (· < ·)){i:Nat}(hi:i<=t.place.size):SetTable.below t.place (slotAt t i)=i:=by
 obtain⟨b1,e,f⟩:=qaX (slotAt t i) h
 generalize l:SetTable.below t.place (slotAt t i)=b at b1 e f
 have lt:∀x y,x<y->(c:y<t.place.size)->t.place.getD x 0<t.place.getD y 0:=λx y d c=>by
  have:=(uK.mp h) x y (by simp;omega) (by simpa using c) d
  rw[zk (show x<t.place.size by omega),zk c]
  simpa using this
 rcases Nat.lt_trichotomy b i with q|q|q
 .exfalso
  have a:=f b (wF _) (by omega)
  unfold slotAt at a
  rw[wL (by omega),zk (show b<t.place.size by omega),<-zk (j:=0) (show b<t.place.size by omega)]at a
  rcases Nat.lt_or_eq_of_le (show b<=i-1 by omega)with r|r
  .have:=lt b (i-1) r (by omega);omega
  .rw [r]at a;omega
 .exact q
 .exfalso
  have a:=e i q
  rw[zk (show i<t.place.size by omega),<-zk (j:=0) (show i<t.place.size by omega)]at a
  unfold slotAt at a
  by_cases z:i=0
  .rw [wM z]at a;omega
  .rw [wL z]at a
   have:=lt (i-1) i (by omega) (by omega);omega
theorem qeg(J:A.handled=none)(I a:Addr)(y:a≠I){es:Array (Int×Value)}{ep:Nat}{t:SetTable}(d:t.fits es.size=true)(n:w.params.followText "set-order"=false)(C:t.led=true)(F:t.plain=true\/es.size<=1)(H:t.place.toList.Pairwise (· < ·)):
  Walks prog w A I [I,a] [I] es.size (λi v=>(es.toList.map (·.2))[i]?=some v) (λi h=>i<=es.size/\ItO h I a es.size ep (.int (slotAt t i) 0) i/\h.get? a=some (setO es ep t)) where
 sub:=λb n=>by simp at n;simp[n]
 frame:=λ_ _ _ st f=>⟨st.1,st.2.1.at λo e=>f I (by simp) o e,f a (by simp) _ st.2.2⟩
 item:=λi s Q E hi st r=>by
  obtain⟨_,j,ha⟩:=st
  have B:t.place.size=es.size:=by simp[SetTable.fits]at d;exact d.1
  refine qa3 (slot':=slotAt t (i+1)) (x:=es[i].2) j ha d (λK L Q' q=>?_) λh' u f=>?_
  .unfold setNext
   refine wA (vO ha rfl d ?_)
   dsimp only
   refine wA (za ?_)
   rw[n]
   simp only[wj,vh]
   refine uR (λl=>?_) (λ_=>?_)
   .have c:(!t.plain&&decide (es.size>1))=true:=l
    simp only[wP,uH,wy]at c
    rcases F with p|p
    .rw [p]at c;exact absurd c.1 (by decide)
    .omega
   refine wA ?_
   show wpAny _ _ (if(!t.led&&!es.isEmpty)=true then _ else _) _ _ _
   rw[wL (by rw[C];simp)]
   refine wC ?_
   rw[jo H (by omega)]
   have e1:es[i]?=some es[i]:=wa hi
   have M:t.place[i]?=some (t.place[i]'(by omega)):=wa (by omega)
   have N:slotAt t (i+1)=t.place[i]'(by omega)+1:=by
    unfold slotAt;rw[wL (by omega),Nat.add_sub_cancel,zk (by omega)]
   rw[e1,M]
   dsimp only
   rw[N]at q
   exact wC q
  .refine r _ h' s.toks ?_ ⟨hi,u,f a _ y ha⟩ λb o m e=>f b o (λz=>m (by simp[z])) e
   rw[wW,wv,wa hi];rfl
 done:=λs Q E st r=>by
  obtain⟨_,j,ha⟩:=st
  have B:t.place.size=es.size:=by simp[SetTable.fits]at d;exact d.1
  refine yB J j ha d (λK L Q' q=>?_) λh' f=>r h' s.toks λb o m e=>f b o (λz=>m (by simp[z])) e
  unfold setNext
  refine wA (vO ha rfl d ?_)
  dsimp only
  refine wA (za ?_)
  rw[n]
  simp only[wj,vh]
  refine uR (λl=>?_) (λ_=>?_)
  .have c:(!t.plain&&decide (es.size>1))=true:=l
   simp only[wP,uH,wy]at c
   rcases F with p|p
   .rw [p]at c;exact absurd c.1 (by decide)
   .omega
  refine wA ?_
  show wpAny _ _ (if(!t.led&&!es.isEmpty)=true then _ else _) _ _ _
  rw[wL (by rw[C];simp)]
  refine wC ?_
  rw[jo H (by omega),vc (wF _)]
  exact wC q
 self:=λ_ s Q E st r=>qal st.2.1 r
theorem qgb(y:A.handled=none)(I a T:Addr)(n:a≠I)(p:T≠I){es:Array (Int×Value)}{ep:Nat}{t:SetTable}(r:t.fits es.size=true){pl:List Nat}(q:pl.Perm (List.range es.size)):
  Walks prog w A I [I,a,T] [I] es.size (λi v=>(pl.map λk=>(es.getD k (0,.none)).2)[i]?=some v) (λi h=>ItO h I a es.size ep (.ref T) i/\h.get? a=some (setO es ep t)/\h.IsTuple T (pl.map λ(k:Nat)=>rawInt k).toArray) where
 sub:=λb u=>by simp at u;simp[u]
 frame:=λ_ _ _ st c=>⟨st.1.at λo e=>c I (by simp) o e,c a (by simp) _ st.2.1,st.2.2.at λo e=>c T (by simp) o e⟩
 item:=λi s Q E hi st j=>by
  obtain⟨d,ha,m⟩:=st
  have B:pl.length=es.size:=by have:=q.length_eq;simpa using this
  have e1:pl[i]?=some (pl[i]'(by omega)):=wD (by omega)
  have c:pl[i]'(by omega)<es.size:=by
   have:pl[i]'(by omega)∈List.range es.size:=q.mem_iff.mp (u8 _)
   exact wi.mp this
  refine qf9 (x:=(es[pl[i]'(by omega)]'c).2) (hx:=(es[pl[i]'(by omega)]'c).1) d ha r m e1 (wa c) λh' l kp=>?_
  refine j _ h' s.toks ?_ ⟨l,kp a _ n ha,m.at λo e=>kp T o p e⟩ λb o f e=>kp b o (λz=>f (by simp[z])) e
  rw[wW,e1,wb]
  rw[show es.getD (pl[i]'(by omega)) (0,.none)=es[pl[i]'(by omega)]'c by simp[Array.getD,c]]
 done:=λs Q E st j=>by
  obtain⟨d,ha,m⟩:=st
  have B:pl.length=es.size:=by have:=q.length_eq;simpa using this
  exact qa4 y d ha r m (vS (by omega)) λh' c=>j h' s.toks λb o f e=>c b o (λz=>f (by simp[z])) e
 self:=λ_ s Q E st j=>qal st.1 j
theorem qbV{es:Array (Int×Value)}{pl:List Nat}(a:pl.Perm (List.range es.size)):(pl.map λk=>(es.getD k (0,.none)).2).Perm (es.toList.map (·.2)):=by
 refine(a.map _).trans ?_
 have:(List.range es.size).map (λk=>(es.getD k (0,.none)).2)=es.toList.map (·.2):=by
  apply uD
  intro i
  rw[wW,wW,show es.toList[i]?=es[i]? from wv]
  by_cases h:i<es.size
  .rw [List.getElem?_range h,wa h]
   simp[Array.getD,h]
  .rw [vS (by simpa using h),vc (by omega)];rfl
 rw[this]
theorem qa5{t:SetTable}{n:Nat}(g:Good t)(b:t.fits n=true)(d:t.plain=true\/n<=1):t.place.toList.Pairwise (· < ·):=by
 rcases d with p|p
 .exact (g p).1
 .have a:t.place.size=n:=by simp[SetTable.fits]at b;exact b.1
  have c:t.place.toList.length<=1:=by simpa[a]using p
  match h:t.place.toList with
  |[]=>exact .nil
  |[_]=>exact xI _ _
  |_::_::_=>rw[h]at c;simp at c
theorem qeh{a:Addr}{ks:List Int}{es:Array (Int×Value)}{ep:Nat}{t:SetTable}{Q:Value->Shared->Prop}(ha:s.heap.get? a=some (setO es ep t))(d:SetD (ledW w) ks es t)(x:Around)(y:x.handled=none)(B:∀(h':Heap) (d':_) (I:Addr) (fp:List Addr) (St:Nat->Heap->Prop) (ord:List Value),(∀b o,s.heap.get? b=some o->h'.get? b=some o)->s.heap.objs.size<=h'.objs.size->s.heap.objs.size<=I->(∀b∈fp,b=a\/s.heap.objs.size<=b)->ord.Perm (es.toList.map (·.2)) ->
   Walks prog w x I fp [I] ord.length (λi v=>ord[i]?=some v) St->St 0 h'->Q (.ref I) {s with heap:=h',drawn:=d' }):wpAny (model prog w) A (pyIter (.ref a)) Q E s:=by
 have H:s.TypeIs (.ref a) "set":=⟨_,ha,rfl⟩
 have m:=d.fits
 have p:a<s.heap.objs.size:=wG ha
 refine wpAny_pyIter_slot H F.slot_set_iter (w6 F.slot_set_iter H qbU ?_ (F.args_set_iter_1 _))
 unfold Builtin.«frozenset.__iter__» Builtin.Frozenset.slot0 Builtin.Frozenset.sizeOf
 refine wA (wA (wC (wC (wA (wA (uN ha rfl m (wC (wA ?_))))))))
 unfold setDrawn
 refine wA (vO ha rfl m ?_)
 dsimp only
 refine wA (za (wC ?_))
 have C:∀h',({s with heap:=h' }:Shared)={s with heap:=h',drawn:=s.drawn}:=λh'=>by cases s;rfl
 refine uR (λhd=>?_) (λhd=>?_)
 .refine wA (qcp es.size _ _ (by simp) λpl d' f=>?_)
  have u:pl.length=es.size:=by have:=f.length_eq;simpa using this
  have J:es.size<=sizeLine:=uz d.few
  unfold newTuple
  refine wA (wO ?_ (by show(pl.map λ(i:Nat)=>rawInt i).toArray.size<=sizeLine;simpa[u]using J))
  have r:=wB {cls:=.type "tuple",data:=.seq (pl.map λ(i:Nat)=>rawInt i).toArray} ha
  refine wA (wpAny_setEpoch_of r rfl m ?_)
  refine wA (wO ?_)
  have hsz:(s.heap.push {cls:=.type "tuple",data:=.seq (pl.map λ(i:Nat)=>rawInt i).toArray}).objs.size=s.heap.objs.size+1:=by rw[w9]
  have q:=wE (o:={cls:=.type "set_iterator",data:=.fields #[.ref s.heap.objs.size,rawInt 0,.ref a,rawInt es.size,rawInt ep]}) (s.heap.push {cls:=.type "tuple",data:=.seq (pl.map λ(i:Nat)=>rawInt i).toArray}) rfl
  refine wC ⟨_,rfl,"set_iterator",_,⟨_,q,rfl⟩,qC.lookup,?_⟩
  have W:=qgb (prog:=prog) (w:=w) y (s.heap.objs.size+1) a s.heap.objs.size (wS (w1 p)) (wS (uM _)) (ep:=ep) m f
  have c:(pl.map λk=>(es.getD k (0,.none)).2).length=es.size:=by rw[wT,u]
  rw[<-c]at W
  have:=B ((s.heap.push {cls:=.type "tuple",data:=.seq (pl.map λ(i:Nat)=>rawInt i).toArray}).push {cls:=.type "set_iterator",data:=.fields #[.ref s.heap.objs.size,rawInt 0,.ref a,rawInt es.size,rawInt ep]}) d' (s.heap.objs.size+1) _ _ _ (λb o e=>wB _ (wB _ e)) (by rw[w9,w9];exact u6 _ 2) (vU _) (λb j=>by
   rcases wN.mp j with rfl|j
   .exact .inr (vU _)
   .rcases wN.mp j with rfl|j
    .exact .inl rfl
    .rw [wV.mp j];exact .inr (wF _)) (qbV f) W ⟨⟨_,by rw[<-hsz];exact q,rfl,by rw[c];rfl⟩,wB _ r,⟨_,wB _ (wE _ rfl),rfl,0,rfl⟩⟩
  rw[<-hsz]at this
  exact this
 .refine wA (wC ?_)
  refine wA (wpAny_setEpoch_of ha rfl m ?_)
  refine wA (wO ?_)
  have q:=wE (o:={cls:=.type "set_iterator",data:=.fields #[rawInt 0,rawInt 0,.ref a,rawInt es.size,rawInt ep]}) s.heap rfl
  refine wC ⟨_,rfl,"set_iterator",_,⟨_,q,rfl⟩,qC.lookup,?_⟩
  rw[C]
  have n:∀b∈[s.heap.objs.size,a],b=a\/s.heap.objs.size<=b:=λb j=>by
   rcases wN.mp j with rfl|j
   .exact .inr (wF _)
   .exact .inl (wV.mp j)
  cases hft:w.params.followText "set-order" with
  |true =>
   have W:=qef (prog:=prog) (w:=w) y s.heap.objs.size a (wS p) (ep:=ep) m hft
   have f:=(yT (w.params.setOrder a ep) es).map (·.2)
   have c:((pickOrder (w.params.setOrder a ep) es).toList.map (·.2)).length=es.size:=by rw[f.length_eq,wT,we]
   rw[<-c]at W
   exact B (s.heap.push {cls:=.type "set_iterator",data:=.fields #[rawInt 0,rawInt 0,.ref a,rawInt es.size,rawInt ep]}) s.drawn s.heap.objs.size _ _ _ (λb o e=>wB _ e) (by rw[w9];exact vU _) (wF _) n f W ⟨⟨0,_,q,rfl,by rw[c];rfl⟩,wB _ ha⟩
  |false =>
   have u:t.led=true:=by rw[d.led];show(!w.params.followText "set-order")=true;rw[hft];rfl
   have f:t.plain=true\/es.size<=1:=by
    have l:¬((!w.params.followText "set-order"&&(!t.plain&&decide (es.size>1)))=true):=hd
    rw[hft]at l
    cases z:t.plain with
    |true=>exact .inl rfl
    |false =>
     rw[z]at l
     simp at l
     exact .inr l
   have W:=qeg (prog:=prog) (w:=w) y s.heap.objs.size a (wS p) (ep:=ep) m hft u f (qa5 d.good m f)
   have c:(es.toList.map (·.2)).length=es.size:=by rw[wT,we]
   have K:Walks prog w x s.heap.objs.size [s.heap.objs.size,a] [s.heap.objs.size] (es.toList.map (·.2)).length (λi v=>(es.toList.map (·.2))[i]?=some v) (λi h=>i<=es.size/\ItO h s.heap.objs.size a es.size ep (.int (slotAt t i) 0) i/\h.get? a=some (setO es ep t)):=by rw[c];exact W
   exact B (s.heap.push {cls:=.type "set_iterator",data:=.fields #[rawInt 0,rawInt 0,.ref a,rawInt es.size,rawInt ep]}) s.drawn s.heap.objs.size _ _ _ (λb o e=>wB _ e) (by rw[w9];exact vU _) (wF _) n (.refl _) K ⟨vF _,⟨_,q,rfl,rfl⟩,wB _ ha⟩
end
end SN
end R
end
section
set_option maxHeartbeats 400000
namespace R
open PySem PySem.Spec L2
open PyProof.Rows hiding St
namespace SN
section
variable{prog:Program}{w:World}{A:Around}{E:Value->Shared->Prop}{s:Shared}
theorem qei{r:Addr}{Q:Bool->Shared->Prop}(d:s.TypeIs (.ref r) "set")(h:Q false s):wpAny (model prog w) A (Builtin.List.listLengthHint (.ref r)) Q E s:=by
 unfold Builtin.List.listLengthHint
 refine wA (wpAny_specialOf d PySem.F.slot_set_len.lookup ?_)
 generalize c:("set.__len__":String)=id0
 wp_delta
 rw[show splitId id0=some ("set","__len__")from by subst c;decide +kernel]
 subst c
 refine wA (vT (T:="set") (b:=true) d (by rw[ur];kernel_rfl) ?_)
 refine uR (λa=>absurd a (by decide)) (λ_=>?_)
 refine uR (λ_=>?_) (λa=>absurd (by decide +kernel) a)
 refine wA (uk d ?_)
 exact wC h
theorem qbW{a:Addr}{ks:List Int}{es:Array (Int×Value)}{ep:Nat}{t:SetTable}{R:Result->Shared->Prop}(X:A.handled=none)(ha:s.heap.get? a=some (setO es ep t))(d:SetD (ledW w) ks es t)(S:Addr)(y:S≠a)(res:Value)(n:Nat)(P:s.heap.get? S=some {cls:=.type "list",data:=.seq #[] n})(Y:∀h' tk d' c x,(∀b o,b≠S->s.heap.get? b=some o->h'.get? b=some o)->h'.get? S=some {cls:=.type "list",dict:=none,data:=.seq c x,slots:=#[]}->c.toList.Perm (es.toList.map (·.2))->R (.ok (.ret res)) {s with heap:=h',toks:=tk,drawn:=d' }):
  wpAny (model prog w) A.in1 (Builtin.List.listExtendWith (.ref S) (.ref a) res)
   (λfin s'=>match fin with|.done f=>R (.ok f) s'|.again x=>x.quiet=true/\codeAny (model prog w) A x R s') (λe s'=>R (.error e) s') s:=by
 have Q:∀s':Shared,s'.heap.get? a=some (setO es ep t)->s'.TypeIs (.ref a) "set":=λs' h=>⟨_,h,rfl⟩
 have B:=wG P
 unfold Builtin.List.listExtendWith
 refine wA (uk (T:="set") (Q s ha) ?_)
 have q:Builtin.List.listSameRef (.ref S) (.ref a)=false:=by simp[Builtin.List.listSameRef,y]
 have Z:(Value.type "set" == Value.type "list")=false:=by decide
 have h3:(Value.type "set" == Value.type "tuple")=false:=by decide
 simp only[q,Z,h3,Bool.or_false,wj,vh]
 refine wA (qeh ha d A.in1 X λq d1 I fp St ord L a0 C M U W st=>?_)
 have hn:ord.length<=sizeLine:=by rw[U.length_eq,wT,we];exact uz d.few
 have H:S∉fp:=λhm=>(M S hm).elim y (λz=>absurd B (xD.mpr z))
 have a1:S≠I:=λe=>absurd B (xD.mpr (e ▸ C))
 have J:∀(h:Heap) (c₁ tk:Nat),St 0 h->(∀b o,b≠S->q.get? b=some o->h.get? b=some o)->q.objs.size<=h.objs.size ->
   h.get? S=some {cls:=.type "list",data:=.seq #[] c₁}->codeAny (model prog w) A (.builtin "list.extend.loop" ⟨[.ref S,.ref I,res],[]⟩) R {s with heap:=h,toks:=tk,drawn:=d1}:=by
  intro h c₁ tk N hk hsz j
  refine codeAny_extend_loopS W.toS hn S H res ord.length 0 _ #[] c₁ rfl (vF _) N j (ItemsOf.nil _) λs' c x hm O p=>?_
  rw[Moved.eq_with hm]
  have keep:∀b o,b≠S->s.heap.get? b=some o->s'.heap.get? b=some o:=λb o r e=>hm.heap b o (λl=>by
   rcases wN.mp l with e'|l
   .exact r e'
   .exact absurd (wG e) (by rw[wV.mp l];exact xD.mpr C)) (hk b o r (L b o e))
  refine Y s'.heap s'.toks d1 c x keep O ?_
  .have e:c.toList=ord:=by
    apply uD
    intro i
    rw[wv]
    cases z:c[i]? with
    |none =>
     have q:c.size<=i:=by simpa using z
     rw[p.1]at q
     exact(vS q).symm
    |some v=>exact(p.2 i v z).symm
   rw[e];exact U
 have j:=L S _ P
 refine wA (wu (qei (Q _ (L a _ ha)) ?_))
 refine uR (λ_=>?_) (λ_=>wC ⟨vD PySem.F.plain_extend_loop _,J _ n _ st (λb o _ e=>e) (wF _) j⟩)
 refine wA (vd ?_)
 refine wA ?_
 show wpAny _ _ (updateSeq S (·.push .none) >>= λ_=>updateSeq S (·.pop)) _ _ _
 refine wA (vw j rfl ?_)
 have m:=wg (Obj.mapSeq (·.push Value.none)) j rfl
 refine vw (hz:=by seq_fits) m rfl ?_
 have u:=wg (Obj.mapSeq (·.pop)) m rfl
 refine wC ⟨vD PySem.F.plain_extend_loop _,J _ _ _ ?_ (λb o r e=>?_) ?_ u⟩
 .refine W.frame 0 _ _ st λb r o e=>?_
  have K:b≠S:=λh=>H (h ▸ r)
  exact(wQ _ _ (Ne.symm K)).trans ((wQ _ _ (Ne.symm K)).trans e)
 .exact (wQ _ _ (Ne.symm r)).trans ((wQ _ _ (Ne.symm r)).trans e)
 .rw [xO,xO];exact wF _
theorem qej{a:Addr}{ks:List Int}{Q:List Value->Shared->Prop}(n:A.handled=none)(f:SetL s.heap a (ledW w) ks)(p:∀(h':Heap) (tk:Nat) (d':Drawn) (h:List Value) (ns:List Int),s.heap.objs.size<=h'.objs.size->(∀b o,s.heap.get? b=some o->h'.get? b=some o)->IntsAre h ns->ns.Perm ks->Q h {s with heap:=h',toks:=tk,drawn:=d' }):wpAny (model prog w) A (collect (.ref a)) Q E s:=by
 obtain⟨es,ep,t,ha,d⟩:=f
 have hd:s.heap.objs.size≠a:=vR (wG ha)
 have i:∀R:Result->Shared->Prop,(∀(h':Heap) (tk:Nat) (d':Drawn) (c:Array Value) (j:Nat),(∀b o,s.heap.get? b=some o->h'.get? b=some o)->h'.get? s.heap.objs.size=some {cls:=.type "list",dict:=none,data:=.seq c j,slots:=#[]}->c.toList.Perm (es.toList.map (·.2)) ->
   R (.ok (.ret (.ref s.heap.objs.size))) {s with heap:=h',toks:=tk,drawn:=d' })->codeAny (model prog w) A (.builtin "proto.collect" ⟨[.ref a],[]⟩) R s:=by
  intro R q
  refine wz xW ?_
  rw[wn xV]
  refine wA (m:=newList []) (wO (wC ⟨vD uG _,wz F.entry_list_iadd ?_⟩))
  rw[wn uG]
  have r:(s.heap.push {cls:=.type "list",data:=.seq ([]:List Value).toArray}).get? s.heap.objs.size=some {cls:=.type "list",data:=.seq #[] 0}:=wE _ rfl
  exact qbW (R:=R) (s:={s with heap:=s.heap.push {cls:=.type "list",data:=.seq ([]:List Value).toArray}}) n (wB _ ha) d s.heap.objs.size hd (.ref s.heap.objs.size) 0 r (λh' tk d' c j l f hi =>
   q h' tk d' c j (λb o e=>l b o (wS (wG e)) (wB _ e)) f hi)
 unfold collect
 refine wA (xb (i _ λh' tk d' c j l f hi=>?_))
 refine wA (m:=load s.heap.objs.size) (wpAny_load f (wC ?_))
 obtain⟨ns,u,v⟩:=d.nums
 obtain⟨m,x,y⟩:=zH hi u
 exact p h' tk d' _ _ (uq (wG f)) l x (y.trans v)
theorem sorted_set{a:Addr}{ks:List Int}{Q:Value->Shared->Prop}(q:A.in1.handled=none)(r:SetL s.heap a (ledW w) ks)(u:ks.length<64)(h:∀(h':Heap) (tk:Nat) (d':Drawn) (D:Addr) (d:Array Value) (c:Nat) (f:List Int),s.heap.objs.size<=D->(∀b o,s.heap.get? b=some o->h'.get? b=some o)->IntsAre d.toList f->f.Perm ks->f.Pairwise (·<=·)->h'.get? D=some (seqObj "list" d c)->Q (.ref D) {s with heap:=h',toks:=tk,drawn:=d' }):
  wpAny (model prog w) A (call (.builtin "sorted") [.ref a]) Q E s:=by
 refine ux kind_sorted plain_sorted entry_sorted (args_sorted1 _) ?_
 unfold Builtin.«sorted»
 refine wA (m:=checkCount "sorted" 1 1 _) (wC (wA (qej q r λi tk d' vs ns sz n i1 j=>wA (wpAny_newList ?_ (by have:=i1.length;have:=j.length_eq;rw[vH];omega)))))
 have v:vs.length<64:=by have:=i1.length;have:=j.length_eq;omega
 have l:(i.push (seqObj "list" vs.toArray 0)).get? i.objs.size=some (seqObj "list" vs.toArray 0):=wE _ rfl
 show wpAny _ _ _ _ _ {s with heap:=i.push (seqObj "list" vs.toArray 0),toks:=tk,drawn:=d' }
 refine wA (wu (w6 slot_list_sort ⟨_,l,rfl⟩ entry_list_sort (list_sort_tree (s:={s with heap:=i.push (seqObj "list" vs.toArray 0),toks:=tk,drawn:=d' }) l i1 v λd f x y z=>⟨_,rfl,?_⟩) (args_list_sort _)))
 refine wC ⟨_,rfl,?_⟩
 obtain⟨c,at'⟩:∃c,(sortedHeap (i.push (seqObj "list" vs.toArray 0)) i.objs.size vs d).get? i.objs.size=some (seqObj "list" d c):=by
  unfold sortedHeap
  have e1:=uS l λ_=>(#[]:Array Value)
  have B:=wB (seqObj "list" #[] 0) (wB (seqObj "tuple" vs.toArray 0) e1)
  exact⟨_,uS B λ_=>d⟩
 refine h _ tk d' _ d c f sz (λb o e=>?_) x (y.trans j) z at'
 have p:b≠i.objs.size:=wS (wG (n b o e))
 unfold sortedHeap
 exact(wQ _ _ (Ne.symm p)).trans (wB _ (wB _ ((wQ _ _ (Ne.symm p)).trans (wB _ (n b o e)))))
end
end SN
end R
end
namespace R
open PySem PySem.Spec L2
open PyProof.Rows hiding St
namespace DL
open DN
end DL
end R
section
set_option maxHeartbeats 400000
namespace R
open PySem PySem.Spec L2 HT
open PyProof.Rows hiding St
namespace TS
end TS
end R
end
namespace R
open PySem PySem.Spec PyProof.Rows L2
inductive D where
 |non|bl (b:Bool)|int (i:Int)|str (x:Str)
 |tup (l:List D)|lst (l:List D)|emp
 |ref (n:Nat)
mutual
def Den(ι:List Addr)(H:Hp):D->V->Prop
 | .non,v=>v=.non
 | .bl b,v=>v=.bl b
 | .int i,v=>v=.int i
 | .str x,v=>v=.str x
 | .tup ds,v=>∃a xs,v=.ref a/\a∉ι/\H a=some (.tup xs)/\Dens ι H ds xs
 | .lst ds,v=>∃a xs,v=.ref a/\a∉ι/\Rd H a (.lst xs)/\Dens ι H ds xs
 | .emp,v=>∃a,v=.ref a/\a∉ι/\H a=some (.dK [])
 | .ref n,v=>∃a,v=.ref a/\ι[n]?=some a
def Dens(ι:List Addr)(H:Hp):List D->List V->Prop
 |[],xs=>xs=[]
 |d::ds,xs=>∃x r,xs=x::r/\Den ι H d x/\Dens ι H ds r
end
def NT:HO->Prop
 | .tbl _=>False
 |_=>True
structure Stp (ι:List Addr) (H:Hp) (ι':List Addr) (H':Hp):Prop where
 pre:ι <+: ι'
 new:∀a∈ι',a∈ι\/H a=none
 keep:∀a o,H a=some o->a∉ι->NT o->H' a=some o
 there:∀a,H a≠none->H' a≠none
theorem Stp.refl(ι:List Addr)(H:Hp):Stp ι H ι H:=⟨u7 _,λ_ h=>.inl h,λ_ _ h _ _=>h,λ_ h=>h⟩
theorem Stp.notin{ι b:List Addr}{H H':Hp}(s:Stp ι H b H'){a:Addr}{o:HO}(h:H a=some o)(n:a∉ι):a∉b:=λm=>by
 rcases s.new a m with z|z
 .exact n z
 .rw [h]at z;cases z
theorem Stp.trans{ι b c:List Addr}{H d H2:Hp}(s:Stp ι H b d)(t:Stp b d c H2):Stp ι H c H2 where
 pre:=s.pre.trans t.pre
 new:=λa m=>by
  rcases t.new a m with z|z
  .exact s.new a z
  .cases q:H a with
   |none=>exact .inr rfl
   |some o=>exact absurd z (s.there a (by rw[q];simp))
 keep:=λa o h n z=>t.keep a o (s.keep a o h n z) (s.notin h n) z
 there:=λa h=>t.there a (s.there a h)
theorem Stp.get{ι b:List Addr}{H H':Hp}(s:Stp ι H b H'){n:Nat}{a:Addr}(h:ι[n]?=some a):b[n]?=some a:=by
 obtain⟨t,rfl⟩:=s.pre
 rw[wX (wK.mp h).1]
 exact h
theorem Stp.rd{ι b:List Addr}{H H':Hp}(s:Stp ι H b H'){a:Addr}{u:HO}(h:Rd H a u)(n:a∉ι)(z:NT u:=by trivial):Rd H' a u/\a∉b:=by
 rcases h with h|⟨o,h⟩
 .exact ⟨.inl (s.keep _ _ h n z),s.notin h n⟩
 .exact ⟨.inr ⟨o,s.keep _ _ h n trivial⟩,s.notin h n⟩
mutual
theorem Den.mono{ι ι':List Addr}{H H':Hp}(s:Stp ι H ι' H'):∀(d:D) {v:V},Den ι H d v->Den ι' H' d v
 | .non,_,h=>h
 | .bl _,_,h=>h
 | .int _,_,h=>h
 | .str _,_,h=>h
 | .tup ds,_,h=>by
  obtain⟨a,xs,e,n,ha,r⟩:=h
  exact⟨a,xs,e,s.notin ha n,s.keep _ _ ha n trivial,Dens.mono s ds r⟩
 | .lst ds,_,h=>by
  obtain⟨a,xs,e,n,ha,r⟩:=h
  exact⟨a,xs,e,(s.rd ha n).2,(s.rd ha n).1,Dens.mono s ds r⟩
 | .emp,_,h=>by
  obtain⟨a,e,n,ha⟩:=h
  exact⟨a,e,s.notin ha n,s.keep _ _ ha n trivial⟩
 | .ref _,_,h=>by
  obtain⟨a,e,ha⟩:=h
  exact⟨a,e,s.get ha⟩
theorem Dens.mono{ι ι':List Addr}{H H':Hp}(s:Stp ι H ι' H'):∀(ds:List D) {xs:List V},Dens ι H ds xs->Dens ι' H' ds xs
 |[],_,h=>h
 |d::ds,_,h=>by
  obtain⟨x,r,e,h1,h2⟩:=h
  exact⟨x,r,e,Den.mono s d h1,Dens.mono s ds h2⟩
end
theorem Dens.length{ι:List Addr}{H:Hp}:∀{ds:List D} {xs:List V},Dens ι H ds xs->ds.length=xs.length
 |[],_,h=>by cases (show _=[]from h);rfl
 |d::ds,_,h=>by
  obtain⟨x,r,rfl,_,a⟩:=h
  simp[Dens.length a]
theorem Dens.append{ι:List Addr}{H:Hp}:∀{ds es:List D} {xs ys:List V},Dens ι H ds xs->Dens ι H es ys->Dens ι H (ds++es) (xs++ys)
 |[],_,_,_,h,k=>by cases (show _=[]from h);exact k
 |d::ds,_,_,_,h,k=>by
  obtain⟨x,r,rfl,a,b⟩:=h
  exact⟨x,_,rfl,a,Dens.append b k⟩
theorem Dens.get{ι:List Addr}{H:Hp}:∀{ds:List D} {xs:List V} {i:Nat} {d:D},Dens ι H ds xs->ds[i]?=some d->∃x,xs[i]?=some x/\Den ι H d x
 |[],_,_,_,_,e=>by simp at e
 |d::ds,_,0,_,h,e=>by
  obtain⟨x,r,rfl,a,b⟩:=h
  simp at e;subst e
  exact⟨x,rfl,a⟩
 |d::ds,_,i+1,_,h,e=>by
  obtain⟨x,r,rfl,a,b⟩:=h
  obtain⟨y,e1,c⟩:=Dens.get (i:=i) b (by simpa using e)
  exact⟨y,by simpa using e1,c⟩
theorem Dens.take{ι:List Addr}{H:Hp}:∀{ds:List D} {xs:List V} (n:Nat),Dens ι H ds xs->Dens ι H (ds.take n) (xs.take n)
 |_,_,0,_=>by simp[Dens]
 |[],_,n+1,h=>by cases (show _=[]from h);simp[Dens]
 |d::ds,_,n+1,h=>by
  obtain⟨x,r,rfl,a,b⟩:=h
  exact⟨x,_,rfl,a,Dens.take n b⟩
theorem Dens.drop{ι:List Addr}{H:Hp}:∀{ds:List D} {xs:List V} (n:Nat),Dens ι H ds xs->Dens ι H (ds.drop n) (xs.drop n)
 |_,_,0,h=>by simpa using h
 |[],_,n+1,h=>by cases (show _=[]from h);simp[Dens]
 |d::ds,_,n+1,h=>by
  obtain⟨x,r,rfl,b,a⟩:=h
  exact Dens.drop n a
theorem Dens.set{ι:List Addr}{H:Hp}{d:D}{x:V}(hd:Den ι H d x):∀{ds:List D} {xs:List V} (i:Nat),Dens ι H ds xs->Dens ι H (ds.set i d) (xs.set i x)
 |[],_,_,h=>by cases (show _=[]from h);simp[Dens]
 |d::ds,_,0,h=>by
  obtain⟨x,r,rfl,b,a⟩:=h
  exact⟨_,_,rfl,hd,a⟩
 |d::ds,_,i+1,h=>by
  obtain⟨x,r,rfl,b,a⟩:=h
  exact⟨_,_,rfl,b,Dens.set hd i a⟩
theorem Dens.snoc{ι:List Addr}{H:Hp}{d:D}{x:V}{ds:List D}{xs:List V}(h:Dens ι H ds xs)(hd:Den ι H d x):Dens ι H (ds++[d]) (xs++[x]) :=
 h.append ⟨x,[],rfl,hd,rfl⟩
mutual
noncomputable def refsLt(n:Nat):D->Bool
 | .ref k=>decide (k<n)
 | .tup l=>refsLts n l
 | .lst l=>refsLts n l
 |_=>true
noncomputable def refsLts(n:Nat):List D->Bool
 |[]=>true
 |d::r=>refsLt n d&&refsLts n r
end
theorem zU(n:Nat):∀(a b:List D),refsLts n (a++b)=(refsLts n a&&refsLts n b)
 |[],b=>by simp[refsLts]
 |d::r,b=>by simp only[List.cons_append,refsLts,zU n r b,Bool.and_assoc]
theorem zd{n:Nat}:∀{l:List D} {d:D},refsLts n l=true->d∈l->refsLt n d=true
 |[],_,_,h=>by cases h
 |x::r,d,h,m=>by
  simp only[refsLts,wP]at h
  rcases wN.mp m with z|z
  .rw [z];exact h.1
  .exact zd h.2 z
theorem zJ{n:Nat}:∀{l:List D},(∀d∈l,refsLt n d=true)->refsLts n l=true
 |[],_=>rfl
 |x::r,h=>by
  simp only[refsLts,wP]
  exact⟨h x wI,zJ λd m=>h d (wJ _ m)⟩
mutual
theorem Den.less{ι:List Addr}{H:Hp}{n:Nat}:∀(d:D) {v:V},refsLt n d=true->Den ι H d v->Den (ι.take n) H d v
 | .non,_,_,h=>h
 | .bl _,_,_,h=>h
 | .int _,_,_,h=>h
 | .str _,_,_,h=>h
 | .tup ds,_,r,h=>by
  obtain⟨a,xs,e,m,ha,q⟩:=h
  exact⟨a,xs,e,λz=>m (vk z),ha,Dens.less ds r q⟩
 | .lst ds,_,r,h=>by
  obtain⟨a,xs,e,m,ha,q⟩:=h
  exact⟨a,xs,e,λz=>m (vk z),ha,Dens.less ds r q⟩
 | .emp,_,_,h=>by
  obtain⟨a,e,m,ha⟩:=h
  exact⟨a,e,λz=>m (vk z),ha⟩
 | .ref k,_,r,h=>by
  obtain⟨a,e,ha⟩:=h
  exact⟨a,e,by rw[uP (vQ r)];exact ha⟩
theorem Dens.less{ι:List Addr}{H:Hp}{n:Nat}:∀(ds:List D) {xs:List V},refsLts n ds=true->Dens ι H ds xs->Dens (ι.take n) H ds xs
 |[],_,_,h=>h
 |d::ds,_,r,h=>by
  obtain⟨x,t,e,h1,h2⟩:=h
  simp only[refsLts,wP]at r
  exact⟨x,t,e,Den.less d r.1 h1,Dens.less ds r.2 h2⟩
end
mutual
theorem zV{n:Nat}:∀(d:D),refsLt 0 d=true->refsLt n d=true
 | .non,_=>rfl
 | .bl _,_=>rfl
 | .int _,_=>rfl
 | .str _,_=>rfl
 | .tup ds,h=>qP ds h
 | .lst ds,h=>qP ds h
 | .emp,_=>rfl
 | .ref k,h=>absurd (vQ (show decide (k<0)=true from h)) (Nat.not_lt_zero _)
theorem qP{n:Nat}:∀(ds:List D),refsLts 0 ds=true->refsLts n ds=true
 |[],_=>rfl
 |d::ds,h=>by
  simp only[refsLts,wP]at h ⊢
  exact⟨zV d h.1,qP ds h.2⟩
end
mutual
theorem qdo{m n:Nat}(h:m<=n):∀(d:D),refsLt m d=true->refsLt n d=true
 | .non,_=>rfl
 | .bl _,_=>rfl
 | .int _,_=>rfl
 | .str _,_=>rfl
 | .tup ds,q=>zK h ds q
 | .lst ds,q=>zK h ds q
 | .emp,_=>rfl
 | .ref k,q=>vj (wU (vQ (show decide (k<m)=true from q)) h)
theorem zK{m n:Nat}(h:m<=n):∀(ds:List D),refsLts m ds=true->refsLts n ds=true
 |[],_=>rfl
 |d::ds,q=>by
  simp only[refsLts,wP]at q ⊢
  exact⟨qdo h d q.1,zK h ds q.2⟩
end
inductive SO where
 |lst (l:List D)
 |dic (l:List (List Int×D))
 |dis (l:List (Key×D))
noncomputable def keyT(k:List Int):List Key:=k.map Sum.inl
noncomputable def DGs{κ K:Type}(f:κ->K)(ι:List Addr)(H:Hp):List (κ×D)->List (K×V)->Prop
 |[],kvs=>kvs=[]
 |p::l,kvs=>∃v r,kvs=(f p.1,v)::r/\Den ι H p.2 v/\DGs f ι H l r
theorem DGs.mono{κ K:Type}{f:κ->K}{ι a:List Addr}{H H':Hp}(s:Stp ι H a H'):∀{l:List (κ×D)} {kvs:List (K×V)},DGs f ι H l kvs->DGs f a H' l kvs
 |[],_,h=>h
 |_::_,_,h=>let ⟨v,r,e,b,c⟩:=h;⟨v,r,e,Den.mono s _ b,DGs.mono s c⟩
theorem DGs.length{κ K:Type}{f:κ->K}{ι:List Addr}{H:Hp}:∀{l:List (κ×D)} {kvs:List (K×V)},DGs f ι H l kvs->l.length=kvs.length
 |[],_,h=>by cases (show _=[]from h);rfl
 |_::_,_,h=>by obtain⟨v,r,rfl,_,a⟩:=h;simp[DGs.length a]
theorem DGs.less{κ K:Type}{f:κ->K}{ι:List Addr}{H:Hp}{n:Nat}:∀{l:List (κ×D)} {kvs:List (K×V)},refsLts n (l.map (·.2))=true->DGs f ι H l kvs->DGs f (ι.take n) H l kvs
 |[],_,_,h=>h
 |_::_,_,r,h=>by
  obtain⟨v,t,e,a,b⟩:=h
  simp only[w4,refsLts,wP]at r
  exact⟨v,t,e,Den.less _ r.1 a,DGs.less r.2 b⟩
def SOk(ι:List Addr)(H:Hp)(a:Addr):SO->Prop
 | .lst ds=>(∃j,ι[j]?=some a/\refsLts j ds=true)/\∃xs,H a=some (.lst xs)/\Dens ι H ds xs
 | .dic l=>refsLts 0 (l.map (·.2))=true/\∃kvs,H a=some (.dT kvs)/\DGs keyT ι H l kvs
 | .dis l=>refsLts 0 (l.map (·.2))=true/\∃kvs,H a=some (.dK kvs)/\DGs id ι H l kvs
structure Sto (ι:List Addr) (H:Hp) (S:List SO):Prop where
 len:ι.length=S.length
 nd:ι.Nodup
 obj:∀(n:Nat) (a:Addr) (so:SO),ι[n]?=some a->S[n]?=some so->SOk ι H a so
theorem SOk.some{ι:List Addr}{H:Hp}{a:Addr}:∀{so:SO},SOk ι H a so->H a≠none
 | .lst _,⟨_,_,h,_⟩=>by rw[h];simp
 | .dic _,⟨_,_,h,_⟩=>by rw[h];simp
 | .dis _,⟨_,_,h,_⟩=>by rw[h];simp
theorem Sto.there{ι:List Addr}{H:Hp}{S:List SO}(s:Sto ι H S){a:Addr}(m:a∈ι):H a≠none:=by
 obtain⟨n,hn,e⟩:=vG m
 have b:n<S.length:=by rw[<-s.len];exact hn
 exact(s.obj n a S[n] (by rw[wD hn,e]) (wD b)).some
theorem Sto.fresh{ι:List Addr}{H:Hp}{S:List SO}(s:Sto ι H S){a:Addr}(h:H a=none):a∉ι:=λm=>s.there m h
theorem SOk.mono{ι b:List Addr}{H H':Hp}(s:Stp ι H b H'){a:Addr}(c:H' a=H a):∀{so:SO},SOk ι H a so->SOk b H' a so
 | .lst ds,⟨⟨j,e,f⟩,xs,h,r⟩=>⟨⟨j,s.get e,f⟩,xs,by rw[c];exact h,Dens.mono s _ r⟩
 | .dic l,⟨f,vs,h,r⟩=>⟨f,vs,by rw[c];exact h,DGs.mono s r⟩
 | .dis l,⟨f,vs,h,r⟩=>⟨f,vs,by rw[c];exact h,DGs.mono s r⟩
theorem Stp.laid{ι:List Addr}{H:Hp}{p:Addr}(h:H p=none)(o:HO):Stp ι H ι (upd H p o) where
 pre:=u7 _
 new:=λ_ m=>.inl m
 keep:=λa u e _ _=>by rw[qk (q8 e h)];exact e
 there:=λa e=>by
  by_cases z:a=p
  .subst z;rw[qr];simp
  .rw [qk z];exact e
theorem Sto.laid{ι:List Addr}{H:Hp}{S:List SO}(s:Sto ι H S){p:Addr}(h:H p=none)(o:HO):Sto ι (upd H p o) S where
 len:=s.len
 nd:=s.nd
 obj:=λn a so e1 b=>(s.obj n a so e1 b).mono (Stp.laid h o) (by
  rw[qk];intro z;subst z;exact s.there (wm e1) h)
theorem Stp.grow{ι:List Addr}{H:Hp}{p:Addr}(h:H p=none)(o:HO):Stp ι H (ι++[p]) (upd H p o) where
 pre:=List.prefix_append _ _
 new:=λa m=>by
  rcases vJ.mp m with z|z
  .exact .inl z
  .rw [wV.mp z];exact .inr h
 keep:=(Stp.laid (ι:=ι) h o).keep
 there:=(Stp.laid (ι:=ι) h o).there
theorem Sto.grow{ι:List Addr}{H:Hp}{S:List SO}(s:Sto ι H S){p:Addr}(h:H p=none){o:HO}{so:SO}(k:SOk (ι++[p]) (upd H p o) p so):Sto (ι++[p]) (upd H p o) (S++[so]) where
 len:=by simp[s.len]
 nd:=by
  rw[xE]
  refine⟨s.nd,by simp,λa ha b d e=>?_⟩
  rw[wV.mp d]at e;subst e
  exact s.fresh h ha
 obj:=λn a x e1 c=>by
  by_cases hn:n<ι.length
  .rw [wX hn]at e1
   rw[wX (by rw[<-s.len];exact hn)]at c
   exact(s.obj n a x e1 c).mono (Stp.grow h o) (by
    rw[qk];intro z;subst z;exact s.there (wm e1) h)
  .rw [w8 (by lia)]at e1
   rw[w8 (by rw[<-s.len];lia)]at c
   have z:n-ι.length=0:=by
    have:=(wK.mp e1).1
    simp at this;lia
   rw[z]at e1
   rw[<-s.len,z]at c
   simp at e1 c
   subst e1 c
   exact k
theorem Stp.put{ι:List Addr}{H:Hp}{p:Addr}(m:p∈ι)(o:HO):Stp ι H ι (upd H p o) where
 pre:=u7 _
 new:=λ_ m=>.inl m
 keep:=λa u e n _=>by rw[qk (λz=>n (by rw[z];exact m))];exact e
 there:=λa e=>by
  by_cases z:a=p
  .subst z;rw[qr];simp
  .rw [qk z];exact e
theorem qQ{ι:List Addr}(c:ι.Nodup){i j:Nat}{x:Addr}(a:ι[i]?=some x)(b:ι[j]?=some x):i=j:=by
 obtain⟨e,e1⟩:=wK.mp a
 obtain⟨f,d⟩:=wK.mp b
 exact(xN c).mp (e1.trans d.symm)
theorem Sto.put{ι:List Addr}{H:Hp}{S:List SO}(s:Sto ι H S){n:Nat}{p:Addr}(b:ι[n]?=some p){o:HO}{so:SO}(k:SOk ι (upd H p o) p so):Sto ι (upd H p o) (S.set n so) where
 len:=by rw[List.length_set];exact s.len
 nd:=s.nd
 obj:=λj a x e1 c=>by
  by_cases d:j=n
  .subst d
   rw[b]at e1
   obtain rfl:=Option.some.inj e1
   have e:j<S.length:=by rw[<-s.len];exact(wK.mp b).1
   rw[vr e]at c
   obtain rfl:=Option.some.inj c
   exact k
  .rw [uc (Ne.symm d)]at c
   refine(s.obj j a x e1 c).mono (Stp.put (wm b) o) ?_
   rw[qk]
   intro z;subst z
   exact d (qQ s.nd e1 b)
theorem Sto.less{ι:List Addr}{H:Hp}{S:List SO}(s:Sto ι H S)(n:Nat):Sto (ι.take n) H (S.take n) where
 len:=by rw[vA,vA,s.len]
 nd:=s.nd.sublist (List.take_sublist _ _)
 obj:=λj a so e1 b=>by
  have c:ι[j]?=some a:=by
   have:=(wK.mp e1).1
   rw[vA]at this
   rw[uP (by lia)]at e1;exact e1
  have d:S[j]?=some so:=by
   have:=(wK.mp b).1
   rw[vA]at this
   rw[uP (by lia)]at b;exact b
  have k:=s.obj j a so c d
  cases so with
  |lst ds =>
   obtain⟨⟨i,e,f⟩,xs,h,r⟩:=k
   have m:j<(ι.take n).length:=(wK.mp e1).1
   rw[vA]at m
   obtain rfl:i=j:=qQ s.nd e c
   exact⟨⟨i,e1,f⟩,xs,h,Dens.less ds (zK (by lia) ds f) r⟩
  |dic l =>
   obtain⟨f,kvs,h,r⟩:=k
   exact⟨f,kvs,h,DGs.less (qP _ f) r⟩
  |dis l =>
   obtain⟨f,kvs,h,r⟩:=k
   exact⟨f,kvs,h,DGs.less (qP _ f) r⟩
theorem Stp.less{ι a:List Addr}{H H':Hp}(s:Stp ι H a H'):Stp ι H (a.take ι.length) H':=by
 have e:a.take ι.length=ι:=by
  obtain⟨t,rfl⟩:=s.pre
  simp
 rw[e]
 exact⟨u7 _,λ_ m=>.inl m,s.keep,s.there⟩
theorem Stp.take_eq{ι a:List Addr}{H H':Hp}(s:Stp ι H a H'):a.take ι.length=ι:=by
 obtain⟨t,rfl⟩:=s.pre
 simp
end R
namespace R
open PySem PySem.Spec PyProof.Rows L2
noncomputable abbrev Sr:=List SO
noncomputable abbrev En:=List (Option D)
inductive Res (α:Type) where
 |ok (a:α) (S:Sr)|err (x:D) (S:Sr)|no
@[reducible] noncomputable def Res.bind{α β:Type}(r:Res α)(f:α->Sr->Res β):Res β:=match r with
 | .ok a S=>f a S
 | .err x S=>.err x S
 | .no=>.no
@[simp] theorem Res.bind_ok{α β:Type}(a:α)(S:Sr)(f:α->Sr->Res β):(Res.ok a S).bind f=f a S:=rfl
@[simp] theorem Res.bind_err{α β:Type}(x:D)(S:Sr)(f:α->Sr->Res β):(Res.err x S).bind f=.err x S:=rfl
@[simp] theorem Res.bind_no{α β:Type}(f:α->Sr->Res β):(Res.no:Res α).bind f=.no:=rfl
noncomputable def ofO{b:Type}(o:Option b)(S:Sr):Res b:=match o with
 |some a=>.ok a S
 |none=>.no
@[simp] theorem qiZ{α:Type}(a:α)(S:Sr):ofO (some a) S=.ok a S:=rfl
@[simp] theorem qi0{α:Type}(S:Sr):(ofO none S:Res α)=.no:=rfl
inductive BOp where|add|sub|mul|fdiv|mod|pow|shl|shr|band
inductive COp where|eq|ne|lt|le|gt|ge|is|isn|inn|nin
inductive Ty where|int|bool|tuple|list|str|dict
noncomputable def Ty.nm:Ty->String
 | .int=>"int" | .bool=>"bool" | .tuple=>"tuple" | .list=>"list" | .str=>"str" | .dict=>"dict"
noncomputable def mulOk(a b:Int):Bool:=!((decide (Builtin.Int.intBits a>shortFactorBits)&&decide (Builtin.Int.intBits b>shortFactorBits)&&Builtin.Int.intTooBig (Builtin.Int.intBits a+Builtin.Int.intBits b)))
noncomputable def divOk(a b:Int):Bool:=!(b == 0)&&!(Builtin.divisionGoesByPylong a b)
noncomputable def lstOf(S:Sr):D->Option (List D)
 | .lst l=>some l
 | .ref n=>match S[n]? with|some (.lst l)=>some l|_=>none
 |_=>none
noncomputable def binI:BOp->Int->Int->Option Int
 | .add,i,j=>some (i+j)
 | .sub,i,j=>some (i-j)
 | .mul,i,j=>if mulOk i j then some (i*j)else none
 | .fdiv,i,j=>if divOk i j then some (i.fdiv j)else none
 | .mod,i,j=>if j=0 then none else some (i.fmod j)
 | .pow,i,j=>if 0<=j/\j<=1000000/\i.natAbs<2^64 then some (i^j.toNat)else none
 | .shl,i,j=>if 0<=j/\j<=1000000/\i.natAbs<2^64 then some (i*2^j.toNat)else none
 | .shr,i,j=>if 0<=j then some (i / 2^j.toNat)else none
 | .band,i,j=>some (Builtin.bitAnd i j)
noncomputable def catOk{c:Type}(a b:List c):Bool:=decide (a.length+b.length<=sizeLine)
noncomputable def repOk{b:Type}(a:List b)(k:Int):Bool:=decide (-(2^63)<=k/\k<2^63/\a.length*k.toNat<=sizeLine)
noncomputable def rep{b:Type}(a:List b)(k:Int):List b:=(List.replicate k.toNat a).flatten
noncomputable def binD(o:BOp)(x y:D)(S:Sr):Option D :=
 match x,y with
 | .int i,.int j=>(binI o i j).map .int
 | .str a,.str b=>match o with
  | .add=>if a.length+b.length<=sizeLine then some (.str (a++b))else none
  |_=>none
 | .tup a,.tup b=>match o with
  | .add=>if catOk a b then some (.tup (a++b))else none
  |_=>none
 | .tup a,.int k=>match o with
  | .mul=>if repOk a k then some (.tup (rep a k))else none
  |_=>none
 |x,.int k=>match o with
  | .mul=>match lstOf S x with
   |some a=>if repOk a k then some (.lst (rep a k))else none
   |none=>none
  |_=>none
 |x,y=>match o with
  | .add=>match lstOf S x,lstOf S y with
   |some a,some b=>if catOk a b then some (.lst (a++b))else none
   |_,_=>none
  |_=>none
noncomputable def eqL(f:D->D->Option Bool):List D->List D->Option Bool
 |[],[]=>some true
 |[],_::_=>some false
 |_::_,[]=>some false
 |a::r,b::t=>match f a b,eqL f r t with
  |some x,some y=>some (x&&y)
  |_,_=>none
noncomputable def eqD:Nat->D->D->Option Bool
 |0,_,_=>none
 |n+1,x,y=>match x,y with
  | .non,.non=>some true
  | .bl a,.bl b=>some (a == b)
  | .int a,.int b=>some (a == b)
  | .str a,.str b=>some (a == b)
  | .bl a,.int b=>some ((if a then 1 else 0) == b)
  | .int a,.bl b=>some (a == (if b then 1 else 0))
  | .tup a,.tup b=>eqL (eqD n) a b
  | .lst a,.lst b=>if a.length=b.length then eqL (eqD n) a b else some false
  | .emp,_=>none
  |_,.emp=>none
  | .ref _,_=>none
  |_,.ref _=>none
  |_,_=>some false
noncomputable def intsOf:List D->Option (List Int)
 |[]=>some []
 | .int i::r=>(intsOf r).map (i::·)
 |_=>none
noncomputable def flatD:D->Bool
 | .non|.bl _|.int _|.str _=>true
 |_=>false
noncomputable def eqF:D->D->Bool
 | .non,.non=>true
 | .bl a,.bl b=>decide (a=b)
 | .int i,.int j=>decide (i=j)
 | .bl a,.int j=>decide ((if a then 1 else 0)=j)
 | .int i,.bl b=>decide (i=(if b then 1 else 0))
 | .str a,.str b=>decide (a=b)
 |_,_=>false
noncomputable def inD(x:D)(l:List D):Option Bool:=if flatD x&&l.all flatD then some (l.any λy=>eqF y x)else none
noncomputable def seqOf(S:Sr):D->Option (List D)
 | .tup l=>some l
 |d=>lstOf S d
noncomputable def cmpD(o:COp)(x y:D)(S:Sr):Option Bool:=match o with
 | .eq=>eqD 20 x y
 | .ne=>(eqD 20 x y).map (!·)
 | .lt=>match x,y with
  | .int i,.int j=>some (decide (i<j))
  | .tup a,.tup b=>match intsOf a,intsOf b with
   |some m,some n=>some (HT.lexLt m n)
   |_,_=>none
  |_,_=>none
 | .le=>match x,y with|.int i,.int j=>some (decide (i<=j))|_,_=>none
 | .gt=>match x,y with|.int i,.int j=>some (decide (j<i))|_,_=>none
 | .ge=>match x,y with
  | .int i,.int j=>some (decide (j<=i))
  | .tup a,.tup b=>match intsOf a,intsOf b with
   |some m,some n=>some (!HT.lexLt m n)
   |_,_=>none
  |_,_=>none
 | .is=>match y with
  | .non=>some (match x with|.non=>true|_=>false)
  | .bl b=>match x with|.bl a=>some (a == b)|.non=>some false|_=>none
  |_=>none
 | .isn=>match y with
  | .non=>some (match x with|.non=>false|_=>true)
  | .bl b=>match x with|.bl a=>some (!(a == b))|.non=>some true|_=>none
  |_=>none
 | .inn=>(seqOf S y).bind (inD x)
 | .nin=>(seqOf S y).bind λl=>(inD x l).map (!·)
noncomputable def truD(S:Sr):D->Option Bool
 | .non=>some false
 | .bl b=>some b
 | .int i=>some (i != 0)
 | .str x=>if x.length<=sizeLine then some ((x.length:Int) != 0)else none
 | .tup l=>some (!l.isEmpty)
 | .emp=>some false
 |d=>(lstOf S d).map λl=>!l.isEmpty
noncomputable def isiD(S:Sr)(t:Ty):D->Option Bool
 | .non=>some false
 | .bl _=>some (match t with|.int=>true|.bool=>true|_=>false)
 | .int _=>some (match t with|.int=>true|_=>false)
 | .str _=>some (match t with|.str=>true|_=>false)
 | .tup _=>some (match t with|.tuple=>true|_=>false)
 | .lst _=>some (match t with|.list=>true|_=>false)
 | .emp=>some (match t with|.dict=>true|_=>false)
 | .ref n=>match S[n]? with
  |some (.lst _)=>some (match t with|.list=>true|_=>false)
  |some (.dic _)=>some (match t with|.dict=>true|_=>false)
  |some (.dis _)=>some (match t with|.dict=>true|_=>false)
  |none=>none
noncomputable def keyD:D->Option Key
 | .int i=>some (.inl i)
 | .str x=>some (.inr x)
 |_=>none
noncomputable def lookT{κ:Type}[DecidableEq κ](k:κ):List (κ×D)->Option D
 |[]=>none
 | (j,d)::r=>if j=k then some d else lookT k r
noncomputable def putT{κ:Type}[DecidableEq κ](k:κ)(d:D)(l:List (κ×D)):List (κ×D) :=
 if l.any (λp=>decide (p.1=k))then l.map (λp=>if p.1=k then(p.1,d)else p)else l++[(k,d)]
noncomputable def idxD(S:Sr)(x i:D):Option D:=match i with
 | .int k=>(seqOf S x).bind λl=>atI l k
 | .tup ks=>match x with
  | .ref n=>match S[n]? with
   |some (.dic l)=>(intsOf ks).bind λk=>lookT k l
   |_=>none
  |_=>none
 |_=>none
noncomputable def cutD(l:List D)(lo hi:Option Int):List D:=(l.drop (HT.sIx l.length 0 lo)).take (HT.sIx l.length l.length hi-HT.sIx l.length 0 lo)
noncomputable def slcD(S:Sr)(x:D)(lo hi:Option Int):Option D:=match x with
 | .tup l=>some (.tup (cutD l lo hi))
 |d=>(lstOf S d).map λl=>.lst (cutD l lo hi)
noncomputable def rngL(a b s:Int):List D:=(List.range ((b-a+s-1) / s).toNat).map λ(k:Nat)=>D.int (a+s*k)
noncomputable def insI(x:Int):List Int->List Int
 |[]=>[x]
 |y::r=>if x<=y then x::y::r else y::insI x r
noncomputable def sortI(l:List Int):List Int:=l.foldr insI []
noncomputable def insT(x:List Int):List (List Int)->List (List Int)
 |[]=>[x]
 |y::r=>if HT.lexLt y x then y::insT x r else x::y::r
noncomputable def sortT(l:List (List Int)):List (List Int):=l.foldr insT []
noncomputable def tupsOf:List D->Option (List (List Int))
 |[]=>some []
 | .tup a::r=>(intsOf a).bind λm=>(tupsOf r).map (m::·)
 |_=>none
noncomputable def tupI(m:List Int):D:=.tup (m.map .int)
noncomputable def sortL(l:List D):Option (List D) :=
 if l.length<64 then
  match intsOf l with
  |some ns=>some ((sortI ns).map .int)
  |none=>(tupsOf l).bind λts=>if ts.Nodup/\∀t∈ts,t≠[]then some ((sortT ts).map tupI)else none
 else none
noncomputable def walkD(S:Sr):D->Option (List D)
 | .lst l=>some l
 | .emp=>some []
 | .ref n=>match S[n]? with
  |some (.lst l)=>some l
  |some (.dic l)=>some (l.map λp=>tupI p.1)
  |_=>none
 |_=>none
inductive Blt where|len|abs|min2|max2|divmod|list (m:Bool)|tuple|sorted (m:Bool)|all|any|sum|str|int|sortp (m:Bool)|dict|sset (m:Bool)|dictL|sumT
noncomputable def newL(m:Bool)(l:List D)(S:Sr):Res D:=if m then(if refsLts 0 l then .ok (.ref S.length) (S++[.lst l])else .no)else .ok (.lst l) S
noncomputable def binM(o:BOp)(x y:D)(S:Sr):Res D:=match o with
 | .add=>match lstOf S x,lstOf S y with
  |some a,some b=>if catOk a b then newL true (a++b) S else .no
  |_,_=>.no
 | .mul=>match lstOf S x,y with
  |some a,.int k=>if repOk a k then newL true (rep a k) S else .no
  |_,_=>.no
 |_=>.no
noncomputable def lenD(S:Sr):D->Option Nat
 | .str x=>if x.length<=sizeLine then some x.length else none
 | .ref n=>match S[n]? with
  |some (.lst l)=>some l.length
  |some (.dic l)=>some l.length
  |some (.dis _)=>none
  |none=>none
 | .tup l=>some l.length
 | .lst l=>some l.length
 |_=>none
noncomputable def boolsOf:List D->Option (List Bool)
 |[]=>some []
 | .bl b::r=>(boolsOf r).map (b::·)
 |_=>none
noncomputable def one(f:D->Sr->Res D)(xs:List D)(S:Sr):Res D:=match xs with
 |[x]=>f x S
 |_=>.no
noncomputable def two(f:D->D->Sr->Res D)(xs:List D)(S:Sr):Res D:=match xs with
 |[x,y]=>f x y S
 |_=>.no
noncomputable def bLen(x:D)(S:Sr):Res D:=ofO ((lenD S x).map λn=>.int n) S
noncomputable def bAbs(x:D)(S:Sr):Res D:=match x with
 | .int i=>.ok (.int (if i<0 then -i else i)) S
 |_=>.no
noncomputable def bMin(x y:D)(S:Sr):Res D:=match x,y with
 | .int i,.int j=>.ok (.int (if j<i then j else i)) S
 |_,_=>.no
noncomputable def bMax(x y:D)(S:Sr):Res D:=match x,y with
 | .int i,.int j=>.ok (.int (if j>i then j else i)) S
 |_,_=>.no
noncomputable def bDivmod(x y:D)(S:Sr):Res D:=match x,y with
 | .int i,.int j=>if divOk i j then .ok (.tup [.int (i.fdiv j),.int (i.fmod j)]) S else .no
 |_,_=>.no
noncomputable def bList(m:Bool)(x:D)(S:Sr):Res D:=match seqOf S x with
 |some l=>newL m l S
 |none=>.no
noncomputable def bTuple(x:D)(S:Sr):Res D:=ofO ((seqOf S x).map .tup) S
noncomputable def bSorted(m:Bool)(x:D)(S:Sr):Res D:=match(walkD S x).bind sortL with
 |some l=>newL m l S
 |none=>.no
noncomputable def pairsD:List D->Option (List (List Int×Int))
 |[]=>some []
 | .tup [.tup a,.int i]::r=>(intsOf a).bind λm=>(pairsD r).map ((m,i)::·)
 |_=>none
noncomputable def pairD(p:List Int×Int):D:=.tup [tupI p.1,.int p.2]
noncomputable def atP(k:List Int):List (List Int×Int)->Int
 |[]=>0
 |p::r=>if p.1=k then p.2 else atP k r
noncomputable def sortP(ps:List (List Int×Int)):List (List Int×Int):=(sortT (ps.map (·.1))).map λk=>(k,atP k ps)
noncomputable def bSortp(m:Bool)(x:D)(S:Sr):Res D:=match(lstOf S x).bind pairsD with
 |some ps=>if ps.length<64/\(ps.map (·.1)).Nodup then newL m ((sortP ps).map pairD) S else .no
 |none=>.no
noncomputable def bAll(x:D)(S:Sr):Res D:=ofO (((seqOf S x).bind boolsOf).map λl=>.bl (l.all id)) S
noncomputable def bAny(x:D)(S:Sr):Res D:=ofO (((seqOf S x).bind boolsOf).map λl=>.bl (l.any id)) S
noncomputable def bSum(x:D)(S:Sr):Res D:=ofO (((seqOf S x).bind intsOf).map λl=>.int l.sum) S
noncomputable def bStr(x:D)(S:Sr):Res D:=match x with
 | .int i=>if i.natAbs.log2<1920 then .ok (.str (toString i)) S else .no
 |_=>.no
noncomputable def joinD(x y z:D):Option D:=match x,y,z with
 | .str a,.str b,.str c=>if a.length+b.length+c.length<=sizeLine then some (.str (a++b++c))else none
 |_,_,_=>none
noncomputable def bInt(x:D)(S:Sr):Res D:=match x with
 | .bl b=>.ok (.int (if b then 1 else 0)) S
 |_=>.no
noncomputable def pairsV:List D->Option (List (List Int×D))
 |[]=>some []
 | .tup [.tup a,v]::r=>if refsLt 0 v then(intsOf a).bind λm=>(pairsV r).map ((m,v)::·)else none
 |_=>none
noncomputable def dicL(ps:List (List Int×D)):List (List Int×D):=ps.foldl (λl p=>putT p.1 p.2 l) []
noncomputable def bDict(x:D)(S:Sr):Res D:=match x with
 | .tup l=>match pairsV l with
  |some ps=>.ok (.ref S.length) (S++[.dic (dicL ps)])
  |none=>.no
 |_=>.no
noncomputable def ddI(l:List Int):List Int:=l.foldl PyProof.Rows.step_dedup []
noncomputable def bSset(m:Bool)(x:D)(S:Sr):Res D:=match x with
 | .tup l=>match intsOf l with
  |some ns=>if ns.length<4000/\(ddI ns).length<64 then newL m ((sortI (ddI ns)).map .int) S else .no
  |none=>.no
 |_=>.no
noncomputable def bDictL(x:D)(S:Sr):Res D:=match x with
 | .lst l=>match pairsV l with
  |some ps=>.ok (.ref S.length) (S++[.dic (dicL ps)])
  |none=>.no
 |_=>.no
noncomputable def tupLs:List D->Option (List (List D))
 |[]=>some []
 | .tup a::r=>(tupLs r).map (a::·)
 |_=>none
noncomputable def bSumT(x y:D)(S:Sr):Res D:=match x,y with
 | .lst l,.tup []=>match tupLs l with
  |some ts=>if ts.flatten.length<=4000 then .ok (.tup ts.flatten) S else .no
  |none=>.no
 |_,_=>.no
noncomputable def bltD:Blt->List D->Sr->Res D
 | .len=>one bLen|.abs=>one bAbs|.min2=>two bMin|.max2=>two bMax|.divmod=>two bDivmod|.list m=>one (bList m)|.tuple=>one bTuple
 | .sorted m=>one (bSorted m)|.all=>one bAll|.any=>one bAny|.sum=>one bSum|.str=>one bStr|.int=>one bInt|.sortp m=>one (bSortp m)|.dict=>one bDict|.sset m=>one (bSset m)|.dictL=>one bDictL|.sumT=>two bSumT
noncomputable def walkF:D->Option (List D)
 | .tup l=>some l
 | .lst l=>some l
 |_=>none
inductive GW where|all|any|sum|tuple
mutual
inductive CE where
 |var (i:Nat)|cst (d:D)
 |bin (o:BOp) (a b:CE)|neg (a:CE)
 |cmp (o:COp) (a b:CE)|chain (o o':COp) (a b c:CE)
 |and (a b:CE)|or (a b:CE)|not (a:CE)|ife (c:CB) (a b:CE)
 |tup (es:CEs)|lst (m:Bool) (es:CEs)|dic (m:Bool)|dis|fmt (a:CE)|join3 (a b c:CE)
 |call (f:Nat) (es:CEs)|blt (b:Blt) (es:CEs)|isi (t:Ty) (a:CE)
 |popAt (o i:CE)|neF (a b:CE)|rem (o e:CE)|dcK (d:Int) (e:CE)|idk (a i:CE)|lls (e:CE)|app (o e:CE)|ext (o e:CE)|binM (o:BOp) (a b:CE)|get (o k e:CE)
 |idx (a i:CE)|slc (a:CE) (lo hi:CO)|rev (a:CE)
 |rng (k:Option Bool) (es:CEs)
 |lc (m:Bool) (fr:List Nat) (nt:Nat) (elt:CE) (tg:CT) (it:CI) (ifs:CBs)
 |lcR (m:Bool) (fr:List Nat) (nt:Nat) (elt:CE) (tg:CT) (e:CE) (ifs:CBs)
 |gen (w:GW) (fr:List Nat) (nt:Nat) (elt:CE) (tg:CT) (it:CI) (ifs:CBs)
 |lcX (m:Bool) (fr:List Nat) (nt:Nat) (elt:CE) (tg:CT) (e:CE) (ifs:CBs)
 |genX (w:GW) (fr:List Nat) (nt:Nat) (elt:CE) (tg:CT) (e:CE) (ifs:CBs)
inductive CEs where|nil|cons (e:CE) (r:CEs)
inductive CB where|val (e:CE)|and (a b:CB)|or (a b:CB)|not (a:CB)
inductive CBs where|nil|cons (e:CB) (r:CBs)
inductive CO where|none|some (e:CE)
inductive CI where|seq (e:CE)|rng (es:CEs)|zip (a b:CE)
inductive CT where|var (i:Nat)|tup (r:CTs)|sub (o i:CE)
inductive CTs where|nil|cons (t:CT) (r:CTs)
end
noncomputable abbrev Fs:=Nat->List D->Sr->Res D
noncomputable def varE(ρ:En)(i:Nat)(S:Sr):Res D:=match ρ[i]? with|some (some d)=>.ok d S|_=>.no
noncomputable def putN(S:Sr)(n:Nat)(i v:D):Option Sr:=match S[n]? with
 |some (.lst l)=>match i with
  | .int k=>(ixN l.length k).map λj=>S.set n (.lst (l.set j v))
  |_=>none
 |some (.dic l)=>match i with
  | .tup ks=>(intsOf ks).bind λk=>if l.length<1000 then some (S.set n (.dic (putT k v l)))else none
  |_=>none
 |some (.dis l)=>(keyD i).bind λk=>if l.length<1000 then some (S.set n (.dis (putT k v l)))else none
 |none=>none
noncomputable def putE(S:Sr)(o i v:D):Option Sr:=if refsLt 0 v then(match o with
 | .ref n=>putN S n i v
 |_=>none)else none
noncomputable def isLst(S:Sr):D->Bool
 | .ref n=>match S[n]? with|some (.lst _)=>true|_=>false
 |_=>false
noncomputable def isDic(S:Sr):D->Bool
 | .ref n=>match S[n]? with|some (.dic _)=>true|some (.dis _)=>true|_=>false
 |_=>false
noncomputable def getD(S:Sr)(x y z:D):Option D:=match x,y with
 | .ref n,.tup ks=>match S[n]? with
  |some (.dic l)=>(intsOf ks).map λk=>(lookT k l).getD z
  |_=>none
 | .ref n,.str t=>match S[n]? with
  |some (.dis l)=>some ((lookT (.inr t) l).getD z)
  |_=>none
 |_,_=>none
noncomputable def popD(S:Sr)(o i:D):Res D:=match o,i with
 | .ref n,.int k=>match S[n]? with
  |some (.lst l)=>if 0<=k/\k<2^62 then(match l[k.toNat]? with
   |some d=>.ok d (S.set n (.lst (l.eraseIdx k.toNat)))
   |none=>.no)else .no
  |_=>.no
 |_,_=>.no
noncomputable def appD(S:Sr)(o e:D):Res D:=match o with
 | .ref n=>match S[n]? with
  |some (.lst l)=>if l.length<sizeLine/\refsLt 0 e=true then .ok .non (S.set n (.lst (l++[e])))else .no
  |_=>.no
 |_=>.no
noncomputable def remD(S:Sr)(o i:D):Res D:=match o,i with
 | .ref n,.int k=>match S[n]? with
  |some (.lst l)=>match intsOf l with
   |some ns=>if k∈ns then .ok .non (S.set n (.lst ((ns.erase k).map .int)))else .no
   |none=>.no
  |_=>.no
 |_,_=>.no
noncomputable def neFD(S:Sr)(x y:D):Option Bool:=match x with
 | .ref n=>match S[n]? with
  |some (.lst l)=>if refsLt n y then(eqD 20 (.lst l) y).map (!·)else none
  |_=>none
 |_=>none
noncomputable def idkD(S:Sr)(x i:D):Option D:=match x with
 | .ref n=>match S[n]? with
  |some (.dis l)=>(keyD i).bind λk=>lookT k l
  |_=>none
 |_=>none
noncomputable def dcKL(d:Int)(ns:List Int):List (Key×D):=ns.foldl (λl k=>putT (.inl k:Key) (.int d) l) []
noncomputable def extD(S:Sr)(o e:D):Res D:=match o,e with
 | .ref n,.lst z=>match S[n]? with
  |some (.lst l)=>if l.length+z.length<=sizeLine/\refsLts 0 z=true then .ok .non (S.set n (.lst (l++z)))else .no
  |_=>.no
 |_,_=>.no
noncomputable def rngD:List D->Option (List D)
 |[.int b]=>if -(2^62)<=b/\b<2^62 then some (rngL 0 b 1)else none
 |[.int a,.int b]=>if -(2^62)<=a/\a<2^62/\-(2^62)<=b/\b<2^62 then some (rngL a b 1)else none
 |[.int a,.int b,.int s]=>if -(2^62)<=a/\a<2^62/\-(2^62)<=b/\b<2^62/\0<s/\s<2^62 then some (rngL a b s)else none
 |_=>none
noncomputable def frE(ρ:En)(fr:List Nat)(nt:Nat):En:=fr.map (λi=>(ρ[i]?).getD none)++List.replicate nt none
noncomputable def lcLoop(n:Nat)(bind:D->En->Sr->Res En)(test:En->Sr->Res Bool)(elt:En->Sr->Res D):List D->En->Sr->Res En
 |[],ρ,S=>.ok ρ S
 |d::r,ρ,S=>(bind d ρ S).bind λρ1 S1=>(test ρ1 S1).bind λb S2 =>
   if b then(elt ρ1 S2).bind λv a=>(appD a (.ref n) v).bind λ_ c=>lcLoop n bind test elt r ρ1 c
   else lcLoop n bind test elt r ρ1 S2
noncomputable def lcEnd(m:Bool)(n:Nat)(S:Sr):Res D :=
 if m then .ok (.ref n) S
 else if S.length=n+1 then(match S[n]? with
  |some (.lst l)=>.ok (.lst l) (S.take n)
  |_=>.no)else .no
def own(n:Nat)(l:List D)(S:Sr):Prop:=S[n]?=some (.lst l)
noncomputable def grd{a:Type}(gd:Sr->Prop)(S:Sr)(r:Res a):Res a:=@ite _ (gd S) (Classical.propDecidable _) r .no
theorem zq{a:Type}{gd:Sr->Prop}{S:Sr}(h:gd S)(r:Res a):grd gd S r=r:=wM h
theorem zw{a:Type}{gd:Sr->Prop}{S:Sr}(h:¬gd S)(r:Res a):grd gd S r=.no:=wL h
noncomputable def refX(x:D)(S:Sr):Option (List D×(Sr->Prop)):=match x with
 | .ref n=>match S[n]? with
  |some (.lst l)=>some (l,own n l)
  |_=>none
 | .tup l=>some (l,λ_=>True)
 | .lst l=>some (l,λ_=>True)
 |_=>none
noncomputable def refL(x:D)(S:Sr):Option (Nat×List D):=match x with
 | .ref n=>match S[n]? with
  |some (.lst l)=>some (n,l)
  |_=>none
 |_=>none
noncomputable def genLoop{a:Type}(bind:D->En->Sr->Res En)(test:En->Sr->Res Bool)(elt:En->Sr->Res D)(step:a->D->Option (a ⊕ D))(fin:a->Option D):List D->En->a->Sr->Res D
 |[],_,b,S=>ofO (fin b) S
 |d::r,ρ,b,S=>(bind d ρ S).bind λρ1 S1=>(test ρ1 S1).bind λt S2 =>
   if t then(elt ρ1 S2).bind λv c=>match step b v with
    |some (.inl b')=>genLoop bind test elt step fin r ρ1 b' c
    |some (.inr x)=>.ok x c
    |none=>.no
   else genLoop bind test elt step fin r ρ1 b S2
noncomputable def genLoopG{a:Type}(gd:Sr->Prop)(bind:D->En->Sr->Res En)(test:En->Sr->Res Bool)(elt:En->Sr->Res D)(step:a->D->Option (a ⊕ D))(fin:a->Option D):List D->En->a->Sr->Res D
 |[],_,b,S=>grd gd S (ofO (fin b) S)
 |d::r,ρ,b,S=>grd gd S ((bind d ρ S).bind λρ1 S1=>(test ρ1 S1).bind λt S2 =>
   if t then(elt ρ1 S2).bind λv c=>match step b v with
    |some (.inl b')=>genLoopG gd bind test elt step fin r ρ1 b' c
    |some (.inr x)=>.ok x c
    |none=>.no
   else genLoopG gd bind test elt step fin r ρ1 b S2)
theorem zW{a:Type}{bind:D->En->Sr->Res En}{test:En->Sr->Res Bool}{elt:En->Sr->Res D}{step:a->D->Option (a ⊕ D)}{fin:a->Option D}:∀(l:List D) (ρ:En) (b:a) (S:Sr),genLoopG (λ_=>True) bind test elt step fin l ρ b S=genLoop bind test elt step fin l ρ b S
 |[],_,_,_=>zq trivial _
 |d::r,ρ,b,S=>by
  unfold genLoopG genLoop
  rw[zq trivial]
  congr 1;funext ρ1 S1
  congr 1;funext t S2
  cases t
  .exact zW r ρ1 b S2
  .simp only[ws]
   congr 1;funext v S3
   cases step b v with
   |none=>rfl
   |some x=>cases x with
    |inl c=>exact zW r ρ1 c S3
    |inr x=>rfl
noncomputable def newLls(k:Nat)(S:Sr):Res D:=if k<=sizeLine then .ok (.ref (S.length+k)) (S++List.replicate k (.lst [])++[.lst ((List.range k).map λi=>.ref (S.length+i))])else .no
noncomputable def stepG(w:GW)(b:D)(v:D):Option (D ⊕ D):=match w,b,v with
 | .all,_,.bl true=>some (.inl .non)
 | .all,_,.bl false=>some (.inr (.bl false))
 | .any,_,.bl false=>some (.inl .non)
 | .any,_,.bl true=>some (.inr (.bl true))
 | .sum,.int i,.int j=>some (.inl (.int (i+j)))
 | .tuple,.tup l,v=>if l.length<sizeLine then some (.inl (.tup (l++[v])))else none
 |_,_,_=>none
noncomputable def startG:GW->D
 | .all=>.non|.any=>.non|.sum=>.int 0|.tuple=>.tup []
noncomputable def finG(w:GW)(b:D):Option D:=match w with
 | .all=>some (.bl true)
 | .any=>some (.bl false)
 | .sum=>some b
 | .tuple=>some b
mutual
noncomputable def ev(F:Fs):CE->En->Sr->Res D
 | .var i,ρ,S=>varE ρ i S
 | .cst d,_,S=>.ok d S
 | .bin o a b,ρ,S=>(ev F a ρ S).bind λx S1=>(ev F b ρ S1).bind λy S2=>ofO (binD o x y S2) S2
 | .neg a,ρ,S=>(ev F a ρ S).bind λx S1=>match x with|.int i=>.ok (.int (-i)) S1|_=>.no
 | .cmp o a b,ρ,S=>(ev F a ρ S).bind λx S1=>(ev F b ρ S1).bind λy S2=>ofO ((cmpD o x y S2).map .bl) S2
 | .chain o o' a b c,ρ,S=>(ev F a ρ S).bind λx S1=>(ev F b ρ S1).bind λy S2=>match cmpD o x y S2 with
  |some true=>(ev F c ρ S2).bind λz S3=>ofO ((cmpD o' y z S3).map .bl) S3
  |some false=>.ok (.bl false) S2
  |none=>.no
 | .and a b,ρ,S=>(ev F a ρ S).bind λx S1=>match x with
  | .bl true=>ev F b ρ S1
  | .bl false=>.ok (.bl false) S1
  |_=>.no
 | .or a b,ρ,S=>(ev F a ρ S).bind λx S1=>match x with
  | .bl true=>.ok (.bl true) S1
  | .bl false=>ev F b ρ S1
  |_=>.no
 | .not a,ρ,S=>(ev F a ρ S).bind λx S1=>match x with
  | .bl b=>.ok (.bl (!b)) S1
  |_=>.no
 | .ife c a b,ρ,S=>(tst F c ρ S).bind λt S1=>if t then ev F a ρ S1 else ev F b ρ S1
 | .tup es,ρ,S=>(evs F es ρ S).bind λl S1=>if l.length<=sizeLine then .ok (.tup l) S1 else .no
 | .lst m es,ρ,S=>(evs F es ρ S).bind λl S1=>if l.length<=sizeLine then newL m l S1 else .no
 | .dic m,_,S=>if m then .ok (.ref S.length) (S++[.dic []])else .ok .emp S
 | .dis,_,S=>.ok (.ref S.length) (S++[.dis []])
 | .fmt a,ρ,S=>(ev F a ρ S).bind λx S1=>bStr x S1
 | .join3 a b c,ρ,S=>(ev F a ρ S).bind λx S1=>(ev F b ρ S1).bind λy S2=>(ev F c ρ S2).bind λz S3=>ofO (joinD x y z) S3
 | .call f es,ρ,S=>(evs F es ρ S).bind λl S1=>F f l S1
 | .blt b es,ρ,S=>(evs F es ρ S).bind λl S1=>bltD b l S1
 | .isi t a,ρ,S=>(ev F a ρ S).bind λx S1=>ofO ((isiD S1 t x).map .bl) S1
 | .binM o a b,ρ,S=>(ev F a ρ S).bind λx S1=>(ev F b ρ S1).bind λy S2=>R.binM o x y S2
 | .popAt o i,ρ,S=>(ev F o ρ S).bind λx S1=>if isLst S1 x then(ev F i ρ S1).bind λy S2=>popD S2 x y else .no
 | .app o e,ρ,S=>(ev F o ρ S).bind λx S1=>if isLst S1 x then(ev F e ρ S1).bind λy S2=>appD S2 x y else .no
 | .ext o e,ρ,S=>(ev F o ρ S).bind λx S1=>if isLst S1 x then(ev F e ρ S1).bind λy S2=>extD S2 x y else .no
 | .get o k e,ρ,S=>(ev F o ρ S).bind λx S1=>if isDic S1 x then(ev F k ρ S1).bind λy S2=>(ev F e ρ S2).bind λz S3=>ofO (getD S3 x y z) S3 else .no
 | .idx a i,ρ,S=>(ev F a ρ S).bind λx S1=>(ev F i ρ S1).bind λy S2=>ofO (idxD S2 x y) S2
 | .slc a lo hi,ρ,S=>(ev F a ρ S).bind λx S1=>(evO F lo ρ S1).bind λl S2=>(evO F hi ρ S2).bind λh S3=>ofO (slcD S3 x l h) S3
 | .rev a,ρ,S=>(ev F a ρ S).bind λx S1=>match x with
  | .tup l=>.ok (.tup l.reverse) S1
  |_=>.no
 | .rng k es,ρ,S=>(evs F es ρ S).bind λl S1=>match rngD l with
  |some ds=>if ds.length<=1000000 then(match k with
   |some m=>newL m ds S1
   |none=>.ok (.tup ds) S1)else .no
  |none=>.no
 | .lc m fr nt elt tg it ifs,ρ,S=>(evI F it ρ S).bind λds S1 =>
   (lcLoop S1.length (λd ρ S=>asg F tg d ρ S) (λρ S=>tsts F ifs ρ S) (λρ S=>ev F elt ρ S) ds (frE ρ fr nt) (S1++[.lst []])).bind λ_ S2=>lcEnd m S1.length S2
 | .lcR m fr nt elt tg e ifs,ρ,S=>(ev F e ρ S).bind λx S1=>match refL x S1 with
  |some p=>(lcLoop S1.length (λd ρ S=>grd (own p.1 p.2) S (asg F tg d ρ S)) (λρ S=>tsts F ifs ρ S) (λρ S=>ev F elt ρ S) p.2 (frE ρ fr nt) (S1++[.lst []])).bind λ_ S2=>grd (own p.1 p.2) S2 (lcEnd m S1.length S2)
  |none=>.no
 | .lcX m fr nt elt tg e ifs,ρ,S=>(ev F e ρ S).bind λx S1=>match refX x S1 with
  |some p=>(lcLoop S1.length (λd ρ S=>grd p.2 S (asg F tg d ρ S)) (λρ S=>tsts F ifs ρ S) (λρ S=>ev F elt ρ S) p.1 (frE ρ fr nt) (S1++[.lst []])).bind λ_ S2=>grd p.2 S2 (lcEnd m S1.length S2)
  |none=>.no
 | .genX w fr nt elt tg e ifs,ρ,S=>(ev F e ρ S).bind λx S1=>match refX x S1 with
  |some p=>genLoopG p.2 (λd ρ S=>asg F tg d ρ S) (λρ S=>tsts F ifs ρ S) (λρ S=>ev F elt ρ S) (stepG w) (finG w) p.1 (frE ρ fr nt) (startG w) S1
  |none=>.no
 | .neF a b,ρ,S=>(ev F a ρ S).bind λx S1=>(ev F b ρ S1).bind λy S2=>ofO ((neFD S2 x y).map .bl) S2
 | .rem o i,ρ,S=>(ev F o ρ S).bind λx S1=>if isLst S1 x then(ev F i ρ S1).bind λy S2=>remD S2 x y else .no
 | .idk a i,ρ,S=>(ev F a ρ S).bind λx S1=>(ev F i ρ S1).bind λy S2=>ofO (idkD S2 x y) S2
 | .dcK d e,ρ,S=>(ev F e ρ S).bind λx S1=>match refX x S1 with
  |some p=>match intsOf p.1 with
   |some ns=>if ns.length<1000 then .ok (.ref S1.length) (S1++[.dis (dcKL d ns)])else .no
   |none=>.no
  |none=>.no
 | .lls e,ρ,S=>(ev F e ρ S).bind λx S1=>match x with
  | .tup l=>newLls l.length S1
  |_=>.no
 | .gen w fr nt elt tg it ifs,ρ,S=>(evI F it ρ S).bind λds S1 =>
   genLoop (λd ρ S=>asg F tg d ρ S) (λρ S=>tsts F ifs ρ S) (λρ S=>ev F elt ρ S) (stepG w) (finG w) ds (frE ρ fr nt) (startG w) S1
noncomputable def evs(F:Fs):CEs->En->Sr->Res (List D)
 | .nil,_,S=>.ok [] S
 | .cons e r,ρ,S=>(ev F e ρ S).bind λx S1=>(evs F r ρ S1).bind λl S2=>.ok (x::l) S2
noncomputable def evO(F:Fs):CO->En->Sr->Res (Option Int)
 | .none,_,S=>.ok none S
 | .some e,ρ,S=>(ev F e ρ S).bind λx S1=>match x with|.int i=>.ok (some i) S1|_=>.no
noncomputable def evI(F:Fs):CI->En->Sr->Res (List D)
 | .seq e,ρ,S=>(ev F e ρ S).bind λx S1=>match x with
  | .tup l=>.ok l S1
  | .lst l=>.ok l S1
  |_=>.no
 | .rng es,ρ,S=>(evs F es ρ S).bind λl S1=>ofO (rngD l) S1
 | .zip a b,ρ,S=>(ev F a ρ S).bind λx S1=>(ev F b ρ S1).bind λy S2=>match walkF x,walkF y with
  |some l,some m=>.ok ((l.zip m).map λp=>.tup [p.1,p.2]) S2
  |_,_=>.no
noncomputable def asg(F:Fs):CT->D->En->Sr->Res En
 | .var i,d,ρ,S=>.ok (ρ.set i (some d)) S
 | .tup r,d,ρ,S=>match d with
  | .tup l=>asgs F r l ρ S
  |_=>.no
 | .sub o i,d,ρ,S=>(ev F o ρ S).bind λx S1=>(ev F i ρ S1).bind λy S2=>match putE S2 x y d with
  |some S3=>.ok ρ S3
  |none=>.no
noncomputable def asgs(F:Fs):CTs->List D->En->Sr->Res En
 | .nil,l,ρ,S=>match l with|[]=>.ok ρ S|_=>.no
 | .cons t r,l,ρ,S=>match l with
  |d::m=>(asg F t d ρ S).bind λρ1 S1=>asgs F r m ρ1 S1
  |[]=>.no
noncomputable def tst(F:Fs):CB->En->Sr->Res Bool
 | .val e,ρ,S=>(ev F e ρ S).bind λx S1=>ofO (truD S1 x) S1
 | .and a b,ρ,S=>(tst F a ρ S).bind λt S1=>if t then tst F b ρ S1 else .ok false S1
 | .or a b,ρ,S=>(tst F a ρ S).bind λt S1=>if t then .ok true S1 else tst F b ρ S1
 | .not a,ρ,S=>(tst F a ρ S).bind λt S1=>.ok (!t) S1
noncomputable def tsts(F:Fs):CBs->En->Sr->Res Bool
 | .nil,_,S=>.ok true S
 | .cons e r,ρ,S=>(tst F e ρ S).bind λt S1=>if t then tsts F r ρ S1 else .ok false S1
end
mutual
inductive CS where
 |expr (e:CE)|ret (e:CE)|retN|set (t:CT) (e:CE)|par (i j:Nat) (a b:CE)
 |aug (i:Nat) (o:BOp) (e:CE)|augK (o i e:CE)
 |ifs (c:CB) (a b:CSs)|forS (t:CT) (it:CI) (body:CSs)|forR (t:CT) (e:CE) (body:CSs)|forX (t:CT) (e:CE) (body:CSs)|whileS (c:CB) (body:CSs)
 |pass|brk|cont|never
inductive CSs where|nil|cons (s:CS) (r:CSs)
end
inductive Fl where|nx (ρ:En)|bk (ρ:En)|ct (ρ:En)|rt (d:D)
noncomputable def forLoop(body:D->En->Sr->Res Fl):List D->En->Sr->Res Fl
 |[],ρ,S=>.ok (.nx ρ) S
 |d::r,ρ,S=>(body d ρ S).bind λf S1=>match f with
  | .nx ρ1=>forLoop body r ρ1 S1
  | .ct ρ1=>forLoop body r ρ1 S1
  | .bk ρ1=>.ok (.nx ρ1) S1
  | .rt d=>.ok (.rt d) S1
noncomputable def endG(gd:Sr->Prop)(r:Res Fl):Res Fl:=r.bind λf S=>match f with
 | .rt d=>.ok (.rt d) S
 |f=>grd gd S (.ok f S)
noncomputable def whileLoop(test:En->Sr->Res Bool)(body:En->Sr->Res Fl):Nat->En->Sr->Res Fl
 |0,_,_=>.no
 |n+1,ρ,S=>(test ρ S).bind λt S1=>if t then(body ρ S1).bind λf S2=>(match f with
   | .nx ρ1=>whileLoop test body n ρ1 S2
   | .ct ρ1=>whileLoop test body n ρ1 S2
   | .bk ρ1=>.ok (.nx ρ1) S2
   | .rt d=>.ok (.rt d) S2)
  else .ok (.nx ρ) S1
mutual
noncomputable def ex(F:Fs)(N:Nat):CS->En->Sr->Res Fl
 | .expr e,ρ,S=>(ev F e ρ S).bind λ_ S1=>.ok (.nx ρ) S1
 | .ret e,ρ,S=>(ev F e ρ S).bind λd S1=>.ok (.rt d) S1
 | .retN,_,S=>.ok (.rt .non) S
 | .set t e,ρ,S=>(ev F e ρ S).bind λd S1=>(asg F t d ρ S1).bind λρ1 S2=>.ok (.nx ρ1) S2
 | .par i j a b,ρ,S=>(ev F a ρ S).bind λx S1=>(ev F b ρ S1).bind λy S2=>.ok (.nx ((ρ.set i (some x)).set j (some y))) S2
 | .aug i o e,ρ,S=>(varE ρ i S).bind λx S0=>(ev F e ρ S0).bind λy S1=>match x,y with
  | .int a,.int b=>match o with
   | .add=>.ok (.nx (ρ.set i (some (.int (a+b))))) S1
   | .sub=>.ok (.nx (ρ.set i (some (.int (a-b))))) S1
   |_=>.no
  |_,_=>.no
 | .augK o i e,ρ,S=>(ev F o ρ S).bind λx S1=>(ev F i ρ S1).bind λy S2=>match idkD S2 x y with
  |some (.int a)=>(ev F e ρ S2).bind λz S3=>match z with
   | .int b=>match putE S3 x y (.int (a+b))with
    |some S4=>.ok (.nx ρ) S4
    |none=>.no
   |_=>.no
  |_=>.no
 | .ifs c a b,ρ,S=>(tst F c ρ S).bind λt S1=>if t then exs F N a ρ S1 else exs F N b ρ S1
 | .forS t it body,ρ,S=>(evI F it ρ S).bind λds S1=>forLoop (λd ρ S=>(asg F t d ρ S).bind λρ1 S1=>exs F N body ρ1 S1) ds ρ S1
 | .forX t e body,ρ,S=>(ev F e ρ S).bind λx S1=>match refX x S1 with
  |some p=>endG p.2 (forLoop (λd ρ S=>(grd p.2 S (asg F t d ρ S)).bind λρ1 S1=>exs F N body ρ1 S1) p.1 ρ S1)
  |none=>.no
 | .forR t e body,ρ,S=>(ev F e ρ S).bind λx S1=>match refL x S1 with
  |some p=>endG (own p.1 p.2) (forLoop (λd ρ S=>(grd (own p.1 p.2) S (asg F t d ρ S)).bind λρ1 S1=>exs F N body ρ1 S1) p.2 ρ S1)
  |none=>.no
 | .whileS c body,ρ,S=>whileLoop (λρ S=>tst F c ρ S) (λρ S=>exs F N body ρ S) N ρ S
 | .pass,ρ,S=>.ok (.nx ρ) S
 | .brk,ρ,S=>.ok (.bk ρ) S
 | .cont,ρ,S=>.ok (.ct ρ) S
 | .never,_,_=>.no
noncomputable def exs(F:Fs)(N:Nat):CSs->En->Sr->Res Fl
 | .nil,ρ,S=>.ok (.nx ρ) S
 | .cons s r,ρ,S=>(ex F N s ρ S).bind λf S1=>match f with
  | .nx ρ1=>exs F N r ρ1 S1
  |f=>.ok f S1
end
structure CF where
 np:Nat
 nn:Nat
 keeps:Bool
 body:CSs
mutual
noncomputable def frz(S:Sr)(n:Nat):D->Option D
 | .tup l=>(frzs S n l).map .tup
 | .lst l=>(frzs S n l).map .lst
 | .ref m=>if m<n then some (.ref m)else match S[m]? with
  |some (.lst l)=>if refsLts n l then some (.lst l)else none
  |_=>none
 | .non=>some .non|.bl b=>some (.bl b)|.int i=>some (.int i)|.str x=>some (.str x)|.emp=>some .emp
noncomputable def frzs(S:Sr)(n:Nat):List D->Option (List D)
 |[]=>some []
 |d::r=>match frz S n d,frzs S n r with
  |some d',some r'=>some (d'::r')
  |_,_=>none
end
noncomputable def leave(keeps:Bool)(n:Nat)(d:D)(S:Sr):Res D :=
 if keeps then .ok d S
 else if S.length=n then .ok d S
 else if refsLt n d then .ok d (S.take n)else match frz S n d with
  |some d'=>.ok d' (S.take n)
  |none=>.no
noncomputable def callC(F:Fs)(N:Nat)(c:CF)(l:List D)(S:Sr):Res D :=
 if l.length=c.np then
  (exs F N c.body (l.map some++List.replicate (c.nn-c.np) none) S).bind λf S1=>match f with
   | .nx _=>leave c.keeps S.length .non S1
   | .rt d=>leave c.keeps S.length d S1
   |_=>.no
 else .no
noncomputable def run(P:List CF)(N:Nat):Nat->Fs
 |0,_,_,_=>.no
 |k+1,f,l,S=>match P[f]? with
  |some c=>callC (run P N k) N c l S
  |none=>.no
end R
namespace R
open PySem PySem.Spec L2
open PyProof.Rows hiding St
structure EnR (ι:List Addr) (H:Hp) (ρ:En) (σ:St):Prop where
 len:ρ.length=σ.length
 get:∀(i:Nat) (d:D),ρ[i]?=some (some d)->∃v,σ[i]?=some (some v)/\Den ι H d v
theorem EnR.mono{ι c:List Addr}{H H':Hp}{ρ:En}{f:St}(e:EnR ι H ρ f)(s:Stp ι H c H'):EnR c H' ρ f :=
 ⟨e.len,λi d h=>let ⟨v,a,b⟩:=e.get i d h;⟨v,a,Den.mono s d b⟩⟩
theorem EnR.set{ι:List Addr}{H:Hp}{ρ:En}{a:St}(e:EnR ι H ρ a){i:Nat}{d:D}{v:V}(h:Den ι H d v):EnR ι H (ρ.set i (some d)) (a.set i (some v)):=by
 refine⟨by simp[e.len],λj x q=>?_⟩
 by_cases z:i=j
 .subst z
  have b:i<ρ.length:=by
   have:=(wK.mp q).1
   simpa using this
  rw[vr b]at q
  cases q
  exact⟨v,vr (by rw[<-e.len];exact b),h⟩
 .rw [uc z]at q ⊢
  exact e.get j x q
def Pst{d e:Type}(R:List Addr->Hp->d->e->Prop)(r:Res d)(ι:List Addr)(H:Hp)(Q:e->Hp->Prop):Prop:=match r with
 | .ok a f=>∀b c H',Stp ι H c H'->Sto c H' f->R c H' a b->Q b H'
 | .err _ _=>False
 | .no=>False
theorem Pst.from{e f:Type}{R:List Addr->Hp->e->f->Prop}{r:Res e}{ι c:List Addr}{H H':Hp}{Q:f->Hp->Prop}(h:Pst R r ι H Q)(s:Stp ι H c H'):Pst R r c H' Q:=by
 cases r with
 |ok a S=>exact λb d H2 t st q=>h b d H2 (s.trans t) st q
 |err=>exact h
 |no=>exact h
theorem Pst.bind{d i j l:Type}{R:List Addr->Hp->d->i->Prop}{m:List Addr->Hp->j->l->Prop}{r:Res d}{f:d->Sr->Res j}{ι:List Addr}{H:Hp}{Q:l->Hp->Prop}{K:i->Hp->Prop}(h:Pst m (r.bind f) ι H Q)(k:∀a n c H' b,Stp ι H c H'->Sto c H' n->R c H' a b->Pst m (f a n) c H' Q->K b H'):Pst R r ι H K:=by
 cases r with
 |ok a S=>exact λb e H2 t st q=>k a S e H2 b t st q (Pst.from h t)
 |err=>exact h
 |no=>exact h
theorem Pst.ofO{d e:Type}{R:List Addr->Hp->d->e->Prop}{o:Option d}{S:Sr}{ι:List Addr}{H:Hp}{Q:e->Hp->Prop}(h:Pst R (ofO o S) ι H Q)(st:Sto ι H S):∃a,o=some a/\∀b c H',Stp ι H c H'->Sto c H' S->R c H' a b->Q b H':=by
 cases o with
 |none=>exact h.elim
 |some a=>exact⟨a,rfl,h⟩
noncomputable def TG{a b:Type}(R:List Addr->Hp->a->b->Prop)(m:En->Sr->Res a):St->Hp->(b->Hp->Prop)->Prop:=λc H Q=>∃ι S ρ,EnR ι H ρ c/\Sto ι H S/\Pst R (m ρ S) ι H Q
noncomputable abbrev T(m:En->Sr->Res D):TE:=TG Den m
noncomputable abbrev TL(m:En->Sr->Res (List D)):TA:=TG Dens m
def EqR{c:Type}(_:List Addr)(_:Hp)(a b:c):Prop:=a=b
noncomputable abbrev TB(m:En->Sr->Res Bool):TT:=TG EqR m
noncomputable abbrev TOp(m:En->Sr->Res (Option Int)):TO:=TG EqR m
theorem TG.b1{d l n o:Type}{R:List Addr->Hp->d->l->Prop}{q:List Addr->Hp->n->o->Prop}{m:En->Sr->Res d}{f:En->d->Sr->Res n}{e:St}{H:Hp}{Q:o->Hp->Prop}{K:l->Hp->Prop}(h:TG q (λρ S=>(m ρ S).bind λa S1=>f ρ a S1) e H Q)(k:∀ι S ρ a b c,EnR ι c ρ e->Sto ι c S->R ι c a b->Pst q (f ρ a S) ι c Q->K b c):TG R m e H K:=by
 obtain⟨ι,S,ρ,r,st,h⟩:=h
 exact⟨ι,S,ρ,r,st,Pst.bind h λa u i H' b s j v p=>k i u ρ a b H' (r.mono s) j v p⟩
theorem Pst.tg{e l n o:Type}{R:List Addr->Hp->e->l->Prop}{q:List Addr->Hp->n->o->Prop}{m:En->Sr->Res e}{ρ:En}{S:Sr}{f:e->Sr->Res n}{ι:List Addr}{i:St}{H:Hp}{Q:o->Hp->Prop}{K:l->Hp->Prop}(h:Pst q ((m ρ S).bind f) ι H Q)(r:EnR ι H ρ i)(st:Sto ι H S)(k:∀a d c H' b,Stp ι H c H'->EnR c H' ρ i->Sto c H' d->R c H' a b->Pst q (f a d) c H' Q->K b H'):TG R m i H K :=
 ⟨ι,S,ρ,r,st,Pst.bind h λa d c H' b s j u p=>k a d c H' b s (r.mono s) j u p⟩
theorem PEimp{X:Cx}{e:Expr}{t t':TE}(h:PE X e t)(k:∀a H Q,t' a H Q->t a H Q):PE X e t':=λpins s a H Q I b=>h pins s a H Q I (k a H Q b)
theorem PTimp{X:Cx}{e:Expr}{t t':TT}(h:PT X e t)(k:∀a H Q,t' a H Q->t a H Q):PT X e t':=λpins s a H Q I b=>h pins s a H Q I (k a H Q b)
theorem PAimp{X:Cx}{e:List Expr}{t t':TA}(h:PA X e t)(k:∀a H Q,t' a H Q->t a H Q):PA X e t':=λpos pins s a H Q I b=>h pos pins s a H Q I (k a H Q b)
section
variable{ι:List Addr}{H:Hp}{S:Sr}{v:V}
theorem qT(st:Sto ι H S):∀{d:D} {l:List D},lstOf S d=some l->Den ι H d v->∃a xs,v=.ref a/\Rd H a (.lst xs)/\Dens ι H l xs
 | .lst b,l,h,hd=>by
  cases h
  obtain⟨a,xs,e,_,r,q⟩:=hd
  exact⟨a,xs,e,r,q⟩
 | .ref n,l,h,hd=>by
  obtain⟨a,e,ha⟩:=hd
  simp only[lstOf]at h
  split at h
  .rename_i b c
   cases h
   obtain⟨_,xs,f,i⟩:=st.obj n a _ ha c
   exact⟨a,xs,e,.inl f,i⟩
  .cases h
 | .non,_,h,_=>by cases h
 | .bl _,_,h,_=>by cases h
 | .int _,_,h,_=>by cases h
 | .str _,_,h,_=>by cases h
 | .tup _,_,h,_=>by cases h
 | .emp,_,h,_=>by cases h
theorem ze{m:Bool}{l:List D}{xs:List V}{Q:V->Hp->Prop}(st:Sto ι H S)(c:Dens ι H l xs)(h:Pst Den (newL m l S) ι H Q):∀p,H p=none->Q (.ref p) (upd H p (.lst xs)):=by
 intro p a
 unfold newL at h
 cases m with
 |true =>
  rw[wM rfl]at h
  by_cases b:refsLts 0 l=true
  .rw [wM b]at h
   have g:=Stp.grow (ι:=ι) a (.lst xs)
   have ep:(ι++[p])[ι.length]?=some p:=by simp
   refine h (.ref p) _ _ g (st.grow a ⟨⟨_,ep,qP l b⟩,xs,qr,Dens.mono g l c⟩) ⟨p,rfl,?_⟩
   rw[<-st.len];exact ep
  .rw [wL b]at h;exact h.elim
 |false =>
  have g:=Stp.laid (ι:=ι) a (.lst xs)
  exact h (.ref p) _ _ g (st.laid a _) ⟨p,xs,rfl,st.fresh a,.inl qr,Dens.mono g l c⟩
theorem zf{l:List D}{xs:List V}{Q:V->Hp->Prop}(st:Sto ι H S)(c:Dens ι H l xs)(h:∀v a H',Stp ι H a H'->Sto a H' S->Den a H' (.tup l) v->Q v H'):∀p,H p=none->Q (.ref p) (upd H p (.tup xs)):=by
 intro p b
 have g:=Stp.laid (ι:=ι) b (.tup xs)
 exact h (.ref p) _ _ g (st.laid b _) ⟨p,xs,rfl,st.fresh b,qr,Dens.mono g l c⟩
end
section
variable{X:Cx}
theorem qi1{i:Nat}{x:Str}{pos:Pos}(h:PE X (.Name x pos) (tVar i)):PE X (.Name x pos) (T λρ S=>varE ρ i S):=PEimp h λf H Q a=>by
 obtain⟨ι,S,ρ,b,st,p⟩:=a
 dsimp only[varE]at p
 split at p
 .rename_i d hd
  obtain⟨v,c,e⟩:=b.get i d hd
  exact⟨v,c,p v ι H (Stp.refl _ _) st e⟩
 .exact p.elim
theorem qek{e:Expr}{d:D}{v:V}(h:PE X e (tC v))(hd:∀ι H,Den ι H d v):PE X e (T λ_ S=>.ok d S):=PEimp h λb H Q a=>by
 obtain⟨ι,S,ρ,c,st,p⟩:=a
 exact p v ι H (Stp.refl _ _) st (hd ι H)
theorem qhN{e:Expr}{d:D}{v:V}(h:PE X e (λ_ H Q=>Q v H))(hd:∀ι H,Den ι H d v):PE X e (T λ_ S=>.ok d S):=qek h hd
theorem qi2:PA X [] (TL λ_ S=>.ok [] S):=PAimp qbK λb H Q a=>by
 obtain⟨ι,S,ρ,c,st,p⟩:=a
 exact p [] ι H (Stp.refl _ _) st rfl
theorem qhO{e:Expr}{es:List Expr}{m:En->Sr->Res D}{f:En->Sr->Res (List D)}(h:PE X e (T m))(i:PA X es (TL f))(j:starEach (e::es) X.env=(false,eval e X.env)::starEach es X.env):
  PA X (e::es) (TL λρ S=>(m ρ S).bind λx S1=>(f ρ S1).bind λl S2=>.ok (x::l) S2):=PAimp (jc h i j) λv H Q n=>by
 refine TG.b1 n λι S ρ a b w o st q p=>Pst.tg p o st λl S2 c H2 xs s2 r d s u=>?_
 exact u _ c H2 (Stp.refl _ _) d ⟨b,xs,rfl,Den.mono s2 a q,s⟩
noncomputable def G2(g:D->D->Sr->Res D):R2:=λx y H Q=>∃ι S dx a,Sto ι H S/\Den ι H dx x/\Den ι H a y/\Pst Den (g dx a S) ι H Q
theorem T2{f mb:En->Sr->Res D}{g:D->D->Sr->Res D}{i:St}{H:Hp}{Q:VK}(h:T (λρ S=>(f ρ S).bind λx S1=>(mb ρ S1).bind λy S2=>g x y S2) i H Q):tOp (G2 g) (T f) (T mb) i H Q :=
 TG.b1 h λι S ρ a b q j st l p=>Pst.tg p j st λm S2 c H2 r s2 n d e o=>⟨c,S2,a,m,d,Den.mono s2 a l,e,o⟩
theorem qi3{a b:Expr}{op:Operator}{pos:Pos}{c mb:En->Sr->Res D}{g:D->D->Sr->Res D}(d:OpR X (binaryOp op) (G2 g))(ha:PE X a (T c))(e:PE X b (T mb)):
  PE X (.BinOp a op b pos) (T λρ S=>(c ρ S).bind λx S1=>(mb ρ S1).bind λy S2=>g x y S2):=PEimp (qiP d ha e) λf H Q=>T2
theorem qi4{a b:Expr}{op:CmpOp}{pos:Pos}{c mb:En->Sr->Res D}{g:D->D->Sr->Res D}(d:OpR X (compareOp op) (G2 g))(ha:PE X a (T c))(e:PE X b (T mb))(hm:behindInMarks op b=false):
  PE X (.Compare a [op] [b] pos) (T λρ S=>(c ρ S).bind λx S1=>(mb ρ S1).bind λy S2=>g x y S2):=PEimp (qfW d ha e hm) λf H Q=>T2
theorem qbX{pins:List (Addr×Obj)}{b:St}{H:Hp}{s:Shared}{l:Addr}{xs:List V}(I:Inv X pins b H s)(c:Rd H l (.lst xs)):xs.length<=sizeLine/\∃(a:List Value) (n:Nat),Vals xs a/\xs.length=a.length/\s.heap.get? l=some {cls:=.type "list",data:=.seq a.toArray n}:=by
 obtain⟨z,a,n,r,e⟩:=c.ok I.hok
 exact⟨z,a,n,r,r.length,e⟩
theorem qgc:OpR X (binaryOp .Add) (λx y H Q=>∃l b xs d,x=.ref l/\y=.ref b/\Rd H l (.lst xs)/\Rd H b (.lst d)/\xs.length+d.length<=sizeLine/\∀p,H p=none->Q (.ref p) (upd H p (.lst (xs++d)))):=by
 intro pins s C H x y v u Q I f i h
 obtain⟨l,b,xs,d,rfl,rfl,j,m,hz,q⟩:=h
 cases f
 cases i
 obtain⟨z,c,n,r,E,e⟩:=qbX I j
 obtain⟨F,a,J,o,w,A⟩:=qbX I m
 refine PySem.P.add_list e A ?_ (by rw[wH,wH];lia)
 have B:c.toArray++a.toArray=(c++a).toArray:=by simp
 rw[B]
 exact⟨.ref _,_,I.lnew (t':=s.toks) (r.append o) (by rw[vK];lia),rfl,q _ I.fresh⟩
theorem qgd:OpR X (binaryOp .Mult) (λx y H Q=>∃l k xs,x=.ref l/\y=.int k/\Rd H l (.lst xs)/\-(2^63)<=k/\k<2^63/\xs.length*k.toNat<=sizeLine /\
 ∀p,H p=none->Q (.ref p) (upd H p (.lst (List.replicate k.toNat xs).flatten))):=by
 intro pins s M H x y v u Q I A B h
 obtain⟨l,k,xs,rfl,rfl,C,E,J,hz,q⟩:=h
 cases A
 obtain⟨t,rfl⟩:=B
 obtain⟨z,b,n,r,K,e⟩:=qbX I C
 have d:b.toArray.size*k.toNat<=sizeLine:=by rw[wH,<-K];exact hz
 have f:¬b.toArray.size*k.toNat>(2^63-1) / 8:=by
  have:(sizeLine:Nat)<=(2^63-1) / 8:=by decide
  lia
 have i:¬(!Builtin.List.listFitsIndex k)=true:=by
  rw[fitsIndex_both E J]
  exact wR
 have c:¬Builtin.List.listTooLong (b.toArray.size*k.toNat)=true:=by
  rw[notLongL d]
  exact wR
 have j:List.foldl (λo w=>o++w) #[] (List.replicate (if b.toArray.isEmpty=true then 0 else k.toNat) b.toArray)=(List.replicate k.toNat b).flatten.toArray:=by
  have L:∀m:Nat,List.foldl (λo w=>o++w) #[] (List.replicate m b.toArray)=(List.replicate m b).flatten.toArray:=λm=>by
   have:=yR b m []
   rw[List.nil_append]at this
   exact this
  rw[L]
  cases b with
  |nil=>simp
  |cons a N=>rw[wL (by simp)]
 refine wpAny_binaryOp_repeat_ref (T:="list") (U:="int") (by decide) ⟨_,e,rfl⟩ (λs'=>ug s' k t) noFill_list_mul F.fills_int_mul xU repeat_list F.slot_int_index.lookup
  (call_meets xU (ug s k t) F.entry_int_rmul (F.args_int_rmul_2 _ _) (int___rmul___int_list k t l b.toArray n)
   ⟨e,rfl,⟨_,e,rfl⟩,call_meets F.slot_list_mul ⟨_,e,rfl⟩ F.entry_list_mul (F.args_list_mul_2 _ _) (AutoListH.list___mul___list_int_3 l b.toArray n k t i f c) ⟨e,?_⟩⟩)
 rw[j]
 exact⟨.ref _,_,I.lnew (t':=s.toks) (r.rep k.toNat) (by rw[qah,Nat.mul_comm];exact hz),rfl,q _ I.fresh⟩
noncomputable def opOf:BOp->Operator
 | .add=>.Add|.sub=>.Sub|.mul=>.Mult|.fdiv=>.FloorDiv|.mod=>.Mod|.pow=>.Pow|.shl=>.LShift|.shr=>.RShift|.band=>.BitAnd
theorem qhP(o:BOp):OpR X (binaryOp (opOf o)) (λx y H Q=>∃i j r,x=.int i/\y=.int j/\binI o i j=some r/\Q (.int r) H):=by
 intro pins s b H x y v u Q I c d h
 obtain⟨i,j,r,rfl,rfl,e,q⟩:=h
 have fin:∀{a:Int} {t:Tok} {tk:Nat},r=a->EP X pins b Q (.int a t) {s with toks:=tk}:=λ{a t tk} z=>by subst z;exact⟨.int r,H,I.tok _,⟨_,rfl⟩,q⟩
 obtain⟨f,rfl⟩:=c
 obtain⟨l,rfl⟩:=d
 cases o with
 |add=>exact add_int (fin (by cases e;rfl))
 |sub=>exact sub_int (fin (by cases e;rfl))
 |mul =>
  simp only[binI]at e
  split at e
  .rename_i hm
   exact mul_int (fin (by cases e;rfl)) (by unfold mulOk at hm;unfold IntMulOk;intro z;rw[z]at hm;exact absurd hm (by decide))
  .cases e
 |fdiv =>
  simp only[binI]at e
  split at e
  .rename_i hm
   simp only[divOk,wP,uH,wt]at hm
   exact floordiv_int hm.1 (fin (by cases e;rfl)) (.inl hm.2)
  .cases e
 |mod =>
  simp only[binI]at e
  split at e
  .cases e
  .rename_i hm
   exact mod_int' hm (fin (by cases e;rfl))
 |pow =>
  simp only[binI]at e
  split at e
  .rename_i hm
   exact pow_int_small hm.1 hm.2.1 hm.2.2 (fin (by cases e;rfl))
  .cases e
 |shl =>
  simp only[binI]at e
  split at e
  .rename_i hm
   exact lshift_int_small hm.1 hm.2.1 hm.2.2 (fin (by cases e;rfl))
  .cases e
 |shr =>
  simp only[binI]at e
  split at e
  .rename_i hm
   exact qhx pins s b H (.int i) (.int j) _ _ Q I ⟨f,rfl⟩ ⟨l,rfl⟩ ⟨i,j,rfl,rfl,hm,by cases e;exact q⟩
  .cases e
 |band=>exact and_int (fin (by cases e;rfl))
end
end R
namespace R
open PySem PySem.Spec L2 SeqAt
open PyProof.Rows hiding St
theorem qa6{f:D->D->Option Bool}:∀{a b:List D} {r:Bool},eqL f a b=some r ->
  (∀(j:Nat) (x y:D),a[j]?=some x->b[j]?=some y->∃c,f x y=some c) /\
  r=((List.range (min a.length b.length)).all (λj=>match a[j]?,b[j]? with|some x,some y=>(f x y).getD false|_,_=>false)&&a.length == b.length)
 |[],[],r,h=>by cases h;exact⟨λj x y h _=>by simp at h,by simp⟩
 |[],_::_,r,h=>by cases h;exact⟨λj x y h _=>by simp at h,by simp⟩
 |_::_,[],r,h=>by cases h;exact⟨λj x y _ h=>by simp at h,by simp⟩
 |a::p,b::q,r,h=>by
  simp only[eqL]at h
  split at h
  .rename_i x y hx m
   obtain⟨d,i⟩:=qa6 m
   cases h
   refine⟨λj z w hz l=>?_,?_⟩
   .cases j with
    |zero=>simp at hz l;subst hz l;exact⟨x,hx⟩
    |succ j=>exact d j z w (by simpa using hz) (by simpa using l)
   .have e:min (a::p).length (b::q).length=min p.length q.length+1:=by simp only[wc];lia
    rw[e,List.range_succ_eq_map,uf,List.all_map]
    simp only[uT,hx,Option.getD_some]
    rw[i,Bool.and_assoc]
    congr 1
    congr 1
    simp only[wc]
    rw[uB,ve,ve];lia
  .cases h
section
variable{ι:List Addr}{H:Hp}
theorem jp{a:Addr}{xs ys:List V}(h:H a=some (.tup xs))(k:Rd H a (.lst ys)):False:=by
 rcases k with k|⟨o,k⟩ <;> (rw[h]at k;cases k)
theorem rd_inj{a:Addr}{xs ys:List V}(h:Rd H a (.lst xs))(k:Rd H a (.lst ys)):xs=ys:=by
 rcases h with h|⟨o,h⟩ <;> rcases k with k|⟨o',k⟩ <;> (rw[h]at k;first|(cases k;done)|(cases k;rfl))
theorem jq{f:D->D->Option Bool}(c:∀x y v b,Den ι H x v->Den ι H y v->f x y=some b->b=true):∀{a b:List D} {xs:List V} {r:Bool},Dens ι H a xs->Dens ι H b xs->eqL f a b=some r->r=true
 |[],[],_,r,_,_,h=>by cases h;rfl
 |[],_::_,_,r,h1,h2,h=>by
  cases (show _=[]from h1)
  obtain⟨x,r,e,_⟩:=h2
  cases e
 |_::_,[],_,r,h1,h2,h=>by
  cases (show _=[]from h2)
  obtain⟨x,r,e,_⟩:=h1
  cases e
 |a::p,b::q,_,r,h1,h2,h=>by
  obtain⟨x,t,rfl,d1,e1⟩:=h1
  obtain⟨j,t',e,d2,d⟩:=h2
  cases e
  simp only[eqL]at h
  split at h
  .rename_i y z i hz
   cases h
   rw[c a b x y d1 d2 i,jq c e1 d hz]
   all_goals rfl
  .cases h
theorem jr:∀(n:Nat) (x y:D) (v:V) (b:Bool),Den ι H x v->Den ι H y v->eqD n x y=some b->b=true
 |0,_,_,_,_,_,_,h=>by cases h
 |n+1,x,y,v,b,hx,hy,h=>by
  cases x <;> cases y <;> simp only[eqD,Den]at h hx hy <;> first
   | (cases h;rfl)
   | (cases h;subst hx;first|(cases hy;done)|(cases hy;simp;done))
   | (obtain⟨a,xs,rfl,_⟩:=hx;cases hy;done)
   | (obtain⟨a,xs,rfl,_⟩:=hy;cases hx;done)
   | (obtain⟨a,rfl,_⟩:=hx;cases h;done)
   | (obtain⟨a,rfl,_⟩:=hy;cases h;done)
   | (obtain⟨a,xs,rfl,_,ha,r⟩:=hx
      obtain⟨j,f,e,_,c,d⟩:=hy
      cases e
      first
        | (rw[ha]at c;cases c;exact jq (λx y v b=>jr n x y v b) r d h)
        | (cases rd_inj ha c
           have i:_=_:=r.length.trans d.length.symm
           rw[wM i]at h
           exact jq (λx y v b=>jr n x y v b) r d h)
        |exact(jp ha c).elim
        |exact(jp c ha).elim)
end
section
variable{X:Cx}{pins:List (Addr×Obj)}{σ:St}{H:Hp}{s:Shared}{ι:List Addr}
theorem Vals.at{xs:List V}{us:List Value}(r:Vals xs us){j:Nat}(h:j<us.length):∃x,xs[j]?=some x/\RelV x us[j]:=by
 have c:=r.length
 obtain⟨u,a,b⟩:=r.get (i:=j) (x:=xs[j]'(by lia)) (wD (by lia))
 rw[wD h]at a
 cases a
 exact⟨_,wD (by lia),b⟩
theorem Dens.at{ds:List D}{xs:List V}{j:Nat}{x:V}(h:Dens ι H ds xs)(e:xs[j]?=some x):∃d,ds[j]?=some d/\Den ι H d x:=by
 have c:=h.length
 have f:=(wK.mp e).1
 obtain⟨y,a,b⟩:=h.get (i:=j) (d:=ds[j]'(by lia)) (wD (by lia))
 rw[e]at a;cases a
 exact⟨_,wD (by lia),b⟩
theorem yU(I:Inv X pins σ H s){a:Addr}{xs:List V}(h:H a=some (.tup xs)):∃b:List Value,Vals xs b/\IsTup s.heap a b.toArray/\xs.length<=sizeLine:=by
 obtain⟨z,b,r,p,_⟩:=I.hok a _ h
 exact⟨b,r,p,z⟩
theorem qam(I:Inv X pins σ H s){a:Addr}{xs:List V}(h:Rd H a (.lst xs)):∃b:List Value,Vals xs b/\s.heap.IsList a b.toArray/\xs.length<=sizeLine:=by
 obtain⟨z,b,n,r,e⟩:=h.ok I.hok
 exact⟨b,r,⟨_,e,rfl,n,rfl⟩,z⟩
def EqAll(A:Around)(s:Shared)(v u:Value)(b:Bool):Prop:=RcAt A s v u b/\RcNeAt A s v u (!b)/\EqAt A s v u b
theorem yp{v:V}{i:Int}{u:Value}(h:Den ι H (.int i) v)(r:RelV v u):∃t,u=.int i t:=by cases (show v=_ from h);exact r
theorem yq{v:V}{i:Str}{u:Value}(h:Den ι H (.str i) v)(r:RelV v u):∃t,u=.str i t:=by cases (show v=_ from h);exact r
theorem vs_bl{v:V}{i:Bool}{u:Value}(h:Den ι H (.bl i) v)(r:RelV v u):u=.bool i:=by cases (show v=_ from h);exact r
theorem vs_non{v:V}{u:Value}(h:Den ι H .non v)(r:RelV v u):u=.none:=by cases (show v=_ from h);exact r
theorem yr(I:Inv X pins σ H s){v:V}{l:List D}{u:Value}(h:Den ι H (.tup l) v)(r:RelV v u):∃a b xs,v=.ref a/\u=.ref a/\Vals xs b/\Dens ι H l xs/\s.heap.IsTuple a b.toArray/\H a=some (.tup xs):=by
 obtain⟨a,xs,rfl,_,ha,d⟩:=h
 cases r
 obtain⟨b,c,p,_⟩:=yU I ha
 exact⟨a,b,xs,rfl,rfl,c,d,p,ha⟩
theorem yt(I:Inv X pins σ H s){v:V}{l:List D}{u:Value}(h:Den ι H (.lst l) v)(r:RelV v u):∃a b xs,v=.ref a/\u=.ref a/\Vals xs b/\Dens ι H l xs/\s.heap.IsList a b.toArray/\Rd H a (.lst xs):=by
 obtain⟨a,xs,rfl,_,ha,d⟩:=h
 cases r
 obtain⟨b,c,p,_⟩:=qam I ha
 exact⟨a,b,xs,rfl,rfl,c,d,p,ha⟩
theorem qel{f:D->D->Option Bool}{A:Around}{a b:List D}{xs ys:List V}{i d:List Value}{r:Bool}(L:∀x y c v u l m,f x y=some c->Den ι H x v->Den ι H y u->RelV v l->RelV u m->EqAt A s l m c)(h:eqL f a b=some r)(n:Dens ι H a xs)(o:Dens ι H b ys)(p:Vals xs i)(q:Vals ys d):
  ∃e:Nat->Bool,(∀j (w:j<i.toArray.size) (z:j<d.toArray.size),EqAt A s i.toArray[j] d.toArray[j] (e j))/\r=((List.range (min i.toArray.size d.toArray.size)).all e&&i.toArray.size == d.toArray.size) /\
   a.length=i.length/\b.length=d.length:=by
 obtain⟨w,z⟩:=qa6 h
 have B:a.length=i.length:=n.length.trans p.length
 have C:b.length=d.length:=o.length.trans q.length
 refine⟨_,λj E F=>?_,by rw[wH,wH,<-B,<-C];exact z,B,C⟩
 simp only[wH]at E F
 obtain⟨x,e1,M⟩:=Vals.at p E
 obtain⟨y,N,O⟩:=Vals.at q F
 obtain⟨d1,I,P⟩:=n.at e1
 obtain⟨d2,J,Q⟩:=o.at N
 obtain⟨c,K⟩:=w j d1 d2 I J
 simp only[I,J,K,Option.getD_some,List.getElem_toArray]
 exact L d1 d2 c x y _ _ K P Q M O
theorem qbY(I:Inv X pins σ H s):∀(n:Nat) (A:Around) (x y:D) (b:Bool) (v u:V) (o q:Value),eqD n x y=some b->Den ι H x v->Den ι H y u->RelV v o->RelV u q->A.units+n<cLine->EqAll A s o q b
 |0,_,_,_,_,_,_,_,_,h,_,_,_,_,_=>by cases h
 |n+1,A,x,y,b,v,u,o,q,h,hx,hy,rx,ry,hu=>by
  have f:A.units<cLine:=by lia
  have r:=jr (ι:=ι) (H:=H) (n+1) x y
  have O:∀x y c v u o q,eqD n x y=some c->Den ι H x v->Den ι H y u->RelV v o->RelV u q->EqAt A.in1 s o q c:=λx y c v u o q S U W Y Z =>
   (qbY I n A.in1 x y c v u o q S U W Y Z (by show A.units+1+n<cLine;lia)).2.2
  cases x with
  |ref k=>cases y <;> cases h
  |emp=>cases y <;> cases h
  |non =>
   cases vs_non hx rx
   cases y with
   |ref k=>cases h
   |emp=>cases h
   |non=>cases vs_non hy ry;cases h;exact⟨RcAt.none_none,RcNeAt.none_none,EqAt.same _⟩
   |bl c=>cases vs_bl hy ry;cases h;exact⟨RcAt.none_bool _,RcNeAt.none_bool _,EqAt.none_bool _⟩
   |int c=>obtain⟨t,rfl⟩:=yp hy ry;cases h;exact⟨RcAt.none_int _ _,RcNeAt.none_int _ _,EqAt.none_int _ _⟩
   |str c=>obtain⟨t,rfl⟩:=yq hy ry;cases h;exact⟨RcAt.none_str _ _,RcNeAt.none_str _ _,EqAt.none_str _ _⟩
   |tup l=>obtain⟨a,j,xs,_,rfl,_,_,p,_⟩:=yr I hy ry;cases h;exact⟨RcAt.none_tuple p f,RcNeAt.none_tuple p f,EqAt.none_tuple p f⟩
   |lst l=>obtain⟨a,j,xs,_,rfl,_,_,p,_⟩:=yt I hy ry;cases h;exact⟨RcAt.none_list p f,RcNeAt.none_list p f,EqAt.none_list p f⟩
  |bl d =>
   cases vs_bl hx rx
   cases y with
   |ref k=>cases h
   |emp=>cases h
   |non=>cases vs_non hy ry;cases h;exact⟨RcAt.bool_none _,RcNeAt.bool_none _,EqAt.bool_none _⟩
   |bl c=>cases vs_bl hy ry;cases h;exact⟨RcAt.bool_bool _ _,RcNeAt.bool_bool _ _,EqAt.bool_bool _ _⟩
   |int c=>obtain⟨t,rfl⟩:=yp hy ry;cases h;exact⟨RcAt.bool_int _ _ _,RcNeAt.bool_int _ _ _,EqAt.bool_int _ _ _⟩
   |str c=>obtain⟨t,rfl⟩:=yq hy ry;cases h;exact⟨RcAt.bool_str _ _ _,RcNeAt.bool_str _ _ _,EqAt.bool_str _ _ _⟩
   |tup l=>obtain⟨a,j,xs,_,rfl,_,_,p,_⟩:=yr I hy ry;cases h;exact⟨RcAt.bool_tuple _ p f,RcNeAt.bool_tuple _ p f,EqAt.bool_tuple _ p f⟩
   |lst l=>obtain⟨a,j,xs,_,rfl,_,_,p,_⟩:=yt I hy ry;cases h;exact⟨RcAt.bool_list _ p f,RcNeAt.bool_list _ p f,EqAt.bool_list _ p f⟩
  |int d =>
   obtain⟨tt,rfl⟩:=yp hx rx
   cases y with
   |ref k=>cases h
   |emp=>cases h
   |non=>cases vs_non hy ry;cases h;exact⟨RcAt.int_none _ _,RcNeAt.int_none _ _,EqAt.int_none _ _⟩
   |bl c=>cases vs_bl hy ry;cases h;exact⟨RcAt.int_bool _ _ _,RcNeAt.int_bool _ _ _,EqAt.int_bool _ _ _⟩
   |int c=>obtain⟨t,rfl⟩:=yp hy ry;cases h;exact⟨RcAt.int_int _ _ _ _,RcNeAt.int_int _ _ _ _,EqAt.int_int _ _ _ _⟩
   |str c=>obtain⟨t,rfl⟩:=yq hy ry;cases h;exact⟨RcAt.int_str _ _ _ _,RcNeAt.int_str _ _ _ _,EqAt.int_str _ _ _ _⟩
   |tup l=>obtain⟨a,j,xs,_,rfl,_,_,p,_⟩:=yr I hy ry;cases h;exact⟨RcAt.int_tuple _ _ p f,RcNeAt.int_tuple _ _ p f,EqAt.int_tuple _ _ p f⟩
   |lst l=>obtain⟨a,j,xs,_,rfl,_,_,p,_⟩:=yt I hy ry;cases h;exact⟨RcAt.int_list _ _ p f,RcNeAt.int_list _ _ p f,EqAt.int_list _ _ p f⟩
  |str d =>
   obtain⟨tt,rfl⟩:=yq hx rx
   cases y with
   |ref k=>cases h
   |emp=>cases h
   |non=>cases vs_non hy ry;cases h;exact⟨RcAt.str_none _ _,RcNeAt.str_none _ _,EqAt.str_none _ _⟩
   |bl c=>cases vs_bl hy ry;cases h;exact⟨RcAt.str_bool _ _ _,RcNeAt.str_bool _ _ _,EqAt.str_bool _ _ _⟩
   |int c=>obtain⟨t,rfl⟩:=yp hy ry;cases h;exact⟨RcAt.str_int _ _ _ _,RcNeAt.str_int _ _ _ _,EqAt.str_int _ _ _ _⟩
   |str c=>obtain⟨t,rfl⟩:=yq hy ry;cases h;exact⟨RcAt.str_str _ _ _ _,RcNeAt.str_str _ _ _ _,EqAt.str_str _ _ _ _⟩
   |tup l=>obtain⟨a,j,xs,_,rfl,_,_,p,_⟩:=yr I hy ry;cases h;exact⟨RcAt.str_tuple _ _ p f,RcNeAt.str_tuple _ _ p f,EqAt.str_tuple _ _ p f⟩
   |lst l=>obtain⟨a,j,xs,_,rfl,_,_,p,_⟩:=yt I hy ry;cases h;exact⟨RcAt.str_list _ _ p f,RcNeAt.str_list _ _ p f,EqAt.str_list _ _ p f⟩
  |tup d =>
   obtain⟨m,its',L,e1,rfl,C,E,i,ha⟩:=yr I hx rx
   cases y with
   |ref k=>cases h
   |emp=>cases h
   |non=>cases vs_non hy ry;cases h;exact⟨RcAt.tuple_none i f,RcNeAt.tuple_none i f,EqAt.tuple_none i f⟩
   |bl c=>cases vs_bl hy ry;cases h;exact⟨RcAt.tuple_bool _ i f,RcNeAt.tuple_bool _ i f,EqAt.tuple_bool _ i f⟩
   |int c=>obtain⟨t,rfl⟩:=yp hy ry;cases h;exact⟨RcAt.tuple_int _ _ i f,RcNeAt.tuple_int _ _ i f,EqAt.tuple_int _ _ i f⟩
   |str c=>obtain⟨t,rfl⟩:=yq hy ry;cases h;exact⟨RcAt.tuple_str _ _ i f,RcNeAt.tuple_str _ _ i f,EqAt.tuple_str _ _ i f⟩
   |tup l =>
    obtain⟨a,j,xs,M,rfl,F,J,p,hb⟩:=yr I hy ry
    have w:eqL (eqD n) d l=some b:=h
    obtain⟨e,B,K,_⟩:=qel O w E J C F
    have P:RcAt A s (.ref m) (.ref a) b:=by rw[K];exact RcAt.tuples i p f B
    have R2:RcNeAt A s (.ref m) (.ref a) (!b):=by rw[K];exact RcNeAt.tuples i p f B
    refine⟨P,R2,?_⟩
    by_cases z:m=a
    .subst z
     rw[r (.ref m) b (e1 ▸ hx) (M ▸ hy) h]
     exact EqAt.same _
    .exact EqAt.of_refs z P
   |lst l=>obtain⟨a,j,xs,_,rfl,_,_,p,_⟩:=yt I hy ry;cases h;exact⟨RcAt.tuple_list i p f,RcNeAt.tuple_list i p f,EqAt.tuple_list i p f⟩
  |lst d =>
   obtain⟨m,its',L,e1,rfl,C,E,i,ha⟩:=yt I hx rx
   cases y with
   |ref k=>cases h
   |emp=>cases h
   |non=>cases vs_non hy ry;cases h;exact⟨RcAt.list_none i f,RcNeAt.list_none i f,EqAt.list_none i f⟩
   |bl c=>cases vs_bl hy ry;cases h;exact⟨RcAt.list_bool _ i f,RcNeAt.list_bool _ i f,EqAt.list_bool _ i f⟩
   |int c=>obtain⟨t,rfl⟩:=yp hy ry;cases h;exact⟨RcAt.list_int _ _ i f,RcNeAt.list_int _ _ i f,EqAt.list_int _ _ i f⟩
   |str c=>obtain⟨t,rfl⟩:=yq hy ry;cases h;exact⟨RcAt.list_str _ _ i f,RcNeAt.list_str _ _ i f,EqAt.list_str _ _ i f⟩
   |tup l=>obtain⟨a,j,xs,_,rfl,_,_,p,_⟩:=yr I hy ry;cases h;exact⟨RcAt.list_tuple i p f,RcNeAt.list_tuple i p f,EqAt.list_tuple i p f⟩
   |lst l =>
    obtain⟨a,j,xs,M,rfl,F,J,p,hb⟩:=yt I hy ry
    have w:(if d.length=l.length then eqL (eqD n) d l else some false)=some b:=h
    have la:d.length=its'.length:=E.length.trans C.length
    have lb:l.length=j.length:=J.length.trans F.length
    have R:RcAt A s (.ref m) (.ref a) b/\RcNeAt A s (.ref m) (.ref a) (!b):=by
     by_cases Q:d.length=l.length
     .rw [wM Q]at w
      obtain⟨e,B,K,_⟩:=qel O w E J C F
      have hsz:its'.toArray.size=j.toArray.size:=by rw[wH,wH];lia
      have N:b=(List.range its'.toArray.size).all e:=by
       rw[K,hsz];simp
      rw[N]
      exact⟨RcAt.lists i p hsz f B,RcNeAt.lists i p hsz f B⟩
     .rw [wL Q]at w
      cases w
      have hsz:(its'.toArray.size != j.toArray.size)=true:=by
       rw[wH,wH];simp;lia
      exact⟨RcAt.lists_lengths i p hsz f,RcNeAt.lists_lengths i p hsz f⟩
    refine⟨R.1,R.2,?_⟩
    by_cases z:m=a
    .subst z
     rw[r (.ref m) b (e1 ▸ hx) (M ▸ hy) h]
     exact EqAt.same _
    .exact EqAt.of_refs z R.1
end
end R
namespace R
open PySem PySem.Spec L2 SeqAt
open PyProof.Rows hiding St
section
variable{X:Cx}
theorem Dens.rep{ι:List Addr}{H:Hp}{ds:List D}{xs:List V}(h:Dens ι H ds xs):∀k:Nat,Dens ι H (List.replicate k ds).flatten (List.replicate k xs).flatten
 |0=>by simp[Dens]
 |k+1=>by
  simp only[wd,uC]
  exact h.append (Dens.rep h k)
theorem qem:OpR X (binaryOp .Add) (λx y H Q=>∃a b xs ys,x=.ref a/\y=.ref b/\H a=some (.tup xs)/\H b=some (.tup ys)/\xs.length+ys.length<=sizeLine /\
  (xs=[]->Q (.ref b) H)/\(xs≠[]->ys=[]->Q (.ref a) H)/\(xs≠[]->ys≠[]->∀p,H p=none->Q (.ref p) (upd H p (.tup (xs++ys))))):=by
 intro pins s B H x y v u Q I o q h
 obtain⟨a,b,xs,ys,rfl,rfl,ha,r,hz,C,q1,q2⟩:=h
 by_cases hx:xs=[]
 .subst hx
  cases o
  cases q
  obtain⟨i,E,J,_⟩:=yU I ha
  obtain⟨c,O,K,_⟩:=yU I r
  obtain⟨⟨cls,L,data,sl⟩,w,z,n,hd⟩:=id J
  obtain⟨⟨A,j,l,m⟩,d,e,M,f⟩:=id K
  simp only at z hd e f
  subst z hd e f
  have N:i=[]:=E.nil_iff.mpr rfl
  subst N
  exact concat_meets ⟨_,w,rfl⟩ ⟨_,d,rfl⟩ noFill_tuple_add seq_tuple_add xP xH (xB _ _)
   (tuple_addW0 a b _ c.toArray n M L j sl m (by simp)) ⟨w,d,⟨.ref b,H,I,rfl,C rfl⟩⟩
 .exact qf3 pins s B H _ _ v u Q I o q ⟨a,b,xs,ys,rfl,rfl,.inl (.inl ha),.inl (.inl r),hx,hz,q1 hx,q2 hx⟩
theorem qge(o:BOp):OpR X (binaryOp (opOf o)) (G2 λx y S=>ofO (binD o x y S) S):=by
 intro pins s n H x y v u Q I w A h
 obtain⟨ι,S,dx,N,st,hx,B,p⟩:=h
 obtain⟨d,e,q⟩:=Pst.ofO p st
 have C:∀v,Den ι H d v->Q v H:=λv K=>q v ι H (Stp.refl _ _) st K
 unfold binD at e
 split at e
 .rename_i i j
  cases (show x=_ from hx)
  cases (show y=_ from B)
  cases E:binI o i j with
  |none=>rw[E]at e;cases e
  |some r =>
   rw[E]at e;cases e
   exact qhP o pins s n H _ _ v u Q I w A ⟨i,j,r,rfl,rfl,E,C _ rfl⟩
 .rename_i a b
  cases o <;> try (cases e;done)
  dsimp only at e
  split at e
  .rename_i c
   cases e
   cases (show x=_ from hx)
   cases (show y=_ from B)
   exact qbJ pins s n H _ _ v u Q I w A ⟨a,b,rfl,rfl,c,C _ rfl⟩
  .cases e
 .rename_i a b
  cases o <;> try (cases e;done)
  dsimp only at e
  split at e
  .rename_i c
   cases e
   obtain⟨l,xs,rfl,J,f,d1⟩:=hx
   obtain⟨m,ys,rfl,L,F,d2⟩:=B
   have hz:xs.length+ys.length<=sizeLine:=by
    have:=vQ c
    rw[d1.length,d2.length]at this;exact this
   refine qem pins s n H _ _ v u Q I w A ⟨l,m,xs,ys,rfl,rfl,f,F,hz,λz=>?_,λ_ z=>?_,λ_ _=>zf st (d1.append d2) q⟩
   .subst z
    have:a=[]:=vZ.mp (by rw[d1.length];rfl)
    subst this
    exact C _ ⟨m,ys,rfl,L,F,by simpa using d2⟩
   .subst z
    have:b=[]:=vZ.mp (by rw[d2.length];rfl)
    subst this
    exact C _ ⟨l,xs,rfl,J,f,by simpa using d1⟩
  .cases e
 .rename_i a k
  cases o <;> try (cases e;done)
  dsimp only at e
  split at e
  .rename_i c
   cases e
   obtain⟨l,xs,rfl,J,f,d1⟩:=hx
   cases (show y=_ from B)
   obtain⟨c1,c2,c3⟩:=vQ c
   refine qf8 pins s n H _ _ v u Q I w A ⟨l,k,xs,rfl,rfl,.inl (.inl f),c1,c2,by rw[<-d1.length];exact c3,λz=>?_,λ_=>zf st (d1.rep _) q⟩
   have M:rep a k=a:=by
    unfold rep
    rcases z with z|z
    .subst z
     have:a=[]:=vZ.mp (by rw[d1.length];rfl)
     subst this
     simp
    .subst z;simp
   rw[M]at C
   exact C _ ⟨l,xs,rfl,J,f,d1⟩
  .cases e
 .rename_i k _ _
  cases o <;> try (cases e;done)
  dsimp only at e
  split at e
  .rename_i a ha
   split at e
   .rename_i c
    cases e
    obtain⟨l,xs,rfl,f,d1⟩:=qT st ha hx
    cases (show y=_ from B)
    obtain⟨c1,c2,c3⟩:=vQ c
    exact qgd pins s n H _ _ v u Q I w A ⟨l,k,xs,rfl,rfl,f,c1,c2,by rw[<-d1.length];exact c3,ze (m:=false) st (d1.rep _) q⟩
   .cases e
  .cases e
 .cases o <;> try (cases e;done)
  dsimp only at e
  split at e
  .rename_i a b ha E
   split at e
   .rename_i c
    cases e
    obtain⟨l,xs,rfl,f,d1⟩:=qT st ha hx
    obtain⟨m,ys,rfl,F,d2⟩:=qT st E B
    have hz:xs.length+ys.length<=sizeLine:=by
     have:=vQ c
     rw[d1.length,d2.length]at this;exact this
    exact qgc pins s n H _ _ v u Q I w A ⟨l,m,xs,ys,rfl,rfl,f,F,hz,ze (m:=false) st (d1.append d2) q⟩
   .cases e
  .cases e
theorem intsOf_eq:∀{l:List D} {m:List Int},intsOf l=some m->l=m.map .int
 |[],m,h=>by cases h;rfl
 | .int i::r,m,h=>by
  simp only[intsOf]at h
  cases e:intsOf r with
  |none=>rw[e]at h;cases h
  |some a=>rw[e]at h;cases h;rw[intsOf_eq e];rfl
 | .non::_,_,h=>by cases h
 | .bl _::_,_,h=>by cases h
 | .str _::_,_,h=>by cases h
 | .tup _::_,_,h=>by cases h
 | .lst _::_,_,h=>by cases h
 | .emp::_,_,h=>by cases h
 | .ref _::_,_,h=>by cases h
theorem dens_ints{ι:List Addr}{H:Hp}:∀{m:List Int} {xs:List V},Dens ι H (m.map .int) xs->xs=m.map .int
 |[],xs,h=>h
 |i::m,xs,h=>by
  obtain⟨x,r,rfl,a,b⟩:=h
  rw[dens_ints b,show x=_ from a];rfl
noncomputable def cOf:COp->CmpOp
 | .eq=>.Eq|.ne=>.NotEq|.lt=>.Lt|.le=>.LtE|.gt=>.Gt|.ge=>.GtE|.is=>.Is|.isn=>.IsNot|.inn=>.In|.nin=>.NotIn
theorem js{ι:List Addr}{H:Hp}:∀{d:D} {v:V},flatD d=true->Den ι H d v->flatV v=true
 | .non,_,_,h=>by cases (show _=_ from h);rfl
 | .bl _,_,_,h=>by cases (show _=_ from h);rfl
 | .int _,_,_,h=>by cases (show _=_ from h);rfl
 | .str _,_,_,h=>by cases (show _=_ from h);rfl
 | .tup _,_,h,_=>by cases h
 | .lst _,_,h,_=>by cases h
 | .emp,_,h,_=>by cases h
 | .ref _,_,h,_=>by cases h
theorem qgf{ι:List Addr}{H:Hp}{d e:D}{v u:V}(fd:flatD d=true)(a:flatD e=true)(h:Den ι H d v)(k:Den ι H e u):eqV v u=eqF d e:=by
 cases d <;> cases e <;> first
  | (cases fd;done)
  | (cases a;done)
  | (cases (show v=_ from h);cases (show u=_ from k);simp[eqV,eqF,Bool.beq_eq_decide_eq];done)
theorem qbZ{ι:List Addr}{H:Hp}{x:D}{v:V}(a:flatD x=true)(hx:Den ι H x v):∀{l:List D} {xs:List V},l.all flatD=true->Dens ι H l xs->xs.all flatV=true/\inV v xs=l.any λy=>eqF y x
 |[],xs,_,h=>by cases (show _=[]from h);exact⟨rfl,rfl⟩
 |d::l,xs,hf,h=>by
  obtain⟨y,r,rfl,b,c⟩:=h
  simp only[uf,wP]at hf
  obtain⟨i1,i2⟩:=qbZ a hx hf.2 c
  refine⟨by simp[js hf.1 b,i1],?_⟩
  unfold inV at i2 ⊢
  rw[vn,vn,qgf hf.1 a b hx,i2]
theorem zn{ι:List Addr}{H:Hp}{S:Sr}{v:V}(st:Sto ι H S){d:D}{l:List D}(h:seqOf S d=some l)(hd:Den ι H d v):∃a xs,v=.ref a/\(Rd H a (.lst xs)\/H a=some (.tup xs))/\Dens ι H l xs:=by
 unfold seqOf at h
 split at h
 .cases h
  obtain⟨a,xs,e,_,ha,r⟩:=hd
  exact⟨a,xs,e,.inr ha,r⟩
 .obtain ⟨a,xs,e,ha,r⟩:=qT st h hd
  exact⟨a,xs,e,.inl ha,r⟩
theorem qgg{a b:Bool}{M:Model}{A:Around}{E:Value->Shared->Prop}{s:Shared}{Q:Value->Shared->Prop}(h:Q (.bool (a == b)) s):wpAny M A (compareOp .Is (.bool a) (.bool b)) Q E s :=
 wpAny_is_plain (by rfl) (by cases a <;> cases b <;> exact h)
theorem qen{a b:Bool}{M:Model}{A:Around}{E:Value->Shared->Prop}{s:Shared}{Q:Value->Shared->Prop}(h:Q (.bool (!(a == b))) s):wpAny M A (compareOp .IsNot (.bool a) (.bool b)) Q E s :=
 wpAny_isNot_plain (by rfl) (by cases a <;> cases b <;> exact h)
theorem yi(o:COp)(O:X.A.units+30<cLine):OpR X (compareOp (cOf o)) (G2 λx y S=>ofO ((cmpD o x y S).map .bl) S):=by
 intro pins s w H x y v u Q I f i h
 obtain⟨ι,S,dx,C,st,hx,j,p⟩:=h
 obtain⟨d,e,q⟩:=Pst.ofO p st
 obtain⟨b,N,rfl⟩:∃b,cmpD o dx C S=some b/\d=.bl b:=by
  cases z:cmpD o dx C S with
  |none=>rw[z]at e;cases e
  |some b=>rw[z]at e;cases e;exact⟨b,rfl,rfl⟩
 clear e p
 have e:=N
 clear N
 have r:Q (.bl b) H:=q (.bl b) ι H (Stp.refl _ _) st rfl
 have fin:EP X pins w Q (.bool b) s:=⟨.bl b,H,I,rfl,r⟩
 cases o with
 |eq=>exact(qbY I 20 X.A dx C b x y v u e hx j f i (by lia)).1 _ _ _ _ fin
 |ne =>
  cases z:eqD 20 dx C with
  |none=>simp only[cmpD,z]at e;cases e
  |some c =>
   simp only[cmpD,z]at e;cases e
   exact(qbY I 20 X.A dx C c x y v u z hx j f i (by lia)).2.1 _ _ _ _ fin
 |lt =>
  simp only[cmpD]at e
  split at e
  .cases (show x=_ from hx);cases (show y=_ from j);cases e
   exact qiQ pins s w H _ _ v u Q I f i ⟨_,_,rfl,rfl,r⟩
  .split at e
   .rename_i m n hm hn
    cases e
    cases intsOf_eq hm
    cases intsOf_eq hn
    obtain⟨E,xs,rfl,_,F,d1⟩:=hx
    obtain⟨J,ys,rfl,_,K,d2⟩:=j
    cases dens_ints d1
    cases dens_ints d2
    exact qhF (by lia) pins s w H _ _ v u Q I f i ⟨E,J,m,n,rfl,rfl,.inl (.inl F),.inl (.inl K),r⟩
   .cases e
  .cases e
 |le =>
  simp only[cmpD]at e
  split at e
  .cases (show x=_ from hx);cases (show y=_ from j);cases e
   exact qiR pins s w H _ _ v u Q I f i ⟨_,_,rfl,rfl,r⟩
  .cases e
 |gt =>
  simp only[cmpD]at e
  split at e
  .cases (show x=_ from hx);cases (show y=_ from j);cases e
   exact qiS pins s w H _ _ v u Q I f i ⟨_,_,rfl,rfl,r⟩
  .cases e
 |ge =>
  simp only[cmpD]at e
  split at e
  .cases (show x=_ from hx);cases (show y=_ from j);cases e
   exact qiT pins s w H _ _ v u Q I f i ⟨_,_,rfl,rfl,r⟩
  .split at e
   .rename_i m n hm hn
    cases e
    cases intsOf_eq hm
    cases intsOf_eq hn
    obtain⟨E,xs,rfl,_,F,d1⟩:=hx
    obtain⟨J,ys,rfl,_,K,d2⟩:=j
    cases dens_ints d1
    cases dens_ints d2
    exact qhL (by lia) pins s w H _ _ v u Q I f i ⟨E,J,m,n,rfl,rfl,.inl (.inl F),.inl (.inl K),r⟩
   .cases e
  .cases e
 |is =>
  simp only[cmpD]at e
  split at e
  .cases (show y=_ from j)
   refine qhy pins s w H _ _ v u Q I f i ⟨rfl,?_⟩
   cases dx <;> simp only[Option.some.injEq]at e <;> subst e <;> first
    | (cases (show x=_ from hx);exact r)
    | (obtain⟨a,_,rfl,_⟩:=hx;exact r)
    | (obtain⟨a,rfl,_⟩:=hx;exact r)
  .split at e
   .cases (show x=_ from hx);cases (show y=_ from j);cases e
    cases f;cases i
    exact qgg fin
   .cases (show x=_ from hx);cases (show y=_ from j);cases e
    cases f;cases i
    exact wpAny_is_other (by rfl) (by intro z;cases z) fin
   .cases e
  .cases e
 |isn =>
  simp only[cmpD]at e
  split at e
  .cases (show y=_ from j)
   refine qfV pins s w H _ _ v u Q I f i ⟨rfl,?_⟩
   cases dx <;> simp only[Option.some.injEq]at e <;> subst e <;> first
    | (cases (show x=_ from hx);exact r)
    | (obtain⟨a,_,rfl,_⟩:=hx;exact r)
    | (obtain⟨a,rfl,_⟩:=hx;exact r)
  .split at e
   .cases (show x=_ from hx);cases (show y=_ from j);cases e
    cases f;cases i
    exact qen fin
   .cases (show x=_ from hx);cases (show y=_ from j);cases e
    cases f;cases i
    exact wpAny_isNot_other (by rfl) (by intro z;cases z) fin
   .cases e
  .cases e
 |inn =>
  simp only[cmpD]at e
  cases z:seqOf S C with
  |none=>rw[z]at e;cases e
  |some l =>
   rw[z]at e
   have e:inD dx l=some b:=e
   unfold inD at e
   split at e
   .rename_i B
    simp only[wP]at B
    cases e
    obtain⟨a,xs,rfl,L,M⟩:=zn st z j
    obtain⟨i1,i2⟩:=qbZ B.1 hx B.2 M
    refine qdd pins s w H _ _ v u Q I f i ⟨a,xs,rfl,L.elim (λz=>.inl (.inl z)) (λz=>.inr (.inl (.inl z))),js B.1 hx,i1,?_⟩
    rw[wL (by decide),i2];exact r
   .cases e
 |nin =>
  simp only[cmpD]at e
  cases z:seqOf S C with
  |none=>rw[z]at e;cases e
  |some l =>
   rw[z]at e
   have e:(inD dx l).map (!·)=some b:=e
   unfold inD at e
   split at e
   .rename_i B
    simp only[wP]at B
    cases e
    obtain⟨a,xs,rfl,L,M⟩:=zn st z j
    obtain⟨i1,i2⟩:=qbZ B.1 hx B.2 M
    refine qag pins s w H _ _ v u Q I f i ⟨a,xs,rfl,L.elim (λz=>.inl (.inl z)) (λz=>.inr (.inl (.inl z))),js B.1 hx,i1,?_⟩
    rw[wM (by decide),i2];exact r
   .cases e
end
end R
namespace R
open PySem PySem.Spec L2 SeqAt
open PyProof.Rows hiding St
section
variable{X:Cx}{pos:Pos}
theorem qgh{ι:List Addr}{H:Hp}{S:Sr}{K:PySem.W.Frag}(st:Sto ι H S){d:D}{v:V}{b:Bool}(h:truD S d=some b)(hd:Den ι H d v):TruV K v H b:=by
 have e:∀{l:List D},lstOf S d=some l->b=(!l.isEmpty)->TruV K v H b:=λ{l} hl hb=>by
  obtain⟨a,xs,rfl,j,f⟩:=qT st hl hd
  refine .inl ⟨xs,.inl j,?_⟩
  rw[hb];have:=f.length
  cases l <;> cases xs <;> first|rfl|(simp at this;done)
 cases d with
 |non=>cases h;cases (show v=_ from hd);exact(rfl:false=false)
 |bl c=>cases h;cases (show v=_ from hd);exact(show b=b from rfl)
 |int i=>cases h;cases (show v=_ from hd);exact(rfl:(i != 0)=(i != 0))
 |str x =>
  cases (show v=_ from hd)
  simp only[truD]at h
  split at h
  .cases h;exact⟨by assumption,rfl⟩
  .cases h
 |tup l =>
  cases h
  obtain⟨a,xs,rfl,_,ha,f⟩:=hd
  refine .inr (.inl ⟨xs,.inl (.inl ha),?_⟩)
  have:=f.length
  cases l <;> cases xs <;> first|rfl|(simp at this;done)
 |emp =>
  cases h
  obtain⟨a,rfl,_,ha⟩:=hd
  exact .inr (.inr ⟨[],ha,rfl⟩)
 |lst l =>
  simp only[truD,lstOf,wb,Option.some.injEq]at h
  exact e rfl h.symm
 |ref n =>
  simp only[truD]at h
  cases z:lstOf S (.ref n)with
  |none=>rw[z]at h;cases h
  |some l=>rw[z]at h;cases h;exact e z rfl
noncomputable def mVal(m:En->Sr->Res D):En->Sr->Res Bool:=λρ S=>(m ρ S).bind λx S1=>ofO (truD S1 x) S1
theorem qhQ{e:Expr}{m:En->Sr->Res D}(h:PE X e (T m))(d:∀c,isTrue e X.env c=(do let v <-c;standAt e.pos;holding [v] (truthy v))):PT X e (TB (mVal m)) :=
 PTimp (qdT h d) λl H Q f=>TG.b1 f λι S ρ a b i n st j p=>by
  obtain⟨k,e1,q⟩:=Pst.ofO p st
  exact⟨k,qgh st e1 j,q k ι i (Stp.refl _ _) st rfl⟩
def IsB(m:En->Sr->Res D):Prop:=∀ρ S d a,m ρ S=.ok d a->∃c,d=.bl c
theorem toTest{m:En->Sr->Res D}(j:IsB m){h:St}{H:Hp}{Q:Bool->Hp->Prop}(l:TB (mVal m) h H Q):tTest (T m) h H Q:=by
 obtain⟨ι,S,ρ,n,st,p⟩:=l
 refine⟨ι,S,ρ,n,st,?_⟩
 dsimp only[mVal]at p ⊢
 cases z:m ρ S with
 |no=>rw[z]at p;exact p
 |err x i=>rw[z]at p;exact p
 |ok d i =>
  rw[z]at p
  obtain⟨c,rfl⟩:=j ρ S d i z
  intro b a H' s' e f
  cases (show b=_ from f)
  exact⟨c,rfl,p c a H' s' e rfl⟩
theorem qgi{a mb:En->Sr->Res D}{g:D->D->Sr->Option Bool}:IsB (λρ S=>(a ρ S).bind λx S1=>(mb ρ S1).bind λy S2=>ofO ((g x y S2).map D.bl) S2):=by
 intro ρ S d b z
 dsimp only at z
 cases z1:a ρ S with
 |no=>rw[z1]at z;cases z
 |err=>rw[z1]at z;cases z
 |ok x S1 =>
  rw[z1,Res.bind_ok]at z
  cases z2:mb ρ S1 with
  |no=>rw[z2]at z;cases z
  |err=>rw[z2]at z;cases z
  |ok y S2 =>
   rw[z2,Res.bind_ok]at z
   cases z3:g x y S2 with
   |none=>rw[z3]at z;cases z
   |some c=>rw[z3]at z;cases z;exact⟨c,rfl⟩
theorem qhR{a b:Expr}{op:CmpOp}{c mb:En->Sr->Res D}{g:D->D->Sr->Option Bool}(d:OpR X (compareOp op) (G2 λx y S=>ofO ((g x y S).map D.bl) S))(ha:PE X a (T c))(e:PE X b (T mb))(hm:behindInMarks op b=false):
  PT X (.Compare a [op] [b] pos) (TB (mVal λρ S=>(c ρ S).bind λx S1=>(mb ρ S1).bind λy S2=>ofO ((g x y S2).map D.bl) S2)) :=
 PTimp (qfX d ha e hm) λh H Q f=>T2 (toTest qgi f)
noncomputable def mChain(g g':D->D->Sr->Option Bool)(b mb c:En->Sr->Res D):En->Sr->Res D:=λρ S=>(b ρ S).bind λx S1=>(mb ρ S1).bind λy S2=>match g x y S2 with
 |some true=>(c ρ S2).bind λz a=>ofO ((g' y z a).map D.bl) a
 |some false=>.ok (.bl false) S2
 |none=>.no
theorem qcr{u mb w:En->Sr->Res D}{g g':D->D->Sr->Option Bool}{A:St}{H:Hp}{Q:VK}(h:T (mChain g g' u mb w) A H Q):
  tChain (G2 λx y S=>ofO ((g x y S).map D.bl) S) (G2 λx y S=>ofO ((g' x y S).map D.bl) S) (T u) (T mb) (T w) A H Q:=by
 refine TG.b1 h λι S ρ a b M B st C p=>Pst.tg p B st λd S2 l H2 N s2 m n e f=>?_
 refine⟨l,S2,a,d,n,Den.mono s2 a C,e,?_⟩
 cases z:g a d S2 with
 |none=>rw[z]at f;exact f.elim
 |some c =>
  rw[z]at f
  show Pst Den (ofO (Option.map D.bl (g a d S2)) S2) _ _ _
  rw[z]
  intro v o H3 j i E
  cases (show v=_ from E)
  refine⟨c,rfl,?_⟩
  cases c with
  |false=>rw[wL (by decide)];exact f _ o H3 j i rfl
  |true =>
   rw[wM rfl]
   refine Pst.tg (ρ:=ρ) (Pst.from f j) (m.mono j) i λF I q O P J K r s L=>?_
   exact⟨q,I,d,F,r,Den.mono (j.trans J) d e,s,L⟩
theorem qdp{a mb b:En->Sr->Res D}{g g':D->D->Sr->Option Bool}:IsB (mChain g g' a mb b):=by
 intro ρ S d f z
 dsimp only[mChain]at z
 cases z1:a ρ S with
 |no=>rw[z1]at z;cases z
 |err=>rw[z1]at z;cases z
 |ok x S1 =>
  rw[z1,Res.bind_ok]at z
  cases z2:mb ρ S1 with
  |no=>rw[z2]at z;cases z
  |err=>rw[z2]at z;cases z
  |ok y S2 =>
   rw[z2,Res.bind_ok]at z
   cases z3:g x y S2 with
   |none=>rw[z3]at z;cases z
   |some c =>
    rw[z3]at z
    cases c with
    |false=>cases z;exact⟨_,rfl⟩
    |true =>
     dsimp only at z
     cases z4:b ρ S2 with
     |no=>rw[z4]at z;cases z
     |err=>rw[z4]at z;cases z
     |ok w e =>
      rw[z4,Res.bind_ok]at z
      cases z5:g' y w e with
      |none=>rw[z5]at z;cases z
      |some c=>rw[z5]at z;cases z;exact⟨_,rfl⟩
theorem qgj{a b c:Expr}{op d:CmpOp}{f mb h:En->Sr->Res D}{g g':D->D->Sr->Option Bool}(i:OpR X (compareOp op) (G2 λx y S=>ofO ((g x y S).map D.bl) S))(e:OpR X (compareOp d) (G2 λx y S=>ofO ((g' x y S).map D.bl) S))(ha:PE X a (T f))(j:PE X b (T mb))(l:PE X c (T h))(hm:lastMarks [op,d] [b,c]=false):PE X (.Compare a [op,d] [b,c] pos) (T (mChain g g' f mb h)) :=
 PEimp (qdR i e ha j l hm) λm H Q=>qcr
theorem qeo{a b c:Expr}{op d:CmpOp}{f mb h:En->Sr->Res D}{g g':D->D->Sr->Option Bool}(i:OpR X (compareOp op) (G2 λx y S=>ofO ((g x y S).map D.bl) S))(e:OpR X (compareOp d) (G2 λx y S=>ofO ((g' x y S).map D.bl) S))(ha:PE X a (T f))(j:PE X b (T mb))(l:PE X c (T h))(hm:lastMarks [op,d] [b,c]=false):PT X (.Compare a [op,d] [b,c] pos) (TB (mVal (mChain g g' f mb h))) :=
 PTimp (qdS i e ha j l hm) λn H Q m=>qcr (toTest qdp m)
theorem qhS{a:Expr}{b:Expr}{rest:List Expr}{c mb:En->Sr->Res Bool}(ha:PT X a (TB c))(d:PW X (.BoolOp .And (b::rest) pos) (TB mb)):
  PW X (.BoolOp .And (a::b::rest) pos) (TB λρ S=>(c ρ S).bind λt S1=>if t then mb ρ S1 else .ok false S1):=λe pins s f H Q I h=>by
 refine qhl ha d e pins s f H Q I (TG.b1 h λι S ρ x y i j st l p=>?_)
 cases (show x=y from l)
 cases x with
 |true=>rw[wM rfl];exact⟨ι,S,ρ,j,st,p⟩
 |false=>rw[wL (by decide)];exact p false ι i (Stp.refl _ _) st rfl
theorem qi5{a:Expr}{b:Expr}{rest:List Expr}{c mb:En->Sr->Res Bool}(ha:PT X a (TB c))(d:PW X (.BoolOp .Or (b::rest) pos) (TB mb)):
  PW X (.BoolOp .Or (a::b::rest) pos) (TB λρ S=>(c ρ S).bind λt S1=>if t then .ok true S1 else mb ρ S1):=λe pins s f H Q I h=>by
 refine qiN ha d e pins s f H Q I (TG.b1 h λι S ρ x y i j st l p=>?_)
 cases (show x=y from l)
 cases x with
 |true=>rw[wM rfl];exact p true ι i (Stp.refl _ _) st rfl
 |false=>rw[wL (by decide)];exact⟨ι,S,ρ,j,st,p⟩
theorem qhT{a:Expr}{b:En->Sr->Res Bool}(ha:PT X a (TB b)):PT X (.UnaryOp .Not a pos) (TB λρ S=>(b ρ S).bind λt S1=>.ok (!t) S1) :=
 PTimp (qhm ha) λf H Q c=>TG.b1 c λι S ρ x y d h st e p=>by
  cases (show x=y from e)
  exact p _ ι d (Stp.refl _ _) st rfl
theorem qi6{a:Expr}{b:Expr}{rest:List Expr}{d mb:En->Sr->Res D}(ha:PE X a (T d))(e:PE X (.BoolOp .And (b::rest) pos) (T mb)):
  PE X (.BoolOp .And (a::b::rest) pos) (T λρ S=>(d ρ S).bind λx S1=>match x with|.bl true=>mb ρ S1|.bl false=>.ok (.bl false) S1|_=>.no) :=
 PEimp (qho ha e) λl H Q f=>TG.b1 f λι S ρ x y h i st j p=>by
  cases x with
  |bl c =>
   cases (show y=_ from j)
   refine⟨c,rfl,?_⟩
   cases c with
   |true=>rw[wM rfl];exact⟨ι,S,ρ,i,st,p⟩
   |false=>rw[wL (by decide)];exact p _ ι h (Stp.refl _ _) st rfl
  |_=>exact p.elim
theorem qi7{a:Expr}{d:En->Sr->Res D}(ha:PE X a (T d)):PE X (.UnaryOp .Not a pos) (T λρ S=>(d ρ S).bind λx S1=>match x with|.bl b=>.ok (.bl (!b)) S1|_=>.no) :=
 PEimp (qhp ha) λi H Q e=>TG.b1 e λι S ρ x y f j st h p=>by
  cases x with
  |bl c =>
   cases (show y=_ from h)
   exact⟨c,rfl,p _ ι f (Stp.refl _ _) st rfl⟩
  |_=>exact p.elim
theorem qi8{es:List Expr}{k:Nat}{b:En->Sr->Res (List D)}(h:PA X es (TL b)):PE X (.Tuple es k pos) (T λρ S=>(b ρ S).bind λl S1=>if l.length<=sizeLine then .ok (.tup l) S1 else .no) :=
 PEimp (qhA h) λe H Q d=>TG.b1 d λι S ρ x y f i st c p=>by
  by_cases a:x.length<=sizeLine
  .rw [wM a]at p
   exact⟨by rw[<-c.length];exact a,zf st c p⟩
  .rw [wL a]at p;exact p.elim
theorem qi9{es:List Expr}{m:Bool}{b:En->Sr->Res (List D)}(h:PA X es (TL b)):PE X (.List es pos) (T λρ S=>(b ρ S).bind λl S1=>if l.length<=sizeLine then newL m l S1 else .no) :=
 PEimp (qhB h) λe H Q d=>TG.b1 d λι S ρ x y f i st c p=>by
  by_cases a:x.length<=sizeLine
  .rw [wM a]at p
   exact⟨by rw[<-c.length];exact a,ze st c p⟩
  .rw [wL a]at p;exact p.elim
theorem qja{m:Bool}:PE X (.Dict [] [] pos) (T λ_ S=>if m then .ok (.ref S.length) (S++[.dic []])else .ok .emp S):=by
 cases m with
 |true =>
  refine PEimp qd6 λc H Q b=>?_
  obtain⟨ι,S,ρ,d,st,p⟩:=b
  intro q a
  have g:=Stp.grow (ι:=ι) a (.dT [])
  refine p (.ref q) _ _ g (st.grow a ⟨rfl,[],qr,rfl⟩) ⟨q,rfl,?_⟩
  rw[<-st.len];simp
 |false =>
  refine PEimp qd5 λc H Q b=>?_
  obtain⟨ι,S,ρ,d,st,p⟩:=b
  intro q a
  have g:=Stp.laid (ι:=ι) a (.dK [])
  exact p (.ref q) _ _ g (st.laid a _) ⟨q,rfl,st.fresh a,qr⟩
theorem key_den{ι:List Addr}{H:Hp}{d:D}{v:V}{k:Key}(h:keyD d=some k)(hd:Den ι H d v):v=kV k:=by
 cases d <;> simp only[keyD]at h <;> cases h <;> exact hd
theorem qgk{ι:List Addr}{H:Hp}{l:List D}{xs:List V}{k:Int}{d:D}(a:Dens ι H l xs)(h:atI l k=some d):∃v,atI xs k=some v/\Den ι H d v:=by
 unfold atI at h ⊢
 rw[<-a.length]
 cases z:ixN l.length k with
 |none=>rw[z]at h;cases h
 |some j =>
  rw[z]at h
  exact a.get h
theorem qa7{a b:List Int}:keyT a=keyT b ↔ a=b:=by
 refine⟨λh=>?_,λh=>by rw[h]⟩
 unfold keyT at h
 exact(List.map_inj_right (λx y h=>Sum.inl.inj h)).mp h
theorem qcs(k:List Int):(keyT k).map kV=k.map V.int:=by
 unfold keyT;rw[wq];rfl
theorem qa8{κ K:Type}[DecidableEq κ][DecidableEq K]{f:κ->K}(c:∀{a b},f a=f b ↔ a=b){ι:List Addr}{H:Hp}{k:κ}:∀{l:List (κ×D)} {kvs:List (K×V)} {d:D},DGs f ι H l kvs->lookT k l=some d->∃v,valV kvs (f k)=some v/\Den ι H d v
 |[],_,_,_,h=>by cases h
 |p::l,_,d,hk,h=>by
  obtain⟨v,r,rfl,i,m⟩:=hk
  obtain⟨j,e⟩:=p
  simp only[lookT]at h
  by_cases z:j=k
  .rw [wM z]at h;cases h
   exact⟨v,yx (by simp[z]),i⟩
  .rw [wL z]at h
   obtain⟨w,e1,n⟩:=qa8 c m h
   exact⟨w,by rw[yy (by simpa[c]using z)];exact e1,n⟩
theorem qct{κ K:Type}[DecidableEq κ][DecidableEq K]{f:κ->K}(c:∀{a b},f a=f b ↔ a=b){ι:List Addr}{H:Hp}{k:κ}:∀{l:List (κ×D)} {kvs:List (K×V)},DGs f ι H l kvs->(kvs.any λd=>decide (d.1=f k))=l.any λp=>decide (p.1=k)
 |[],_,h=>by cases (show _=[]from h);rfl
 |p::l,_,h=>by
  obtain⟨v,r,rfl,i,e⟩:=h
  rw[vn,vn,qct c e]
  simp[c]
theorem qa9{κ:Type}[DecidableEq κ]{k:κ}{d:D}(hd:refsLt 0 d=true):∀{l:List (κ×D)},refsLts 0 (l.map (·.2))=true->refsLts 0 ((putT k d l).map (·.2))=true:=by
 intro l c
 refine zJ λx hx=>?_
 obtain⟨p,a,rfl⟩:=vL.mp hx
 unfold putT at a
 split at a
 .obtain ⟨q,f,e⟩:=vL.mp a
  have b:=zd c (vL.mpr ⟨q,f,rfl⟩)
  split at e
  .subst e;exact hd
  .subst e;exact b
 .rcases vJ.mp a with z|z
  .exact zd c (vL.mpr ⟨p,z,rfl⟩)
  .rw [wV.mp z];exact hd
theorem qcu{κ K:Type}[DecidableEq κ][DecidableEq K]{f:κ->K}(j:∀{a b},f a=f b ↔ a=b){ι:List Addr}{H:Hp}{k:κ}{d:D}{v:V}(hd:Den ι H d v){l:List (κ×D)}{kvs:List (K×V)}(h:DGs f ι H l kvs):DGs f ι H (putT k d l) (putK kvs (f k) v):=by
 unfold putT putK
 rw[qct j h]
 split
 .rename_i hz
  clear hz
  induction l generalizing kvs with
  |nil=>cases (show _=[]from h);exact(rfl:_=_)
  |cons p l c =>
   obtain⟨w,r,rfl,i,e⟩:=h
   rw[w4,w4]
   by_cases z:p.1=k
   .rw [wM z,wM (by simp[z])]
    exact⟨v,_,rfl,hd,c e⟩
   .rw [wL z,wL (by simpa[j]using z)]
    exact⟨w,_,rfl,i,c e⟩
 .rename_i hz
  clear hz
  induction l generalizing kvs with
  |nil=>cases (show _=[]from h);exact⟨v,[],rfl,hd,rfl⟩
  |cons p l c =>
   obtain⟨w,r,rfl,i,e⟩:=h
   exact⟨w,_,rfl,i,c e⟩
theorem qgl(i:X.A.units+1<cLine):IxR X (λx y H Q=>∃a v,x=.ref a/\DGet H a y (some v)/\Q v H):=by
 intro b c pins s j H x y v u Q I l m h n
 obtain⟨a,z,rfl,g,q⟩:=h
 cases l
 have f:=qaW I g
 unfold subscriptTail
 refine wA ?_
 rw[getitemInPython_of_ne f.not_modules]
 refine wA (wpAny_specialOf f PySem.F.slot_dict_getitem.lookup ?_)
 have fin:wpAny (model X.prog X.w) X.A (subscripted c false (.ref a) u) (λr d=>wpAny (model X.prog X.w) X.A (letTemporaryGo b (.ref a) r >>= λ_=>pure r) (EP X pins j Q) X.xe d) X.xe s:=by
  rw[n]
  exact wpAny_operating (qdf i I g m λp B o e=>wA (wpAny_letTemporaryGo (wC ⟨z,H,o,e,q⟩)))
 first
  |exact wC (wA fin)
  |exact wA fin
theorem qjb{a b:Expr}{o mb:En->Sr->Res D}(s:X.A.units+1<cLine)(ha:PE X a (T o))(j:PE X b (T mb))(f:PlainIx b):
  PE X (.Subscript a b pos) (T λρ S=>(o ρ S).bind λx S1=>(mb ρ S1).bind λy S2=>ofO (idxD S2 x y) S2) :=
 PEimp (qiV (qf4.or (qhG.or (qgl s))) ha j f) λN H Q u=>by
  refine TG.b1 u λι S ρ a b O w st r p=>Pst.tg p w st λP S2 h H2 B s2 C c i E=>?_
  obtain⟨d,e,q⟩:=Pst.ofO E c
  unfold idxD at e
  split at e
  .rename_i k
   cases (show B=_ from i)
   cases z:seqOf S2 a with
   |none=>rw[z]at e;cases e
   |some l =>
    rw[z]at e
    obtain⟨p,xs,rfl,f,F⟩:=zn c z (Den.mono s2 a r)
    obtain⟨v,e1,m⟩:=qgk F e
    have fin:=q v h H2 (Stp.refl _ _) c m
    rcases f with f|f
    .exact .inl ⟨p,xs,k,v,rfl,rfl,.inl f,e1,fin⟩
    .exact .inr (.inl ⟨p,xs,k,v,rfl,rfl,.inl (.inl f),e1,fin⟩)
  .rename_i ks
   split at e
   .rename_i n
    split at e
    .rename_i l I
     cases z:intsOf ks with
     |none=>rw[z]at e;cases e
     |some k =>
      rw[z]at e
      cases intsOf_eq z
      obtain⟨p,J,hn⟩:=Den.mono s2 _ r
      subst J
      obtain⟨_,kvs,K,L⟩:=c.obj n p _ hn I
      obtain⟨v,e1,m⟩:=qa8 qa7 L e
      obtain⟨b,xs,rfl,_,j,M⟩:=i
      cases dens_ints M
      refine .inr (.inr ⟨p,v,rfl,?_,q v h H2 (Stp.refl _ _) c m⟩)
      rw[<-e1]
      exact DGet.t K (by rw[qcs];exact j)
    .cases e
   .cases e
  .cases e
end
end R
namespace R
open PySem PySem.Spec L2 SeqAt
open PyProof.Rows hiding St
section
variable{X:Cx}{pos:Pos}
theorem qhU{ι:List Addr}{H:Hp}{S:Sr}{K:PySem.W.Frag}(st:Sto ι H S)(t:Ty):∀{d:D} {v:V} {b:Bool},isiD S t d=some b->Den ι H d v->∃ty,TyOf K H v ty/\PySem.W.kitOne K ty (.type t.nm)=some b
 | .non,v,b,h,hd=>by
  cases (show v=_ from hd);cases h
  exact⟨_,.non,by cases t <;> (first|rfl|decide +kernel)⟩
 | .bl c,v,b,h,hd=>by
  cases (show v=_ from hd)
  cases t <;> cases h <;> exact⟨_,.bl c,by first|rfl|decide +kernel⟩
 | .int c,v,b,h,hd=>by
  cases (show v=_ from hd)
  cases t <;> cases h <;> exact⟨_,.int c,by first|rfl|decide +kernel⟩
 | .str c,v,b,h,hd=>by
  cases (show v=_ from hd)
  cases t <;> cases h <;> exact⟨_,.str c,by first|rfl|decide +kernel⟩
 | .tup l,v,b,h,hd=>by
  obtain⟨a,xs,rfl,_,ha,_⟩:=hd
  cases t <;> cases h <;> exact⟨_,.tup ha,by first|rfl|decide +kernel⟩
 | .lst l,v,b,h,hd=>by
  obtain⟨a,xs,rfl,_,ha,_⟩:=hd
  rcases ha with ha|⟨o,ha⟩
  .cases t <;> cases h <;> exact⟨_,.lst ha,by first|rfl|decide +kernel⟩
  .cases t <;> cases h <;> exact⟨_,.frz ha,by first|rfl|decide +kernel⟩
 | .emp,v,b,h,hd=>by
  obtain⟨a,rfl,_,ha⟩:=hd
  cases t <;> cases h <;> exact⟨_,.dK ha,by first|rfl|decide +kernel⟩
 | .ref n,v,b,h,hd=>by
  obtain⟨a,rfl,ha⟩:=hd
  simp only[isiD]at h
  split at h
  .rename_i l e
   obtain⟨_,xs,f,_⟩:=st.obj n a _ ha e
   cases t <;> cases h <;> exact⟨_,.lst f,by first|rfl|decide +kernel⟩
  .rename_i l e
   obtain⟨_,xs,f,_⟩:=st.obj n a _ ha e
   cases t <;> cases h <;> exact⟨_,.dT f,by first|rfl|decide +kernel⟩
  .rename_i l e
   obtain⟨_,xs,f,_⟩:=st.obj n a _ ha e
   cases t <;> cases h <;> exact⟨_,.dK f,by first|rfl|decide +kernel⟩
  .cases h
theorem qep:CallR X (.builtin "isinstance") (λxs H Q=>∃x n ty b,xs=[x,.ty n]/\TyOf X.K H x ty/\PySem.W.kitOne X.K ty (.type n)=some b/\Q (.bl b) H):=by
 intro pins s f H xs us Q I r h
 obtain⟨x,n,ty,b,rfl,a,c,q⟩:=h
 obtain⟨u,i,rfl,d,e⟩:=vals2 r
 cases e
 exact qda I d a c λtk=>⟨.bl b,H,I.tok _,rfl,q⟩
theorem qgm(t:Ty):bootBuiltins (Str.ofString t.nm)=some (.type t.nm):=by cases t <;> decide +kernel
theorem qeq:bootBuiltins "isinstance"=some (.builtin "isinstance"):=by decide +kernel
theorem qjc{a:Expr}{p f:Pos}{m:En->Sr->Res D}{t:Ty}(o:Gl X "isinstance")(hm:X.mg "isinstance"=none)(h:Gl X (Str.ofString t.nm))(i:X.mg (Str.ofString t.nm)=none)(ha:PE X a (T m))(n:starEach [a,.Name (Str.ofString t.nm) f] X.env=(false,eval a X.env)::starEach [.Name (Str.ofString t.nm) f] X.env)(j:starEach [.Name (Str.ofString t.nm) f] X.env=(false,eval (.Name (Str.ofString t.nm) f) X.env)::starEach [] X.env)(l:(backTo pos (starEach [.Name (Str.ofString t.nm) f] X.env)).any (·.1)=false):
  PE X (.Call (.Name "isinstance" p) [a,.Name (Str.ofString t.nm) f] [] pos) (T λρ S=>(m ρ S).bind λx S1=>ofO ((isiD S1 t x).map .bl) S1):=by
 have hn:(Str.ofString t.nm)≠"__name__":=by cases t <;> decide
 have hd:((Str.ofString t.nm) == ("__debug__":Str))=false:=by cases t <;> decide
 have r:PE X (.Name (Str.ofString t.nm) f) (λ_ H Q=>Q (.ty t.nm) H):=qfP (v:=.ty t.nm) h i (qgm t) rfl hn hd
 refine PEimp (qaT qep o hm qeq (jc ha (jc r qbK j) n) (by decide) (by decide) n l) λB H Q s=>?_
 refine TG.b1 s λι S ρ a b u C st w p=>?_
 obtain⟨d,e,q⟩:=Pst.ofO p st
 cases z:isiD S t a with
 |none=>rw[z]at e;cases e
 |some c =>
  rw[z]at e;cases e
  obtain⟨ty,y,A⟩:=qhU (K:=X.K) st t z w
  exact⟨b,t.nm,ty,c,rfl,y,A,q _ ι u (Stp.refl _ _) st rfl⟩
theorem Dens.cut{ι:List Addr}{H:Hp}{l:List D}{xs:List V}(h:Dens ι H l xs)(lo hi:Option Int):Dens ι H (cutD l lo hi) (cutV xs lo hi):=by
 unfold cutD cutV
 rw[h.length]
 exact(h.drop _).take _
theorem qer{e:Expr}{m:En->Sr->Res D}(h:PE X e (T m)):PO X (some e) (TOp λρ S=>(m ρ S).bind λx S1=>match x with|.int i=>.ok (some i) S1|_=>.no):=by
 intro pins s c H Q I d
 refine qf2 h pins s c H Q I (TG.b1 d λι S ρ a b f l st j p=>?_)
 cases a with
 |int i =>
  cases (show b=_ from j)
  exact⟨i,rfl,p _ ι f (Stp.refl _ _) st rfl⟩
 |_=>exact p.elim
theorem qes:PO X none (TOp λ_ S=>.ok none S):=by
 intro pins s a H Q I b
 obtain⟨ι,S,ρ,c,st,p⟩:=b
 exact qf1 pins s a H Q I (p _ ι H (Stp.refl _ _) st rfl)
theorem qjd{e:Expr}{lo hi:Option Expr}{r:Pos}{m:En->Sr->Res D}{C E:En->Sr->Res (Option Int)}(F:PE X e (T m))(I:PO X lo (TOp C))(J:PO X hi (TOp E)):
  PE X (.Subscript e (.Slice lo hi none r) pos) (T λρ S=>(m ρ S).bind λx S1=>(C ρ S1).bind λl S2=>(E ρ S2).bind λh o=>ofO (slcD o x l h) o) :=
 PEimp (qdY (qf5.or (qhE.or qf7)) F I J) λσ H Q K=>by
  refine TG.b1 K λι S ρ a b H1 L st M p=>Pst.tg p L st λs S2 N H2 O s2 u v w r=>Pst.tg r u v λy o A H3 P R U f B W=>?_
  cases (show s=O from w)
  cases (show y=P from B)
  obtain⟨d,e,q⟩:=Pst.ofO W f
  have j:=Den.mono (s2.trans R) a M
  unfold slcD at e
  split at e
  .rename_i l
   cases e
   obtain⟨c,xs,rfl,Y,n,i⟩:=j
   by_cases hn:HT.sIx xs.length 0 s=0/\HT.sIx xs.length xs.length y=xs.length
   .refine .inr (.inr ⟨c,xs,rfl,.inl (.inl n),hn,?_⟩)
    have Z:cutD l s y=l:=by
     unfold cutD
     rw[i.length,hn.1,hn.2,uw,Nat.sub_zero,<-i.length,xL]
    rw[Z]at q
    exact q _ A H3 (Stp.refl _ _) f ⟨c,xs,rfl,Y,n,i⟩
   .exact .inr (.inl ⟨c,xs,rfl,.inl (.inl n),hn,zf f (i.cut _ _) q⟩)
  .cases z:lstOf o a with
   |none=>rw[z]at e;cases e
   |some l =>
    rw[z]at e;cases e
    obtain⟨c,xs,rfl,n,i⟩:=qT f z j
    exact .inl ⟨c,xs,rfl,.inl n,ze (m:=false) f (i.cut _ _) q⟩
def Gn(g:List D->Sr->Res D):List V->Hp->VK->Prop:=λxs H Q=>∃ι S ds,Sto ι H S/\Dens ι H ds xs/\Pst Den (g ds S) ι H Q
theorem qgn{x:Str}{id:String}{e:Expr}{es:List Expr}{p:Pos}{g:List D->Sr->Res D}{f:En->Sr->Res (List D)}(h:CallR X (.builtin id) (Gn g))(i:Gl X x)(hm:X.mg x=none)(j:bootBuiltins x=some (.builtin id))(ha:PA X (e::es) (TL f))(hn:x≠"__name__")(c:(x == ("__debug__":Str))=false)(m:starEach (e::es) X.env=(false,eval e X.env)::starEach es X.env)(d:(backTo pos (starEach es X.env)).any (·.1)=false):
  PE X (.Call (.Name x p) (e::es) [] pos) (T λρ S=>(f ρ S).bind λl S1=>g l S1) :=
 PEimp (qaT h i hm j ha hn c m d) λq H Q n=>TG.b1 n λι S ρ a b r s st o p=>⟨ι,S,a,st,o,p⟩
theorem qet{x:Str}{ty:String}{e:Expr}{es:List Expr}{p:Pos}{g:List D->Sr->Res D}{f:En->Sr->Res (List D)}(h:CallR X (.type ty) (Gn g))(i:Gl X x)(hm:X.mg x=none)(j:bootBuiltins x=some (.type ty))(ha:PA X (e::es) (TL f))(hn:x≠"__name__")(c:(x == ("__debug__":Str))=false)(m:starEach (e::es) X.env=(false,eval e X.env)::starEach es X.env)(d:(backTo pos (starEach es X.env)).any (·.1)=false):
  PE X (.Call (.Name x p) (e::es) [] pos) (T λρ S=>(f ρ S).bind λl S1=>g l S1) :=
 PEimp (qdc h i hm j ha hn c m d) λq H Q n=>TG.b1 n λι S ρ a b r s st o p=>⟨ι,S,a,st,o,p⟩
noncomputable def SpD(np:Nat)(g:List D->Sr->Res D):Sp:=λvs H Q _=>vs.length=np/\∃ι S ds,Sto ι H S/\Dens ι H ds vs/\Pst Den (g ds S) ι H Q
theorem qhV{CX:CXT}{k:Nat}{f:Addr}{fd:FuncData}{ps:List Str}{g:List D->Sr->Res D}{x:Str}{p:Pos}{e:Expr}{es:List Expr}{b:En->Sr->Res (List D)}{E:XK}(F:FnOk X.prog X.w X.K X.mg X.base CX k f fd ps (SpD ps.length g))(m:Room k X.A)(n:Gl X x)(hm:X.mg x=some (.ref f))(o:PySem.W.keepIn X.K (.ref f)=true)(q:Binds X.K fd ps [])(hx:Passes CX X E)(ha:PA X (e::es) (TL b))(a:∀ρ S l r,b ρ S=.ok l r->l.length=ps.length)(c:(x == ("__debug__":Str))=false)(s:starEach (e::es) X.env=(false,eval e X.env)::starEach es X.env)(d:(backTo pos (starEach es X.env)).any (·.1)=false):
  PE X (.Call (.Name x p) (e::es) [] pos) (T λρ S=>(b ρ S).bind λl S1=>g l S1) :=
 PEimp (qfZ F m n hm o q (dvs:=[]) .nil hx ha c s d) λy H Q u=>by
  obtain⟨ι,S,ρ,v,st,p⟩:=u
  refine⟨ι,S,ρ,v,st,?_⟩
  dsimp only at p ⊢
  cases z:b ρ S with
  |no=>rw[z]at p;exact p
  |err=>rw[z]at p;exact p
  |ok l S1 =>
   rw[z]at p
   intro xs h B s1 i j
   refine⟨?_,h,S1,l,i,by simpa using j,Pst.from p s1⟩
   rw[uV,<-j.length]
   exact a ρ S l S1 z
end
end R
namespace R
open PySem PySem.Spec L2 SeqAt
open PyProof.Rows hiding St
section
variable{X:Cx}{pos:Pos}
theorem dens1{ι:List Addr}{H:Hp}{d:D}{xs:List V}(h:Dens ι H [d] xs):∃x,xs=[x]/\Den ι H d x:=by
 obtain⟨x,r,rfl,a,b⟩:=h
 cases (show r=[]from b)
 exact⟨x,rfl,a⟩
theorem dens2{ι:List Addr}{H:Hp}{d e:D}{xs:List V}(h:Dens ι H [d,e] xs):∃x y,xs=[x,y]/\Den ι H d x/\Den ι H e y:=by
 obtain⟨x,r,rfl,a,b⟩:=h
 obtain⟨y,rfl,c⟩:=dens1 b
 exact⟨x,y,rfl,a,c⟩
theorem CallRimp{f:Value}{r a:List V->Hp->VK->Prop}(h:CallR X f r)(k:∀xs H Q,a xs H Q->r xs H Q):CallR X f a:=λpins s b H xs us Q I c q=>h pins s b H xs us Q I c (k xs H Q q)
theorem yV{g:D->Sr->Res D}{ds:List D}{S:Sr}{ι:List Addr}{H:Hp}{Q:VK}(p:Pst Den (one g ds S) ι H Q):∃d,ds=[d]/\Pst Den (g d S) ι H Q:=by
 cases ds with
 |nil=>exact(show False from p).elim
 |cons d r =>
  cases r with
  |nil=>exact⟨d,rfl,p⟩
  |cons e r=>exact(show False from p).elim
theorem qhW{g:D->D->Sr->Res D}{ds:List D}{S:Sr}{ι:List Addr}{H:Hp}{Q:VK}(p:Pst Den (two g ds S) ι H Q):∃d e,ds=[d,e]/\Pst Den (g d e S) ι H Q:=by
 cases ds with
 |nil=>exact(show False from p).elim
 |cons d r =>
  cases r with
  |nil=>exact(show False from p).elim
  |cons e r =>
   cases r with
   |nil=>exact⟨d,e,rfl,p⟩
   |cons f r=>exact(show False from p).elim
theorem qeu{f:Value}{g:D->Sr->Res D}{r:V->Hp->VK->Prop}(h:CallR X f (λxs H Q=>∃x,xs=[x]/\r x H Q))(k:∀ι S d x H Q,Sto ι H S->Den ι H d x->Pst Den (g d S) ι H Q->r x H Q):CallR X f (Gn (one g)):=CallRimp h λxs H Q a=>by
 obtain⟨ι,S,ds,st,hd,p⟩:=a
 obtain⟨d,rfl,p⟩:=yV p
 .skip
  obtain⟨x,rfl,hx⟩:=dens1 hd
  exact⟨x,rfl,k ι S d x H Q st hx p⟩
theorem qev{f:Value}{g:D->D->Sr->Res D}{r:V->V->Hp->VK->Prop}(h:CallR X f (λxs H Q=>∃x y,xs=[x,y]/\r x y H Q))(k:∀ι S d e x y H Q,Sto ι H S->Den ι H d x->Den ι H e y->Pst Den (g d e S) ι H Q->r x y H Q):CallR X f (Gn (two g)):=CallRimp h λxs H Q a=>by
 obtain⟨ι,S,ds,st,hd,p⟩:=a
 obtain⟨d,e,rfl,p⟩:=qhW p
 .skip
  obtain⟨x,y,rfl,hx,b⟩:=dens2 hd
  exact⟨x,y,rfl,k ι S d e x y H Q st hx b p⟩
theorem qje:CallR X (.builtin "len") (Gn (one bLen)) :=
 qeu (r:=λx H Q=>(∃n,LenV X.K x H n/\Q (.int n) H)\/∃a kvs,x=V.ref a/\H a=some (.dT kvs)/\Q (.int kvs.length) H) (CallRimp (qdV.or qdk) λxs H Q ⟨x,e,h⟩=>h.elim (λ⟨n,b,f⟩=>.inl ⟨x,n,e,b,f⟩) λ⟨a,kvs,b,f,j⟩=>.inr ⟨a,kvs,by rw[e,b],f,j⟩) λι S d x H Q st hx p=>by
  obtain⟨r,e,q⟩:=Pst.ofO p st
  cases z:lenD S d with
  |none=>rw[z]at e;cases e
  |some n =>
   rw[z]at e;cases e
   have fin:=q _ ι H (Stp.refl _ _) st rfl
   cases d with
   |str y =>
    cases (show x=_ from hx)
    simp only[lenD]at z
    split at z
    .cases z;exact .inl ⟨_,⟨by assumption,rfl⟩,fin⟩
    .cases z
   |tup l =>
    cases z
    obtain⟨a,xs,rfl,_,ha,c⟩:=hx
    exact .inl ⟨_,.inr ⟨xs,.inl (.inl ha),c.length⟩,fin⟩
   |lst l =>
    cases z
    obtain⟨a,xs,rfl,_,ha,c⟩:=hx
    exact .inl ⟨_,.inl ⟨xs,.inl ha,c.length⟩,fin⟩
   |ref k =>
    simp only[lenD]at z
    split at z
    .rename_i l i
     cases z
     obtain⟨a,rfl,ha⟩:=hx
     obtain⟨_,xs,b,c⟩:=st.obj k a _ ha i
     exact .inl ⟨_,.inl ⟨xs,.inl (.inl b),c.length⟩,fin⟩
    .rename_i l i
     cases z
     obtain⟨a,rfl,ha⟩:=hx
     obtain⟨_,kvs,b,c⟩:=st.obj k a _ ha i
     exact .inr ⟨a,kvs,rfl,b,by rw[<-c.length];exact fin⟩
    .cases z
    .cases z
   |_=>cases z
theorem qjf:CallR X (.builtin "abs") (Gn (one bAbs)) :=
 qeu (r:=λx H Q=>∃i,x=.int i/\Q (.int (if i<0 then -i else i)) H) (CallRimp qdU λxs H Q ⟨x,e,i,a,b⟩=>⟨i,by rw[e,a],b⟩) λι S d x H Q st hx p=>by
  cases d with
  |int i=>cases (show x=_ from hx);exact⟨i,rfl,p _ ι H (Stp.refl _ _) st rfl⟩
  |_=>exact p.elim
theorem qjg(a:X.calm=true):CallR X (.builtin "min") (Gn (two bMin)) :=
 qev (r:=λx y H Q=>∃i j,x=.int i/\y=.int j/\Q (.int (if j<i then j else i)) H) (CallRimp (qc8 a) λxs H Q ⟨x,y,e,i,j,b,c,f⟩=>⟨i,j,by rw[e,b,c],f⟩) λι S d e x y H Q st hx h p=>by
  cases d with
  |int i =>
   cases e with
   |int j=>cases (show x=_ from hx);cases (show y=_ from h);exact⟨i,j,rfl,rfl,p _ ι H (Stp.refl _ _) st rfl⟩
   |_=>exact p.elim
  |_=>exact p.elim
theorem qjh(a:X.calm=true):CallR X (.builtin "max") (Gn (two bMax)) :=
 qev (r:=λx y H Q=>∃i j,x=.int i/\y=.int j/\Q (.int (if j>i then j else i)) H) (CallRimp (qc7 a) λxs H Q ⟨x,y,e,i,j,b,c,f⟩=>⟨i,j,by rw[e,b,c],f⟩) λι S d e x y H Q st hx h p=>by
  cases d with
  |int i =>
   cases e with
   |int j=>cases (show x=_ from hx);cases (show y=_ from h);exact⟨i,j,rfl,rfl,p _ ι H (Stp.refl _ _) st rfl⟩
   |_=>exact p.elim
  |_=>exact p.elim
theorem qan:CallR X (.builtin "divmod") (λxs H Q=>∃x y,xs=[x,y]/\∃i j,x=.int i/\y=.int j/\divOk i j=true/\∀p,H p=none->Q (.ref p) (upd H p (.tup [.int (i.fdiv j),.int (i.fmod j)]))):=by
 intro pins s a H xs us Q I r h
 obtain⟨x,y,rfl,i,j,rfl,rfl,hd,q⟩:=h
 obtain⟨u,c,rfl,⟨t,rfl⟩,⟨t',rfl⟩⟩:=vals2 r
 simp only[divOk,wP,uH,wt]at hd
 refine divmod_int hd.1 ?_ (.inl hd.2)
 have hn:H s.heap.objs.size=none:=I.hok.fresh (wF _)
 refine⟨.ref s.heap.objs.size,_,?_,rfl,q _ hn⟩
 refine I.laid (λb o e=>wB _ e) (wF _) ⟨by simp only[wc,vb];rw[vH];decide,[.int (i.fdiv j) s.toks,.int (i.fmod j) (s.toks+1)],.cons ⟨_,rfl⟩ (.cons ⟨_,rfl⟩ .nil),?_⟩
 exact⟨⟨_,wE s.heap rfl,rfl,0,rfl⟩,yg _ _⟩
theorem qew:CallR X (.builtin "divmod") (Gn (two bDivmod)) :=
 qev qan λι S d e x y H Q st hx a p=>by
  cases d with
  |int i =>
   cases e with
   |int j =>
    cases (show x=_ from hx);cases (show y=_ from a)
    simp only[bDivmod]at p
    split at p
    .rename_i hd
     exact⟨i,j,rfl,rfl,hd,zf (l:=[.int (i.fdiv j),.int (i.fmod j)]) (xs:=[.int (i.fdiv j),.int (i.fmod j)]) st ⟨_,_,rfl,rfl,_,_,rfl,rfl,rfl⟩ p⟩
    .exact p.elim
   |_=>exact p.elim
  |_=>exact p.elim
theorem qgo:CallR X (.type "tuple") (Gn (one bTuple)) :=
 qeu (r:=λx H Q=>∃p ys,x=.ref p/\((SqL X.K H p ys/\∀l,H l=none->Q (.ref l) (upd H l (.tup ys)))\/(SqT X.K H p ys/\Q (.ref p) H))) (CallRimp jT λxs H Q ⟨x,e,p,ys,c,f⟩=>⟨p,ys,by rw[e,c],f⟩) λι S d x H Q st hx p=>by
  obtain⟨r,e,q⟩:=Pst.ofO p st
  cases z:seqOf S d with
  |none=>rw[z]at e;cases e
  |some l =>
   rw[z]at e;cases e
   cases d with
   |tup h =>
    cases z
    obtain⟨a,xs,rfl,hn,ha,b⟩:=hx
    exact⟨a,xs,rfl,.inr ⟨.inl (.inl ha),q _ ι H (Stp.refl _ _) st ⟨a,xs,rfl,hn,ha,b⟩⟩⟩
   |lst h =>
    cases z
    obtain⟨a,xs,rfl,hn,ha,b⟩:=hx
    exact⟨a,xs,rfl,.inl ⟨.inl ha,zf st b q⟩⟩
   |ref k =>
    obtain⟨a,xs,rfl,i,b⟩:=qT st (show lstOf S (.ref k)=some l from z) hx
    exact⟨a,xs,rfl,.inl ⟨.inl i,zf st b q⟩⟩
   |_=>cases z
theorem jt{pins:List (Addr×Obj)}{q:St}{H:Hp}{s:Shared}{A:Around}{a:Addr}{xs:List V}(I:Inv X pins q H s)(y:A.handled=none)(l:Rd H a (.lst xs)\/H a=some (.tup xs)):
  ∃c:List Value,Vals xs c/\∀(E:Value->Shared->Prop) (Q:Value->Shared->Prop),
   (∀(It:Addr) (fp z:List Addr) (m:Nat->Heap->Prop) (d:Shared),Walks X.prog X.w A It fp z c.length (λi v=>c[i]?=some v) m->m 0 d.heap->(∀b∈fp,b<d.heap.objs.size) ->
    (∀h' tk,(∀b o,b∉z->d.heap.get? b=some o->h'.get? b=some o)->Inv X pins q H {d with heap:=h',toks:=tk})->Q (.ref It) d) ->
   wpAny (model X.prog X.w) A (pyIter (.ref a)) Q E s:=by
 have base:∀(o:Obj) (h':Heap) (tk:Nat),(∀b x,b∉[s.heap.objs.size]->(s.heap.push o).get? b=some x->h'.get? b=some x)->Inv X pins q H {s with heap:=h',toks:=tk}:=λo h' tk n =>
  I.kept λb u e=>n b u (λhm=>by rw[wV.mp hm]at e;exact vE _ (wG e)) (wB _ e)
 rcases l with l|l
 .obtain ⟨c,r,j,hz⟩:=qam I l
  refine⟨c,r,λE Q k=>wpAny_pyIter_list j ?_⟩
  have f:a<s.heap.objs.size:=by obtain⟨_,e,_⟩:=j;exact wG e
  have W:=Walks.list (prog:=X.prog) (w:=X.w) (A:=A) y s.heap.objs.size a (wS f) c.toArray
  refine k s.heap.objs.size [s.heap.objs.size,a] [s.heap.objs.size] (λi h=>h.IsListIter s.heap.objs.size a i/\h.IsList a c.toArray) _ (by simpa using W) ⟨⟨_,wE _ rfl,rfl,rfl⟩,j.push _⟩ (λb p=>?_) (λh' tk n=>base _ h' tk n)
  simp only[wN,vV,xG]at p
  have e1:=w9 s.heap
  rcases p with rfl|rfl
  .exact uo (uM _) (e1 _).symm
  .exact uo (w1 f) (e1 _).symm
 .obtain ⟨c,r,j,hz⟩:=yU I l
  refine⟨c,r,λE Q k=>ul j ?_⟩
  have f:a<s.heap.objs.size:=by obtain⟨_,e,_⟩:=j;exact wG e
  have W:=Walks.tuple (prog:=X.prog) (w:=X.w) (A:=A) y s.heap.objs.size a (wS f) c.toArray
  refine k s.heap.objs.size [s.heap.objs.size,a] [s.heap.objs.size] (λi h=>h.IsTupleIter s.heap.objs.size a i/\h.IsTuple a c.toArray) _ (by simpa using W) ⟨⟨_,wE _ rfl,rfl,rfl⟩,j.push _⟩ (λb p=>?_) (λh' tk n=>base _ h' tk n)
  simp only[wN,vV,xG]at p
  have e1:=w9 s.heap
  rcases p with rfl|rfl
  .exact uo (uM _) (e1 _).symm
  .exact uo (w1 f) (e1 _).symm
theorem yW{ι:List Addr}{H:Hp}:∀{l:List D} {xs:List V} {a:List Value} {bs:List Bool},boolsOf l=some bs->Dens ι H l xs->Vals xs a->a=bs.map .bool
 |[],xs,a,b,h,hd,r=>by
  cases h;cases (show xs=[]from hd);cases r;rfl
 | .bl c::l,xs,a,b,h,hd,r=>by
  obtain⟨x,t,rfl,d,e⟩:=hd
  cases (show x=_ from d)
  simp only[boolsOf]at h
  cases z:boolsOf l with
  |none=>rw[z]at h;cases h
  |some bs =>
   rw[z]at h;cases h
   cases r with
   |cons f rt=>cases f;rw[yW z e rt];rfl
 | .non::_,_,_,_,h,_,_=>by cases h
 | .int _::_,_,_,_,h,_,_=>by cases h
 | .str _::_,_,_,_,h,_,_=>by cases h
 | .tup _::_,_,_,_,h,_,_=>by cases h
 | .lst _::_,_,_,_,h,_,_=>by cases h
 | .emp::_,_,_,_,h,_,_=>by cases h
 | .ref _::_,_,_,_,h,_,_=>by cases h
theorem qb0(bs:List Bool):((List.range bs.length).all λi=>(bs[i]?).getD true)=bs.all id:=by
 rw[uB,vf,vf]
 constructor
 .intro h b c
  obtain⟨i,hi,e⟩:=vG c
  have:=h i (wi.mpr hi)
  simpa[wD hi,e]using this
 .intro h i hi
  have a:=wi.mp hi
  simpa[wD a]using h _ (u8 a)
theorem qb1(bs:List Bool):((List.range bs.length).any λi=>(bs[i]?).getD false)=bs.any id:=by
 rw[uB,vW,vW]
 constructor
 .rintro ⟨i,hi,h⟩
  have a:=wi.mp hi
  exact⟨_,u8 a,by simpa[wD a]using h⟩
 .rintro ⟨b,c,h⟩
  obtain⟨i,hi,e⟩:=vG c
  exact⟨i,wi.mpr hi,by simpa[wD hi,e]using h⟩
theorem y6{prog:Program}{w:World}{A:Around}{bs:List Bool}{a:List Value}(e:a=bs.map .bool)(d:Bool):TruthOf prog w A (λi v=>a[i]?=some v) (λi=>(bs[i]?).getD d):=λi v s Q E c h=>by
 subst e
 rw[wW]at c
 cases z:bs[i]? with
 |none=>rw[z]at c;cases c
 |some b =>
  have f:Q ((bs[i]?).getD d) s:=h
  rw[z]at c f
  cases c
  exact vN f
theorem qji(j:X.calm=true):CallR X (.builtin "all") (Gn (one bAll)):=by
 intro pins s J H xs us Q I r h
 obtain⟨ι,S,ds,st,hd,p⟩:=h
 obtain⟨d,rfl,p⟩:=yV p
 .skip
  obtain⟨x,rfl,hx⟩:=dens1 hd
  obtain⟨u,rfl,m⟩:=vals1 r
  obtain⟨K,e,q⟩:=Pst.ofO p st
  cases z:seqOf S d with
  |none=>rw[z]at e;cases e
  |some l =>
   rw[z]at e
   cases z2:boolsOf l with
   |none=>rw[wY,z2]at e;cases e
   |some bs =>
    rw[wY,z2]at e;cases e
    obtain⟨a,xs,rfl,n,o⟩:=zn st z hx
    cases m
    obtain⟨b,v,w⟩:=jt (A:=X.A.in1) I (I.ok.hd j) n
    have f:=yW z2 o v
    refine call_all_walk (w _ _ λIt fp y c i W B L C=>⟨It,fp,y,_,_,c,_,rfl,W,B,y6 f true,λh' tk E=>?_⟩)
    have F:b.length=bs.length:=by rw[f,wT]
    rw[F,qb0]
    exact⟨.bl (bs.all id),H,C h' tk E,rfl,q _ ι H (Stp.refl _ _) st rfl⟩
theorem qjj(j:X.calm=true):CallR X (.builtin "any") (Gn (one bAny)):=by
 intro pins s J H xs us Q I r h
 obtain⟨ι,S,ds,st,hd,p⟩:=h
 obtain⟨d,rfl,p⟩:=yV p
 .skip
  obtain⟨x,rfl,hx⟩:=dens1 hd
  obtain⟨u,rfl,m⟩:=vals1 r
  obtain⟨K,e,q⟩:=Pst.ofO p st
  cases z:seqOf S d with
  |none=>rw[z]at e;cases e
  |some l =>
   rw[z]at e
   cases z2:boolsOf l with
   |none=>rw[wY,z2]at e;cases e
   |some bs =>
    rw[wY,z2]at e;cases e
    obtain⟨a,xs,rfl,n,o⟩:=zn st z hx
    cases m
    obtain⟨b,v,w⟩:=jt (A:=X.A.in1) I (I.ok.hd j) n
    have f:=yW z2 o v
    refine call_any_walk (w _ _ λIt fp y c i W B L C=>⟨It,fp,y,_,_,c,_,rfl,W,B,y6 f false,λh' tk E=>?_⟩)
    have F:b.length=bs.length:=by rw[f,wT]
    rw[F,qb1]
    exact⟨.bl (bs.any id),H,C h' tk E,rfl,q _ ι H (Stp.refl _ _) st rfl⟩
theorem y7(ns:List Int):∀n,n<=ns.length->preSum (λi=>(ns[i]?).getD 0) n=(ns.take n).sum
 |0,_=>by simp[preSum]
 |n+1,h=>by
  rw[preSum,y7 ns n (by lia),List.take_succ,List.sum_append]
  simp[wD (show n<ns.length by lia)]
theorem qjk(B:X.calm=true):CallR X (.builtin "sum") (Gn (one bSum)):=by
 intro pins s U H xs us Q I r h
 obtain⟨ι,S,ds,st,hd,p⟩:=h
 obtain⟨d,rfl,p⟩:=yV p
 .skip
  obtain⟨x,rfl,hx⟩:=dens1 hd
  obtain⟨u,rfl,C⟩:=vals1 r
  obtain⟨Y,e,q⟩:=Pst.ofO p st
  cases z:seqOf S d with
  |none=>rw[z]at e;cases e
  |some l =>
   rw[z]at e
   cases z2:intsOf l with
   |none=>rw[wY,z2]at e;cases e
   |some ns =>
    rw[wY,z2]at e;cases e
    obtain⟨a,xs,rfl,E,F⟩:=zn st z hx
    cases C
    obtain⟨b,f,w⟩:=jt (A:=X.A.in1) I (I.ok.hd B) E
    cases intsOf_eq z2
    cases dens_ints F
    have J:IntsAre b ns:=qL f
    have K:b.length=ns.length:=J.length
    refine call_sum_walkG (w _ _ λIt fp L c m W M N O=>⟨It,fp,L,_,_,c,λi=>(ns[i]?).getD 0,rfl,W,M,N,λi v o=>?_,λh' tk t' P=>?_⟩)
    .obtain ⟨j,R⟩:=Vals.at f (wK.mp o).1
     obtain⟨e1,y⟩:=R
     rw[(wK.mp o).2]at y
     rw[wW]at e1
     cases z3:ns[i]? with
     |none=>rw[z3]at e1;cases e1
     |some n =>
      rw[z3]at e1;cases e1
      obtain⟨t,rfl⟩:=y
      exact⟨t,by simp[z3]⟩
    .rw [K,y7 ns _ (wF _),xL]
     exact⟨.int ns.sum,H,O h' tk P,⟨_,rfl⟩,q _ ι H (Stp.refl _ _) st rfl⟩
end
end R
namespace R
open PySem PySem.Spec L2 SeqAt
open PyProof.Rows hiding St
section
variable{X:Cx}{pos:Pos}
theorem Dens.erase{ι:List Addr}{H:Hp}:∀{ds:List D} {xs:List V} (i:Nat),Dens ι H ds xs->Dens ι H (ds.eraseIdx i) (xs.eraseIdx i)
 |[],_,_,h=>by cases (show _=[]from h);exact(rfl:_=_)
 |d::ds,_,0,h=>by
  obtain⟨x,r,rfl,b,a⟩:=h
  exact a
 |d::ds,_,i+1,h=>by
  obtain⟨x,r,rfl,b,a⟩:=h
  exact⟨x,_,rfl,b,Dens.erase i a⟩
theorem qao{ι:List Addr}{H:Hp}{S:Sr}{n:Nat}{a:Addr}{l:List D}{xs:List V}(st:Sto ι H S)(ha:ι[n]?=some a)(f:refsLts n l=true)(b:Dens ι H l xs):Stp ι H ι (upd H a (.lst xs))/\Sto ι (upd H a (.lst xs)) (S.set n (.lst l)):=by
 have g:=Stp.put (H:=H) (wm ha) (.lst xs)
 exact⟨g,st.put ha ⟨⟨n,ha,f⟩,xs,qr,Dens.mono g l b⟩⟩
theorem qdq{ι:List Addr}{H:Hp}{S:Sr}{x:D}{v:V}{K:PySem.W.Frag}(st:Sto ι H S)(h:isLst S x=true)(hx:Den ι H x v):tyV K "list" v H:=by
 cases x with
 |ref n =>
  obtain⟨a,rfl,ha⟩:=hx
  simp only[isLst]at h
  split at h
  .rename_i l b
   obtain⟨_,xs,c,_⟩:=st.obj n a _ ha b
   exact .inl ⟨rfl,xs,.inl (.inl c)⟩
  .cases h
 |_=>cases h
theorem qhX{o e:Expr}{name:Str}{id:String}{b:Pos}{mo me:En->Sr->Res D}{g:Sr->D->D->Res D}{r:V->List V->Hp->VK->Prop}(slot:Slot "list" name id)(i:typeOf (.builtin id)=pure (.type "method_descriptor"))(hm:MtM X id r)(q:∀ι S x y v u H Q,Sto ι H S->Den ι H x v->Den ι H y u->Pst Den (g S x y) ι H Q->r v [u] H Q)(s:PE X o (T mo))(w:PE X e (T me))(f:starEach [e] X.env=(false,eval e X.env)::starEach [] X.env)(c:attributeBase o name X.env (eval o X.env)=eval o X.env)(d:(b.endLine == pos.line)=true)(h:((backTo pos (starEach [e] X.env)).all (λx=>!x.1)&&(backToKw pos (keywordEach [] X.env)).all (λx=>x.1.isSome)&&decide ([e].length+([]:List Keyword).length+(if([]:List Keyword).isEmpty then 0 else 1)<30))=true)(a:(backTo pos (starEach [] X.env)).any (·.1)=false):
  PE X (.Call (.Attribute o name b) [e] [] pos) (T λρ S=>(mo ρ S).bind λx S1=>if isLst S1 x then(me ρ S1).bind λy S2=>g S2 x y else .no) :=
 PEimp (qiW PySem.F.plainAttrs_list slot i hm s (jc w qbK f) c h d f a) λI H Q z=>by
  refine TG.b1 z λι S ρ x v J A st n p=>?_
  by_cases j:isLst S x=true
  .rw [wM j]at p
   refine⟨qdq st j n,Pst.tg p A st λy S2 l H2 u s2 B m C E=>?_⟩
   exact q l S2 x y v u H2 Q m (Den.mono s2 x n) C E
  .rw [wL j]at p;exact p.elim
theorem qjl{ι:List Addr}{S:Sr}{x y:D}{v u:V}{H:Hp}{Q:VK}(st:Sto ι H S)(hx:Den ι H x v)(e:Den ι H y u)(p:Pst Den (popD S x y) ι H Q):rPopAt v [u] H Q:=by
 unfold popD at p
 split at p
 .rename_i n k
  split at p
  .rename_i l f
   split at p
   .rename_i h
    split at p
    .rename_i d hd
     obtain⟨a,rfl,ha⟩:=hx
     cases (show u=_ from e)
     obtain⟨⟨i,j,o⟩,xs,q,c⟩:=st.obj n a _ ha f
     obtain rfl:i=n:=qQ st.nd j ha
     obtain⟨z,e1,r⟩:=c.get hd
     have s:k.toNat<xs.length:=(wK.mp e1).1
     obtain⟨g,b⟩:=qao st ha (zJ λd m=>zd o (List.mem_of_mem_eraseIdx m)) (Dens.erase k.toNat c)
     refine⟨a,xs,k,k.toNat,z,rfl,rfl,q,?_,?_,?_,e1,p z ι _ g b (Den.mono g d r)⟩
     .lia
     .lia
     .exact seqIndex_of h.1 (by lia)
    .exact p.elim
   .exact p.elim
  .exact p.elim
 .exact p.elim
theorem qjm{ι:List Addr}{S:Sr}{x y:D}{v u:V}{H:Hp}{Q:VK}(st:Sto ι H S)(hx:Den ι H x v)(d:Den ι H y u)(p:Pst Den (appD S x y) ι H Q):rAppend v [u] H Q:=by
 unfold appD at p
 split at p
 .rename_i n
  split at p
  .rename_i l e
   split at p
   .rename_i hz
    obtain⟨a,rfl,ha⟩:=hx
    obtain⟨⟨f,h,i⟩,xs,j,c⟩:=st.obj n a _ ha e
    obtain rfl:f=n:=qQ st.nd h ha
    obtain⟨g,b⟩:=qao st ha (by rw[zU,i];simp[refsLts,zV _ hz.2]) (c.snoc d)
    exact⟨a,xs,u,rfl,rfl,j,by rw[<-c.length];exact hz.1,p .non ι _ g b rfl⟩
   .exact p.elim
  .exact p.elim
 .exact p.elim
noncomputable def TGt(m:D->En->Sr->Res En):L2.TG:=λv a H Q=>∃ι S ρ d,EnR ι H ρ a/\Sto ι H S/\Den ι H d v/\Pst EnR (m d ρ S) ι H Q
noncomputable def TGts(m:List D->En->Sr->Res En):TGs:=λvs a H Q=>∃ι S ρ ds,EnR ι H ρ a/\Sto ι H S/\Dens ι H ds vs/\Pst EnR (m ds ρ S) ι H Q
theorem PGimp{tg:Expr}{t t':L2.TG}(h:PG X tg t)(k:∀v a H Q,t' v a H Q->t v a H Q):PG X tg t':=λpins s a H v u Q I r b=>h pins s a H v u Q I r (k v a H Q b)
theorem PGsimp{ts:List Expr}{t t':TGs}(h:PGs X ts t)(k:∀v a H Q,t' v a H Q->t v a H Q):PGs X ts t':=λpins s a H v u Q I r b=>h pins s a H v u Q I r (k v a H Q b)
theorem qjn{i:Nat}{tg:Expr}(h:PG X tg (gName i)):PG X tg (TGt λd ρ S=>.ok (ρ.set i (some d)) S):=PGimp h λv c H Q a=>by
 obtain⟨ι,S,ρ,d,b,st,hd,p⟩:=a
 exact p _ ι H (Stp.refl _ _) st (b.set hd)
theorem qjo:PGs X [] (TGts λl ρ S=>match l with|[]=>.ok ρ S|_=>.no):=PGsimp qfU λvs c H Q a=>by
 obtain⟨ι,S,ρ,ds,b,st,hd,p⟩:=a
 cases ds with
 |nil=>exact⟨hd,p _ ι H (Stp.refl _ _) st b⟩
 |cons=>exact p.elim
theorem qhY{e:Expr}{es:List Expr}{m:D->En->Sr->Res En}{f:List D->En->Sr->Res En}(h:PG X e (TGt m))(i:PGs X es (TGts f))(j:(assignEach (e::es) X.env).map (·.2)=assign e X.env::(assignEach es X.env).map (·.2)):
  PGs X (e::es) (TGts λl ρ S=>match l with|d::r=>(m d ρ S).bind λρ1 S1=>f r ρ1 S1|[]=>.no):=PGsimp (qdN h i j) λvs y H Q n=>by
 obtain⟨ι,S,ρ,ds,o,st,hd,p⟩:=n
 cases ds with
 |nil=>exact p.elim
 |cons d r =>
  obtain⟨v,q,rfl,s,u⟩:=hd
  refine⟨v,q,rfl,ι,S,ρ,d,o,st,s,Pst.bind p λρ1 S1 a z w s1 b c x=>?_⟩
  exact⟨a,S1,ρ1,r,c,b,Dens.mono s1 r u,x⟩
theorem qjp{es:List Expr}{k n:Nat}{c:List D->En->Sr->Res En}(j:X.calm=true)(h:PGs X es (TGts c))(hn:(assignEach es X.env).length=n)(e:(assignEach es X.env).findIdx? (·.1)=none)(m:∀l ρ S b f,c l ρ S=.ok b f->l.length=n):PG X (.Tuple es k pos) (TGt λd ρ S=>match d with|.tup l=>c l ρ S|_=>.no):=PGimp (qhr j h hn e) λv r H Q o=>by
 obtain⟨ι,S,ρ,d,q,st,hd,p⟩:=o
 cases d with
 |tup l =>
  obtain⟨a,xs,rfl,_,ha,i⟩:=hd
  refine⟨a,xs,rfl,.inl (.inl ha),?_,ι,S,ρ,l,q,st,i,p⟩
  rw[<-i.length]
  cases z:c l ρ S with
  |ok b f=>exact m l ρ S b f z
  |no=>simp only[z]at p;exact p.elim
  |err=>simp only[z]at p;exact p.elim
 |_=>exact p.elim
theorem qba(b:X.A.units+1<cLine):PSet X (λo i v H Q=>∃a H',o=.ref a/\DPut H a i v H'/\Q H'):=by
 intro pins s f H o i v j l u Q I c ri d h
 obtain⟨a,H',rfl,g,q⟩:=h
 cases c
 exact qdg b I g ri d λm e=>⟨H',e,q⟩
theorem qex(P:X.A.units+1<cLine){pins:List (Addr×Obj)}{s:Shared}{p:St}{H:Hp}{a:Addr}{i v:V}{r B u:Value}{Q:Hp->Prop}{ι:List Addr}{S R:Sr}{n:Nat}{y d:D}(I:Inv X pins p H s)(K:RelV (.ref a) r)(ri:RelV i B)(L:RelV v u)(st:Sto ι H S)(ha:ι[n]?=some a)(h:refsLt 0 d=true)(M:Den ι H y i)(hd:Den ι H d v)(e:putN S n y d=some R)(q:∀C H',Stp ι H C H'->Sto C H' R->Q H'):wpAny (model X.prog X.w) X.A (setItem r B u) (λ_ s'=>∃H',Inv X pins p H' s'/\Q H') X.xe s:=by
 unfold putN at e
 split at e
 .rename_i l E
  obtain⟨⟨U,W,F⟩,xs,J,c⟩:=st.obj n a _ ha E
  obtain rfl:U=n:=qQ st.nd W ha
  split at e
  .rename_i k
   cases (show i=_ from M)
   cases z:ixN l.length k with
   |none=>rw[z]at e;cases e
   |some j =>
    rw[z]at e;cases e
    obtain⟨g,N⟩:=qao st ha (zJ λx m=>(List.mem_or_eq_of_mem_set m).elim (λz=>zd F z) λz=>z ▸ zV _ h) (c.set hd j)
    exact qdZ pins s p H _ _ v r B u Q I K ri L ⟨a,xs,k,j,rfl,rfl,J,by rw[<-c.length];exact z,q ι _ g N⟩
  .cases e
 .rename_i l E
  obtain⟨F,kvs,J,c⟩:=st.obj n a _ ha E
  split at e
  .rename_i ks
   cases z:intsOf ks with
   |none=>rw[z]at e;cases e
   |some k =>
    rw[z,wY]at e
    split at e
    .rename_i o
     cases e
     cases intsOf_eq z
     obtain⟨b,ys,rfl,_,Y,Z⟩:=M
     cases dens_ints Z
     have g:=Stp.put (H:=H) (wm ha) (.dT (putK kvs (keyT k) v))
     refine qba P pins s p H _ _ v r B u Q I K ri L ⟨a,_,rfl,DPut.t (k:=keyT k) J (by rw[qcs];exact Y) ?_,q ι _ g (st.put ha ⟨qa9 h F,_,qr,qcu qa7 (Den.mono g d hd) (DGs.mono g c)⟩)⟩
     have O:kvs.length<1000:=by rw[<-c.length];exact o
     exact wU O (by rw[vH];decide)
    .cases e
  .cases e
 .rename_i l E
  obtain⟨F,kvs,J,c⟩:=st.obj n a _ ha E
  cases z:keyD y with
  |none=>rw[z]at e;cases e
  |some k =>
   rw[z,wY]at e
   split at e
   .rename_i o
    cases e
    cases key_den z M
    have g:=Stp.put (H:=H) (wm ha) (.dK (putK kvs k v))
    refine qba P pins s p H _ _ v r B u Q I K ri L ⟨a,_,rfl,DPut.k (k:=k) J ?_,q ι _ g (st.put ha ⟨qa9 h F,_,qr,qcu (f:=id) Iff.rfl (Den.mono g d hd) (DGs.mono g c)⟩)⟩
    have O:kvs.length<1000:=by rw[<-c.length];exact o
    exact wU O (by rw[vH];decide)
   .cases e
 .cases e
theorem qgp(j:X.A.units+1<cLine):PSet X (λo i v H Q=>∃ι S x y d f,Sto ι H S/\Den ι H x o/\Den ι H y i/\Den ι H d v/\putE S x y d=some f/\∀c H',Stp ι H c H'->Sto c H' f->Q H'):=by
 intro pins s r H o i v w z u Q I l ri m h
 obtain⟨ι,S,x,y,d,f,st,hx,p,hd,e,q⟩:=h
 unfold putE at e
 by_cases b:refsLt 0 d=true
 .rw [wM b]at e
  split at e
  .rename_i n
   obtain⟨a,rfl,ha⟩:=hx
   exact qex j I l ri m st ha b p hd e q
  .cases e
 .rw [wL b]at e;cases e
theorem qjq{o i:Expr}{mo mi:En->Sr->Res D}(r:X.A.units+1<cLine)(s:PE X o (T mo))(hi:PE X i (T mi))(ha:∀v,assign (.Subscript o i pos) X.env v=(do
   let a <-holding [v] (eval o X.env)
   let c <-holding [v,a] (eval i X.env)
   standAt pos
   holding [v,a,c] (setItem a c v)
   release [v,a,c] [])):
  PG X (.Subscript o i pos) (TGt λd ρ S=>(mo ρ S).bind λx S1=>(mi ρ S1).bind λy S2=>match putE S2 x y d with|some e=>.ok ρ e|none=>.no):=PGimp (qhs s hi (qgp r) ha) λv u H Q w=>by
 obtain⟨ι,S,ρ,d,B,st,hd,p⟩:=w
 refine Pst.tg (ρ:=ρ) p B st λx S1 C J K s1 f h E F=>Pst.tg (ρ:=ρ) F f h λy S2 j H2 L s2 l m I b=>?_
 cases z:putE S2 x y d with
 |none=>rw[z]at b;exact b.elim
 |some e =>
  rw[z]at b
  exact⟨j,S2,x,y,d,e,m,Den.mono s2 x E,I,Den.mono (s1.trans s2) d hd,z,λn H' g q=>b u n H' g q (l.mono g)⟩
def FlOk(f:Fl)(ι:List Addr)(H:Hp)(D:Ends):Prop:=match f with
 | .nx ρ=>∀a,EnR ι H ρ a->D.nx a H
 | .bk ρ=>∀a,EnR ι H ρ a->D.bk a H
 | .ct ρ=>∀a,EnR ι H ρ a->D.ct a H
 | .rt d=>∀v,Den ι H d v->D.rt v H
def PsF(r:Res Fl)(ι:List Addr)(H:Hp)(D:Ends):Prop:=match r with
 | .ok f b=>∀a H',Stp ι H a H'->Sto a H' b->FlOk f a H' D
 | .err _ _=>False
 | .no=>False
theorem PsF.from{r:Res Fl}{ι a:List Addr}{H H':Hp}{D:Ends}(h:PsF r ι H D)(s:Stp ι H a H'):PsF r a H' D:=by
 cases r with
 |ok f S=>exact λb H2 t st=>h b H2 (s.trans t) st
 |err=>exact h
 |no=>exact h
theorem PsF.bind{d i:Type}{R:List Addr->Hp->d->i->Prop}{r:Res d}{f:d->Sr->Res Fl}{ι:List Addr}{H:Hp}{D:Ends}{K:i->Hp->Prop}(h:PsF (r.bind f) ι H D)(k:∀a j c H' b,Stp ι H c H'->Sto c H' j->R c H' a b->PsF (f a j) c H' D->K b H'):Pst R r ι H K:=by
 cases r with
 |ok a S=>exact λb e H2 t st q=>k a S e H2 b t st q (PsF.from h t)
 |err=>exact h
 |no=>exact h
noncomputable def TSm(m:En->Sr->Res Fl):TS:=λD a H=>∃ι S ρ,EnR ι H ρ a/\Sto ι H S/\PsF (m ρ S) ι H D
theorem PSimp{st:Stmt}{t t':TS}(h:PS X st t)(k:∀D a H,t' D a H->t D a H):PS X st t':=λpins s a H D I b=>h pins s a H D I (k D a H b)
theorem PSsimp{st:List Stmt}{t t':TS}(h:PSs X st t)(k:∀D a H,t' D a H->t D a H):PSs X st t':=λpins s a H D I b=>h pins s a H D I (k D a H b)
theorem qjr:PSs X [] (TSm λρ S=>.ok (.nx ρ) S):=PSsimp qfR λD a H b=>by
 obtain⟨ι,S,ρ,c,st,p⟩:=b
 exact p ι H (Stp.refl _ _) st a c
theorem qhZ{st:Stmt}{rest:List Stmt}{m i:En->Sr->Res Fl}(j:PS X st (TSm m))(l:PSs X rest (TSm i)):
  PSs X (st::rest) (TSm λρ S=>(m ρ S).bind λf S1=>match f with|.nx ρ1=>i ρ1 S1|f=>.ok f S1):=PSsimp (qdL j l) λD r H n=>by
 obtain⟨ι,S,ρ,o,st,p⟩:=n
 refine⟨ι,S,ρ,o,st,?_⟩
 dsimp only at p
 cases z:m ρ S with
 |no=>rw[z]at p;exact p
 |err=>rw[z]at p;exact p
 |ok f S1 =>
  rw[z]at p
  intro b h s1 c
  cases f with
  |nx ρ1=>exact λe a=>⟨b,S1,ρ1,a,c,PsF.from p s1⟩
  |bk ρ1=>exact λe a=>p b h s1 c e a
  |ct ρ1=>exact λe a=>p b h s1 c e a
  |rt d=>exact λv q=>p b h s1 c v q
theorem qh0{e:Expr}{m:En->Sr->Res D}(h:PE X e (T m))(i:swapsWith e none pos.line X.env=pure false):PS X (.Expr e pos) (TSm λρ S=>(m ρ S).bind λ_ S1=>.ok (.nx ρ) S1):=PSimp (qfS h i) λD j H l=>by
 obtain⟨ι,S,ρ,f,st,p⟩:=l
 exact⟨ι,S,ρ,f,st,PsF.bind p λa S1 c n b s1 d q o=>o c n (Stp.refl _ _) d j (f.mono s1)⟩
theorem qjs{e:Expr}{m:En->Sr->Res D}(h:PE X e (T m)):PS X (.Return (some e) pos) (TSm λρ S=>(m ρ S).bind λd S1=>.ok (.rt d) S1):=PSimp (qhq h) λD q H i=>by
 obtain⟨ι,S,ρ,j,st,p⟩:=i
 exact⟨ι,S,ρ,j,st,PsF.bind p λa S1 c l b s1 f n o=>o c l (Stp.refl _ _) f b n⟩
theorem qgq{st:Stmt}:PS X st (TSm λ_ _=>.no):=PSimp qdM λD b H a=>by
 obtain⟨ι,S,ρ,c,st,p⟩:=a
 exact p
theorem s_if{c:Expr}{a b:List Stmt}{h:En->Sr->Res Bool}{i mb:En->Sr->Res Fl}(l:PT X c (TB h))(ha:PSs X a (TSm i))(m:PSs X b (TSm mb)):
  PS X (.If c a b pos) (TSm λρ S=>(h ρ S).bind λt S1=>if t then i ρ S1 else mb ρ S1):=PSimp (qiO l ha m) λD q H n=>by
 obtain⟨ι,S,ρ,f,st,p⟩:=n
 refine⟨ι,S,ρ,f,st,PsF.bind p λa S1 d r b s1 e o j=>?_⟩
 cases (show a=b from o)
 cases a with
 |true=>rw[wM rfl];exact⟨d,S1,ρ,f.mono s1,e,j⟩
 |false=>rw[wL (by decide)];exact⟨d,S1,ρ,f.mono s1,e,j⟩
theorem qg2{tg e:Expr}{m:En->Sr->Res D}{g:D->En->Sr->Res En}(h:PS X (.Assign [tg] e pos) (tAsg (T m) (TGt g))):
  PS X (.Assign [tg] e pos) (TSm λρ S=>(m ρ S).bind λd S1=>(g d ρ S1).bind λρ1 S2=>.ok (.nx ρ1) S2):=PSimp h λD r H n=>by
 obtain⟨ι,S,ρ,l,st,p⟩:=n
 refine⟨ι,S,ρ,l,st,PsF.bind p λd S1 a s v s1 b rd o=>?_⟩
 refine⟨a,S1,ρ,d,l.mono s1,b,rd,PsF.bind o λρ1 S2 c H2 f s2 i j q=>?_⟩
 exact q c H2 (Stp.refl _ _) i f j
theorem qgr{c:Expr}{body:List Stmt}{n:En->Sr->Res Bool}{mb:En->Sr->Res Fl}{N:Nat}(x:PassesOwn (model X.prog X.w) X.A X.env X.xe)(y:PT X c (TB n))(B:PSs X body (TSm mb)):
  PS X (.While c body [] pos) (TSm λρ S=>whileLoop n mb N ρ S):=PSimp (qdO x y B) λD u H C=>by
 obtain⟨ι,S,ρ,o,st,p⟩:=C
 refine⟨λm u H=>∃ι S ρ,EnR ι H ρ u/\Sto ι H S/\PsF (whileLoop n mb m ρ S) ι H D,⟨N,ι,S,ρ,o,st,p⟩,?_⟩
 rintro m u H ⟨ι,S,ρ,o,st,p⟩
 cases m with
 |zero=>exact p.elim
 |succ m =>
  refine⟨ι,S,ρ,o,st,PsF.bind (show PsF ((n ρ S).bind _) ι H D from p) λa S1 q E b s1 r F h=>?_⟩
  cases (show a=b from F)
  cases a with
  |false=>exact h q E (Stp.refl _ _) r u (o.mono s1)
  |true =>
   refine⟨λs H'=>∃ι S ρ,EnR ι H' ρ s/\Sto ι H' S/\PsF (whileLoop n mb m ρ S) ι H' D,λs H' h'=>⟨m,uM _,h'⟩,q,S1,ρ,o.mono s1,r,?_⟩
   cases z:mb ρ S1 with
   |no=>simp only[z,ws]at h;exact h
   |err=>simp only[z,ws]at h;exact h
   |ok f S2 =>
    simp only[z,ws,Res.bind_ok]at h
    intro i H2 s2 j
    cases f with
    |nx ρ1=>exact λl e=>⟨i,S2,ρ1,e,j,PsF.from h s2⟩
    |ct ρ1=>exact λl e=>⟨i,S2,ρ1,e,j,PsF.from h s2⟩
    |bk ρ1=>exact λl e=>h i H2 s2 j l e
    |rt d=>exact λv I=>h i H2 s2 j v I
end
end R
namespace R
open PySem PySem.Spec L2 SeqAt
open PyProof.Rows hiding St
structure ItOk (ι:List Addr) (H:Hp) (J:It) (ds:List D):Prop where
 go:∀(i:Nat) (d:D) (ι2:List Addr) (H2:Hp),Stp ι H ι2 H2->ds[i]?=some d->J.go i H2/\∀x H3,J.yld i H2 x H3->Stp ι2 H2 ι2 H3/\∀S,Sto ι2 H2 S->Sto ι2 H3 S/\Den ι2 H3 d x
 stop:∀(ι2:List Addr) (H2:Hp),Stp ι H ι2 H2->J.stop ds.length H2
theorem qh1{ι:List Addr}{H:Hp}{K:PySem.W.Frag}{a:Addr}{xs:List V}{ds:List D}(n:a∉ι)(h:Rd H a (.lst xs))(f:Dens ι H ds xs):ItOk ι H (Itl K a) ds where
 go:=λi d b H2 s e=>by
  obtain⟨x,e1,l⟩:=(Dens.mono s ds f).get e
  obtain⟨j,m⟩:=s.rd h n
  refine⟨⟨xs,x,.inl j,e1⟩,λy H3 c=>?_⟩
  obtain⟨rfl,c⟩:=c
  have:=c xs (.inl j)
  rw[e1]at this;cases this
  exact⟨Stp.refl _ _,λ_ z=>⟨z,l⟩⟩
 stop:=λb H2 s=>⟨xs,.inl (s.rd h n).1,Nat.le_of_eq f.length.symm⟩
theorem qh2{ι:List Addr}{H:Hp}{K:PySem.W.Frag}{a:Addr}{xs:List V}{ds:List D}(n:a∉ι)(h:H a=some (.tup xs))(f:Dens ι H ds xs):ItOk ι H (Itt K a) ds where
 go:=λi d b H2 s e=>by
  obtain⟨x,e1,l⟩:=(Dens.mono s ds f).get e
  have j:=s.keep _ _ h n trivial
  refine⟨⟨xs,x,.inl (.inl j),e1⟩,λy H3 c=>?_⟩
  obtain⟨rfl,c⟩:=c
  have:=c xs (.inl (.inl j))
  rw[e1]at this;cases this
  exact⟨Stp.refl _ _,λ_ z=>⟨z,l⟩⟩
 stop:=λb H2 s=>⟨xs,.inl (.inl (s.keep _ _ h n trivial)),Nat.le_of_eq f.length.symm⟩
structure ItG (ι:List Addr) (H:Hp) (J:It) (ds:List D) (gd:Sr->Prop):Prop where
 go:∀(i:Nat) (d:D) (ι2:List Addr) (H2:Hp) (S2:Sr),Stp ι H ι2 H2->Sto ι2 H2 S2->gd S2->ds[i]?=some d->J.go i H2/\∀x H3,J.yld i H2 x H3->Stp ι2 H2 ι2 H3/\∀S,Sto ι2 H2 S->Sto ι2 H3 S/\Den ι2 H3 d x
 stop:∀(ι2:List Addr) (H2:Hp) (S2:Sr),Stp ι H ι2 H2->Sto ι2 H2 S2->gd S2->J.stop ds.length H2
theorem ItG.mono{ι b:List Addr}{H H':Hp}{J:It}{ds:List D}{gd:Sr->Prop}(h:ItG ι H J ds gd)(s:Stp ι H b H'):ItG b H' J ds gd :=
 ⟨λi d a H2 S2 t st g e=>h.go i d a H2 S2 (s.trans t) st g e,λa H2 S2 t st g=>h.stop a H2 S2 (s.trans t) st g⟩
theorem ItOk.g{ι:List Addr}{H:Hp}{J:It}{ds:List D}(h:ItOk ι H J ds):ItG ι H J ds λ_=>True :=
 ⟨λi d a H2 _ t _ _ e=>h.go i d a H2 t e,λa H2 _ t _ _=>h.stop a H2 t⟩
noncomputable def TIg(m:En->Sr->Res (List D×(Sr->Prop))):TI:=λb H R=>∃ι S ρ,EnR ι H ρ b/\Sto ι H S/\match m ρ S with
 | .ok p c=>∀a H' J,Stp ι H a H'->Sto a H' c->ItG a H' J p.1 p.2->R J H'
 | .err _ _=>False
 | .no=>False
noncomputable def TIt(m:En->Sr->Res (List D)):TI:=λb H R=>∃ι S ρ,EnR ι H ρ b/\Sto ι H S/\match m ρ S with
 | .ok ds c=>∀a H' J,Stp ι H a H'->Sto a H' c->ItOk a H' J ds->R J H'
 | .err _ _=>False
 | .no=>False
section
variable{X:Cx}{pos:Pos}{tg:Expr}
theorem PIimp{iter:Expr}{t t':TI}(h:PI X tg iter t)(k:∀a H R,t' a H R->t a H R):PI X tg iter t':=λpins s a H R I b=>h pins s a H R I (k a H R b)
theorem qh3{l:Expr}{tl:TE}(r:PE X l tl):PI X tg l (λi H R=>tl i H λx d=>(∃a,x=.ref a/\(∃xs,SqL X.K d a xs)/\R (Itl X.K a) d)\/(∃a,x=.ref a/\(∃xs,SqT X.K d a xs)/\R (Itt X.K a) d)):=by
 intro pins s i H R I h
 refine thn (r pins s i H _ I h) λv s1 ⟨x,d,c,n,q1⟩=>?_
 rcases q1 with ⟨a,e,⟨xs,j⟩,q⟩|⟨a,e,⟨xs,j⟩,q⟩
 .subst e
  cases n
  obtain⟨f,u,p,hz⟩:=c.list j
  refine wpAny_pyIter_list p.isList ?_
  refine⟨s1.heap.objs.size,[s1.heap.objs.size],_,_,d,rfl,c.kept (t':=s1.toks) λb o e=>wB _ e,qc5 a _,⟨_,wE _ rfl,rfl,rfl⟩,λb m=>?_,q⟩
  have e:b=s1.heap.objs.size:=by simpa using m
  subst e
  exact c.fpOk (wF _) (c.hok.fresh (wF _))
 .subst e
  cases n
  obtain⟨f,u,p,hz⟩:=c.tuple j
  refine ul (show s1.heap.IsTuple a f.toArray from p) ?_
  refine⟨s1.heap.objs.size,[s1.heap.objs.size],_,_,d,rfl,c.kept (t':=s1.toks) λb o e=>wB _ e,qbG a _,⟨_,wE _ rfl,rfl,rfl⟩,λb m=>?_,q⟩
  have e:b=s1.heap.objs.size:=by simpa using m
  subst e
  exact c.fpOk (wF _) (c.hok.fresh (wF _))
noncomputable def mSeq(m:En->Sr->Res D):En->Sr->Res (List D):=λρ S=>(m ρ S).bind λx S1=>match x with
 | .tup l=>.ok l S1
 | .lst l=>.ok l S1
 |_=>.no
theorem qjt{e:Expr}{m:En->Sr->Res D}(h:PE X e (T m)):PI X tg e (TIt (mSeq m)):=PIimp (qh3 h) λq H R n=>by
 obtain⟨ι,S,ρ,o,st,p⟩:=n
 refine⟨ι,S,ρ,o,st,?_⟩
 dsimp only[mSeq]at p
 cases z:m ρ S with
 |no=>rw[z]at p;exact p
 |err=>rw[z]at p;exact p
 |ok d S1 =>
  rw[z,Res.bind_ok]at p
  intro v b i s1 c j
  cases d with
  |tup l =>
   obtain⟨a,xs,rfl,hn,ha,f⟩:=j
   exact .inr ⟨a,rfl,⟨xs,.inl (.inl ha)⟩,p b i _ s1 c (qh2 hn ha f)⟩
  |lst l =>
   obtain⟨a,xs,rfl,hn,ha,f⟩:=j
   exact .inl ⟨a,rfl,⟨xs,.inl ha⟩,p b i _ s1 c (qh1 hn ha f)⟩
  |_=>exact p.elim
theorem qh4{iter:Expr}{body:List Stmt}{mi:En->Sr->Res (List D×(Sr->Prop))}{g:D->En->Sr->Res En}{mb:En->Sr->Res Fl}(hp:PassesOwn (model X.prog X.w) X.A X.env X.xe)(hc:X.calm=true)(hi:PI X tg iter (TIg mi))(hg:PG X tg (TGt g))(hb:PSs X body (TSm mb))(hs:∀x,foldedSetIterable iter X.env x=pure x):
  PS X (.For tg iter body [] pos) (TSm λρ S=>(mi ρ S).bind λp S1=>endG p.2 (forLoop (λd ρ S=>(grd p.2 S (g d ρ S)).bind λρ1 S1=>mb ρ1 S1) p.1 ρ S1)):=PSimp (qhw hp hc hi hg hb hs) λD K H hw=>by
 obtain⟨ι,S,ρ,U,st,p⟩:=hw
 refine⟨ι,S,ρ,U,st,?_⟩
 dsimp only at p
 cases z:mi ρ S with
 |no=>rw[z]at p;exact p
 |err=>rw[z]at p;exact p
 |ok dg S1 =>
  obtain⟨ds,gd⟩:=dg
  rw[z,Res.bind_ok]at p
  dsimp only at p
  intro q W J s1 L y
  refine⟨λi m K H=>m=ds.length-i/\i<=ds.length/\∃ι S ρ,Stp q W ι H/\EnR ι H ρ K/\Sto ι H S/\PsF (endG gd (forLoop (λd ρ S=>(grd gd S (g d ρ S)).bind λρ1 S1=>mb ρ1 S1) (ds.drop i) ρ S)) ι H D,
   ⟨_,rfl,vF _,q,S1,ρ,Stp.refl _ _,U.mono s1,L,by simpa using PsF.from p s1⟩,?_⟩
  rintro i m K H ⟨rfl,hi,ι,S,ρ,s2,B,h,j⟩
  by_cases r:i<ds.length
  .have hd:ds[i]?=some ds[i]:=wD r
   rw[uL r]at j
   have b:gd S:=by
    apply Classical.byContradiction
    intro hn
    simp only[forLoop,zw hn,Res.bind_no,endG]at j
    exact j
   obtain⟨go,yl⟩:=y.go i _ ι H S s2 h b hd
   refine .inr ⟨go,λC H'=>∃ι S ρ,Stp q W ι H'/\EnR ι H' ρ C/\Sto ι H' S/\PsF (endG gd (forLoop (λd ρ S=>(grd gd S (g d ρ S)).bind λρ1 S1=>mb ρ1 S1) (ds.drop (i+1)) ρ S)) ι H' D,λC H' h'=>⟨_,by omega,rfl,r,h'⟩,λx H3 hy=>?_⟩
   obtain⟨M,N⟩:=yl x H3 hy
   obtain⟨k3,d3⟩:=N S h
   refine⟨ι,S,ρ,ds[i],B.mono M,k3,d3,?_⟩
   have s:=PsF.from j M
   simp only[forLoop,zq b]at s
   cases z2:g ds[i] ρ S with
   |no=>simp only[z2,endG,Res.bind_no]at s;exact s
   |err=>simp only[z2,endG,Res.bind_err]at s;exact s
   |ok E Y =>
    rw[z2,Res.bind_ok]at s
    intro a0 O H4 Z P Q
    refine⟨O,Y,E,Q,P,?_⟩
    have a:=PsF.from s Z
    cases z3:mb E Y with
    |no=>simp only[z3,endG,Res.bind_no]at a;exact a
    |err=>simp only[z3,endG,Res.bind_err]at a;exact a
    |ok f R =>
     rw[z3,Res.bind_ok]at a
     intro l H5 F n
     have tot:=((s2.trans M).trans Z).trans F
     cases f with
     |nx o=>exact λu c=>⟨l,R,o,tot,c,n,PsF.from a F⟩
     |ct o=>exact λu c=>⟨l,R,o,tot,c,n,PsF.from a F⟩
     |bk o =>
      by_cases I:gd R
      .simp only[endG,Res.bind_ok,zq I]at a
       exact λu c=>a l H5 F n u c
      .simp only[endG,Res.bind_ok,zw I]at a
       exact a.elim
     |rt d=>exact λv hv=>a l H5 F n v hv
  .have e:i=ds.length:=by omega
   subst e
   rw[uW (wF _)]at j
   have b:gd S:=by
    apply Classical.byContradiction
    intro hn
    simp only[forLoop,Res.bind_ok,endG,zw hn]at j
    exact j
   simp only[forLoop,Res.bind_ok,endG,zq b]at j
   refine .inl ⟨y.stop ι H S s2 h b,?_⟩
   exact j ι H (Stp.refl _ _) h K B
theorem pi_g{iter:Expr}{mi:En->Sr->Res (List D)}(h:PI X tg iter (TIt mi)):PI X tg iter (TIg λρ S=>(mi ρ S).bind λds S1=>.ok (ds,λ_=>True) S1):=PIimp h λe H R c=>by
 obtain⟨ι,S,ρ,d,st,p⟩:=c
 refine⟨ι,S,ρ,d,st,?_⟩
 dsimp only at p
 cases z:mi ρ S with
 |no=>rw[z]at p;exact p
 |err=>rw[z]at p;exact p
 |ok ds S1 =>
  rw[z,Res.bind_ok]at p
  exact λa H' J s1 b ok=>p a H' J s1 b ok.g
theorem qb2{a:Type}(S:Sr)(r:Res a):grd (λ_=>True) S r=r:=zq (gd:=λ_=>True) trivial r
theorem qgs(r:Res Fl):endG (λ_=>True) r=r:=by
 cases r with
 |ok f S=>cases f <;> simp only[endG,Res.bind_ok,qb2]
 |err=>rfl
 |no=>rfl
theorem qju{iter:Expr}{body:List Stmt}{mi:En->Sr->Res (List D)}{g:D->En->Sr->Res En}{mb:En->Sr->Res Fl}(a:PassesOwn (model X.prog X.w) X.A X.env X.xe)(b:X.calm=true)(hi:PI X tg iter (TIt mi))(c:PG X tg (TGt g))(f:PSs X body (TSm mb))(i:∀x,foldedSetIterable iter X.env x=pure x):
  PS X (.For tg iter body [] pos) (TSm λρ S=>(mi ρ S).bind λds S1=>forLoop (λd ρ S=>(g d ρ S).bind λρ1 S1=>mb ρ1 S1) ds ρ S1):=by
 have h:=qh4 (pos:=pos) a b (pi_g hi) c f i
 have e:(λ(ρ:En) (S:Sr)=>((mi ρ S).bind λds S1=>.ok (ds,λ_=>True) S1:Res (List D×(Sr->Prop))).bind λp S1=>endG p.2 (forLoop (λd ρ S=>(grd p.2 S (g d ρ S)).bind λρ1 S1=>mb ρ1 S1) p.1 ρ S1))=λρ S=>(mi ρ S).bind λds S1=>forLoop (λd ρ S=>(g d ρ S).bind λρ1 S1=>mb ρ1 S1) ds ρ S1:=by
  funext ρ S
  cases mi ρ S with
  |ok ds S1 =>
   show endG (λ_=>True) (forLoop (λd ρ S=>(grd (λ_=>True) S (g d ρ S)).bind λρ1 S1=>mb ρ1 S1) ds ρ S1)=_
   rw[qgs]
   simp only[qb2]
  |err=>rfl
  |no=>rfl
 rw[<-e];exact h
end
end R
namespace R
open PySem PySem.Spec L2 SeqAt
open PyProof.Rows hiding St
noncomputable def compCx(X:Cx)(sc:Scope)(cl:List (Str×Addr))(C:Addr)(N':List Str)(fp:List Addr)(s:Shared)(H:Hp):Cx :=
 {X with N:=N',s₀:=s,H₀:=H,env:=compEnvC sc cl C X.env,outer:=X.stack,ex:=fp,fn:=λ_=>false,pn:=[],xe:=λ_ _=>False}
structure Clos (X:Cx) (sc:Scope) (cl:List (Str×Addr)):Prop where
 eq:closureFor sc X.env=pure cl
 sub:∀x c,cl.lookup x=some c->X.env.cells.lookup x=some c
 all:∀x,sc.names.lookup x=some .free->∃c,cl.lookup x=some c
theorem qap{env:Env}:∀(names:List (Str×NameKind)) (b:List (Str×Addr)),(∀x∈names,x.2=.free->∃c,env.cells.lookup x.1=some c) ->
  ∃cl,(forIn names b λ(p:Str×NameKind) (cs:List (Str×Addr))=>(if p.2 == NameKind.free then(do let a <-cellOf env p.1;pure (ForInStep.yield ((p.1,a)::cs)))else pure (ForInStep.yield cs):Sem (ForInStep (List (Str×Addr)))))=pure cl /\
   (∀x c,cl.lookup x=some c->env.cells.lookup x=some c\/b.lookup x=some c)/\(∀x c,b.lookup x=some c->(∃d,cl.lookup x=some d))/\(∀x∈names,x.2=.free->∃c,cl.lookup x.1=some c)
 |[],b,_=>⟨b,rfl,λx c h=>.inr h,λx c h=>⟨c,h⟩,λx h=>by cases h⟩
 | (n,k)::r,b,h=>by
  by_cases i:k=.free
  .subst i
   obtain⟨c,l⟩:=h (n,.free) wI rfl
   obtain⟨cl,e,i1,i2,j⟩:=qap r ((n,c)::b) λx hx=>h x (wJ _ hx)
   have e1:cellOf env n=pure c:=by unfold cellOf;rw[l]
   refine⟨cl,?_,λx d hx=>?_,λx d hx=>?_,λx hx f=>?_⟩
   .rw [uA]
    simp only[beq_self_eq_true,ws,e1,pure_bind]
    exact e
   .rcases i1 x d hx with z|z
    .exact .inl z
    .rw [vM]at z
     cases q:x == n with
     |true=>rw[q]at z;cases z;rw[ve.mp q];exact .inl l
     |false=>rw[q]at z;exact .inr z
   .cases q:x == n with
    |true=>exact i2 x c (by rw[vM,q])
    |false=>exact i2 x d (by rw[vM,q];exact hx)
   .rcases wN.mp hx with z|z
    .subst z;exact i2 n c (by simp[vM])
    .exact j x z f
  .have m:(k == NameKind.free)=false:=by simpa using i
   obtain⟨cl,e,i1,i2,j⟩:=qap r b λx hx=>h x (wJ _ hx)
   refine⟨cl,?_,i1,i2,λx hx f=>?_⟩
   .rw [uA]
    simp only[m,wj,vh,pure_bind]
    exact e
   .rcases wN.mp hx with z|z
    .subst z;exact absurd f i
    .exact j x z f
theorem qaq{X:Cx}{sc:Scope}(h:∀x∈sc.names,x.2=.free->∃c,X.env.cells.lookup x.1=some c):∃cl,Clos X sc cl:=by
 obtain⟨cl,e,i1,i2,a⟩:=qap (env:=X.env) sc.names [] h
 refine⟨cl,⟨?_,λx c hx=>?_,λx hx=>?_⟩⟩
 .unfold closureFor
  show(forIn sc.names [] _ >>= λr=>pure r)=_
  rw[bind_pure]
  exact e
 .rcases i1 x c hx with z|z
  .exact z
  .cases z
 .exact a (x,.free) (wx hx) rfl
theorem qM{env:Env}:∀{names:List (Str×NameKind)} {x:Str},(names.map λ(n,k)=>if(k == NameKind.free&&env.scope.kind == .function&&env.kindOf n == some .cell)then(n,NameKind.cell)else(n,k)).lookup x =
  (names.lookup x).map λk=>if(k == NameKind.free&&env.scope.kind == .function&&env.kindOf x == some .cell)then NameKind.cell else k
 |[],_=>rfl
 | (n,k)::r,x=>by
  show List.lookup x ((if(k == NameKind.free&&env.scope.kind == .function&&env.kindOf n == some .cell)=true then(n,NameKind.cell)else(n,k))::_)=_
  have c:=@qM env r x
  cases hx:x == n with
  |true =>
   have b:=ve.mp hx
   subst b
   by_cases a:(k == NameKind.free&&env.scope.kind == .function&&env.kindOf x == some .cell)=true
   .rw [wM a];simp only[vM,hx,wb,wM a]
   .rw [wL a];simp only[vM,hx,wb,wL a]
  |false =>
   by_cases a:(k == NameKind.free&&env.scope.kind == .function&&env.kindOf n == some .cell)=true
   .rw [wM a];simp only[vM,hx];exact c
   .rw [wL a];simp only[vM,hx];exact c
section
variable{X:Cx}{pos:Pos}
theorem qdr{sc:Scope}{cl:List (Str×Addr)}{N':List Str}{fp:List Addr}{pins:List (Addr×Obj)}{j:St}{H:Hp}{s:Shared}(I:Inv X pins j H s)(l:sc.kind=.function)(a:∀y∈sc.names,y.2≠.cell)(f:Clos X sc cl)(i:∀b∈fp,FpOk X pins H b)(n:∀b∈fp,b<s.heap.objs.size):(compCx X sc cl s.heap.objs.size N' fp s H).Ok where
 mod:=I.ok.mod
 kind:=l
 glob:=I.ok.glob
 blt:=I.ok.blt
 above:=wF _
 inj:=λx y c p q=>I.ok.inj x y c (f.sub x c p) (f.sub y c q)
 has:=λx hx=>by
  have hx:(relabel sc X.env).names.lookup x=some .cell\/(relabel sc X.env).names.lookup x=some .free:=hx
  have e:(relabel sc X.env).names.lookup x=_:=qM (env:=X.env) (names:=sc.names) (x:=x)
  rw[e]at hx
  cases z:sc.names.lookup x with
  |none=>rw[z]at hx;simp at hx
  |some k =>
   cases k with
   |free=>exact f.all x z
   |cell=>exact absurd rfl (a _ (wx z))
   |_=>rw[z]at hx;simp at hx
 cab:=λx c h _=>by cases h
 hd:=I.ok.hd
 frames:=I.ok.frames
 stk:=.inl rfl
 exf:=λb d=>⟨wS (n b d),λx c h=>(i b d).2.2.2.2.1 x c (f.sub x c h)⟩
 bs:=I.bs
 bsz:=wf I.ok.bsz I.sz
 noex:=λb o e d=>by
  rcases(i b d).2.2.2.1 with z|z
  .exact I.ok.noex b o e z
  .exact absurd (wU (wG e) (wf I.ok.bsz z)) (vE _)
 exfs:=λb d r=>by
  rcases wN.mp (I.stkSub b r)with z|z
  .exact (i b d).2.1 z
  .exact (i b d).2.2.1 z
 funs:=I.stack
 frf:=I.stkFree
 tab:=λc T z=>let ⟨ps,e⟩:=I.ok.tab c T z;let ⟨m,u⟩:=I.base.tbls _ _ e;⟨_,u⟩
structure Frs (X:Cx) (sc:Scope) (fr:List Nat) (xs ts:List Str):Prop where
 len:fr.length=xs.length
 at':∀(i j:Nat) (x:Str),fr[i]?=some j->xs[i]?=some x->X.N[j]?=some x
 kd:∀x∈xs,sc.names.lookup x=some .free/\(X.env.kindOf x=some .cell\/X.env.kindOf x=some .free)
 tl:∀x∈ts,sc.names.lookup x=some .local
 nd:(xs++ts).Nodup
noncomputable def frS(a:St)(fr:List Nat)(nt:Nat):St:=fr.map (λi=>(a[i]?).getD none)++List.replicate nt none
theorem qar{ι:List Addr}{H:Hp}{ρ:En}{a:St}(e:EnR ι H ρ a)(fr:List Nat)(nt:Nat):EnR ι H (frE ρ fr nt) (frS a fr nt):=by
 refine⟨by simp[frE,frS],λi d h=>?_⟩
 unfold frE at h
 unfold frS
 by_cases hi:i<fr.length
 .rw [wX (by simpa using hi),wW,wD hi]at h
  rw[wX (by simpa using hi),wW,wD hi]
  simp only[wb,Option.some.injEq]at h ⊢
  cases z:ρ[fr[i]]? with
  |none=>rw[z]at h;cases h
  |some o =>
   rw[z]at h
   cases h
   obtain⟨v,b,c⟩:=e.get _ d z
   exact⟨v,by rw[b];rfl,c⟩
 .rw [w8 (by simpa using hi),v0]at h
  split at h <;> cases h
theorem qb3{sc:Scope}{cl:List (Str×Addr)}{fp:List Addr}{pins:List (Addr×Obj)}{h:St}{H:Hp}{s:Shared}{fr:List Nat}{xs ts:List Str}(I:Inv X pins h H s)(M:sc.kind=.function)(f:∀y∈sc.names,y.2≠.cell)(j:Clos X sc cl)(N:∀b∈fp,FpOk X pins H b)(O:∀b∈fp,b<s.heap.objs.size)(F:Frs X sc fr xs ts){h':Heap}{m:Str->Option Value}{tk:Nat}(hn:h'.Ns s.heap.objs.size m)(a:∀b o,s.heap.get? b=some o->h'.get? b=some o):
  Inv (compCx X sc cl s.heap.objs.size (xs++ts) fp s H) [] (frS h fr ts.length) H {s with heap:=h',toks:=tk}:=by
 refine⟨qdr I M f j N O,rfl,GK.refl I.bare.bare,Un.kept a,⟨m,hn,λi x v n d Y=>?_⟩,λx c e=>?_,I.hok.fresh (wF _),λx c e=>I.freeC x c (j.sub x c e),λp P=>absurd (show p∈([]:List (Addr×Obj))from P) (by simp),I.hok.kept a,?_⟩
 .have n:(xs++ts)[i]?=some x:=n
  have d:(frS h fr ts.length)[i]?=some (some v):=d
  unfold frS at d
  by_cases hi:i<fr.length
  .rw [wX (by simpa using hi),wW,wD hi]at d
   rw[wX (by rw[<-F.len];exact hi)]at n
   simp only[wb,Option.some.injEq]at d
   have Q:=F.at' i fr[i] x (wD hi) n
   have B:h[fr[i]]?=some (some v):=by
    cases z:h[fr[i]]? with
    |none=>rw[z]at d;cases d
    |some o=>rw[z]at d;simp at d;rw[d]
   obtain⟨E,J⟩:=F.kd x (wm n)
   obtain⟨Z,R,C⟩:=I.loc
   have w:Vis X.env.scope x:=by
    rcases J with z|z
    .exact .inr (.inl z)
    .exact .inr (.inr z)
   obtain⟨u,r,l⟩:=C fr[i] x v Q B w
   refine⟨u,r,.inr ?_⟩
   have S:∃c,X.env.cells.lookup x=some c/\s.heap.IsCell c (some u):=by
    rcases l with ⟨z,_⟩|⟨_,c,e1,A⟩
    .rcases J with q|q <;> (rw[z]at q;cases q)
    .exact ⟨c,e1,A⟩
   obtain⟨c,e1,o,A,U⟩:=S
   obtain⟨W,K⟩:=j.all x E
   have L:=j.sub x W K
   rw[e1]at L;cases L
   refine⟨?_,c,K,o,a _ _ A,U⟩
   have e:(relabel sc X.env).names.lookup x=_:=qM (env:=X.env) (names:=sc.names) (x:=x)
   show(relabel sc X.env).names.lookup x=some .cell\/(relabel sc X.env).names.lookup x=some .free
   rw[e,E]
   simp only[wb]
   split
   .exact .inl rfl
   .exact .inr rfl
  .rw [w8 (by simpa using hi),v0]at d
   split at d <;> cases d
 .obtain ⟨v,o,e1,A⟩:=I.cell x c (j.sub x c e)
  exact⟨v,o,a _ _ e1,A⟩
 .show (frS h fr ts.length).length=(xs++ts).length
  simp[frS,F.len]
theorem ju{sc:Scope}{cl:List (Str×Addr)}{N':List Str}{fp:List Addr}{pins:List (Addr×Obj)}{j i:St}{H H':Hp}{s s':Shared}{h':Heap}(I:Inv X pins j H s)(d:∀b∈fp,FpOk X pins H b)(J:Inv (compCx X sc cl s.heap.objs.size N' fp s H) [] i H' s')(m:Heap.SameBut s.heap.objs.size s'.heap h'):Inv X pins j H' {s' with heap:=h' }:=by
 have l:H' s.heap.objs.size=none:=J.free
 have u:=J.base
 have f:∀b o,b≠s.heap.objs.size->s'.heap.get? b=some o->h'.get? b=some o:=λb o a e=>m.extBut b o a e
 have ne:∀b o,s.heap.get? b=some o->b≠s.heap.objs.size:=λb o e=>wS (wG e)
 have un:Un (frs X.stack) fp H H' s.heap h':=⟨λb o e n a hx=>f b o (ne b o e) (u.keep b o e n a hx),λb o e n a hx=>by
   obtain⟨sl,q⟩:=u.slot b o e n a hx
   exact⟨sl,f b _ (ne b o e) q⟩,λb o e n hx=>u.free b o e n hx,λb o e hx=>by
   obtain⟨o',q⟩:=u.there b o e hx
   exact⟨o',f b o' (ne b o e) q⟩,u.tups,u.frzs,u.tbls⟩
 have hok:HOk X.prog X.w H' h':=λb o e=>(J.hok b o e).stay (λc w p q=>f c w (λz=>by
   subst z
   rcases p with h|h
   .rw [<-h,l]at e;cases e
   .rw [l]at h;cases h) q) (λ_ q=>q) λ_ _ q=>q
 exact I.call' (s':={s' with heap:=h' }) (ch:=fp) J.os un hok J.bare λb a=>⟨(d b a).2.2.2.1,(d b a).2.1,(d b a).2.2.2.2.1,(d b a).2.2.2.2.2⟩
end
end R
namespace R
open PySem PySem.Spec L2 SeqAt
open PyProof.Rows hiding St
theorem thnF{b:Type}{t:Sem b}{Q Q':b->Shared->Prop}{M:Model}{A:Around}{E:Value->Shared->Prop}{s:Shared}(h:wpAny M A t Q (λ_ _=>False) s)(c:∀a s,Q a s->Q' a s):wpAny M A t Q' E s:=v6 h c λ_ _ x=>x.elim
section
variable{X:Cx}{pos:Pos}
def PTl(X:Cx)(ifs:List Expr)(t:TT):Prop:=∀(pins:List (Addr×Obj)) (s:Shared) (a:St) (H:Hp) (Q:Bool->Hp->Prop),Inv X pins a H s->t a H Q ->
 wpAny (model X.prog X.w) X.A (forIn ifs true λc r=>(if r=true then do let ok <-isTrue c X.env (eval c X.env);pure (ForInStep.yield ok)else pure (ForInStep.yield r):Sem (ForInStep Bool))) (TP X pins a Q) X.xe s
theorem qh5:PTl X [] (TB λ_ S=>.ok true S):=λpins s a H Q I h=>by
 obtain⟨ι,S,ρ,b,st,p⟩:=h
 exact wC ⟨H,I,p true ι H (Stp.refl _ _) st rfl⟩
theorem qbb{M:Model}{A:Around}{E:Value->Shared->Prop}{s:Shared}{env:Env}{Q:Bool->Shared->Prop}:∀(ifs:List Expr),Q false s->wpAny M A (forIn ifs false λc r=>(if r=true then do let ok <-isTrue c env (eval c env);pure (ForInStep.yield ok)else pure (ForInStep.yield r):Sem (ForInStep Bool))) Q E s
 |[],h=>wC h
 |c::r,h=>by
  rw[uA]
  refine wA ?_
  rw[wL (by decide)]
  exact wC (qbb r h)
theorem qgt{c:Expr}{ifs:List Expr}{m h:En->Sr->Res Bool}(o:PT X c (TB m))(q:PTl X ifs (TB h)):PTl X (c::ifs) (TB λρ S=>(m ρ S).bind λt S1=>if t then h ρ S1 else .ok false S1):=λpins s i H Q I r=>by
 rw[uA]
 refine wA ?_
 rw[wM rfl]
 obtain⟨ι,S,ρ,u,st,p⟩:=r
 refine wA (thn (o pins s i H _ I (Pst.tg (ρ:=ρ) p u st (K:=λb d=>if b=true then TB h i d Q else Q false d) λa S1 e d b s1 j f v l=>?_)) λb s1 ⟨d,n,q1⟩=>?_)
 .cases (show a=b from v)
  cases a with
  |true=>rw[wM rfl];exact⟨e,S1,ρ,j,f,l⟩
  |false=>rw[wL (by decide)];exact l false e d (Stp.refl _ _) f rfl
 .refine wC ?_
  cases b with
  |true=>rw[wM rfl]at q1;exact q pins s1 i d Q n q1
  |false=>rw[wL (by decide)]at q1;exact qbb ifs ⟨d,n,q1⟩
theorem qcv{tg elt iter:Expr}{ifs:List Expr}{sc:Scope}{J:It}{fp:List Addr}{it Dl:Addr}{tn:Nat->Heap->Prop}{g:D->En->Sr->Res En}{mt:En->Sr->Res Bool}{me:En->Sr->Res D}{n:Nat}{ds:List D}{gd:Sr->Prop}{R:Result->Shared->Prop}(O:X.xe=λ_ _=>False)(hc:X.calm=true)(a4:X.ex=fp)(a5:X.pn=[])(T':Turn X.prog X.w X.K tg J fp it tn)(hg:PG X tg (TGt g))(ht:PTl X ifs (TB mt))(he:PE X elt (T me))(a6:∀d ρ S,¬gd S->g d ρ S=.no){ι:List Addr}{H:Hp}{S:Sr}{ρ P:En}{Sf:Sr}{σ:St}{s:Shared}(hD:ι[n]?=some Dl)(ok:ItG ι H J ds gd)(I:Inv X [] σ H s)(h0:tn 0 s.heap)(a7:∀b∈fp,H b=none)(er:EnR ι H ρ σ)(st:Sto ι H S)(e:lcLoop n g mt me ds ρ S=.ok P Sf)(a8:gd Sf)(fin:∀(l:St) (H':Hp) (a:List Addr) (s':Shared),Inv X [] l H' s'->Stp ι H a H'->Sto a H' Sf->R (.ok .next) s'):
  codeAny (model X.prog X.w) X.A (.compLoop (.ListComp elt [⟨tg,iter,ifs,0⟩] sc pos) 0 (.ref it) (.ref Dl) X.env) R s:=by
 refine codeAny_loop rfl (λk s'=>∃(i:Nat) (l:St) (H':Hp) (a:List Addr) (S':Sr) (F:En),k=ds.length-i/\i<=ds.length/\Inv X [] l H' s'/\tn i s'.heap/\(∀b∈fp,H' b=none)/\Stp ι H a H'/\EnR a H' F l/\Sto a H' S'/\lcLoop n g mt me (ds.drop i) F S'=.ok P Sf) ?_
  ds.length ⟨0,σ,H,ι,S,ρ,by simp,vF _,I,h0,a7,Stp.refl _ _,er,st,by simpa using e⟩
 rintro k s1 ⟨i,Q,H1,B,S1,ρ1,rfl,hi,I1,t1,f1,p1,a9,U,e1⟩
 have L:∀{H':Hp},(∀b∈fp,H' b=none)->∀b∈fp,FpOk X [] H' b:=λhn b hb=>by
  have W:b∈X.ex:=by rw[a4];exact hb
  exact⟨hn b hb,(I.ok.exf b W).1,λz=>I.ok.exfs b W z,.inl W,(I.ok.exf b W).2,λp hp=>by rw[a5]at hp;exact absurd hp (by simp)⟩
 show wpAny _ X.A ((compTurn (.ListComp elt [⟨tg,iter,ifs,0⟩] sc pos) 0 (.ref it) (.ref Dl) X.env).onRaise (λx=>do noteFrame x X.env;theTreesLotGoes x)) _ _ s1
 refine wpAny_noted ?_
 rw[compTurn_list]
 refine wA (vg (wA ?_))
 by_cases a0:i<ds.length
 .have hd:ds[i]?=some ds[i]:=wD a0
  rw[uL a0]at e1
  have aa:gd S1:=by
   apply Classical.byContradiction
   intro hn
   simp only[lcLoop,a6 _ _ _ hn,Res.bind_no]at e1
   cases e1
  obtain⟨go,yl⟩:=ok.go i _ B H1 S1 p1 U aa hd
  refine thnF (T'.item X rfl rfl rfl hc i [] s1 Q H1 _ I1 (L f1) t1 go) λr s2 ⟨u,hr,h2⟩=>?_
  subst hr
  refine wA (thnF h2 λ_ s3 ⟨x,H3,I3,r3,y3,t3,f3⟩=>?_)
  obtain⟨q3,ab⟩:=yl x H3 y3
  obtain⟨k3,d3⟩:=ab S1 U
  have ac:=I3.pinned (L f3) (T'.obj _ _ t3)
  simp only[lcLoop]at e1
  cases z1:g ds[i] ρ1 S1 with
  |no=>rw[z1]at e1;cases e1
  |err=>rw[z1]at e1;cases e1
  |ok f S2 =>
   rw[z1,Res.bind_ok]at e1
   refine wA (v6 (hg _ s3 Q H3 x u (λC H4=>∃h,Stp B H3 h H4/\Sto h H4 S2/\EnR h H4 f C) ac r3 ⟨B,S1,ρ1,ds[i],a9.mono q3,k3,d3,?_⟩) (λ_ s4 ⟨C,H4,I4,h,q4,a1,E⟩=>?_) λ_ _ z=>by rw[O]at z;exact z.elim)
   .rw [z1];exact λC h H4 q4 a1 E=>⟨h,q4,a1,E⟩
   cases z2:mt f S2 with
   |no=>rw[z2]at e1;cases e1
   |err=>rw[z2]at e1;cases e1
   |ok b S3 =>
    rw[z2,Res.bind_ok]at e1
    refine wA (v6 (ht _ s4 C H4 (λb' H5=>b'=b/\∃q,Stp h H4 q H5/\Sto q H5 S3) I4 ⟨h,S2,f,E,a1,?_⟩) (λb' s5 ⟨H5,I5,eb,q,q5,Y⟩=>?_) λ_ _ z=>by rw[O]at z;exact z.elim)
    .rw [z2];exact λb' q H5 q5 Y eb=>⟨(show b=b' from eb).symm,q,q5,Y⟩
    subst eb
    have M:∀{Z:St} {N:Hp} {s7:Shared} {c:List Addr} {S7:Sr},Inv X ([]++pinsAt fp s3.heap) Z N s7->Stp B H1 c N->EnR c N f Z->Sto c N S7->lcLoop n g mt me (ds.drop (i+1)) f S7=.ok P Sf ->
      ∃m,m<ds.length-i/\∃(i:Nat) (l:St) (H':Hp) (a:List Addr) (S':Sr) (F:En),m=ds.length-i/\i<=ds.length/\Inv X [] l H' s7/\tn i s7.heap/\(∀b∈fp,H' b=none)/\Stp ι H a H'/\EnR a H' F l/\Sto a H' S'/\lcLoop n g mt me (ds.drop i) F S'=.ok P Sf:=by
     intro Z N s7 c S7 I7 q7 ad a2 e7
     refine⟨ds.length-(i+1),by omega,i+1,Z,N,c,S7,f,rfl,a0,I7.unpinned,T'.keep _ _ _ t3 λb hb o eo=>(I7.pin (b,o) (wZ _ (wZ _ (q9 hb eo)))).1,λb hb=>?_,p1.trans q7,ad,a2,e7⟩
     obtain⟨o,eo,_⟩:=T'.obj _ _ t3 b hb
     exact(I7.pin (b,o) (wZ _ (wZ _ (q9 hb eo)))).2.1
    cases b' with
    |false =>
     rw[wL (by decide)]at e1
     exact wC ⟨rfl,M I5 ((q3.trans q4).trans q5) (E.mono q5) Y e1⟩
    |true =>
     rw[wM rfl]at e1
     cases z3:me f S3 with
     |no=>rw[z3]at e1;cases e1
     |err=>rw[z3]at e1;cases e1
     |ok v S4 =>
      rw[z3,Res.bind_ok]at e1
      refine wA (wA (v6 (he _ s5 C H5 (λy H6=>∃j,Stp q H5 j H6/\Sto j H6 S4/\Den j H6 v y) I5 ⟨q,S3,f,E.mono q5,Y,?_⟩) (λy' s6 ⟨y,H6,I6,ry,j,q6,a3,dv⟩=>?_) λ_ _ z=>by rw[O]at z;exact z.elim))
      .rw [z3];exact λy j H6 q6 a3 dv=>⟨j,q6,a3,dv⟩
      cases z4:appD S4 (.ref n) v with
      |no=>rw[z4]at e1;cases e1
      |err=>rw[z4]at e1;cases e1
      |ok w S5 =>
       rw[z4,Res.bind_ok]at e1
       have tot:=((q3.trans q4).trans q5).trans q6
       have ae:j[n]?=some Dl:=(p1.trans tot).get hD
       refine wA (v6 (qde (X:=X) _ s6 C H6 (.ref Dl) [y] (.ref Dl) [y'] (λ_ N=>∃c,Stp j H6 c N/\Sto c N S5) I6 rfl (.cons ry .nil) (qjm (x:=.ref n) a3 ⟨Dl,rfl,ae⟩ dv ?_)) (λ_ s7 ⟨_,N,I7,_,c,q7,a2⟩=>?_) λ_ _ z=>by rw[O]at z;exact z.elim)
       .rw [z4];exact λb a H' s' af _=>⟨a,s',af⟩
       .exact wC (wC ⟨rfl,M I7 (tot.trans q7) ((E.mono (q5.trans q6)).mono q7) a2 e1⟩)
 .have ag:i=ds.length:=by omega
  subst ag
  rw[uW (wF _)]at e1
  cases e1
  refine thnF (T'.done X rfl rfl rfl hc _ [] s1 Q H1 _ I1 (L f1) t1 (ok.stop B H1 _ p1 U a8)) λr s2 ⟨hr,I2⟩=>?_
  subst hr
  exact wC (fin Q H1 B s2 I2 p1 U)
structure Blk (X:Cx) (sc:Scope) (N':List Str) (tg:Expr) (ifs:List Expr) (elt:Expr) (g:D->En->Sr->Res En) (mt:En->Sr->Res Bool) (me:En->Sr->Res D):Prop where
 tg:∀cl C fp s H,PG (compCx X sc cl C N' fp s H) tg (TGt g)
 ifs:∀cl C fp s H,PTl (compCx X sc cl C N' fp s H) ifs (TB mt)
 elt:∀cl C fp s H,PE (compCx X sc cl C N' fp s H) elt (T me)
structure CSc (X:Cx) (sc:Scope) (fr:List Nat) (xs ts:List Str):Prop where
 kind:sc.kind=.function
 nocell:∀y∈sc.names,y.2≠.cell
 names:∀x∈sc.names,x.2=.local->sc.names.lookup x.1=some .local
 frees:∀x∈sc.names,x.2=.free->X.env.kindOf x.1=some .cell\/X.env.kindOf x.1=some .free
 frs:Frs X sc fr xs ts
noncomputable def mLc(m:Bool)(fr:List Nat)(nt:Nat)(mi:En->Sr->Res (List D))(g:D->En->Sr->Res En)(mt:En->Sr->Res Bool)(me:En->Sr->Res D):En->Sr->Res D:=λρ S=>(mi ρ S).bind λds S1 =>
 (lcLoop S1.length g mt me ds (frE ρ fr nt) (S1++[.lst []])).bind λ_ S2=>lcEnd m S1.length S2
noncomputable def mLcG(m:Bool)(fr:List Nat)(nt:Nat)(mi:En->Sr->Res (List D×(Sr->Prop)))(g:D->En->Sr->Res En)(mt:En->Sr->Res Bool)(me:En->Sr->Res D):En->Sr->Res D:=λρ S=>(mi ρ S).bind λp S1 =>
 (lcLoop S1.length (λd ρ S=>grd p.2 S (g d ρ S)) mt me p.1 (frE ρ fr nt) (S1++[.lst []])).bind λ_ S2=>grd p.2 S2 (lcEnd m S1.length S2)
theorem qey{m:Bool}{fr:List Nat}{nt:Nat}{mi:En->Sr->Res (List D)}{g:D->En->Sr->Res En}{mt:En->Sr->Res Bool}{me:En->Sr->Res D}:mLcG m fr nt (λρ S=>(mi ρ S).bind λds S1=>.ok (ds,λ_=>True) S1) g mt me=mLc m fr nt mi g mt me:=by
 funext ρ S
 unfold mLcG mLc
 dsimp only
 cases mi ρ S with
 |ok ds S1 =>
  show((lcLoop S1.length (λd ρ S=>grd (λ_=>True) S (g d ρ S)) mt me ds (frE ρ fr nt) (S1++[.lst []])).bind λ_ S2=>grd (λ_=>True) S2 (lcEnd m S1.length S2))=_
  simp only[qb2]
 |err=>rfl
 |no=>rfl
theorem qez{tg:Expr}{g:D->En->Sr->Res En}{gd:Sr->Prop}(h:PG X tg (TGt g)):PG X tg (TGt λd ρ S=>grd gd S (g d ρ S)):=PGimp h λv e H Q b=>by
 obtain⟨ι,S,ρ,d,c,st,hd,p⟩:=b
 refine⟨ι,S,ρ,d,c,st,hd,?_⟩
 dsimp only at p
 by_cases a:gd S
 .rw [zq a]at p;exact p
 .rw [zw a]at p;exact p.elim
theorem qcw{tg elt iter:Expr}{ifs:List Expr}{sc:Scope}{fr:List Nat}{xs ts:List Str}{mi:En->Sr->Res (List D×(Sr->Prop))}{g:D->En->Sr->Res En}{mt:En->Sr->Res Bool}{me:En->Sr->Res D}{mm:Bool}(hc:X.calm=true)(hi:PI X tg iter (TIg mi))(hs:∀x,foldedSetIterable iter X.env x=pure x)(E:CSc X sc fr xs ts)(B:Blk X sc (xs++ts) tg ifs elt g mt me){pins:List (Addr×Obj)}{s:Shared}{L:St}{H:Hp}{Q:VK}{use:Option (Value->Sem Unit)}{Q':Value->Shared->Prop}(I:Inv X pins L H s)(hw:T (mLcG mm fr ts.length mi g mt me) L H Q)(fin:∀(D C:Addr) (H':Hp) (s':Shared) (m:Str->Option Value),s'.heap.Ns C m->C≠X.env.locals->(∀x c,X.env.cells.lookup x=some c->c≠C)->(H' C=none/\X.s₀.heap.objs.size<=C/\∀p∈X.pn++pins,p.1≠C)->(∀h',Heap.SameBut C s'.heap h'->Inv X pins L H' {s' with heap:=h' })->Q (.ref D) H'->compPost (model X.prog X.w) X.A X.xe use Q' (.ref D) C (.ok .next) s'):
  wpAny (model X.prog X.w) X.A (comprehension (.ListComp elt [⟨tg,iter,ifs,0⟩] sc pos) sc X.env (firstIterPos [⟨tg,iter,ifs,0⟩] pos) (newList []) false (eval iter X.env) use) Q' X.xe s:=by
 obtain⟨ι,S,ρ,er,st,p⟩:=hw
 dsimp only[mLcG]at p
 cases z:mi ρ S with
 |no=>rw[z]at p;exact p.elim
 |err=>rw[z]at p;exact p.elim
 |ok dg S1 =>
 obtain⟨ds,gd⟩:=dg
 rw[z,Res.bind_ok]at p
 dsimp only at p
 cases z2:lcLoop S1.length (λd ρ S=>grd gd S (g d ρ S)) mt me ds (frE ρ fr ts.length) (S1++[.lst []])with
 |no=>rw[z2]at p;exact p.elim
 |err=>rw[z2]at p;exact p.elim
 |ok ab Sf =>
 rw[z2,Res.bind_ok]at p
 have M:gd Sf:=by
  apply Classical.byContradiction
  intro hn
  rw[zw hn]at p
  exact p
 rw[zq M]at p
 obtain⟨cl,CL⟩:=qaq (X:=X) (sc:=sc) λx hx hf=>I.ok.has x.1 (E.frees x hx hf)
 refine wpAny_comprehension_free rfl hs CL.eq E.kind E.names ?_
 refine thn (hi pins s L H (λJ H2=>∃a,Stp ι H a H2/\Sto a H2 S1/\ItG a H2 J ds gd) I ⟨ι,S,ρ,er,st,?_⟩) λxv s1 Z=>thn Z λac s2 h2=>?_
 .rw [z];exact λh H' J q f ok=>⟨h,q,f,ok⟩
 obtain⟨it,fp,tn,J,H2,e,I2,T',t2,f2,a,q2,F,a0⟩:=h2
 subst e
 refine wO ?_
 have N:H2 s2.heap.objs.size=none:=I2.hok.fresh (wF _)
 have O:∀b∈fp,b<s2.heap.objs.size:=λb i=>by
  obtain⟨o,n,_⟩:=T'.obj _ _ t2 b i
  exact wG n
 have K:Inv X pins L (upd H2 s2.heap.objs.size (.lst [])) {s2 with heap:=s2.heap.push {cls:=.type "list",dict:=none,data:=.seq ([]:List Value).toArray}} :=
  I2.laid (t':=s2.toks) (λb o e=>wB _ e) (wF _) ⟨vF _,[],0,.nil,wE _ rfl⟩
 have f3:∀b∈fp,FpOk X pins (upd H2 s2.heap.objs.size (.lst [])) b:=λb i=>⟨by rw[qk (wS (O b i))];exact(f2 b i).1,(f2 b i).2⟩
 have Y:=Stp.grow (ι:=a) N (.lst [])
 have a1:Sto (a++[s2.heap.objs.size]) (upd H2 s2.heap.objs.size (.lst [])) (S1++[.lst []]):=F.grow N ⟨⟨a.length,by simp,rfl⟩,[],qr,rfl⟩
 have P:(a++[s2.heap.objs.size])[S1.length]?=some s2.heap.objs.size:=by rw[<-F.len];simp
 generalize R:({s2 with heap:=s2.heap.push {cls:=.type "list",dict:=none,data:=.seq ([]:List Value).toArray}}:Shared)=s3 at K ⊢
 have U:∀b∈fp,b<s3.heap.objs.size:=λb i=>by
  rw[<-R]
  show b<(s2.heap.push _).objs.size
  rw[w9];exact w1 (O b i)
 have t3:tn 0 s3.heap:=T'.keep _ _ _ t2 λb i o n=>by rw[<-R];exact wB _ n
 refine wpAny_newFunctionEnv E.nocell (by intro y hy;simp at hy) (λh4 a2 a3=>?_) E.kind
 have r:∀b o,s3.heap.get? b=some o->h4.get? b=some o:=λb o n=>a3.extBut b o (wS (wG n)) (wB _ n)
 have I4:=qb3 (tk:=s3.toks+([]:List (Str×Value)).length) K E.kind E.nocell CL f3 U E.frs a2 r
 have t4:tn 0 h4:=T'.keep _ _ _ t3 λb i o n=>r b o n
 have a4:EnR (a++[s2.heap.objs.size]) (upd H2 s2.heap.objs.size (.lst [])) (frE ρ fr ts.length) (frS L fr ts.length):=(qar er fr ts.length).mono (q2.trans Y)
 have loop:codeAny (model X.prog X.w) X.A (.compLoop (.ListComp elt [⟨tg,iter,ifs,0⟩] sc pos) 0 (.ref it) (.ref s2.heap.objs.size) (compEnvC sc cl s3.heap.objs.size X.env)) (compPost (model X.prog X.w) X.A X.xe use Q' (.ref s2.heap.objs.size) s3.heap.objs.size) {s3 with heap:=h4,toks:=s3.toks+([]:List (Str×Value)).length}:=by
  refine qcv (X:=compCx X sc cl s3.heap.objs.size (xs++ts) fp s3 (upd H2 s2.heap.objs.size (.lst []))) (pos:=pos) rfl hc rfl rfl T' (qez (gd:=gd) (B.tg _ _ _ _ _)) (B.ifs _ _ _ _ _) (B.elt _ _ _ _ _) (λd ρ S hn=>zw hn _) P (a0.mono Y) I4 t4 (λb i=>(f3 b i).1) a4 a1 z2 M λad H' h s' J' q' f=>?_
  obtain⟨m',a5,_⟩:=J'.loc
  refine fin s2.heap.objs.size s3.heap.objs.size H' s' m' a5 (vR K.lt) (λx c ec ez=>?_) ⟨J'.free,K.sz,λq hq ez=>by have:=wG (K.pin q hq).1;rw[ez]at this;exact absurd this (vE _)⟩ (λh5 a6=>ju K f3 J' a6) ?_
  .obtain ⟨v,o,n,_⟩:=K.cell x c ec
   rw[ez]at n
   exact absurd (wG n) (vE _)
  .have u:h[S1.length]?=some s2.heap.objs.size:=q'.get P
   unfold lcEnd at p
   cases mm with
   |true =>
    rw[wM rfl]at p
    exact p _ h H' ((q2.trans Y).trans q') f ⟨_,rfl,u⟩
   |false =>
    rw[wL (by decide)]at p
    by_cases hl:Sf.length=S1.length+1
    .rw [wM hl]at p
     split at p
     .rename_i l a7
      obtain⟨⟨n',a8,a9⟩,ys,Z,dl⟩:=f.obj _ _ _ u a7
      obtain rfl:n'=S1.length:=qQ f.nd a8 u
      have en:S1.length=a.length:=F.len.symm
      have qq:Stp ι H (h.take S1.length) H':=by rw[en];exact q2.trans (Y.trans q').less
      have W:=f.less S1.length
      refine p (.ref s2.heap.objs.size) _ H' qq W ⟨_,ys,rfl,λhm=>?_,.inl Z,Dens.less l a9 dl⟩
      obtain⟨j,hj,ej⟩:=vG hm
      rw[vA]at hj
      have aa:h[j]?=some s2.heap.objs.size:=by
       rw[List.getElem_take]at ej
       rw[wD (by omega),ej]
      have:=qQ f.nd aa u
      omega
     .exact p.elim
    .rw [wL hl]at p;exact p.elim
 exact codeAny_compStart_list loop (T'.self _ 0 _ _ _ t4 loop)
theorem qjv{tg elt iter:Expr}{ifs:List Expr}{sc:Scope}{fr:List Nat}{xs ts:List Str}{mi:En->Sr->Res (List D×(Sr->Prop))}{g:D->En->Sr->Res En}{mt:En->Sr->Res Bool}{me:En->Sr->Res D}{b:Bool}(c:X.calm=true)(hi:PI X tg iter (TIg mi))(d:∀x,foldedSetIterable iter X.env x=pure x)(e:CSc X sc fr xs ts)(B:Blk X sc (xs++ts) tg ifs elt g mt me):
  PE X (.ListComp elt [⟨tg,iter,ifs,0⟩] sc pos) (T (mLcG b fr ts.length mi g mt me)):=λpins s i H Q I f=>by
 rw[eval_ListComp]
 refine qcw c hi d e B I f λD C H' s' m hn _ _ _ h q=>⟨m,hn,λh' a=>⟨.ref D,H',h h' a,rfl,q⟩⟩
theorem qeA{tg elt iter:Expr}{ifs:List Expr}{sc:Scope}{fr:List Nat}{xs ts:List Str}{mi:En->Sr->Res (List D×(Sr->Prop))}{g:D->En->Sr->Res En}{mt:En->Sr->Res Bool}{me:En->Sr->Res D}{O:Bool}{i:Nat}{y:Str}{h c:Pos}(U:X.calm=true)(hi:PI X tg iter (TIg mi))(W:∀x,foldedSetIterable iter X.env x=pure x)(Y:CSc X sc fr xs ts)(B:Blk X sc (xs++ts) tg ifs elt g mt me)(Z:X.N.Nodup)(hy:X.N[i]?=some y)(P:X.env.scope.names.lookup y=some .local)(n:swapsWith (.ListComp elt [⟨tg,iter,ifs,0⟩] sc pos) (some (.Name y h)) c.line X.env=pure true):
  PS X (.Assign [.Name y h] (.ListComp elt [⟨tg,iter,ifs,0⟩] sc pos) c) (TSm λρ S=>(mLcG O fr ts.length mi g mt me ρ S).bind λd S1=>.ok (.nx (ρ.set i (some d))) S1):=λpins s r H D I hw=>by
 obtain⟨ι,S,ρ,Q,st,p⟩:=hw
 rw[exec_Assign_Name_used _ _ _ _ n]
 refine wA (vg (wA ?_))
 show wpAny _ X.A (do let _ <-comprehension (.ListComp elt [⟨tg,iter,ifs,0⟩] sc pos) sc X.env _ (newList []) false (eval iter X.env) (some (assign (.Name y h) X.env))) _ _ s
 have hT:T (mLcG O fr ts.length mi g mt me) r H (λv u=>D.nx (r.set i (some v)) u):=⟨ι,S,ρ,Q,st,PsF.bind p λa S1 w u b s1 E ra p1=>p1 w u (Stp.refl _ _) E _ ((Q.mono s1).set ra)⟩
 refine wA (v6 (qcw (use:=some (assign (.Name y h) X.env)) (Q':=λ_ s'=>SP X pins D .next s') U hi W Y B I hT λR C H' s' m hn j l f hI q=>?_) (λ_ s' hq=>wC (wC hq)) λ_ _ e=>e)
 show wpAny _ X.A (assign (.Name y h) X.env (.ref R)) _ _ _
 have I0:Inv X pins r H' s':=by
  have:=hI s'.heap (Heap.SameBut.refl ..)
  exact this
 refine wpAny_assign_Name (yQ I0 Z hy (.inl P) (v:=.ref R) rfl (λF J K=>?_) (.inr P))
 obtain⟨a,sb,ha⟩:=K
 have L:C≠a:=by
  rcases ha with z|z
  .rw [z];exact j
  .exact λq=>l y a z q.symm
 refine⟨m,hn.sameBut sb L,λh' M=>?_⟩
 have I3:=J.turned (h':=h') (t':=F.toks) (it:=C) (λb o hb e=>M.extBut b o hb e) f.1 j (.inr f.2.1) l f.2.2
 exact⟨_,H',I3,q⟩
theorem r_lc{tg elt iter:Expr}{ifs:List Expr}{sc:Scope}{fr:List Nat}{xs ts:List Str}{mi:En->Sr->Res (List D)}{g:D->En->Sr->Res En}{mt:En->Sr->Res Bool}{me:En->Sr->Res D}{a:Bool}(b:X.calm=true)(hi:PI X tg iter (TIt mi))(c:∀x,foldedSetIterable iter X.env x=pure x)(d:CSc X sc fr xs ts)(B:Blk X sc (xs++ts) tg ifs elt g mt me):
  PE X (.ListComp elt [⟨tg,iter,ifs,0⟩] sc pos) (T (mLc a fr ts.length mi g mt me)):=by
 rw[<-qey];exact qjv b (pi_g hi) c d B
theorem qgu{tg elt iter:Expr}{ifs:List Expr}{sc:Scope}{fr:List Nat}{xs ts:List Str}{mi:En->Sr->Res (List D)}{g:D->En->Sr->Res En}{mt:En->Sr->Res Bool}{me:En->Sr->Res D}{e:Bool}{i:Nat}{y:Str}{c a:Pos}(f:X.calm=true)(hi:PI X tg iter (TIt mi))(h:∀x,foldedSetIterable iter X.env x=pure x)(j:CSc X sc fr xs ts)(B:Blk X sc (xs++ts) tg ifs elt g mt me)(l:X.N.Nodup)(m:X.N[i]?=some y)(n:X.env.scope.names.lookup y=some .local)(b:swapsWith (.ListComp elt [⟨tg,iter,ifs,0⟩] sc pos) (some (.Name y c)) a.line X.env=pure true):
  PS X (.Assign [.Name y c] (.ListComp elt [⟨tg,iter,ifs,0⟩] sc pos) a) (TSm λρ S=>(mLc e fr ts.length mi g mt me ρ S).bind λd S1=>.ok (.nx (ρ.set i (some d))) S1):=by
 rw[<-qey];exact qeA f (pi_g hi) h j B l m n b
end
end R
namespace R
open PySem PySem.Spec L2 SeqAt
open PyProof.Rows hiding St
def Sg(M:Model)(B:Around)(a:End->Shared->Prop)(k:Code)(t:Sem Fin)(l:List Frame)(s:Shared):Prop:=∀G p,G.code=k->G.Woken B->∃x z,Runs M G p t l s x z/\a x z
section
variable{M:Model}{B:Around}{Φ:End->Shared->Prop}{k:Code}{l:List Frame}{s:Shared}
theorem qas{c:Type}{m:Sem c}{f:c->Sem Fin}{e:Value->Sem Fin}{gd:Bool->Bool}{lv:List Value->List Value}(h:wpAny M (B.over k l) m (λa z=>Sg M B Φ k (f a) l z) (λx z=>Sg M B Φ k (e x) l z) s):Sg M B Φ k (m.wrap f e gd lv) l s:=λG p d b=>by
 subst d
 exact runs_wrap_of_wp f e gd lv m (h _ p (b.over l)) (λ_ q _ z=>z G q rfl b) λ_ q _ z=>z G q rfl b
theorem zz{i j:Type}{m:Sem i}{f:i->Sem j}{d:j->Sem Fin}{c:Value->Sem Fin}{gd:Bool->Bool}{lv:List Value->List Value}(h:wpAny M (B.over k l) m (λa z=>Sg M B Φ k ((f a).wrap d c gd lv) l z) (λx z=>Sg M B Φ k (c x) l z) s):Sg M B Φ k ((m >>= f).wrap d c gd lv) l s:=by
 have q:=qas (f:=λa=>(f a).wrap d c gd lv) (e:=λx=>(Sem.raise x).wrap d c gd lv) (gd:=λb=>gd (id b)) (lv:=λb=>lv (id b)) h
 rwa [Sem.bind_eq_wrap',Sem.wrap_wrap]
theorem zX{a:Code}(b:a.quiet=true)(h:Sg M B Φ a (M.den a) l s):Sg M B Φ k (.pure (.again a)) l s:=λG p c d=>by
 subst c
 have ⟨x,z,r,q⟩:=h (G.goto a) p rfl (d.goto a)
 exact⟨x,z,Runs.head (c₁:=a) (λ_ _ y=>.again b y) r,q⟩
theorem qh6(r:Result)(h:Φ (.ret r) s):Sg M B Φ k (leafOf r) [] s:=λG p a b=>⟨_,s,Runs.leaf r,h⟩
theorem qjw{a:Pos}{f:Unit->Sem Fin}(h:Sg M B Φ k (f ()) l s):Sg M B Φ k (.at a f) l s:=by
 have q:Sg M B Φ k ((standAt a).wrap f .raise id id) l s:=qas (vg h)
 exact q
theorem qeB{v:Value}{vs:List Value}{f:Resume->Sem Fin}(h:∀p,Φ (.susp v false vs f k p []) s):Sg M B Φ k (.yield v false vs f) [] s:=λG p a b=>by
 subst a
 exact⟨_,s,Runs.yield' [] rfl,h p⟩
end
def Go(M:Model)(B:Around)(a:End->Shared->Prop)(s:Shared):GenState->Prop
 | .fresh k=>Sg M B a k (M.den k) [] s
 | .suspended f _ k _ l _=>Sg M B a k (f (.send .none)) l s
 |_=>False
theorem qeC{prog:Program}{w:World}{A:Around}{E:Value->Shared->Prop}{s:Shared}{a:Addr}{n:Nat}{gs:GenState}{h:End->Shared->Prop}{Q:Option Value->Shared->Prop}(B:A.handled=none)(C:s.heap.NoLimit)(hd:A.depth<recursionLimit)(ha:s.heap.IsGen a n)(m:s.gens[n]?=some gs)(c:Go (model prog w) A.in1 h (s.setGen n .running) gs)(hx:∀x z,h x z->match x with
   | .ret r=>r=.ok .next/\∀h',(∀b o,z.heap.get? b=some o->h'.get? b=some o)->Q none {z.setGen n .finished with heap:=h' }
   | .susp v g vs f k p l=>(End.susp v g vs f k p l).quiet=true/\Q (some v) (z.setGen n (End.susp v g vs f k p l).genState)):
  wpAny (model prog w) A (pyNext (.ref a)) Q E s:=by
 have d:∀{u:Type} {l:List Value} {f:GenResult->Sem u} {R:u->Shared->Prop} {y:Value->Shared->Prop},(∀x z,h x z->x.quiet=true/\wpAny (model prog w) A.in1 (f x.result) R y (z.setGen n x.genState))->wpAny (model prog w) A.in1 (.resume n (.send .none) l f) R y s:=by
  intro u l f R y i G p j
  rw[Sem.wp_resume]
  cases gs with
  |fresh k =>
   obtain⟨x,z,r,q⟩:=c (G.wake k p) p rfl (j.wake k p)
   exact⟨x.result,z.setGen n x.genState,by unfold Wakes;rw[m];exact⟨x,z,r,(i x z q).1,rfl,rfl⟩,(i x z q).2 G p j⟩
  |suspended K L k F H cl =>
   obtain⟨x,z,r,q⟩:=c (G.wake k p) F rfl (j.wake k p)
   exact⟨x.result,z.setGen n x.genState,by unfold Wakes;rw[m];exact⟨x,z,r,(i x z q).1,rfl,rfl⟩,(i x z q).2 G p j⟩
  |running=>exact c.elim
  |finished=>exact c.elim
 unfold pyNext
 refine wA (vX ?_)
 refine w5 (name:=Str.ofString "__next__") ha.typeIs slot_gen_next ?_
 refine w6 slot_gen_next ha.typeIs entry_gen_next (?_:wpAny _ A.in1 (Builtin.Generator.genWake (.ref a) (.send .none)) _ _ s) (args_gen_next _)
 unfold Builtin.Generator.genWake
 refine wA (wu (wpAny_genNumber ha ?_))
 refine wA (wpAny_genState m ?_)
 have go:∀x z,h x z->x.quiet=true:=λx z q=>by
  cases x with
  |ret r=>rfl
  |susp v g vs f k p l=>exact(hx _ _ q).1
 cases gs with
 |running=>exact c.elim
 |finished=>exact c.elim
 |_ =>
  refine wA (wpAny_roomToWake C hd (d λx z q=>⟨go x z q,?_⟩))
  cases x with
  |susp v g vs f k p l=>exact wC ⟨v,rfl,wC (hx _ _ q).2⟩
  |ret r =>
   obtain⟨e,I⟩:=hx _ _ q
   subst e
   show wpAny _ A.in1 (newExc (.type "StopIteration") [] >>= _) _ _ (z.setGen n .finished)
   refine wA ?_
   unfold newExc newTuple
   refine wA (wO ?_ (by size_fits))
   refine wA (uX (t:=firstArgMember _ _) (a:=Value.none) (by first|rfl|(simp only[firstArgMember];rfl)) ?_)
   refine wO ?_ (by size_fits)
   unfold raiseNew
   refine wA (wA (xF ?_))
   rw[show A.in1.handled=none from B]
   refine wpAny_throw (wA (vT (T:="StopIteration") (b:=true) ⟨_,wE _ rfl,rfl⟩ ut ?_))
   exact wC (I _ λb o J=>wB _ (wB _ J))
end R
namespace R
open PySem PySem.Spec L2 SeqAt
open PyProof.Rows hiding St
inductive GN where
 |fin (S:Sr)|yl (i:Nat) (ρ:En) (v:D) (S:Sr)|bad
noncomputable def grdN(gu:Sr->Prop)(S:Sr)(r:GN):GN:=@ite _ (gu S) (Classical.propDecidable _) r .bad
theorem yj{gu:Sr->Prop}{S:Sr}(h:gu S)(r:GN):grdN gu S r=r:=wM h
theorem yC{gu:Sr->Prop}{S:Sr}{r:GN}(h:grdN gu S r≠.bad):gu S:=Classical.byContradiction λn=>h (wL n)
noncomputable def gnx(gu:Sr->Prop)(g:D->En->Sr->Res En)(mt:En->Sr->Res Bool)(me:En->Sr->Res D):Nat->List D->En->Sr->GN
 |_,[],_,S=>grdN gu S (.fin S)
 |i,d::r,ρ,S=>grdN gu S <| match g d ρ S with
  | .ok ρ1 S1=>match mt ρ1 S1 with
   | .ok true S2=>match me ρ1 S2 with
    | .ok v a=>.yl (i+1) ρ1 v a
    |_=>.bad
   | .ok false S2=>gnx gu g mt me (i+1) r ρ1 S2
   |_=>.bad
  |_=>.bad
section
variable{X:Cx}{pos:Pos}
structure Sus (X:Cx) (J:It) (tn:Nat->Heap->Prop) (fp:List Addr) (ds:List D) (gu:Sr->Prop) (i:Nat) (ρ:En) (S:Sr) (ι:List Addr) (H:Hp) (pins:List (Addr×Obj)) (s:Shared):Prop where
 inv:∃σ,Inv X pins σ H s/\EnR ι H ρ σ
 sto:Sto ι H S
 at':tn i s.heap
 le:i<=ds.length
 fz:∀b∈fp,H b=none
 it:ItG ι H J ds gu
 pf:∀p∈pins,p.1∉fp
def Pw(X:Cx)(J:It)(tn:Nat->Heap->Prop)(fp:List Addr)(ds:List D)(gu:Sr->Prop)(M:Model)(B:Around)(g:D->En->Sr->Res En)(mt:En->Sr->Res Bool)(me:En->Sr->Res D):Nat->GenState->Nat->En->Sr->Prop
 |0,_,_,_,_=>True
 |n+1,gs,i,ρ,S=>∀pins ι H s,Sus X J tn fp ds gu i ρ S ι H pins s->gnx gu g mt me i (ds.drop i) ρ S≠.bad->Go M B (λx z=>match x with
  | .ret r=>r=.ok .next/\∃c a H' e,gnx gu g mt me i (ds.drop i) ρ S=.fin c/\Inv X pins e H' z/\Stp ι H a H'/\Sto a H' c
  | .susp v gd vs f k p l=>(End.susp v gd vs f k p l).quiet=true/\∃h b d c a H' y,gnx gu g mt me i (ds.drop i) ρ S=.yl h b d c/\Stp ι H a H'/\Den a H' d y/\RelV y v/\Sus X J tn fp ds gu h b c a H' pins z /\
   Pw X J tn fp ds gu M B g mt me n (End.susp v gd vs f k p l).genState h b c) s gs
def Pz(X:Cx)(J:It)(tn:Nat->Heap->Prop)(fp:List Addr)(ds:List D)(gu:Sr->Prop)(M:Model)(B:Around)(g:D->En->Sr->Res En)(mt:En->Sr->Res Bool)(me:En->Sr->Res D)(n:Nat)(i:GN)(pins:List (Addr×Obj))(ι:List Addr)(H:Hp):End->Shared->Prop:=λx z=>match x with
  | .ret r=>r=.ok .next/\∃c a H' e,i=.fin c/\Inv X pins e H' z/\Stp ι H a H'/\Sto a H' c
  | .susp v gd vs f k p l=>(End.susp v gd vs f k p l).quiet=true/\∃h b d c a H' y,i=.yl h b d c/\Stp ι H a H'/\Den a H' d y/\RelV y v/\Sus X J tn fp ds gu h b c a H' pins z /\
   Pw X J tn fp ds gu M B g mt me n (End.susp v gd vs f k p l).genState h b c
theorem qeD{tg elt iter:Expr}{ifs:List Expr}{sc:Scope}{J:It}{fp:List Addr}{it:Addr}{tn:Nat->Heap->Prop}{g:D->En->Sr->Res En}{mt:En->Sr->Res Bool}{me:En->Sr->Res D}{ds:List D}{gu:Sr->Prop}{B:Around}(O:X.xe=λ_ _=>False)(hc:X.calm=true)(a0:X.ex=fp)(a1:∀p∈X.pn,p.1∉fp)(hA:X.A=B.over (.compLoop (.GeneratorExp elt [⟨tg,iter,ifs,0⟩] sc pos) 0 (.ref it) .none X.env) [])(a3:X.env.scope.isCoroutine=false)(T':Turn X.prog X.w X.K tg J fp it tn)(hg:PG X tg (TGt g))(ht:PTl X ifs (TB mt))(he:PE X elt (T me)):∀(n m i:Nat) (ρ:En) (S:Sr) (pins:List (Addr×Obj)) (q:List Addr) (H0:Hp) (ι:List Addr) (H:Hp) (s:Shared),ds.length-i=m ->
   Sus X J tn fp ds gu i ρ S ι H pins s->Stp q H0 ι H->gnx gu g mt me i (ds.drop i) ρ S≠.bad ->
   Sg (model X.prog X.w) B (Pz X J tn fp ds gu (model X.prog X.w) B g mt me n (gnx gu g mt me i (ds.drop i) ρ S) pins q H0) (.compLoop (.GeneratorExp elt [⟨tg,iter,ifs,0⟩] sc pos) 0 (.ref it) .none X.env)
    ((model X.prog X.w).den (.compLoop (.GeneratorExp elt [⟨tg,iter,ifs,0⟩] sc pos) 0 (.ref it) .none X.env)) [] s:=by
 intro n
 induction n using Nat.strongRecOn with
 |ind n a4 =>
 intro m
 induction m with
 |zero =>
  intro i ρ S pins q H0 ι H s hm U q0 a
  obtain⟨⟨σ,I,er⟩,st,t1,le,f1,ok,pf⟩:=U
  have hi:i=ds.length:=by omega
  subst hi
  have j:∀{H':Hp},(∀b∈fp,H' b=none)->∀b∈fp,FpOk X pins H' b:=λhn b a=>by
   have c:b∈X.ex:=by rw[a0];exact a
   exact⟨hn b a,(I.ok.exf b c).1,λz=>I.ok.exfs b c z,.inl c,(I.ok.exf b c).2,λp hp z=>(vJ.mp hp).elim (λy=>a1 p y (z ▸ a)) λy=>pf p y (z ▸ a)⟩
  show Sg _ B _ _ ((compTurn (.GeneratorExp elt [⟨tg,iter,ifs,0⟩] sc pos) 0 (.ref it) .none X.env).onRaise (leaving X.env)) [] s
  rw[compTurn_gen,Sem.onRaise_eq_wrap]
  refine zz (vg (zz ?_))
  rw[<-hA]
  have C:gu S:=by
   rw[uW (wF _)]at a
   exact yC a
  refine thnF (T'.done X rfl rfl rfl hc _ pins s σ H _ I (j f1) t1 (ok.stop ι H S (Stp.refl _ _) st C)) λr s2 ⟨hr,I2⟩=>?_
  subst hr
  refine qh6 (.ok .next) ⟨rfl,S,ι,H,σ,?_,I2,q0,st⟩
  rw[uW (wF _)];exact yj C _
 |succ m a5 =>
  intro i ρ S pins q H0 ι H s hm U q0 a
  obtain⟨⟨σ,I,er⟩,st,t1,le,f1,ok,pf⟩:=U
  have P:i<ds.length:=by omega
  have j:∀{H':Hp},(∀b∈fp,H' b=none)->∀b∈fp,FpOk X pins H' b:=λhn b a=>by
   have c:b∈X.ex:=by rw[a0];exact a
   exact⟨hn b a,(I.ok.exf b c).1,λz=>I.ok.exfs b c z,.inl c,(I.ok.exf b c).2,λp hp z=>(vJ.mp hp).elim (λy=>a1 p y (z ▸ a)) λy=>pf p y (z ▸ a)⟩
  have hd:ds[i]?=some ds[i]:=wD P
  have ed:ds.drop i=ds[i]::ds.drop (i+1):=uL P
  have C:gu S:=by
   rw[ed]at a
   exact yC a
  obtain⟨go,yl⟩:=ok.go i _ ι H S (Stp.refl _ _) st C hd
  show Sg _ B _ _ ((compTurn (.GeneratorExp elt [⟨tg,iter,ifs,0⟩] sc pos) 0 (.ref it) .none X.env).onRaise (leaving X.env)) [] s
  rw[compTurn_gen,Sem.onRaise_eq_wrap]
  refine zz (vg (zz ?_))
  rw[<-hA]
  refine thnF (T'.item X rfl rfl rfl hc i pins s σ H _ I (j f1) t1 go) λr s2 ⟨u,hr,h2⟩=>?_
  subst hr
  refine zz ?_
  rw[<-hA]
  refine thnF h2 λ_ s3 ⟨x,H3,I3,r3,y3,t3,f3⟩=>?_
  obtain⟨q3,a6⟩:=yl x H3 y3
  obtain⟨k3,d3⟩:=a6 S st
  have a7:=I3.pinned (j f3) (T'.obj _ _ t3)
  rw[ed]at a ⊢
  unfold gnx at a ⊢
  rw[yj C]at a ⊢
  cases z1:g ds[i] ρ S with
  |no=>rw[z1]at a;exact absurd rfl a
  |err=>rw[z1]at a;exact absurd rfl a
  |ok d S2 =>
   rw[z1]at a
   dsimp only at a ⊢
   refine zz ?_
   rw[<-hA]
   refine v6 (hg _ s3 σ H3 x u (λE Q=>∃e,Stp ι H3 e Q/\Sto e Q S2/\EnR e Q d E) a7 r3 ⟨ι,S,ρ,ds[i],er.mono q3,k3,d3,?_⟩) (λ_ s4 ⟨E,Q,I4,e,q4,R,l⟩=>?_) λ_ _ z=>by rw[O]at z;exact z.elim
   .rw [z1];exact λE e Q q4 R l=>⟨e,q4,R,l⟩
   cases z2:mt d S2 with
   |no=>rw[z2]at a;exact absurd rfl a
   |err=>rw[z2]at a;exact absurd rfl a
   |ok b S3 =>
    rw[z2]at a
    refine zz ?_
    rw[<-hA]
    refine v6 (ht _ s4 E Q (λb' W=>b'=b/\∃f,Stp e Q f W/\Sto f W S3) I4 ⟨e,S2,d,l,R,?_⟩) (λb' s5 ⟨W,I5,eb,f,N,L⟩=>?_) λ_ _ z=>by rw[O]at z;exact z.elim
    .rw [z2];exact λb' f W N L eb=>⟨(show b=b' from eb).symm,f,N,L⟩
    subst eb
    have sus:∀{M:St} {H7:Hp} {s7:Shared} {F:List Addr} {S7:Sr},Inv X (pins++pinsAt fp s3.heap) M H7 s7->Stp ι H F H7->EnR F H7 d M->Sto F H7 S7->Sus X J tn fp ds gu (i+1) d S7 F H7 pins s7:=by
     intro M H7 s7 F S7 I7 q7 a8 a9
     refine⟨⟨M,I7.unpinned,a8⟩,a9,T'.keep _ _ _ t3 λb a o eo=>(I7.pin (b,o) (wZ _ (wZ _ (q9 a eo)))).1,P,λb a=>?_,ok.mono q7,pf⟩
     obtain⟨o,eo,_⟩:=T'.obj _ _ t3 b a
     exact(I7.pin (b,o) (wZ _ (wZ _ (q9 a eo)))).2.1
    cases b' with
    |false =>
     dsimp only at a ⊢
     exact zX rfl (a5 (i+1) d S3 pins q H0 f W s5 (by omega) (sus I5 ((q3.trans q4).trans N) (l.mono N) L) (q0.trans ((q3.trans q4).trans N)) a)
    |true =>
     dsimp only at a ⊢
     cases z3:me d S3 with
     |no=>rw[z3]at a;exact absurd rfl a
     |err=>rw[z3]at a;exact absurd rfl a
     |ok v S4 =>
      dsimp only
      have hy:∀v,yieldOut X.env v=yieldValue v:=λv=>by simp only[yieldOut,a3,wj,vh]
      simp only[hy,ws]
      rw[Sem.bind_eq_wrap',Sem.bind_eq_wrap',Sem.wrap_wrap,Sem.wrap_wrap]
      refine qas ?_
      rw[<-hA]
      refine v6 (he _ s5 E W (λy H6=>∃h,Stp f W h H6/\Sto h H6 S4/\Den h H6 v y) I5 ⟨f,S3,d,l.mono N,L,?_⟩) (λy' s6 ⟨y,H6,I6,ry,h,q6,Y,dv⟩=>?_) λ_ _ z=>by rw[O]at z;exact z.elim
      .rw [z3];exact λy h H6 q6 Y dv=>⟨h,q6,Y,dv⟩
      have tot:=((q3.trans q4).trans N).trans q6
      refine qjw (qeB λp=>⟨rfl,i+1,d,v,S4,h,H6,y,rfl,q0.trans tot,dv,ry,sus I6 tot (l.mono (N.trans q6)) Y,?_⟩)
      cases n with
      |zero=>trivial
      |succ n' =>
       intro Z a2 H' s' U' c
       exact zX rfl (a4 n' (uM _) _ (i+1) d S4 Z a2 H' a2 H' s' rfl U' (Stp.refl _ _) c)
end
end R
namespace R
open PySem PySem.Spec L2 SeqAt
open PyProof.Rows hiding St
section
variable{gu:Sr->Prop}{g:D->En->Sr->Res En}{mt:En->Sr->Res Bool}{me:En->Sr->Res D}
theorem jv:∀(l:List D) (i:Nat) (ρ:En) (S:Sr) {b:Nat} {a:En} {v:D} {c:Sr},gnx gu g mt me i l ρ S=.yl b a v c->i<b/\b<=i+l.length
 |[],_,_,S,_,_,_,_,h=>by
  rw[show gnx gu g mt me _ [] _ S=grdN gu S (.fin S)from rfl,yj (yC (by rw[show grdN gu S (.fin S)=_ from h];intro z;cases z))]at h
  cases h
 |d::r,i,ρ,S,b,a,v,c,h=>by
  unfold gnx at h
  rw[yj (yC (by rw[h];intro z;cases z))]at h
  split at h
  .split at h
   .split at h
    .cases h;simp
    .cases h
   .have:=jv r (i+1) _ _ h
    simp only[wc]
    lia
   .cases h
  .cases h
noncomputable def gen1{a:Type}(step:a->D->Option (a ⊕ D))(fin:a->Option D)(rest:Nat->En->a->Sr->Res D)(b:a):GN->Res D
 | .fin S=>ofO (fin b) S
 | .yl i ρ v S=>match step b v with
  |some (.inl b')=>rest i ρ b' S
  |some (.inr x)=>.ok x S
  |none=>.no
 | .bad=>.no
theorem qcx{c:Type}{step:c->D->Option (c ⊕ D)}{fin:c->Option D}:∀(l:List D) (i:Nat) (ρ:En) (b:c) (S:Sr) {d:D} {f:Sr},genLoopG gu g mt me step fin l ρ b S=.ok d f ->
  gen1 step fin (λj ρ b S=>genLoopG gu g mt me step fin (l.drop (j-i)) ρ b S) b (gnx gu g mt me i l ρ S)=.ok d f
 |[],_,_,_,S,d,f,h=>by
  have a:gu S:=Classical.byContradiction λn=>by
   unfold genLoopG at h
   rw[zw n]at h;cases h
  unfold genLoopG at h
  rw[zq a]at h
  unfold gnx
  rw[yj a]
  exact h
 |x::r,i,ρ,b,S,d,f,h=>by
  have a:gu S:=Classical.byContradiction λn=>by
   unfold genLoopG at h
   rw[zw n]at h;cases h
  unfold genLoopG at h
  rw[zq a]at h
  unfold gnx
  rw[yj a]
  cases z1:g x ρ S with
  |no=>rw[z1]at h;cases h
  |err=>rw[z1]at h;cases h
  |ok ρ1 S1 =>
   rw[z1,Res.bind_ok]at h
   dsimp only
   cases z2:mt ρ1 S1 with
   |no=>rw[z2]at h;cases h
   |err=>rw[z2]at h;cases h
   |ok t S2 =>
    rw[z2,Res.bind_ok]at h
    cases t with
    |true =>
     rw[wM rfl]at h
     dsimp only
     cases z3:me ρ1 S2 with
     |no=>rw[z3]at h;cases h
     |err=>rw[z3]at h;cases h
     |ok v m =>
      rw[z3,Res.bind_ok]at h
      have e:i+1-i=1:=by lia
      simp only[gen1,e,ui,uw]
      exact h
    |false =>
     rw[wL (by decide)]at h
     dsimp only
     have q:=qcx r (i+1) ρ1 b S2 h
     cases z4:gnx gu g mt me (i+1) r ρ1 S2 with
     |fin m=>rw[z4]at q;exact q
     |bad=>rw[z4]at q;cases q
     |yl j o v m =>
      rw[z4]at q
      have:=jv r (i+1) ρ1 S2 z4
      have e:j-i=j-(i+1)+1:=by lia
      simp only[gen1]at q ⊢
      rw[e,ui]
      exact q
theorem zY{a:Type}{step:a->D->Option (a ⊕ D)}{fin:a->Option D}{ds:List D}{gu:Sr->Prop}{i:Nat}{ρ:En}{b:a}{S:Sr}{d:D}{c:Sr}(h:genLoopG gu g mt me step fin (ds.drop i) ρ b S=.ok d c):
  gen1 step fin (λj ρ b S=>genLoopG gu g mt me step fin (ds.drop j) ρ b S) b (gnx gu g mt me i (ds.drop i) ρ S)=.ok d c:=by
 have q:=qcx _ i ρ b S h
 cases z:gnx gu g mt me i (ds.drop i) ρ S with
 |fin f=>rw[z]at q;exact q
 |bad=>rw[z]at q;cases q
 |yl j l v f =>
  rw[z]at q
  have:=jv _ i ρ S z
  simp only[gen1]at q ⊢
  rw[List.drop_drop]at q
  have e:i+(j-i)=j:=by lia
  rw[e]at q
  exact q
end
theorem qgv{s:Shared}{n:Nat}{x y:GenState}:(s.setGen n x).setGen n y=s.setGen n y:=by
 unfold Shared.setGen
 simp
theorem GK.done{a g:Array GenState}{x:GenState}(h:GK (a.push .running) (g.setIfInBounds a.size .running))(e:g[a.size]?=some x)(hx:x.bare=true):GK a g:=by
 refine⟨λy b=>?_,?_,λi hi=>?_⟩
 .obtain ⟨i,hi,rfl⟩:=Array.mem_iff_getElem.mp b
  by_cases q:i=a.size
  .subst q
   rw[wa hi]at e
   cases e;exact hx
  .refine h.bare _ ?_
   have:(g.setIfInBounds a.size .running)[i]'(by simpa using hi)=g[i]:=by
    rw[uj]
    rw[wL (Ne.symm q)]
   rw[<-this]
   exact Array.getElem_mem _
 .have:=h.sz
  simp at this
  lia
 .have:=h.old i (by simp;lia)
  rw[Array.getElem?_setIfInBounds_ne (by lia)]at this
  rw[this,Array.getElem?_push_lt hi]
  exact(wa hi).symm
theorem qeE{X:Cx}{pins:List (Addr×Obj)}{a:St}{H:Hp}{s:Shared}(I:Inv X pins a H s){g':Array GenState}(h:GK X.s₀.gens g'):Inv X pins a H {s with gens:=g' } :=
 ⟨I.ok,I.os,h,I.base,I.loc,I.cell,I.free,I.freeC,I.pin,I.hok,I.len⟩
section
variable{X:Cx}
structure Cs (X:Cx) (J:It) (tn:Nat->Heap->Prop) (fp:List Addr) (ds:List D) (gu:Sr->Prop) (B:Around) (g:D->En->Sr->Res En) (mt:En->Sr->Res Bool) (me:En->Sr->Res D) (n k i:Nat) (ρ:En) (S:Sr) (ι:List Addr) (H:Hp) (pins:List (Addr×Obj)) (s:Shared):Prop where
 sus:Sus X J tn fp ds gu i ρ S ι H pins (s.setGen n .running)
 st:∃gs,s.gens[n]?=some gs/\gs.bare=true/\Pw X J tn fp ds gu (model X.prog X.w) B g mt me k gs i ρ S
theorem qcy{J:It}{tn:Nat->Heap->Prop}{fp:List Addr}{ds:List D}{gu:Sr->Prop}{A:Around}{g:D->En->Sr->Res En}{mt:En->Sr->Res Bool}{me:En->Sr->Res D}{n k i:Nat}{ρ:En}{S:Sr}{ι:List Addr}{H:Hp}{pins:List (Addr×Obj)}{s:Shared}{a:Addr}{o:Obj}{F:Array GenState}{Q:Option Value->Shared->Prop}{E:Value->Shared->Prop}(Y:A.handled=none)(hd:A.depth<recursionLimit)(Z:(a,o)∈X.pn)(hg:∀h:Heap,h.get? a=some o->h.IsGen a n)(M:X.s₀.gens=F.push .running)(hn:n=F.size)(C:Cs X J tn fp ds gu A.in1 g mt me n (k+1) i ρ S ι H pins s)(hb:gnx gu g mt me i (ds.drop i) ρ S≠.bad)(fin:∀m c H' b z,gnx gu g mt me i (ds.drop i) ρ S=.fin m->Inv X pins b H' (z.setGen n .running)->GK F z.gens->Stp ι H c H'->Sto c H' m->Q none z)(yl:∀L u d m c H' y v z,gnx gu g mt me i (ds.drop i) ρ S=.yl L u d m->Stp ι H c H'->Den c H' d y->RelV y v->Cs X J tn fp ds gu A.in1 g mt me n k L u m c H' pins z->Q (some v) z):
  wpAny (model X.prog X.w) A (pyNext (.ref a)) Q E s:=by
 obtain⟨U,gs,hs,a0,pw⟩:=C
 obtain⟨⟨σ,I,er⟩,_⟩:=id U
 have hp:s.heap.get? a=some o:=(I.pin (a,o) (vl _ Z)).1
 refine qeC Y I.nolimit hd (hg _ hp) hs (pw pins ι H _ U hb) λx z q=>?_
 have hsz:∀{b:St} {H':Hp},Inv X pins b H' z->z.gens[n]?=some .running/\n<z.gens.size:=λ{b H'} J=>by
  have e:=J.bare.old n (by rw[M,hn];simp)
  rw[M,hn]at e
  rw[hn]
  have B:(F.push GenState.running)[F.size]?=some .running:=by simp
  rw[B]at e
  exact⟨e,by
   rcases Nat.lt_or_ge F.size z.gens.size with N|N
   .exact N
   .rw [vc N]at e;cases e⟩
 have bk:∀{b:St} {H':Hp} (y:GenState),Inv X pins b H' z->Inv X pins b H' ((z.setGen n y).setGen n .running):=λ{b H'} y J=>by
  rw[qgv]
  have e:(z.gens.setIfInBounds n .running)=z.gens:=by
   obtain⟨e1,B⟩:=hsz J
   apply Array.ext
   .simp
   .intro j h1 h2
    rw[uj]
    split
    .rename_i q
     subst q
     rw[wa B]at e1
     exact(Option.some.inj e1).symm
    .rfl
  have:=qeE J (g':=z.gens.setIfInBounds n .running) (by rw[e];exact J.bare)
  exact this
 cases x with
 |ret r =>
  obtain⟨e,m,c,H',b,e1,J,s1,O⟩:=q
  refine⟨e,λh' hk=>fin m c H' b _ e1 ?_ ?_ s1 O⟩
  .have:=(bk .finished J).kept (h':=h') (t':=z.toks) hk
   exact this
  .refine GK.done (x:=.finished) (g:=(z.gens.setIfInBounds n .finished)) ?_ ?_ rfl
   .have:=(bk .finished J).bare
    rw[M]at this
    rw[<-hn]
    exact this
   .rw [<-hn]
    obtain⟨_,B⟩:=hsz J
    simp[B]
 |susp v gd vs f k' p l =>
  obtain⟨R,L,u,d,m,c,H',y,e1,s1,dv,ry,W,P⟩:=q
  refine⟨R,yl L u d m c H' y v _ e1 s1 dv ry ⟨?_,_,?_,End.bare_of_quiet R,P⟩⟩
  .obtain ⟨⟨b,J,K⟩,a1,a2,a3,a4,a5,a6⟩:=W
   exact⟨⟨b,bk _ J,K⟩,a1,a2,a3,a4,a5,a6⟩
  .obtain ⟨⟨b,J,K⟩,_⟩:=W
   obtain⟨_,B⟩:=hsz J
   show(z.gens.setIfInBounds n _)[n]?=_
   simp[B]
end
end R
namespace R
open PySem PySem.Spec L2 SeqAt
open PyProof.Rows hiding St
section
variable{X:Cx}{pos:Pos}
theorem qb4{K:PySem.W.Frag}{h:Heap}(kin:K.In h){c T:Addr}{ps:Array Value}(e:codeTab K c T=true)(n:h.get? T=some {cls:=.none,data:=.fields ps})(tr:TriplesOk ps.toList):h.IsCode c T ps/\h.TableAt c T ps:=by
 unfold codeTab at e
 split at e
 .rename_i cls d vs sl p
  simp only[wP,ve]at e
  obtain⟨e1,i⟩:=e
  split at i
  .rename_i a b v w x y z A B j f l q r m
   simp only[wP,ve,xZ]at i
   obtain⟨⟨s,u⟩,ne⟩:=i
   subst s
   subst u
   have o:=kin _ _ p
   exact⟨⟨_,vs,_,_,_,_,_,_,_,_,o,rfl,j,l,q,r,m,n,rfl,tr,ne⟩,⟨_,vs,o,e1,rfl,f⟩,n⟩
  .cases i
 .cases e
theorem qeF{M:Model}{A:Around}{E:Value->Shared->Prop}{pins:List (Addr×Obj)}{F:St}{H:Hp}{s:Shared}{c T:Addr}{q:Str}{sc:Scope}(I:Inv X pins F H s)(P:X.env.code=.ref c)(Q:codeTab X.K c T=true):
  wpAny M A (genexprCode X.env pos q sc) (λ_ s'=>∃H',Inv X pins F H' s'/\s'.gens=s.gens/\(∀ι,Stp ι H ι H')/\(∀ι S,Sto ι H S->Sto ι H' S)/\∀b o,s.heap.get? b=some o->H b=none->s'.heap.get? b=some o/\H' b=none) E s:=by
 obtain⟨j,W⟩:=I.ok.tab c T Q
 obtain⟨mo,p⟩:=I.base.tbls T j W
 generalize j++mo=ps at p
 obtain⟨Y,tr⟩:=I.hok T _ p
 obtain⟨R,Z⟩:=qb4 I.kIn Q Y tr
 cases z:codeAmong pos ps.toList with
 |some v=>exact wpAny_genexprCode_hit P R z ⟨H,I,rfl,λ_=>Stp.refl _ _,λ_ _ x=>x,λb o e n=>⟨e,n⟩⟩
 |none =>
  refine wpAny_genexprCodeX P R Z z λU h' tk hx _ _ B _ h _=>?_
  generalize J:ps++#[rawInt pos.line,rawInt pos.col,.ref U]=ps' at B h
  have f:∀{b:Addr} {u:HO},H b=some u->(∀x,u≠.tbl x)->b≠T:=λ{b u} e n z=>by
   subst z;rw[p]at e;cases e;exact n _ rfl
  have i:∀{b:Addr},H b=none->b≠T:=λ{b} e z=>by subst z;rw[p]at e;cases e
  have L:TriplesOk ps'.toList:=by
   obtain⟨_,_,_,_,_,_,_,_,_,_,_,_,_,_,_,_,_,e1,N,t,_⟩:=B
   exact t
  have O:HOk X.prog X.w (upd H T (.tbl ps')) h':=λb u e=>by
   by_cases q:b=T
   .subst q
    rw[qr]at e;cases e
    exact⟨h.2,L⟩
   .rw [qk q]at e
    refine(I.hok b u e).stay (λd v hd eo=>hx d v ?_ eo) (λd C=>by rw[qk (f C (by intro _ z;cases z))];exact C) λd xs C=>by rw[qk (f C (by intro _ z;cases z))];exact C
    rcases hd with y|y
    .subst y;exact q
    .exact f y (by intro _ z;cases z)
  have I':Inv X pins F (upd H T (.tbl ps')) {s with heap:=h',toks:=tk}:=by
   refine I.step (g':=s.gens) (d':=s.drawn) (ch:=[]) (λ_ z=>nomatch z) (λb o _ _ _ e n=>hx b o (i n) e) (λb o _ _ _ e n=>⟨o.slots,hx b o (i n) e⟩) (λb o _ e n=>by rw[qk (i n)];exact n)
    (λb o _ e=>?_) (λb xs e=>by rw[qk (f e (by intro _ z;cases z))];exact e) (λb o u e=>by rw[qk (f e (by intro _ z;cases z))];exact e) (λb qs e=>?_) (λm hm=>?_) O I.bare.self
   .by_cases q:b=T
    .subst q;exact⟨_,h.2⟩
    .exact ⟨o,hx b o q e⟩
   .by_cases q:b=T
    .subst q
     rw[p]at e;cases e
     exact⟨#[rawInt pos.line,rawInt pos.col,.ref U],by rw[qr,<-J]⟩
    .exact ⟨#[],by rw[qk q,e];simp⟩
   .obtain ⟨o,es,ep,ho,r⟩:=hm
    exact⟨o,es,ep,hx _ o (i I.free) ho,r⟩
  have sp:∀ι,Stp ι H ι (upd H T (.tbl ps')):=λι=>⟨u7 _,λ_ m=>.inl m,λa u e _ nt=>by
    rw[qk (f e (by intro x z;subst z;exact nt))];exact e,λa e=>by
    by_cases q:a=T
    .subst q;rw[qr];simp
    .rw [qk q];exact e⟩
  refine⟨_,I',rfl,sp,λι S st=>⟨st.len,st.nd,λn a so e1 N=>(st.obj n a so e1 N).mono (sp ι) ?_⟩,λb o e n=>⟨hx b o (i n) e,by rw[qk (i n)];exact n⟩⟩
  have k:=st.obj n a so e1 N
  cases so with
  |lst l=>obtain⟨_,xs,e,_⟩:=k;rw[qk (f e (by intro _ z;cases z))]
  |dic l=>obtain⟨_,xs,e,_⟩:=k;rw[qk (f e (by intro _ z;cases z))]
  |dis l=>obtain⟨_,xs,e,_⟩:=k;rw[qk (f e (by intro _ z;cases z))]
theorem qgw{M:Model}{A:Around}{E:Value->Shared->Prop}{pins:List (Addr×Obj)}{a:St}{H:Hp}{s:Shared}{Q:Addr->Shared->Prop}(I:Inv X pins a H s)(h:Q builtinsNs s):wpAny M A (builtinsFor X.env.globals X.env.builtins) Q E s:=by
 obtain⟨bm,ob,e1,b,c,d,e,f⟩:=I.ok.mod.bmod
 rw[I.ok.glob]
 exact wpAny_builtinsFor (I.ok.mod.glob.keeps I.bk) e1 b (I.bk _ _ c) d e f h
noncomputable def genCx(X:Cx)(sc:Scope)(cl:List (Str×Addr))(C:Addr)(code:Value)(N':List Str)(fp:List Addr)(ge:Expr)(it:Addr)(o:Addr×Obj)(s:Shared)(H:Hp):Cx :=
 {X with A:=X.A.in4.in1.over (.compLoop ge 0 (.ref it) .none (genEnv sc cl C code builtinsNs X.env)) [],N:=N',s₀:={s with gens:=s.gens.push .running},H₀:=H,env:=genEnv sc cl C code builtinsNs X.env,outer:=X.stack,stack:=genEnv sc cl C code builtinsNs X.env::X.stack,ex:=fp,fn:=λ_=>false,pn:=[o],xe:=λ_ _=>False}
theorem qeG{sc:Scope}{cl:List (Str×Addr)}{code:Value}{N':List Str}{fp:List Addr}{tg elt iter:Expr}{ifs:List Expr}{it:Addr}{o:Addr×Obj}{pins:List (Addr×Obj)}{j:St}{H:Hp}{s:Shared}(I:Inv X pins j H s)(l:sc.kind=.function)(a:∀y∈sc.names,y.2≠.cell)(f:Clos X sc cl)(i:∀b∈fp,FpOk X pins H b)(n:∀b∈fp,b<s.heap.objs.size):(genCx X sc cl s.heap.objs.size code N' fp (.GeneratorExp elt [⟨tg,iter,ifs,0⟩] sc pos) it o s H).Ok where
 mod:=I.ok.mod
 kind:=l
 glob:=I.ok.glob
 blt:=rfl
 above:=wF _
 inj:=λx y c p q=>I.ok.inj x y c (f.sub x c p) (f.sub y c q)
 has:=λx hx=>by
  have hx:sc.names.lookup x=some .cell\/sc.names.lookup x=some .free:=hx
  rcases hx with z|z
  .exact absurd rfl (a _ (wx z))
  .exact f.all x z
 cab:=λx c h _=>by cases h
 hd:=λh=>I.ok.hd h
 frames:=by
  unfold genCx Around.over
  dsimp only[u0,envsOf,List.filter_nil,List.filterMap_nil,pushEnvs]
  rw[I.ok.frames]
  rfl
 stk:=.inr ⟨rfl,rfl⟩
 exf:=λb d=>⟨wS (n b d),λx c h=>(i b d).2.2.2.2.1 x c (f.sub x c h)⟩
 bs:=I.bs
 bsz:=wf I.ok.bsz I.sz
 noex:=λb o e d=>by
  rcases(i b d).2.2.2.1 with z|z
  .exact I.ok.noex b o e z
  .exact absurd (wU (wG e) (wf I.ok.bsz z)) (vE _)
 exfs:=λb d r=>by
  rcases wN.mp (I.stkSub b r)with z|z
  .exact (i b d).2.1 z
  .exact (i b d).2.2.1 z
 funs:=I.stack
 frf:=I.stkFree
 tab:=λc T z=>let ⟨ps,e⟩:=I.ok.tab c T z;let ⟨m,u⟩:=I.base.tbls _ _ e;⟨_,u⟩
end
end R
namespace R
open PySem PySem.Spec L2 SeqAt
open PyProof.Rows hiding St
section
variable{X:Cx}{pos:Pos}
theorem qds{tg elt iter:Expr}{ifs:List Expr}{sc:Scope}{J:It}{fp:List Addr}{it:Addr}{tn:Nat->Heap->Prop}{g:D->En->Sr->Res En}{mt:En->Sr->Res Bool}{me:En->Sr->Res D}{ds:List D}{gu:Sr->Prop}{B:Around}(a:X.xe=λ_ _=>False)(f:X.calm=true)(b:X.ex=fp)(c:∀p∈X.pn,p.1∉fp)(h:X.A=B.over (.compLoop (.GeneratorExp elt [⟨tg,iter,ifs,0⟩] sc pos) 0 (.ref it) .none X.env) [])(d:X.env.scope.isCoroutine=false)(T':Turn X.prog X.w X.K tg J fp it tn)(i:PG X tg (TGt g))(j:PTl X ifs (TB mt))(l:PE X elt (T me))(ρ:En)(S:Sr):∀k,Pw X J tn fp ds gu (model X.prog X.w) B g mt me k (.fresh (.compStart (.GeneratorExp elt [⟨tg,iter,ifs,0⟩] sc pos) 0 (.ref it) .none X.env)) 0 ρ S
 |0=>trivial
 |k+1=>by
  intro pins ι H s U n
  have loop:=qeD a f b c h d T' i j l k _ 0 ρ S pins ι H ι H s rfl U (Stp.refl _ _) n
  have e:=U.at'
  show Sg _ B (Pz X J tn fp ds gu _ B g mt me k _ pins ι H) _ ((compStart (.GeneratorExp elt [⟨tg,iter,ifs,0⟩] sc pos) 0 (.ref it) .none X.env).onRaise (leaving X.env)) [] s
  unfold compStart
  rw[Sem.onRaise_eq_wrap]
  refine zz (m:=ask) (u5 ?_)
  split
  .exact zX rfl loop
  .refine zz (vd ?_)
   first
    |exact zz (vg (zz (T'.self _ 0 s _ _ e (zX rfl loop))))
    | (show Sg _ B _ _ ((standAt iter.pos >>= _).wrap _ _ _ _) [] s
       exact zz (vg (zz (T'.self _ 0 s _ _ e (zX rfl loop)))))
structure BlkG (X:Cx) (sc:Scope) (N':List Str) (tg iter:Expr) (ifs:List Expr) (elt:Expr) (pos:Pos) (g:D->En->Sr->Res En) (mt:En->Sr->Res Bool) (me:En->Sr->Res D):Prop where
 rt:∀cl C code fp it o s H,PG (genCx X sc cl C code N' fp (.GeneratorExp elt [⟨tg,iter,ifs,0⟩] sc pos) it o s H) tg (TGt g)
 ri:∀cl C code fp it o s H,PTl (genCx X sc cl C code N' fp (.GeneratorExp elt [⟨tg,iter,ifs,0⟩] sc pos) it o s H) ifs (TB mt)
 re:∀cl C code fp it o s H,PE (genCx X sc cl C code N' fp (.GeneratorExp elt [⟨tg,iter,ifs,0⟩] sc pos) it o s H) elt (T me)
noncomputable def GH(X:Cx)(pins:List (Addr×Obj))(j:St)(ds:List D)(gu:Sr->Prop)(g:D->En->Sr->Res En)(mt:En->Sr->Res Bool)(me:En->Sr->Res D)(a:Addr)(ρ:En)(S:Sr)(ι:List Addr)(H:Hp)(s:Shared):Prop :=
 ∃sc cl C code N' fp ge it o d f J tn,(∀h:Heap,h.get? a=some o->h.IsGen a d.gens.size)/\(∀k,Cs (genCx X sc cl C code N' fp ge it (a,o) d f) J tn fp ds gu X.A.in4.in1 g mt me d.gens.size k 0 ρ S ι H [] s)/\(∀b∈fp,b<s.heap.objs.size) /\
  (∀i h h',tn i h->(∀b∈fp,∀o,h.get? b=some o->h'.get? b=some o)->tn i h') /\
  ∀c e H' z,Inv (genCx X sc cl C code N' fp ge it (a,o) d f) c e H' (z.setGen d.gens.size .running)->GK d.gens z.gens->Inv X pins j H' z
theorem qeH{tg elt iter:Expr}{ifs:List Expr}{sc:Scope}{fr:List Nat}{xs ts:List Str}{mi:En->Sr->Res (List D×(Sr->Prop))}{g:D->En->Sr->Res En}{mt:En->Sr->Res Bool}{me:En->Sr->Res D}{c T:Addr}(hc:X.calm=true)(U:X.A.depth<recursionLimit)(hi:PI X tg iter (TIg mi))(hs:∀x,genFold iter X.env x=pure x)(C':CSc X sc fr xs ts)(hz:sc.names.lookup (".0":Str)=some NameKind.local)(a3:sc.isCoroutine=false)(W:X.env.code=.ref c)(a4:codeTab X.K c T=true)(B:BlkG X sc (xs++ts) tg iter ifs elt pos g mt me){pins:List (Addr×Obj)}{s:Shared}{O:St}{H:Hp}{ι:List Addr}{S:Sr}{ρ:En}(I:Inv X pins O H s)(er:EnR ι H ρ O)(st:Sto ι H S){ds:List D}{gu:Sr->Prop}{S1:Sr}(hm:mi ρ S=.ok (ds,gu) S1):
  wpAny (model X.prog X.w) X.A (eval (.GeneratorExp elt [⟨tg,iter,ifs,0⟩] sc pos) X.env) (λv s'=>∃a P H',v=.ref a/\Stp ι H P H'/\GH X pins O ds gu g mt me a (frE ρ fr ts.length) S1 P H' s') X.xe s:=by
 obtain⟨cl,CL⟩:=qaq (X:=X) (sc:=sc) λx hx hf=>I.ok.has x.1 (C'.frees x hx hf)
 refine wpAny_GeneratorExp_make a3 CL.eq C'.nocell hz C'.kind U ?_ hs
 refine thn (hi pins s O H (λJ H2=>∃E,Stp ι H E H2/\Sto E H2 S1/\ItG E H2 J ds gu) I ⟨ι,S,ρ,er,st,?_⟩) λxv s1 R=>thn R λam s2 L=>?_
 .rw [hm];exact λP H' J q a9 ok=>⟨P,q,a9,ok⟩
 obtain⟨it,fp,tn,J,H2,e,I2,T',t2,f2,E,q2,aa,ab⟩:=L
 subst e
 refine⟨I2.nolimit,thn (qeF I2 W a4) λcode d ⟨H3,M,eg,Y,ac,Z⟩=>qgw M ?_⟩
 intro m ad a5
 have a6:∀b∈fp,∃o,s2.heap.get? b=some o/\H2 b=none:=λb C=>by
  obtain⟨o,eo,_⟩:=T'.obj _ _ t2 b C
  exact⟨o,eo,(f2 b C).1⟩
 have f3:∀b∈fp,FpOk X pins H3 b:=λb C=>by
  obtain⟨o,e1,Q⟩:=a6 b C
  exact⟨(Z b o e1 Q).2,(f2 b C).2⟩
 have l3:∀b∈fp,b<d.heap.objs.size:=λb C=>by
  obtain⟨o,e1,Q⟩:=a6 b C
  exact wG (Z b o e1 Q).1
 have hsz:m.objs.size=d.heap.objs.size+1:=by rw[a5.1,w9]
 have f:∀(u:Obj) b o,d.heap.get? b=some o->(m.push u).get? b=some o:=λu b o e=>wB _ (a5.extBut b o (wS (wG e)) (wB _ e))
 generalize a0:({cls:=.type "generator",data:=.fields #[.int d.gens.size 0,.str "<genexpr>" (d.toks+1),.str (X.env.qual++"<genexpr>") (d.toks+1+1)]}:Obj)=ob
 have a1:H3 m.objs.size=none:=M.hok.fresh (by rw[hsz];lia)
 have ae:=qeG (code:=code) (N':=xs++ts) (tg:=tg) (elt:=elt) (iter:=iter) (ifs:=ifs) (pos:=pos) (it:=it) (o:=(m.objs.size,ob)) M C'.kind C'.nocell CL f3 l3
 have af:(m.push ob).Ns d.heap.objs.size (λy=>if y=".0" then some (.ref it)else none):=ad.push _
 have ek:∀n,(d.gens.push (GenState.fresh n)).setIfInBounds d.gens.size .running=d.gens.push .running:=λn=>by
  apply Array.ext
  .simp
  .intro j R L
   by_cases q:j=d.gens.size
   .subst q;simp
   .have:j<d.gens.size:=by simp at L;lia
    rw[uj (by simp;lia),wL (Ne.symm q),Array.getElem_push_lt this,Array.getElem_push_lt this]
 have al:∀b:Addr,(m.objs.size)≠b\/b=m.objs.size:=λb=>by
  by_cases q:b=m.objs.size
  .exact .inr q
  .exact .inl (Ne.symm q)
 have a7:(m.push ob).get? m.objs.size=some ob:=by subst a0;exact wE _ rfl
 have F:=C'.frs
 have a8:∀(gg:Array GenState) (tk:Nat),gg=d.gens.push .running->Inv (genCx X sc cl d.heap.objs.size code (xs++ts) fp (.GeneratorExp elt [⟨tg,iter,ifs,0⟩] sc pos) it (m.objs.size,ob) d H3) [] (frS O fr ts.length) H3 {d with heap:=m.push ob,toks:=tk,gens:=gg}:=by
  intro gg tk ag
  refine⟨ae,rfl,?_,Un.kept (f ob),⟨_,af,λi x v R L h3=>?_⟩,λx N e=>?_,M.hok.fresh (wF _),λx N e=>M.freeC x N (CL.sub x N e),λp hp=>?_,M.hok.kept (f ob),?_⟩
  .subst ag
   exact GK.refl (AllBare.push M.bare.bare rfl)
  .have R:(xs++ts)[i]?=some x:=R
   have L:(frS O fr ts.length)[i]?=some (some v):=L
   unfold frS at L
   by_cases hi:i<fr.length
   .rw [wX (by simpa using hi),wW,wD hi]at L
    rw[wX (by rw[<-F.len];exact hi)]at R
    simp only[wb,Option.some.injEq]at L
    have hN:=F.at' i fr[i] x (wD hi) R
    have ah:O[fr[i]]?=some (some v):=by
     cases z:O[fr[i]]? with
     |none=>rw[z]at L;cases L
     |some o=>rw[z]at L;simp at L;rw[L]
    obtain⟨kf,ko⟩:=F.kd x (wm R)
    obtain⟨m0,an,ai⟩:=M.loc
    obtain⟨u,r,l⟩:=ai fr[i] x v hN ah (.inr ko)
    refine⟨u,r,.inr ?_⟩
    have aj:∃N,X.env.cells.lookup x=some N/\d.heap.IsCell N (some u):=by
     rcases l with ⟨z,_⟩|⟨_,N,e1,Q⟩
     .rcases ko with q|q <;> (rw[z]at q;cases q)
     .exact ⟨N,e1,Q⟩
    obtain⟨N,e1,o,Q,e3⟩:=aj
    obtain⟨c',e4⟩:=CL.all x kf
    have e5:=CL.sub x c' e4
    rw[e1]at e5;cases e5
    exact⟨.inr kf,N,e4,o,f ob _ _ Q,e3⟩
   .rw [w8 (by simpa using hi),v0]at L
    split at L <;> cases L
  .obtain ⟨v,o,e1,Q⟩:=M.cell x N (CL.sub x N e)
   exact⟨v,o,f ob _ _ e1,Q⟩
  .have a2:p=(m.objs.size,ob):=by
    have:p∈[(m.objs.size,ob)]++([]:List (Addr×Obj)):=hp
    simpa using this
   subst a2
   refine⟨a7,a1,(show m.objs.size≠d.heap.objs.size by lia),λz=>?_,λv=>?_⟩
   .have z':m.objs.size∈frs X.stack:=z
    rcases wN.mp (M.stkSub _ z')with q|q
    .have:=M.lt
     rw[<-q,hsz]at this
     exact absurd this (xD.mpr (vU _))
    .exact absurd q (M.nofs (by lia))
   .show ob.data≠_
    rw[<-a0];intro z;cases z
  .show (frS O fr ts.length).length=(xs++ts).length
   simp[frS,F.len]
 refine⟨m.objs.size,E,H3,rfl,q2.trans (Y E),sc,cl,d.heap.objs.size,code,xs++ts,fp,.GeneratorExp elt [⟨tg,iter,ifs,0⟩] sc pos,it,ob,d,H3,J,tn,λh e=>?_,λk=>⟨?_,_,Array.getElem?_push_size ..,rfl,?_⟩,λb C=>?_,T'.keep,λak ao H' z J' gk=>?_⟩
 .rw [<-a0]at e
  exact⟨_,_,_,e,rfl,rfl,rfl⟩
 .refine ⟨⟨frS O fr ts.length,?_,(qar er fr ts.length).mono (q2.trans (Y E))⟩,ac _ _ aa,T'.keep _ _ _ t2 λb C o eo=>f ob b o (Z b o eo (f2 b C).1).1,vF _,λb C=>(f3 b C).1,ab.mono (Y E),λp hp=>absurd hp (by simp)⟩
  exact a8 _ _ (ek _)
 .exact qds (X:=genCx X sc cl d.heap.objs.size code (xs++ts) fp (.GeneratorExp elt [⟨tg,iter,ifs,0⟩] sc pos) it (m.objs.size,ob) d H3) rfl hc rfl (λp hp C=>by
   have a2:p=(m.objs.size,ob):=by
    have:p∈[(m.objs.size,ob)]:=hp
    simpa using this
   subst a2
   have:=l3 _ C
   have e:m.objs.size<d.heap.objs.size:=this
   lia) rfl a3 T' (B.rt _ _ _ _ _ _ _ _) (B.ri _ _ _ _ _ _ _ _) (B.re _ _ _ _ _ _ _ _) _ _ k
 .have:=l3 b C
  show b<(m.push ob).objs.size
  rw[w9]
  exact wU (l3 b C) (by lia)
 .have ba:Un (frs X.stack) fp H3 H' d.heap z.heap:=J'.base
  exact M.call' (ch:=fp) J'.os ba J'.hok gk λb C=>⟨(f3 b C).2.2.2.1,(f3 b C).2.1,(f3 b C).2.2.2.2.1,(f3 b C).2.2.2.2.2⟩
end
end R
namespace R
open PySem PySem.Spec L2 SeqAt
open PyProof.Rows hiding St
section
variable{X:Cx}{pos:Pos}
theorem qbc{M:Model}{A:Around}{a:Type}{t:Sem a}{Q:a->Shared->Prop}{E:Value->Shared->Prop}{s:Shared}(h:wpAny M A.in4 t Q E s):wpAny M A.in1 t Q E s:=wpAny_of_in1 (wpAny_of_in1 (wpAny_of_in1 h))
section
variable{sc:Scope}{cl:List (Str×Addr)}{C:Addr}{code:Value}{N':List Str}{fp:List Addr}{ge:Expr}{it a:Addr}{o:Obj}{s4:Shared}{H4:Hp}{J:It}{tn:Nat->Heap->Prop}{ds:List D}{gu:Sr->Prop}{g:D->En->Sr->Res En}{mt:En->Sr->Res Bool}{me:En->Sr->Res D}
theorem qeI{c:Type}{step:c->D->Option (c ⊕ D)}{fin:c->Option D}{i:Nat}{ρ:En}{b:c}{S e:Sr}{d:D}(h:genLoopG gu g mt me step fin (ds.drop i) ρ b S=.ok d e):gnx gu g mt me i (ds.drop i) ρ S≠.bad:=λz=>by
 have q:=zY h
 rw[z]at q;cases q
theorem qgx{R:Result->Shared->Prop}(P:X.A.handled=none)(hd:X.A.depth<recursionLimit)(Q:∀h:Heap,h.get? a=some o->h.IsGen a s4.gens.size):∀(k i:Nat) (ρ:En) (b:D) (S:Sr) (ι:List Addr) (H:Hp) (s:Shared) {d:D} {l:Sr},ds.length<k+i ->
  Cs (genCx X sc cl C code N' fp ge it (a,o) s4 H4) J tn fp ds gu X.A.in4.in1 g mt me s4.gens.size k i ρ S ι H [] s->genLoopG gu g mt me (stepG .all) (finG .all) (ds.drop i) ρ b S=.ok d l ->
  (∀j f H' z c,d=.bl c->Inv (genCx X sc cl C code N' fp ge it (a,o) s4 H4) [] j H' (z.setGen s4.gens.size .running)->GK s4.gens z.gens->Stp ι H f H'->Sto f H' l->R (.ok (.ret (.bool c))) z) ->
  codeAny (model X.prog X.w) X.A (.builtin "all.loop" ⟨[.ref a],[]⟩) R s:=by
 intro k
 induction k with
 |zero =>
  intro i ρ b S ι H s d l U r _ _
  have:=r.sus.le
  lia
 |succ k W =>
  intro i ρ b S ι H s d l U r e x
  refine wz F.entry_all_loop ?_
  rw[wn F.plain_all_loop]
  refine wA (m:=pyNext (.ref a)) (qbc (qcy (X:=genCx X sc cl C code N' fp ge it (a,o) s4 H4) (A:=X.A.in4) P hd wI Q rfl rfl r (qeI e) (λS2 f H' j z n p B q st=>?_) λY E v S2 f H' y u z n q Z ry O=>?_))
  .have q2:=zY e
   rw[n]at q2
   cases q2
   exact wA (vd (wC (x j f H' z true rfl p B q st)))
  .have q2:=zY e
   have hi:=jv _ _ _ _ n
   rw[n]at q2
   simp only[gen1]at q2
   have hv:∃c,v=.bl c:=by
    cases v with
    |bl c=>exact⟨c,rfl⟩
    |_=>simp only[stepG]at q2;cases q2
   obtain⟨c,rfl⟩:=hv
   cases (show y=_ from Z)
   cases (show u=Value.bool c from ry)
   refine wA (wu (vN (wA (uh ?_))))
   cases c with
   |true =>
    simp only[stepG]at q2
    rw[wM rfl]
    exact wC ⟨vD F.plain_all_loop _,W Y E _ S2 f H' z (by lia) O q2 λI K H2 z2 c ec I2 B s2 L=>x I K H2 z2 c ec I2 B (q.trans s2) L⟩
   |false =>
    simp only[stepG]at q2
    cases q2
    rw[wL (by decide)]
    obtain⟨⟨⟨M,p,a0⟩,N,_⟩,gs,eg,bg,_⟩:=O
    exact wA (vd (wC (x M f H' z false rfl p (GK.done p.bare eg bg) q N)))
end
end
end R
namespace R
open PySem PySem.Spec L2 SeqAt
open PyProof.Rows hiding St
section
variable{X:Cx}{J:It}{tn:Nat->Heap->Prop}{fp:List Addr}{ds:List D}{gu:Sr->Prop}{B:Around}{g:D->En->Sr->Res En}{mt:En->Sr->Res Bool}{me:En->Sr->Res D}{n k i:Nat}{ρ:En}{S:Sr}{ι:List Addr}{H:Hp}{s:Shared}
theorem qgy(C:Cs X J tn fp ds gu B g mt me n k i ρ S ι H [] s)(tk:∀i h h',tn i h->(∀b∈fp,∀o,h.get? b=some o->h'.get? b=some o)->tn i h')(c:∀b∈fp,b<s.heap.objs.size){u:Obj}(d:(s.heap.push u).get? s.heap.objs.size=some u)(f:∀v,u.data≠.cell v){t:Nat}:
  Cs X J tn fp ds gu B g mt me n k i ρ S ι H [(s.heap.objs.size,u)] {s with heap:=s.heap.push u,toks:=t}:=by
 obtain⟨⟨⟨j,I,l⟩,st,at',le,fz,ok,pf⟩,w⟩:=C
 refine⟨⟨⟨j,?_,l⟩,st,tk _ _ _ at' λb _ o e=>wB _ e,le,fz,ok,λp a m=>?_⟩,w⟩
 .have q:=I.kept (h':=s.heap.push u) (t':=t) λb o e=>wB _ e
  refine q.pins_of λp a=>?_
  obtain rfl:=wV.mp a
  exact⟨d,I.hok.fresh (wF _),vR I.lt,I.nofs (wF _),f⟩
 .obtain rfl:=wV.mp a
  exact absurd (c _ m) (vE _)
theorem qgz{p:Addr}{u f:Obj}{h':Heap}{t:Nat}(C:Cs X J tn fp ds gu B g mt me n k i ρ S ι H [(p,u)] s)(tk:∀i h h',tn i h->(∀b∈fp,∀o,h.get? b=some o->h'.get? b=some o)->tn i h')(F:X.s₀.heap.objs.size<=p)(hn:∀q∈X.pn,q.1≠p)(l:∀b o,b≠p->s.heap.get? b=some o->h'.get? b=some o)(K:h'.get? p=some f)(L:∀v,f.data≠.cell v):Cs X J tn fp ds gu B g mt me n k i ρ S ι H [(p,f)] {s with heap:=h',toks:=t}:=by
 obtain⟨⟨⟨m,I,M⟩,st,at',le,fz,ok,pf⟩,w⟩:=C
 obtain⟨e1,r,y,N,O⟩:=I.pin (p,u) (wZ _ (wV.mpr rfl))
 have np:p∉fp:=pf (p,u) (wV.mpr rfl)
 refine⟨⟨⟨m,?_,M⟩,st,tk _ _ _ at' λb j o e=>l b o (λz=>np (z ▸ j)) e,le,fz,ok,λq a j=>?_⟩,w⟩
 .have A:Inv X [] m H (s.setGen n .running):=I.unpinned (pins:=[]) (pl:=[(p,u)])
  have P:=A.turned (h':=h') (t':=t) (it:=p) l r y (.inr F) (λx c Q z=>by
   obtain⟨v,o,E,d⟩:=A.cell x c Q
   rw[z,e1]at E;cases E
   exact O v d) λq a=>hn q (by simpa using a)
  refine P.pins_of λq a=>?_
  obtain rfl:=wV.mp a
  exact⟨K,r,y,N,L⟩
 .obtain rfl:=wV.mp a
  exact np j
end
noncomputable def accO(t:Int)(a:Tok)(c:Nat):Obj:={cls:=.type "list",dict:=none,data:=.seq #[.int t a] c,slots:=#[]}
section
variable{X:Cx}{sc:Scope}{cl:List (Str×Addr)}{C:Addr}{code:Value}{N':List Str}{fp:List Addr}{ge:Expr}{it a:Addr}{o:Obj}{s4:Shared}{H4:Hp}{J:It}{tn:Nat->Heap->Prop}{ds:List D}{gu:Sr->Prop}{g:D->En->Sr->Res En}{mt:En->Sr->Res Bool}{me:En->Sr->Res D}
theorem qgA{R:Result->Shared->Prop}(hh:X.A.handled=none)(hd:X.A.depth<recursionLimit)(hg:∀h:Heap,h.get? a=some o->h.IsGen a s4.gens.size)(tk:∀i h h',tn i h->(∀b∈fp,∀o,h.get? b=some o->h'.get? b=some o)->tn i h'){p:Addr}(hp:s4.heap.objs.size<=p)(a0:a≠p):∀(k i:Nat) (ρ:En) (t:Int) (S:Sr) (ι:List Addr) (H:Hp) (s:Shared) (K:Tok) (c:Nat) (P:Int) {d:D} {U:Sr},(P=0\/P=2)->ds.length<k+i ->
  Cs (genCx X sc cl C code N' fp ge it (a,o) s4 H4) J tn fp ds gu X.A.in4.in1 g mt me s4.gens.size k i ρ S ι H [(p,accO t K c)] s->genLoopG gu g mt me (stepG .sum) (finG .sum) (ds.drop i) ρ (.int t) S=.ok d U ->
  (∀j N l H' z r tz,d=.int r->Inv (genCx X sc cl C code N' fp ge it (a,o) s4 H4) j N H' (z.setGen s4.gens.size .running)->GK s4.gens z.gens->Stp ι H l H'->Sto l H' U->R (.ok (.ret (.int r tz))) z) ->
  codeAny (model X.prog X.w) X.A (.builtin "sum.loop" ⟨[.ref a,.ref p,rawInt P,rawInt 0],[]⟩) R s:=by
 intro k
 induction k with
 |zero =>
  intro i ρ t S ι H s K c P d U _ hk W _ _
  have:=W.sus.le
  lia
 |succ k ih =>
  intro i ρ t S ι H s K c P d U a1 hk W e hR
  have hS:s.heap.get? p=some (accO t K c):=by
   obtain⟨σ,I,_⟩:=W.sus.inv
   exact(I.pin (p,accO t K c) (wZ _ (wV.mpr rfl))).1
  refine wz F.entry_sum_loop ?_
  rw[wn ub]
  refine wA (m:=seqItems? (.ref p)) (wh hS rfl ?_)
  refine wA (m:=tryCatch (pyNext (.ref a)) _) (wpAny_tryCatch ?_)
  refine qbc (qcy (X:=genCx X sc cl C code N' fp ge it (a,o) s4 H4) (A:=X.A.in4) hh hd wI hg rfl rfl W (qeI e) (λS2 l H' N z Y Iz gk q st=>?_) λi' a2 v S2 l H' y u z Y q dv ry Cz=>?_)
  .have q2:=zY e
   rw[Y]at q2
   cases q2
   exact wC (hR _ N l H' z t K rfl Iz gk q st)
  .have q2:=zY e
   have hi:=jv _ _ _ _ Y
   rw[Y]at q2
   simp only[gen1]at q2
   have hv:∃r,v=.int r:=by
    cases v with
    |int r=>exact⟨r,rfl⟩
    |_=>simp only[stepG]at q2;cases q2
   obtain⟨r,rfl⟩:=hv
   cases (show y=_ from dv)
   obtain⟨tr,rfl⟩:=(show ∃tr,u=Value.int r tr from ry)
   simp only[stepG]at q2
   have L:z.heap.get? p=some (accO t K c):=by
    obtain⟨σ,I,_⟩:=Cz.sus.inv
    exact(I.pin (p,accO t K c) (wZ _ (wV.mpr rfl))).1
   have n:=wg (h:=z.heap) (Obj.mapSeq λ_=>#[Value.int (t+r) z.toks]) L rfl
   have fin:∀(Z:Heap) (Q:Nat) (O:Tok) (c2:Nat) (B:Int),(B=0\/B=2)->(∀b o,b≠p->z.heap.get? b=some o->Z.get? b=some o)->Z.get? p=some (accO (t+r) O c2) ->
     codeAny (model X.prog X.w) X.A (.builtin "sum.loop" ⟨[.ref a,.ref p,rawInt B,rawInt 0],[]⟩) R {z with heap:=Z,toks:=Q}:=λZ Q O c2 B a3 a4 a5=>by
    refine ih i' a2 (t+r) S2 l H' _ O c2 B a3 (by lia) (qgz Cz tk hp (λq hq=>?_) a4 a5 λv z=>by cases z) q2 λj a6 a7 H2 z2 r2 tz ec I2 gk s2 a8=>hR j a6 a7 H2 z2 r2 tz ec I2 gk (q.trans s2) a8
    have a9:q=(a,o):=by
     have:q∈[(a,o)]:=hq
     simpa using this
    subst a9
    exact a0
   have E:∀(f:Obj->Obj) (h1:Heap) (b:Addr) (x:Obj),b≠p->h1.get? b=some x->(h1.update p f).get? b=some x:=λf h1 b x M ex=>(wQ _ _ (Ne.symm M)).trans ex
   rcases a1 with rfl|rfl
   .show wpAny _ _ (if(_:Bool)=true then(mkInt (t+r) >>= _)else _) _ _ z
    split
    .refine wA (wpAny_mkInt ?_)
     refine wA (m:=updateSeq p _) (vw L rfl (wC ⟨vD ub _,?_⟩))
     exact fin _ _ z.toks _ 0 (.inl rfl) (λb x M ex=>E _ _ b x M ex) n
    .refine wA (vd (wA (vX (wu (wpAny_add_int ?_)))))
     refine wA (m:=updateSeq p _) (vw L rfl (wA (uh ?_)))
     refine wA (m:=updateSeq p _) (vw n rfl (wC ⟨vD ub _,?_⟩))
     exact fin _ _ z.toks _ 2 (.inr rfl) (λb x M ex=>E _ _ b x M (E _ _ b x M ex)) (wg _ n rfl)
   .refine wA (m:=(holding [Value.int r tr] (binaryOp .Add (.int t K) (.int r tr))).attempt) (vX (wu (wpAny_add_int ?_)))
    refine wA (m:=updateSeq p _) (vw L rfl (wA (uh ?_)))
    refine wA (m:=updateSeq p _) (vw n rfl (wC ⟨vD ub _,?_⟩))
    exact fin _ _ z.toks _ 2 (.inr rfl) (λb x M ex=>E _ _ b x M (E _ _ b x M ex)) (wg _ n rfl)
end
end R
namespace R
open PySem PySem.Spec L2 SeqAt
open PyProof.Rows hiding St
noncomputable def mGenG(w:GW)(fr:List Nat)(nt:Nat)(mi:En->Sr->Res (List D×(Sr->Prop)))(g:D->En->Sr->Res En)(mt:En->Sr->Res Bool)(me:En->Sr->Res D):En->Sr->Res D:=λρ S=>(mi ρ S).bind λp S1 =>
 genLoopG p.2 g mt me (stepG w) (finG w) p.1 (frE ρ fr nt) (startG w) S1
noncomputable def mGen(w:GW)(fr:List Nat)(nt:Nat)(mi:En->Sr->Res (List D))(g:D->En->Sr->Res En)(mt:En->Sr->Res Bool)(me:En->Sr->Res D):En->Sr->Res D:=λρ S=>(mi ρ S).bind λds S1 =>
 genLoop g mt me (stepG w) (finG w) ds (frE ρ fr nt) (startG w) S1
theorem qh7{w:GW}{fr:List Nat}{nt:Nat}{mi:En->Sr->Res (List D)}{g:D->En->Sr->Res En}{mt:En->Sr->Res Bool}{me:En->Sr->Res D}:mGenG w fr nt (λρ S=>(mi ρ S).bind λds S1=>.ok (ds,λ_=>True) S1) g mt me=mGen w fr nt mi g mt me:=by
 funext ρ S
 unfold mGenG mGen
 dsimp only
 cases mi ρ S with
 |ok ds S1=>exact zW _ _ _ _
 |err=>rfl
 |no=>rfl
section
variable{X:Cx}{pos gp:Pos}
def GCall(X:Cx)(w:GW)(f:Value):Prop:=∀(pins:List (Addr×Obj)) (s:Shared) (b:St) (H:Hp) (ι:List Addr) (a:Addr) (ds:List D) (gu:Sr->Prop) (g:D->En->Sr->Res En) (mt:En->Sr->Res Bool) (me:En->Sr->Res D) (ρ:En) (S:Sr) (Q:VK),
 GH X pins b ds gu g mt me a ρ S ι H s->Pst Den (genLoopG gu g mt me (stepG w) (finG w) ds ρ (startG w) S) ι H Q->wpAny (model X.prog X.w) X.A (call f [.ref a]) (EP X pins b Q) X.xe s
theorem qcz{w:GW}{ds:List D}{gu:Sr->Prop}{g:D->En->Sr->Res En}{mt:En->Sr->Res Bool}{me:En->Sr->Res D}{ρ:En}{b:D}{S:Sr}{ι:List Addr}{H:Hp}{Q:VK}(h:Pst Den (genLoopG gu g mt me (stepG w) (finG w) ds ρ b S) ι H Q):
  ∃d c,genLoopG gu g mt me (stepG w) (finG w) (ds.drop 0) ρ b S=.ok d c/\∀y a H',Stp ι H a H'->Sto a H' c->Den a H' d y->Q y H':=by
 rw[uw]
 cases z:genLoopG gu g mt me (stepG w) (finG w) ds ρ b S with
 |no=>rw[z]at h;exact h.elim
 |err=>rw[z]at h;exact h.elim
 |ok d c=>rw[z]at h;exact⟨d,c,rfl,h⟩
theorem qh8(n:X.calm=true)(hd:X.A.depth<recursionLimit)(hok:X.calm=true->X.A.handled=none):GCall X .all (.builtin "all"):=by
 intro pins s w H ι a ds gu g mt me ρ S Q p h
 obtain⟨sc,cl,C,code,N',fp,ge,it,o,x,y,J,tn,l,cs,B,tk,f⟩:=p
 obtain⟨d,E,e,q⟩:=qcz h
 have ha:s.heap.get? a=some o:=by
  obtain⟨b,I,_⟩:=(cs 0).sus.inv
  exact(I.pin (a,o) (vl _ wI)).1
 refine call_function_tree F.kind_all F.plain_all F.entry_all (F.args_all1 _) ?_
 unfold Builtin.«all»
 refine wA (m:=oneArg "all" _) (wC (wA (wpAny_pyIter_gen (l _ ha) (wC ⟨vD F.plain_all_loop _,?_⟩))))
 exact qgx (hok n) hd l (ds.length+1) 0 ρ _ S ι H s (by lia) (cs _) e λb i H' z c r u v s1 j=>⟨.bl c,H',f _ b H' z u v,rfl,q _ i H' s1 j (by subst r;rfl)⟩
theorem qh9(u:X.calm=true)(hd:X.A.depth<recursionLimit)(hok:X.calm=true->X.A.handled=none):GCall X .sum (.builtin "sum"):=by
 intro pins s N H ι a ds gu g mt me ρ S Q w h
 obtain⟨sc,cl,C,code,N',fp,ge,it,o,x,O,J,tn,n,cs,y,tk,f⟩:=w
 obtain⟨d,P,e,q⟩:=qcz h
 have B:=(cs 0).sus.inv
 obtain⟨c,I,_⟩:=B
 have ha:s.heap.get? a=some o:=(I.pin (a,o) (vl _ wI)).1
 refine call_function_tree F.kind_sum F.plain_sum F.entry_sum (F.args_sum1 _) ?_
 unfold Builtin.«sum»
 simp only[wc,vb]
 rw[wL (by decide)]
 refine wA (uX (show Builtin.Builtins.bindParams "sum" ["start"] 0 { }=pure [none]from rfl) (wA (wpAny_pyIter_gen (n _ ha) ?_)))
 refine wA (wpAny_mkInt (wA (wC ?_)))
 simp only[uA,List.forIn_nil]
 refine wA (wA (wA (vT (T:="int") (b:=false) (ug _ _ _) PySem.sub_int_str ?_)))
 rw[wL wR]
 refine wC (wA (wA (vT (T:="int") (b:=false) (ug _ _ _) PySem.sub_int_bytes ?_)))
 rw[wL wR]
 refine wC (wA (wA (vT (T:="int") (b:=false) (ug _ _ _) PySem.sub_int_bytearray ?_)))
 rw[wL wR]
 refine wC (wC (wA (wO (wC ⟨vD ub _,?_⟩))))
 have lt:x.heap.objs.size<=s.heap.objs.size:=I.sz
 have i:a≠s.heap.objs.size:=wS (wG ha)
 refine qgA (hok u) hd n tk (p:=s.heap.objs.size) lt i (ds.length+1) 0 ρ 0 S ι H _ s.toks 0 0 (.inl rfl) (by lia) (qgy (cs _) tk y (wE _ rfl) λv z=>by cases z) e λj c l H' z r E K L M s1 m=>⟨.int r,H',f _ c H' z L M,⟨E,rfl⟩,q _ l H' s1 m (by subst K;rfl)⟩
theorem qia{w:GW}{id:String}{f:Str}{p:Pos}{tg elt iter:Expr}{ifs:List Expr}{sc:Scope}{fr:List Nat}{xs ts:List Str}{mi:En->Sr->Res (List D×(Sr->Prop))}{g:D->En->Sr->Res En}{mt:En->Sr->Res Bool}{me:En->Sr->Res D}{c T':Addr}(o:X.calm=true)(b:X.A.depth<recursionLimit)(r:GCall X w (.builtin id))(j:Gl X f)(hm:X.mg f=none)(u:bootBuiltins f=some (.builtin id))(hn:f≠"__name__")(l:(f == ("__debug__":Str))=false)(hi:PI X tg iter (TIg mi))(y:∀x,genFold iter X.env x=pure x)(C:CSc X sc fr xs ts)(hz:sc.names.lookup (".0":Str)=some NameKind.local)(m:sc.isCoroutine=false)(d:X.env.code=.ref c)(i:codeTab X.K c T'=true)(B:BlkG X sc (xs++ts) tg iter ifs elt gp g mt me):
  PE X (.Call (.Name f p) [.GeneratorExp elt [⟨tg,iter,ifs,0⟩] sc gp] [] pos) (T (mGenG w fr ts.length mi g mt me)):=by
 intro pins s E H Q I F
 refine um (zG I j hm u ?_ hn l)
 obtain⟨ι,S,ρ,J,st,h⟩:=F
 dsimp only[mGenG]at h
 cases z:mi ρ S with
 |no=>rw[z]at h;exact h.elim
 |err=>rw[z]at h;exact h.elim
 |ok L S1 =>
  obtain⟨ds,gu⟩:=L
  rw[z,Res.bind_ok]at h
  refine uZ (e:=.GeneratorExp elt [⟨tg,iter,ifs,0⟩] sc gp) (rest:=[]) ?_ rfl rfl
  refine vv (thn (qeH o b hi y C hz m d i B I J st z) λv s' ⟨a,n,H',ev,q,M⟩=>?_)
  subst ev
  exact uY (r pins s' E H' n a ds gu g mt me _ S1 Q M (Pst.from h q))
theorem qjx{w:GW}{id:String}{f:Str}{p:Pos}{tg elt iter:Expr}{ifs:List Expr}{sc:Scope}{fr:List Nat}{xs ts:List Str}{mi:En->Sr->Res (List D)}{g:D->En->Sr->Res En}{mt:En->Sr->Res Bool}{me:En->Sr->Res D}{c T':Addr}(j:X.calm=true)(a:X.A.depth<recursionLimit)(l:GCall X w (.builtin id))(e:Gl X f)(hm:X.mg f=none)(m:bootBuiltins f=some (.builtin id))(hn:f≠"__name__")(h:(f == ("__debug__":Str))=false)(hi:PI X tg iter (TIt mi))(n:∀x,genFold iter X.env x=pure x)(o:CSc X sc fr xs ts)(hz:sc.names.lookup (".0":Str)=some NameKind.local)(i:sc.isCoroutine=false)(b:X.env.code=.ref c)(d:codeTab X.K c T'=true)(B:BlkG X sc (xs++ts) tg iter ifs elt gp g mt me):
  PE X (.Call (.Name f p) [.GeneratorExp elt [⟨tg,iter,ifs,0⟩] sc gp] [] pos) (T (mGen w fr ts.length mi g mt me)):=by
 rw[<-qh7];exact qia j a l e hm m hn h (pi_g hi) n o hz i b d B
end
end R
namespace R
open PySem PySem.Spec L2 SeqAt
open PyProof.Rows hiding St
theorem qbd{a b c:Int}(d:0<c):Builtin.Range.rangeSize a b c=(((b-a+c-1) / c).toNat:Int):=by
 unfold Builtin.Range.rangeSize
 rw[wM d]
 by_cases h:a<b
 .rw [wM h]
  have e:b-a+c-1=(b-a-1)+c:=by omega
  have q:(b-a-1+c) / c=(b-a-1) / c+1:=Int.add_ediv_of_dvd_right (Int.dvd_refl c) |>.trans (by rw[Int.ediv_self (by omega)])
  rw[e,q]
  have:=Int.ediv_nonneg (a:=b-a-1) (b:=c) (by omega) (by omega)
  omega
 .rw [wL h]
  have:(b-a+c-1) / c<=0:=by
   have i:b-a+c-1<=c-1:=by omega
   have f:=Int.ediv_le_ediv d i
   have j:(c-1) / c=0:=Int.ediv_eq_zero_of_lt (by omega) (by omega)
   rw[j]at f
   exact f
  omega
theorem qdt{a b c:Int}(f:-(2^62)<=a)(i:a<2^62)(j:-(2^62)<=b)(o:b<2^62)(d:0<c)(p:c<2^62):Builtin.Range.small a b c=true:=by
 have hz:=qbd (a:=a) (b:=b) d
 have l:(b-a+c-1) / c<=2^63-1:=by
  by_cases h:b-a+c-1<0
  .have:=Int.ediv_neg_of_neg_of_pos h d
   omega
  .have m:(b-a+c-1) / c<=b-a+c-1-(c-1)\/b-a<=0:=by
    by_cases n:b-a<=0
    .exact .inr n
    .left
     have e:b-a+c-1=(b-a-1)+c:=by omega
     have q:(b-a-1+c) / c=(b-a-1) / c+1:=Int.add_ediv_of_dvd_right (Int.dvd_refl c) |>.trans (by rw[Int.ediv_self (by omega)])
     rw[e,q]
     have:=Int.ediv_le_self c (a:=b-a-1) (by omega)
     omega
   rcases m with z|z
   .omega
   .have f:b-a+c-1<=c-1:=by omega
    have i:=Int.ediv_le_ediv d f
    have j:(c-1) / c=0:=Int.ediv_eq_zero_of_lt (by omega) (by omega)
    rw[j]at i
    omega
 unfold Builtin.Range.small
 rw[hz]
 simp only[Builtin.Range.rangeFitsLong,wP,xX,wy,ve]
 rw[wM d]
 simp only[wP,wy]
 omega
theorem noPy{x c:Int}(a:0<c)(b:c<2^63):Builtin.divisionGoesByPylong x c=false:=by
 refine PyProof.noPylong_of_log2 ?_
 have h:c.natAbs.log2<63:=(Nat.log2_lt (by omega)).mpr (by omega)
 omega
theorem qbe:∀{xs:List V} {us:List Value},xs.length=us.length->(∀(i:Nat) (x:V) (u:Value),xs[i]?=some x->us[i]?=some u->RelV x u)->Vals xs us
 |[],[],_,_=>.nil
 |[],_::_,h,_=>by cases h
 |_::_,[],h,_=>by cases h
 |x::xs,u::us,h,k=>.cons (k 0 x u rfl rfl) (qbe (by simpa using h) λi y w e1 a=>k (i+1) y w (by simpa using e1) (by simpa using a))
section
variable{X:Cx}{pos:Pos}{tg:Expr}
noncomputable def RngAt(X:Cx)(pins:List (Addr×Obj))(d:St)(ds:List D)(H:Hp)(v:Value)(s:Shared):Prop :=
 ∃a b c t u w p,v=.ref p/\IsRange s.heap p a b c t u w/\Inv X pins d H s/\Builtin.Range.small a b c=true/\Builtin.Range.rangeSize a b c=ds.length/\ds=(List.range ds.length).map λ(k:Nat)=>D.int (a+k*c)
theorem qeJ{pins:List (Addr×Obj)}{d:St}{H:Hp}{s:Shared}{ι:List Addr}{l ds:List D}{vs:List V}{us:List Value}{E:Value->Shared->Prop}(I:Inv X pins d H s)(r:Vals vs us)(hd:Dens ι H l vs)(e:rngD l=some ds):
  wpAny (model X.prog X.w) X.A (call (.type "range") us) (RngAt X pins d ds H) E s:=by
 have fin:∀{a b c:Int} {t u w:Tok} {tk:Nat},-(2^62)<=a->a<2^62->-(2^62)<=b->b<2^62->0<c->c<2^62->ds=rngL a b c ->
   RngAt X pins d ds H (.ref s.heap.objs.size) {s with heap:=s.heap.push {cls:=.type "range",data:=.fields #[.int a t,.int b u,.int c w]},toks:=tk}:=by
  intro a b c t u w tk q v B C j F m
  have n:ds.length=((b-a+c-1) / c).toNat:=by rw[m];unfold rngL;simp
  refine⟨a,b,c,t,u,w,_,rfl,IsRange.new ..,I.kept λb o e=>wB _ e,qdt q v B C j F,?_,?_⟩
  .rw [qbd j,n]
  .rw [n,m]
   unfold rngL
   exact va λk _=>by rw[Int.mul_comm]
 match l,e,hd with
 |[.int b],e,hd =>
  obtain⟨x,rfl,hx⟩:=dens1 hd
  cases (show x=_ from hx)
  obtain⟨u,rfl,p,rfl⟩:=vals1 r
  simp only[rngD]at e
  split at e
  .rename_i h
   cases e
   exact call_range_1 (fin (by omega) (by omega) h.1 h.2 (by omega) (by omega) rfl)
  .cases e
 |[.int a,.int b],e,hd =>
  obtain⟨x,y,rfl,hx,f⟩:=dens2 hd
  cases (show x=_ from hx)
  cases (show y=_ from f)
  obtain⟨u,w,rfl,⟨p,rfl⟩,J,rfl⟩:=vals2 r
  simp only[rngD]at e
  split at e
  .rename_i h
   cases e
   exact call_range_2 (fin h.1 h.2.1 h.2.2.1 h.2.2.2 (by omega) (by omega) rfl)
  .cases e
 |[.int a,.int b,.int c],e,hd =>
  obtain⟨x,M,rfl,hx,i⟩:=hd
  obtain⟨y,z,rfl,f,hz⟩:=dens2 i
  cases (show x=_ from hx)
  cases (show y=_ from f)
  cases (show z=_ from hz)
  cases r with
  |cons K L =>
   obtain⟨u,w,rfl,⟨p,rfl⟩,J,rfl⟩:=vals2 L
   obtain⟨N,rfl⟩:=K
   simp only[rngD]at e
   split at e
   .rename_i h
    cases e
    exact call_range_3 (by omega) (fin h.1 h.2.1 h.2.2.1 h.2.2.2.1 h.2.2.2.2.1 h.2.2.2.2.2 rfl) (.inl (noPy (by omega) (by omega)))
   .cases e
theorem qeK{a:Expr}{es:List Expr}{p:Pos}{j:En->Sr->Res (List D)}(m:Gl X "range")(hm:X.mg "range"=none)(ha:PA X (a::es) (TL j))(n:starEach (a::es) X.env=(false,eval a X.env)::starEach es X.env)(i:(backTo pos (starEach es X.env)).any (·.1)=false){pins:List (Addr×Obj)}{h:St}{H:Hp}{s:Shared}{ι:List Addr}{S S1:Sr}{ρ:En}{l ds:List D}(I:Inv X pins h H s)(o:EnR ι H ρ h)(st:Sto ι H S)(z:j ρ S=.ok l S1)(e:rngD l=some ds):
  wpAny (model X.prog X.w) X.A (eval (.Call (.Name "range" p) (a::es) [] pos) X.env) (λv s'=>∃f H',Stp ι H f H'/\Sto f H' S1/\RngAt X pins h ds H' v s') X.xe s:=by
 refine Call_ (zG I m hm boot_range (v8 (thn (ha pos pins s h H (λvs d=>∃b,Stp ι H b d/\Sto b d S1/\Dens b d l vs) I ⟨ι,S,ρ,o,st,?_⟩) λus s1 ⟨vs,d,q,r,b,q1,c,d1⟩=>?_) n i))
 .rw [z];exact λvs b d q1 c d1=>⟨b,q1,c,d1⟩
 .exact thn (qeJ q r d1 e) λv s2 q2=>⟨b,d,q1,c,q2⟩
noncomputable def ItS(lo c:Int)(n:Nat):It:=⟨λi _=>i<n,λi H x H'=>H'=H/\x=.int (lo+i*c),λi _=>n<=i⟩
theorem qdu{P:Program}{w:World}{K:PySem.W.Frag}(it:Addr)(lo c:Int)(n:Nat):Turn P w K tg (ItS lo c n) [it] it (λi h=>IsRangeIter h it (lo+(i:Nat)*c) ((n:Int)-(i:Nat)) c) where
 mem:=by simp
 obj:=λi h st b a=>by
  obtain rfl:=wV.mp a
  exact⟨_,st,λv z=>by cases (show Data.fields _=Data.cell v from z)⟩
 keep:=λi h h' st k=>k it (by simp) _ st
 item:=by
  intro X j l m p i pins s B H E I f st q
  subst j l m
  obtain⟨r,u,C,x,y,A⟩:=f it (by simp)
  refine(Walks.range (prog:=X.prog) (w:=X.w) (I.ok.hd p) it lo c n).item i s _ _ q st λv h' tk F d J=>?_
  obtain⟨t,rfl⟩:=F
  have L:Inv X pins B H {s with heap:=h',toks:=tk}:=I.turned (λb o a e=>J b o (by simpa using a) e) r u x y A
  exact⟨_,rfl,qdP (s:={s with heap:=h',toks:=tk}) (n:="range_iterator") d rfl rfl (by decide) ⟨.int (lo+i*c),H,L,⟨t,rfl⟩,⟨rfl,rfl⟩,d,λb a=>(f b a).1⟩⟩
 done:=by
  intro X j l m p i pins s B H E I f st q
  subst j l m
  obtain⟨r,u,C,x,y,A⟩:=f it (by simp)
  exact wpAny_pyNext_range_end (I.ok.hd p) st (by have:n<=i:=q;omega) λh' M=>⟨rfl,I.turned (t':=s.toks) (λb o a e=>M b o a e) r u x y A⟩
 self:=λ_ _ _ _ _ st h=>wpAny_pyIter_rangeiter st h
theorem qib{ι:List Addr}{H:Hp}{lo c:Int}{n:Nat}:ItOk ι H (ItS lo c n) ((List.range n).map λ(k:Nat)=>D.int (lo+k*c)) where
 go:=λi d a H2 s e=>by
  rw[wW]at e
  cases z:(List.range n)[i]? with
  |none=>rw[z]at e;cases e
  |some k =>
   rw[z]at e;cases e
   obtain⟨b,f⟩:=wK.mp z
   simp only[List.length_range]at b
   simp only[List.getElem_range]at f
   subst f
   refine⟨b,λy H3 h=>?_⟩
   obtain⟨rfl,rfl⟩:=h
   exact⟨Stp.refl _ _,λ_ z=>⟨z,rfl⟩⟩
 stop:=λa H2 s=>by
  show n<=_
  simp
theorem i_rng{a:Expr}{es:List Expr}{p:Pos}{f:En->Sr->Res (List D)}(r:Gl X "range")(hm:X.mg "range"=none)(ha:PA X (a::es) (TL f))(A:starEach (a::es) X.env=(false,eval a X.env)::starEach es X.env)(h:(backTo pos (starEach es X.env)).any (·.1)=false):
  PI X tg (.Call (.Name "range" p) (a::es) [] pos) (TIt λρ S=>(f ρ S).bind λl S1=>ofO (rngD l) S1):=by
 intro pins s N H R I B
 obtain⟨ι,S,ρ,C,st,q⟩:=B
 dsimp only at q
 cases z:f ρ S with
 |no=>rw[z]at q;exact q.elim
 |err=>rw[z]at q;exact q.elim
 |ok l S1 =>
  rw[z,Res.bind_ok]at q
  cases z2:rngD l with
  |none=>rw[z2]at q;exact q.elim
  |some ds =>
   rw[z2]at q
   refine thn (qeK r hm ha A h I C st z z2) λv s1 ⟨d,i,q1,j,E⟩=>?_
   obtain⟨x,y,c,t,u,w,O,rfl,F,m,J,sz,K⟩:=E
   refine wpAny_pyIter_range F J ?_
   refine⟨s1.heap.objs.size,[s1.heap.objs.size],_,ItS x c ds.length,i,rfl,m.kept (t':=s1.toks) λb o e=>wB _ e,qdu _ x c ds.length,?_,λb L=>?_,q d i _ q1 j (by rw[K];simpa using qib (ι:=d) (H:=i) (lo:=x) (c:=c) (n:=ds.length))⟩
   .show IsRangeIter _ _ (x+((0:Nat):Int)*c) ((ds.length:Int)-((0:Nat):Int)) c
    have e1:x+((0:Nat):Int)*c=x:=by simp
    have M:(ds.length:Int)-((0:Nat):Int)=Builtin.Range.rangeSize x y c:=by rw[sz];simp
    rw[e1,M]
    exact wE _ rfl
   .obtain rfl:=wV.mp L
    exact m.fpOk (wF _) (m.hok.fresh (wF _))
theorem jw{a c:Int}:∀{b:Array Value} {n:Nat},ItemsOf (λi v=>∃t,v=.int (a+i*c) t) b n->Vals ((List.range n).map λ(k:Nat)=>V.int (a+k*c)) b.toList:=by
 intro b n h
 obtain⟨e,f⟩:=h
 apply qbe
 .simp [e]
 .intro i x u e1 j
  rw[wW]at e1
  cases z:(List.range n)[i]? with
  |none=>rw[z]at e1;cases e1
  |some k =>
   rw[z]at e1;cases e1
   obtain⟨l,d⟩:=wK.mp z
   simp only[List.getElem_range]at d
   subst d
   obtain⟨t,rfl⟩:=f i u (by simpa using j)
   exact⟨t,rfl⟩
end
end R
namespace R
open PySem PySem.Spec L2 SeqAt
open PyProof.Rows hiding St
section
variable{prog:Program}{w:World}{A:Around}{E:Value->Shared->Prop}{s:Shared}
theorem qeL{Q:List Value->Shared->Prop}{r:Addr}{a b c:Int}{t u v:Tok}{n:Nat}(p:A.handled=none)(q:IsRange s.heap r a b c t u v)(x:Builtin.Range.small a b c=true)(hn:Builtin.Range.rangeSize a b c=n)(y:n<=2^24)(z:∀(h':Heap) (tk:Nat) (d:Array Value),(∀b o,s.heap.get? b=some o->h'.get? b=some o)->ItemsOf (λi v=>∃t,v=.int (a+i*c) t) d n->Q d.toList {s with heap:=h',toks:=tk}):wpAny (model prog w) A (collect (.ref r)) Q E s:=by
 have f:∀R:Result->Shared->Prop,(∀(h':Heap) (tk:Nat) (d:Array Value) (h:Nat),(∀b o,s.heap.get? b=some o->h'.get? b=some o)->h'.get? s.heap.objs.size=some {cls:=.type "list",dict:=none,data:=.seq d h,slots:=#[]}->ItemsOf (λi v=>∃t,v=.int (a+i*c) t) d n ->
   R (.ok (.ret (.ref s.heap.objs.size))) {s with heap:=h',toks:=tk})->codeAny (model prog w) A (.builtin "proto.collect" ⟨[.ref r],[]⟩) R s:=by
  intro R B
  refine wz xW ?_
  rw[wn xV]
  refine wA (m:=newList []) (wO (wC ⟨vD uG _,wz F.entry_list_iadd ?_⟩))
  rw[wn uG]
  have C:(s.heap.push {cls:=.type "list",data:=.seq ([]:List Value).toArray}).get? s.heap.objs.size=some {cls:=.type "list",data:=.seq #[] 0}:=wE _ rfl
  exact wpAny_extend_range (R:=R) (s:={s with heap:=s.heap.push {cls:=.type "list",data:=.seq ([]:List Value).toArray}}) p (wB _ q) x hn y s.heap.objs.size (.ref s.heap.objs.size) 0 C λh' tk d h j l hi =>
   B h' tk d h (λb o e=>j b o (wS (wG e)) (wB _ e)) l hi
 unfold collect
 refine wA (xb (f _ λh' tk d h j l hi=>?_))
 exact wA (m:=load s.heap.objs.size) (wpAny_load l (wC (z h' tk d j hi)))
theorem qgB{Q:Value->Shared->Prop}{r:Addr}{a b c:Int}{t u v:Tok}{n:Nat}(p:A.handled=none)(j:IsRange s.heap r a b c t u v)(q:Builtin.Range.small a b c=true)(hn:Builtin.Range.rangeSize a b c=n)(l:n<=2^24)(x:∀(h':Heap) (tk:Nat) (d:Array Value),(∀b o,s.heap.get? b=some o->h'.get? b=some o)->ItemsOf (λi v=>∃t,v=.int (a+i*c) t) d n->Q (.ref h'.objs.size) {s with heap:=h'.push {cls:=.type "tuple",data:=.seq d},toks:=tk}):
  wpAny (model prog w) A (call (.type "tuple") [.ref r]) Q E s:=by
 have new:codeAny (model prog w) A.in1 (.call (.builtin "tuple.__new__") ⟨[.type "tuple",.ref r],[]⟩) (wants (λobj f=>f.TypeIs obj "tuple"/\Q obj f) E) s:=by
  refine codeAny_of_tree (?_:wpAny _ A.in1.in1 (do checkBuiltinCall "tuple.__new__" ⟨[.type "tuple",.ref r],[]⟩;again (.builtin "tuple.__new__" ⟨[.type "tuple",.ref r],[]⟩)) _ _ s)
  refine wA (uX (F.newCall_tuple_1 _) (wC ⟨vD F.plain_tuple_new _,wz F.entry_tuple_new ?_⟩))
  rw[wn F.plain_tuple_new]
  have B:=sub_tuple_self
  have C:=init_tuple_lookup
  have H:=madeHere_tuple
  have y:s.TypeIs (.ref r) "range":=⟨_,j,rfl⟩
  wp_walk using uk y,qeL (A:=A.in1.in1) p j q hn l
  intro h' tk d z hi
  refine wA (m:=Builtin.Tuple.tupleExact d.toList.toArray) ?_
  unfold Builtin.Tuple.tupleExact
  refine wO (wC ?_) (by
   have:d.toList.toArray.size<=sizeLine:=by rw[Array.toArray_toList,hi.1];exact l
   exact this)
  have e:d.toList.toArray=d:=Array.toArray_toList ..
  rw[e]
  exact⟨⟨_,wE _ rfl,rfl⟩,x h' tk d z hi⟩
 refine callType_codes F.called_tuple (F.typeCall_tuple_1 _) F.entry_object_init new λobj f h=>?_
 exact⟨h.1,F.args_object_init_2 obj _,object_init_meets F.called_tuple.init.lookup F.called_tuple.made (by decide) prog w A.in1 _ f ⟨h.1,rfl,h.2⟩⟩
end
section
variable{X:Cx}{pos:Pos}
noncomputable def mRng(k:Option Bool)(a:En->Sr->Res (List D)):En->Sr->Res D:=λρ S=>(a ρ S).bind λl S1=>match rngD l with
 |some ds=>if ds.length<=1000000 then(match k with
  |some m=>newL m ds S1
  |none=>.ok (.tup ds) S1)else .no
 |none=>.no
theorem qgC{ι:List Addr}{H:Hp}{a c:Int}{n:Nat}:Dens ι H ((List.range n).map λ(k:Nat)=>D.int (a+k*c)) ((List.range n).map λ(k:Nat)=>V.int (a+k*c)):=by
 have:∀l:List Nat,Dens ι H (l.map λ(k:Nat)=>D.int (a+k*c)) (l.map λ(k:Nat)=>V.int (a+k*c)):=λl=>by
  induction l with
  |nil=>rfl
  |cons x r b=>exact⟨_,_,rfl,rfl,b⟩
 exact this _
theorem qjy{k:Option Bool}{f:Str}{ty:String}{a:Expr}{es:List Expr}{p1 R h:Pos}{E:En->Sr->Res (List D)}(C:(f=Str.ofString "list"/\ty="list"/\∃m,k=some m)\/(f=Str.ofString "tuple"/\ty="tuple"/\k=none))(U:X.calm=true)(hg:Gl X "range")(hm:X.mg "range"=none)(F:Gl X f)(J:X.mg f=none)(ha:PA X (a::es) (TL E))(hs:starEach (a::es) X.env=(false,eval a X.env)::starEach es X.env)(K:(backTo h (starEach es X.env)).any (·.1)=false):
  PE X (.Call (.Name f p1) [.Call (.Name "range" R) (a::es) [] h] [] pos) (T (mRng k E)):=by
 intro pins s σ H Q I hw
 have hb:bootBuiltins f=some (.type ty):=by
  rcases C with ⟨rfl,rfl,_⟩|⟨rfl,rfl,_⟩ <;> decide +kernel
 have hn:f≠"__name__":=by rcases C with ⟨rfl,rfl,_⟩|⟨rfl,rfl,_⟩ <;> decide
 have hd:(f == ("__debug__":Str))=false:=by rcases C with ⟨rfl,rfl,_⟩|⟨rfl,rfl,_⟩ <;> decide
 refine Call_ (zG I F J hb ?_ hn hd)
 obtain⟨ι,S,ρ,er,st,q⟩:=hw
 dsimp only[mRng]at q
 cases z:E ρ S with
 |no=>rw[z]at q;exact q.elim
 |err=>rw[z]at q;exact q.elim
 |ok l S1 =>
  rw[z,Res.bind_ok]at q
  cases z2:rngD l with
  |none=>simp only[z2]at q;exact q.elim
  |some ds =>
   simp only[z2]at q
   by_cases i:ds.length<=1000000
   .rw [wM i]at q
    refine v8 (e:=.Call (.Name "range" R) (a::es) [] h) (rest:=[]) ?_ rfl rfl
    refine vv (thn (qeK hg hm ha hs K I er st z z2) λv s1 ⟨p,r,q1,A,ra⟩=>uY ?_)
    obtain⟨x,y,c,t,u,w,pp,rfl,W,L,Y,sz,ed⟩:=ra
    have M:r s1.heap.objs.size=none:=L.hok.fresh (wF _)
    have Z:Dens p r ds ((List.range ds.length).map λ(k:Nat)=>V.int (x+k*c)):=by
     have:=qgC (ι:=p) (H:=r) (a:=x) (c:=c) (n:=ds.length)
     rwa [<-ed]at this
    have d:ds.length<=2^24:=wf i (by decide)
    rcases C with ⟨rfl,rfl,e⟩|⟨rfl,rfl,e⟩
    .obtain ⟨m,rfl⟩:=e
     .refine call_list_range (I.ok.hd U) W Y sz d λh' tk j c' N hS hi=>?_
      exact⟨.ref _,_,L.laid (o:=.lst ((List.range ds.length).map λ(k:Nat)=>V.int (x+k*c))) (t':=tk) N (wF _) ⟨by simp;exact d,j.toList,c',jw hi,by rw[hS]⟩,rfl,ze A Z (Pst.from q q1) _ M⟩
    .subst e
     .refine qgB (I.ok.hd U) W Y sz d λh' tk j N hi=>?_
      have I2:=L.kept (h':=h') (t':=tk) N
      have B:r h'.objs.size=none:=I2.hok.fresh (wF _)
      refine⟨.ref _,upd r h'.objs.size (.tup _),I2.laid (t':=tk) (λb o e=>wB _ e) (wF _) ⟨by simp;exact d,j.toList,jw hi,⟨_,wE _ rfl,rfl,0,by simp⟩,λo q=>by rw[wE _ rfl]at q;cases q;rfl⟩,rfl,zf A Z ?_ _ B⟩
      exact λv O H' s' P dv=>q v O H' (q1.trans s') P dv
   .rw [wL i]at q;exact q.elim
end
end R
namespace R
open PySem PySem.Spec L2 SeqAt
open PyProof.Rows hiding St
def SI(b:Bool)(h:Heap)(it l:Addr)(k:Nat):Prop:=match b with
 |true=>h.IsTupleIter it l k
 |false=>h.IsListIter it l k
def SQ(b:Bool)(h:Heap)(l:Addr)(xs:Array Value):Prop:=match b with
 |true=>h.IsTuple l xs
 |false=>h.IsList l xs
theorem SI.at{b:Bool}{h h':Heap}{it l:Addr}{k:Nat}(x:SI b h it l k)(e:∀o,h.get? it=some o->h'.get? it=some o):SI b h' it l k:=by
 cases b with
 |true=>exact Heap.IsTupleIter.at x e
 |false=>exact Heap.IsListIter.at x e
theorem SQ.at{b:Bool}{h h':Heap}{l:Addr}{xs:Array Value}(x:SQ b h l xs)(e:∀o,h.get? l=some o->h'.get? l=some o):SQ b h' l xs:=by
 cases b with
 |true=>exact Heap.IsTuple.at x e
 |false=>exact Heap.IsList.at x e
theorem SI.obj{b:Bool}{h:Heap}{it l:Addr}{k:Nat}(x:SI b h it l k):∃o,h.get? it=some o/\(∀v,o.data≠.cell v):=by
 cases b with
 |true=>obtain⟨o,e,_,d⟩:=x;exact⟨o,e,λv z=>by rw[d]at z;cases z⟩
 |false=>obtain⟨o,e,_,d⟩:=x;exact⟨o,e,λv z=>by rw[d]at z;cases z⟩
section
variable{prog:Program}{w:World}{A:Around}{E:Value->Shared->Prop}{s:Shared}
theorem qeM{it l:Addr}{i:Nat}{xs:Array Value}{x:Value}{Q:Value->Shared->Prop}(hi:s.heap.IsTupleIter it l i)(c:s.heap.IsTuple l xs)(hx:xs[i]?=some x)(e:∀h',h'.IsTupleIter it l (i+1)->Heap.SameBut it s.heap h'->Q x {s with heap:=h' }):wpAny (model prog w) A (Builtin.SmallTypes.nextOf (.ref it)) Q E s:=by
 have b:=hi.typeIs
 obtain⟨o,a,co,d⟩:=hi
 obtain⟨u,eu,_,m,f⟩:=c
 unfold Builtin.SmallTypes.nextOf
 refine wA (w5 (name:=Str.ofString "__next__") b uJ (w6 uJ b F.entry_tuple_iterator_next ?_ (F.args_tuple_iterator_next_1 _)))
 refine wA (m:=field (.ref it) 0) (vP a d (x:=.ref l) rfl (?_:wpAny _ _ (if(Value.ref l == Value.none)=true then _ else _) _ _ s))
 rw[wL (show ¬((Value.ref l == Value.none)=true)from wR)]
 refine wA (m:=field (.ref it) 1) (vP a d (x:=.int i 0) rfl ?_)
 refine wA (m:=seqItems? (.ref l)) (wh eu f ?_)
 simp only[v7,hx]
 refine wA (v5 a d (by simp) (wC ⟨x,rfl,wC (e _ ⟨_,wg _ a (vy (vC d _)),(xC ..).trans co,?_⟩ (Heap.SameBut.update ..))⟩))
 rw[vC d];simp[rawInt]
theorem qat{it l:Addr}{i:Nat}{xs:Array Value}{Q:Value->Shared->Prop}(f:A.handled=none)(hi:s.heap.IsTupleIter it l i)(h:s.heap.IsTuple l xs)(hx:xs[i]?=none)(j:∀h' e,Heap.ExtBut it s.heap h'->(∃o,h'.get? e=some o/\o.cls=.type "StopIteration")->E (.ref e) {s with heap:=h' }):wpAny (model prog w) A (Builtin.SmallTypes.nextOf (.ref it)) Q E s:=by
 have c:=hi.typeIs
 obtain⟨o,b,co,d⟩:=hi
 obtain⟨u,eu,_,m,n⟩:=h
 unfold Builtin.SmallTypes.nextOf
 refine wA (w5 (name:=Str.ofString "__next__") c uJ (w6 uJ c F.entry_tuple_iterator_next ?_ (F.args_tuple_iterator_next_1 _)))
 refine wA (m:=field (.ref it) 0) (vP b d (x:=.ref l) rfl (?_:wpAny _ _ (if(Value.ref l == Value.none)=true then _ else _) _ _ s))
 rw[wL (show ¬((Value.ref l == Value.none)=true)from wR)]
 refine wA (m:=field (.ref it) 1) (vP b d (x:=.int i 0) rfl ?_)
 refine wA (m:=seqItems? (.ref l)) (wh eu n ?_)
 simp only[v7,hx]
 refine wA (vd (wA (v5 b d (by simp) (?_:wpAny _ _ (newExc (.type "StopIteration") [] >>= _) _ _ _))))
 refine wA ?_
 unfold newExc newTuple
 refine wA (wO (wA (uX (t:=firstArgMember _ _) (a:=Value.none) (by first|rfl|(simp only[firstArgMember];rfl)) (wO ?_ (by size_fits)))) (by size_fits))
 unfold raiseNew
 refine wA (xF ?_)
 rw[show A.in1.handled=none from f]
 exact wA (wC (wpAny_throw (j _ _ (((Heap.SameBut.update ..).extBut.push _).push _) ⟨_,wE _ rfl,rfl⟩)))
theorem draw{b:Bool}{it l:Addr}{i:Nat}{xs:Array Value}{x:Value}{Q:Value->Shared->Prop}(hi:SI b s.heap it l i)(a:SQ b s.heap l xs)(hx:xs[i]?=some x)(c:∀h',SI b h' it l (i+1)->Heap.SameBut it s.heap h'->Q x {s with heap:=h' }):wpAny (model prog w) A (Builtin.SmallTypes.nextOf (.ref it)) Q E s:=by
 cases b with
 |true=>exact qeM hi a hx c
 |false=>exact wpAny_nextOf_list_item hi a hx c
theorem qbf{b:Bool}{it l:Addr}{i:Nat}{xs:Array Value}{Q:Value->Shared->Prop}(a:A.handled=none)(hi:SI b s.heap it l i)(c:SQ b s.heap l xs)(hx:xs[i]?=none)(d:∀h' e,Heap.ExtBut it s.heap h'->(∃o,h'.get? e=some o/\o.cls=.type "StopIteration")->E (.ref e) {s with heap:=h' }):wpAny (model prog w) A (Builtin.SmallTypes.nextOf (.ref it)) Q E s:=by
 cases b with
 |true=>exact qat a hi c hx d
 |false=>exact wpAny_nextOf_list_end a hi c hx d
structure ZA (z TI TO i j l m:Addr):Prop where
 zTI:TI≠z
 zTO:TO≠z
 zi:i≠z
 zj:j≠z
 TT:TI≠TO
 TIi:TI≠i
 TIj:TI≠j
 TOi:TO≠i
 TOj:TO≠j
 ij:i≠j
 lz:l≠z
 lT:l≠TO
 li:l≠i
 lj:l≠j
 mz:m≠z
 mT:m≠TO
 mi:m≠i
 mj:m≠j
structure ZS (b c:Bool) (h:Heap) (z TI TO i j l m:Addr) (k:Nat) (xs ys:Array Value) (f:Value):Prop where
 z:IsZip h z TI TO f
 ti:IsPair h TI (.ref i) (.ref j)
 to':∃a d,IsPair h TO a d
 i1:SI b h i l k
 i2:SI c h j m k
 q1:SQ b h l xs
 q2:SQ c h m ys
variable{b c:Bool}{z TI TO i j l m:Addr}{k:Nat}{xs ys:Array Value}
theorem qic{x y:Value}{Q:Option Value->Shared->Prop}(D:ZA z TI TO i j l m)(st:ZS b c s.heap z TI TO i j l m k xs ys .none)(hx:xs[k]?=some x)(Z:ys[k]?=some y)(hQ:∀h',ZS b c h' z TI TO i j l m (k+1) xs ys (rawInt s.heap.objs.size)->IsPair h' s.heap.objs.size x y->(∀a o,a≠z->a≠TO->a≠i->a≠j->s.heap.get? a=some o->h'.get? a=some o)->Q (some (.ref s.heap.objs.size)) {s with heap:=h' }):
  wpAny (model prog w) A (pyNext (.ref z)) Q E s:=by
 obtain⟨f,ti,⟨t0,t1,to'⟩,i1,i2,q1,q2⟩:=st
 have O:s.TypeIs (.ref z) "zip":=⟨_,f,rfl⟩
 unfold pyNext
 refine wA (vX (w5 (name:=Str.ofString "__next__") O xT (w6 xT O F.entry_zip_next ?_ (F.args_zip_next_1 _))))
 refine wA (m:=field (.ref z) 2) (vP f rfl (x:=.bool false) rfl (wA (m:=field (.ref z) 3) (vP f rfl (x:=.ref TI) rfl (wA (wh ti rfl ?_)))))
 refine wA (m:=Builtin.SmallTypes.ownedTupleIsFree (.ref z)) ?_
 unfold Builtin.SmallTypes.ownedTupleIsFree
 refine wA (vP f rfl (x:=.none) rfl (wC ?_))
 simp only[ws]
 refine wA (vd (wA (vP f rfl (x:=.ref TO) rfl (wA (vt f (by simp) λh1 z1 b1=>?_)))))
 have I:IsZip h1 z TI TO .ellipsis:=z1
 refine wA ?_
 simp only[List.zipIdx_cons,List.zipIdx_nil,uA,List.forIn_nil]
 refine wA (wA (wpAny_onRaise (wA (m:=Builtin.SmallTypes.nextOf (.ref i)) ?_)))
 refine draw (i1.at λo e=>b1.extBut _ o D.zi e) (q1.at λo e=>b1.extBut _ o D.lz e) hx λh2 J h=>wC ?_
 have P:IsPair h2 TO t0 t1:=h.extBut _ _ D.TOi (b1.extBut _ _ D.zTO to')
 refine wA (wh P rfl (wA (xa P λh3 o3 p=>wA (uh (wC ?_)))))
 have K:IsPair h3 TO x t1:=o3
 refine wA (wA (wpAny_onRaise (wA (m:=Builtin.SmallTypes.nextOf (.ref j)) ?_)))
 refine draw (i2.at λo e=>p.extBut _ o D.TOj.symm (h.extBut _ o D.ij.symm (b1.extBut _ o D.zj e))) (q2.at λo e=>p.extBut _ o D.mT (h.extBut _ o D.mi (b1.extBut _ o D.mz e))) Z λh4 i4 q=>wC ?_
 have R:IsPair h4 TO x t1:=q.extBut _ _ D.TOj K
 refine wA (wh R rfl (wA (xa R λd o5 r=>wA (uh (wC (wC ?_))))))
 have u:IsPair d TO x y:=o5
 refine wA (wh u rfl (wA (wpAny_newTuple ?_)))
 have sz:d.objs.size=s.heap.objs.size:=by rw[r.1,q.1,p.1,h.1,b1.1]
 have S:IsZip d z TI TO .ellipsis:=r.extBut _ _ D.zTO.symm (q.extBut _ _ D.zj.symm (p.extBut _ _ D.zTO.symm (h.extBut _ _ D.zi.symm I)))
 have k5:∀a o,a≠z->a≠TO->a≠i->a≠j->s.heap.get? a=some o->d.get? a=some o:=λa o C H L M e=>r.extBut _ _ H (q.extBut _ _ M (p.extBut _ _ H (h.extBut _ _ L (b1.extBut _ _ C e))))
 have U:z<d.objs.size:=wG S
 refine wA (m:=Builtin.SmallTypes.ownedTupleHandOut (.ref z) (.ref d.objs.size)) ?_
 unfold Builtin.SmallTypes.ownedTupleHandOut
 have z6:IsZip (d.push {cls:=.type "tuple",data:=.seq #[x,y]}) z TI TO .ellipsis:=wB _ S
 refine wA (vt z6 (by simp) λh7 z7 W=>?_)
 have N:IsZip h7 z TI TO (rawInt d.objs.size):=z7
 refine vt N (by simp) λv z8 X=>?_
 have B:IsZip v z TI TO (rawInt d.objs.size):=z8
 have up:∀a o,a≠z->d.get? a=some o->v.get? a=some o:=λa o n e=>X.extBut _ _ n (W.extBut _ _ n (wB _ e))
 have Y:IsPair v d.objs.size x y:=X.extBut _ _ (vR U) (W.extBut _ _ (vR U) (wE _ rfl))
 rw[sz]at B Y
 refine wC ⟨_,rfl,wC ?_⟩
 have all:∀a o,a≠z->a≠TO->a≠i->a≠j->s.heap.get? a=some o->v.get? a=some o:=λa o C H L M e=>up a o C (k5 a o C H L M e)
 have fin:=hQ v ⟨B,all _ _ D.zTI D.TT D.TIi D.TIj ti,⟨_,_,up _ _ D.zTO u⟩,J.at λo e=>up _ o D.zi (r.extBut _ o D.TOi.symm (q.extBut _ o D.ij (p.extBut _ o D.TOi.symm e))),i4.at λo e=>up _ o D.zj (r.extBut _ o D.TOj.symm e),
  q1.at λo e=>all _ o D.lz D.lT D.li D.lj e,q2.at λo e=>all _ o D.mz D.mT D.mi D.mj e⟩ Y all
 rw[<-sz]at fin
 exact fin
theorem qgD{Q:Option Value->Shared->Prop}(H:A.handled=none)(D:ZA z TI TO i j l m)(st:ZS b c s.heap z TI TO i j l m k xs ys .none)(hx:xs[k]?=none\/ys[k]?=none)(P:∀h',(∀a o,a≠z->a≠TO->a≠i->a≠j->s.heap.get? a=some o->h'.get? a=some o)->Q none {s with heap:=h' }):wpAny (model prog w) A (pyNext (.ref z)) Q E s:=by
 obtain⟨p,ti,⟨R,t1,to'⟩,i1,i2,q1,q2⟩:=st
 have I:s.TypeIs (.ref z) "zip":=⟨_,p,rfl⟩
 have d:∀(h':Heap) (e:Addr),(∀a o,a≠z->a≠TO->a≠i->a≠j->s.heap.get? a=some o->h'.get? a=some o)->(∃o,h'.get? e=some o/\o.cls=.type "StopIteration") ->
   wpAny (model prog w) A (do if <-isInstance (.ref e) (.type "StopIteration")then pure none else throw (Value.ref e)) Q E {s with heap:=h' }:=λh' e S ⟨o,U,W⟩ =>
  wA (vT (T:="StopIteration") (b:=true) ⟨o,U,W⟩ ut (wC (P h' S)))
 unfold pyNext
 refine wA (vX (w5 (name:=Str.ofString "__next__") I xT (w6 xT I F.entry_zip_next ?_ (F.args_zip_next_1 _))))
 refine wA (m:=field (.ref z) 2) (vP p rfl (x:=.bool false) rfl (wA (m:=field (.ref z) 3) (vP p rfl (x:=.ref TI) rfl (wA (wh ti rfl ?_)))))
 refine wA (m:=Builtin.SmallTypes.ownedTupleIsFree (.ref z)) ?_
 unfold Builtin.SmallTypes.ownedTupleIsFree
 refine wA (vP p rfl (x:=.none) rfl (wC ?_))
 simp only[ws]
 refine wA (vd (wA (vP p rfl (x:=.ref TO) rfl (wA (vt p (by simp) λX Y b1=>?_)))))
 have r:IsZip X z TI TO .ellipsis:=Y
 refine wA ?_
 simp only[List.zipIdx_cons,List.zipIdx_nil,uA,List.forIn_nil]
 refine wA (wA (wpAny_onRaise (wA (m:=Builtin.SmallTypes.nextOf (.ref i)) ?_)))
 cases ex:xs[k]? with
 |none =>
  refine qbf H (i1.at λo e=>b1.extBut _ o D.zi e) (q1.at λo e=>b1.extBut _ o D.lz e) ex λy e f ⟨B,h,u⟩=>?_
  have J:IsZip y z TI TO .ellipsis:=f _ _ D.zi.symm r
  have ne:e≠z:=λq=>by subst q;rw[J]at h;cases h;simp at u
  exact vt J (by simp) λK _ n=>d K e (λa o v _ C _ q=>n.extBut _ _ v (f _ _ C (b1.extBut _ _ v q))) ⟨B,n.extBut _ _ ne h,u⟩
 |some x =>
  have Z:ys[k]?=none:=by
   rcases hx with q|q
   .rw [ex]at q;cases q
   .exact q
  refine draw (i1.at λo e=>b1.extBut _ o D.zi e) (q1.at λo e=>b1.extBut _ o D.lz e) ex λy a0 f=>wC ?_
  have L:IsPair y TO R t1:=f.extBut _ _ D.TOi (b1.extBut _ _ D.zTO to')
  refine wA (wh L rfl (wA (xa L λK o3 n=>wA (uh (wC ?_)))))
  refine wA (wA (wpAny_onRaise (wA (m:=Builtin.SmallTypes.nextOf (.ref j)) ?_)))
  refine qbf H (i2.at λo e=>n.extBut _ o D.TOj.symm (f.extBut _ o D.ij.symm (b1.extBut _ o D.zj e))) (q2.at λo e=>n.extBut _ o D.mT (f.extBut _ o D.mi (b1.extBut _ o D.mz e))) Z λh4 e M ⟨B,h,u⟩=>?_
  have N:IsZip h4 z TI TO .ellipsis:=M _ _ D.zj.symm (n.extBut _ _ D.zTO.symm (f.extBut _ _ D.zi.symm r))
  have ne:e≠z:=λq=>by subst q;rw[N]at h;cases h;simp at u
  exact vt N (by simp) λh5 _ O=>d h5 e (λa o v n2 C n4 q=>O.extBut _ _ v (M _ _ n4 (n.extBut _ _ n2 (f.extBut _ _ C (b1.extBut _ _ v q))))) ⟨B,O.extBut _ _ ne h,u⟩
end
end R
namespace R
open PySem PySem.Spec L2 SeqAt
open PyProof.Rows hiding St
noncomputable def siO(b:Bool)(l:Addr):Obj:=match b with
 |true=>{cls:=.type "tuple_iterator",data:=.fields #[.ref l,.int 0 0]}
 |false=>{cls:=.type "list_iterator",data:=.fields #[.ref l,.int 0 0]}
theorem qeN{b:Bool}{h:Heap}{l:Addr}:SI b (h.push (siO b l)) h.objs.size l 0:=by
 cases b with
 |true=>exact⟨_,wE _ rfl,rfl,rfl⟩
 |false=>exact⟨_,wE _ rfl,rfl,rfl⟩
section
variable{prog:Program}{w:World}{A:Around}{E:Value->Shared->Prop}{s:Shared}
theorem qbg{b:Bool}{l:Addr}{xs:Array Value}{Q:Value->Shared->Prop}(a:SQ b s.heap l xs)(c:Q (.ref s.heap.objs.size) {s with heap:=s.heap.push (siO b l)}):wpAny (model prog w) A (pyIter (.ref l)) Q E s:=by
 cases b with
 |true=>exact ul a c
 |false=>exact wpAny_pyIter_list a c
end
noncomputable def zh1(b:Bool)(h:Heap)(l:Addr):Heap:=h.push (siO b l)
noncomputable def zh2(b c:Bool)(h:Heap)(l m:Addr):Heap:=(zh1 b h l).push (siO c m)
noncomputable def zh3(b c:Bool)(h:Heap)(l m:Addr):Heap:=(zh2 b c h l m).push {cls:=.type "tuple",data:=.seq #[.ref h.objs.size,.ref (zh1 b h l).objs.size]}
noncomputable def zh4(b c:Bool)(h:Heap)(l m:Addr):Heap:=(zh3 b c h l m).push {cls:=.type "tuple",data:=.seq #[.none,.none]}
noncomputable def zh5(b c:Bool)(h:Heap)(l m:Addr):Heap:=(zh4 b c h l m).push {cls:=.type "zip",data:=.fields #[.none,.bool false,.bool false,.ref (zh2 b c h l m).objs.size,.ref (zh3 b c h l m).objs.size]}
theorem qgE(b c:Bool)(l m:Addr)(xs ys:Array Value):Meets (Builtin.«zip.__new__» ⟨[.type "zip",.ref l,.ref m],[]⟩) (λ_ R s=>SQ b s.heap l xs/\SQ c s.heap m ys/\R (.ok (.ret (.ref (zh4 b c s.heap l m).objs.size))) {s with heap:=zh5 b c s.heap l m}) :=
 .of_wp λprog w A R s h=>by
  obtain⟨a,g,d,tk,os⟩:=s
  obtain⟨f,i,h⟩:=h
  have n:=sub_zip
  have e1:SQ b (Shared.heap ⟨a,g,d,tk,os⟩) l xs:=f
  have j:SQ c (Shared.heap ⟨a.push (siO b l),g,d,tk,os⟩) m ys:=SQ.at i λo e=>wB _ e
  wp_walk using qbg e1,qbg j
  exact⟨_,rfl,h⟩
section
variable{prog:Program}{w:World}{A:Around}{E:Value->Shared->Prop}{s:Shared}
theorem qeO{b c:Bool}{l m:Addr}{xs ys:Array Value}{Q:Value->Shared->Prop}(n:SQ b s.heap l xs)(p:SQ c s.heap m ys)(h:∀h':Heap,ZS b c h' (s.heap.objs.size+4) (s.heap.objs.size+2) (s.heap.objs.size+3) s.heap.objs.size (s.heap.objs.size+1) l m 0 xs ys .none->(∀a o,s.heap.get? a=some o->h'.get? a=some o)->Q (.ref (s.heap.objs.size+4)) {s with heap:=h' }):
  wpAny (model prog w) A (call (.type "zip") [.ref l,.ref m]) Q E s:=by
 have d:(zh1 b s.heap l).objs.size=s.heap.objs.size+1:=w9 ..
 have f:(zh2 b c s.heap l m).objs.size=s.heap.objs.size+2:=by unfold zh2;rw[w9,d]
 have i:(zh3 b c s.heap l m).objs.size=s.heap.objs.size+3:=by unfold zh3;rw[w9,f]
 have r:(zh4 b c s.heap l m).objs.size=s.heap.objs.size+4:=by unfold zh4;rw[w9,i]
 have kp:∀a o,s.heap.get? a=some o->(zh5 b c s.heap l m).get? a=some o:=λa o e=>by
  unfold zh5 zh4 zh3 zh2 zh1
  exact wB _ (wB _ (wB _ (wB _ (wB _ e))))
 have j:IsZip (zh5 b c s.heap l m) (zh4 b c s.heap l m).objs.size (zh2 b c s.heap l m).objs.size (zh3 b c s.heap l m).objs.size .none:=wE _ rfl
 have u:IsPair (zh5 b c s.heap l m) (zh3 b c s.heap l m).objs.size .none .none:=by
  have q:(zh4 b c s.heap l m).get? (zh3 b c s.heap l m).objs.size=some _:=wE _ rfl
  exact wB _ q
 have v:IsPair (zh5 b c s.heap l m) (zh2 b c s.heap l m).objs.size (.ref s.heap.objs.size) (.ref (zh1 b s.heap l).objs.size):=by
  have q:(zh3 b c s.heap l m).get? (zh2 b c s.heap l m).objs.size=some _:=wE _ rfl
  exact wB _ (wB _ q)
 have i2:SI c (zh5 b c s.heap l m) (zh1 b s.heap l).objs.size m 0:=SI.at (qeN (b:=c) (h:=zh1 b s.heap l) (l:=m)) λo e=>wB _ (wB _ (wB _ e))
 have i1:SI b (zh5 b c s.heap l m) s.heap.objs.size l 0:=SI.at (qeN (b:=b) (h:=s.heap) (l:=l)) λo e=>wB _ (wB _ (wB _ (wB _ e)))
 refine callType_new F.called_zip (by decide) (F.typeCall_zip_2 _ _) (F.newCall_zip_2 _ _) (λobj=>F.args_object_init_3 obj _ _) F.entry_zip_new (qgE b c l m xs ys) ⟨n,p,?_⟩
 rw[r,i,f]at j
 rw[i]at u
 rw[f,d]at v
 rw[d]at i2
 rw[r]
 exact⟨⟨_,j,rfl⟩,h _ ⟨j,v,⟨_,_,u⟩,i1,i2,n.at λo e=>kp _ o e,p.at λo e=>kp _ o e⟩ kp⟩
end
def SqB(b:Bool)(K:PySem.W.Frag)(H:Hp)(l:Addr)(xs:List V):Prop:=match b with
 |true=>SqT K H l xs
 |false=>SqL K H l xs
noncomputable def ItZ(K:PySem.W.Frag)(b c:Bool)(l m:Addr):It:=⟨λi H=>∃xs ys u v,SqB b K H l xs/\SqB c K H m ys/\xs[i]?=some u/\ys[i]?=some v,
 λi H x H'=>∃p u v,x=.ref p/\H p=none/\H'=upd H p (.tup [u,v])/\(∀xs,SqB b K H l xs->xs[i]?=some u)/\∀ys,SqB c K H m ys->ys[i]?=some v,λi H=>∃xs ys,SqB b K H l xs/\SqB c K H m ys/\(xs.length<=i\/ys.length<=i)⟩
section
variable{X:Cx}{pos:Pos}
theorem yX{pins:List (Addr×Obj)}{c:St}{H:Hp}{s:Shared}{b:Bool}{l:Addr}{xs:List V}(I:Inv X pins c H s)(h:SqB b X.K H l xs):∃a:List Value,Vals xs a/\SQ b s.heap l a.toArray:=by
 cases b with
 |true=>obtain⟨a,r,p,_⟩:=I.tuple h;exact⟨a,r,p⟩
 |false=>obtain⟨a,r,p,_⟩:=I.list h;exact⟨a,r,p.isList⟩
theorem qcA{pins:List (Addr×Obj)}{a:St}{H:Hp}{s:Shared}{b:Bool}{l:Addr}{xs ys:List V}(I:Inv X pins a H s)(h:SqB b X.K H l xs)(h':SqB b X.K H l ys):xs=ys:=by
 cases b with
 |true=>exact I.tuple_inj h h'
 |false=>exact I.list_inj h h'
def ztn(b c:Bool)(z TI TO i j l m:Addr)(k:Nat)(h:Heap):Prop:=IsZip h z TI TO .none/\IsPair h TI (.ref i) (.ref j)/\(∃a d,IsPair h TO a d)/\SI b h i l k/\SI c h j m k
theorem qeP{P:Program}{w:World}{K:PySem.W.Frag}{es:List Expr}{n:Nat}{tp:Pos}{b c:Bool}{z TI TO i j l m:Addr}(D:ZA z TI TO i j l m):Turn P w K (.Tuple es n tp) (ItZ K b c l m) [z,TI,TO,i,j] z (ztn b c z TI TO i j l m) where
 mem:=by simp
 obj:=λk h ⟨Y,B,⟨a,d,Z⟩,h4,h5⟩ x hx=>by
  simp only[wN,vV,xG]at hx
  rcases hx with rfl|rfl|rfl|rfl|rfl
  .exact ⟨_,Y,λv q=>by cases (show Data.fields _=Data.cell v from q)⟩
  .exact ⟨_,B,λv q=>by cases (show Data.seq _ _=Data.cell v from q)⟩
  .exact ⟨_,Z,λv q=>by cases (show Data.seq _ _=Data.cell v from q)⟩
  .exact h4.obj
  .exact h5.obj
 keep:=λk h h' ⟨Y,B,⟨a,d,Z⟩,h4,h5⟩ kp=>⟨kp z (by simp) _ Y,kp TI (by simp) _ B,⟨a,d,kp TO (by simp) _ Z⟩,h4.at λo e=>kp i (by simp) o e,h5.at λo e=>kp j (by simp) o e⟩
 item:=by
  intro X hP hw hK hc k pins s σ H E I p st hg
  subst hP hw hK
  obtain⟨xs,ys,u,v,hx,Q,eu,ev⟩:=hg
  obtain⟨s1,s2,R,S,U⟩:=st
  obtain⟨L,rx,qx⟩:=yX I hx
  obtain⟨M,ry,qy⟩:=yX I Q
  obtain⟨x,ex,a0⟩:=rx.get eu
  obtain⟨y,ey,a1⟩:=ry.get ev
  refine qic D ⟨s1,s2,R,S,U,qx,qy⟩ (by simpa using ex) (by simpa using ey) λh' zs pr kp=>⟨_,rfl,?_⟩
  obtain⟨t1,t2,t3,t4,t5,t6,t7⟩:=zs
  refine wpAny_letOwnedTupleGo_zip (s:={s with heap:=h' }) t1 λB z2 C=>?_
  have N:H s.heap.objs.size=none:=I.hok.fresh (wF _)
  have nz:s.heap.objs.size≠z:=vR (wG s1)
  have all:∀a o,a∉[z,TI,TO,i,j]->s.heap.get? a=some o->B.get? a=some o:=λa o f e=>by
   simp only[wN,vV,xG,not_or]at f
   exact C.extBut _ _ f.1 (kp a o f.1 f.2.2.1 f.2.2.2.1 f.2.2.2.2 e)
  have ne:∀a o,s.heap.get? a=some o->a≠s.heap.objs.size:=λa o e=>wS (wG e)
  have nt:∀{a:Addr} {q:HO},H a=some q->a∉[z,TI,TO,i,j]:=λ{a q} e hm=>by rw[(p a hm).1]at e;cases e
  have O:∀{a:Addr} {q:HO},H a=some q->a≠s.heap.objs.size:=λ{a q} e z'=>by subst z';rw[N]at e;cases e
  have F:HOk X.prog X.w (upd H s.heap.objs.size (.tup [u,v])) B:=λa q e=>by
   by_cases qa:a=s.heap.objs.size
   .subst qa
    rw[qr]at e;cases e
    exact⟨(show(2:Nat)<=sizeLine by decide),[x,y],.cons a0 (.cons a1 .nil),⟨_,C.extBut _ _ nz pr,rfl,0,rfl⟩,λo q=>by rw[C.extBut _ _ nz pr]at q;cases q;rfl⟩
   .rw [qk qa]at e
    refine(I.hok a q e).stay (λd o hd eo=>all d o ?_ eo) (λd A=>by rw[qk (O A)];exact A) λd xs A=>by rw[qk (O A)];exact A
    rcases hd with J|J
    .subst J;exact nt e
    .exact nt J
  have I2:Inv X pins σ (upd H s.heap.objs.size (.tup [u,v])) {s with heap:=B}:=by
   refine I.step (g':=s.gens) (d':=s.drawn) (t':=s.toks) (ch:=[z,TI,TO,i,j]) (λa ha=>⟨(p a ha).2.2.2.1,(p a ha).2.1,(p a ha).2.2.2.2.1,(p a ha).2.2.2.2.2⟩) (λa o _ _ f e _=>all a o f e) (λa o _ _ f e _=>⟨o.slots,all a o f e⟩)
    (λa o _ e n=>by rw[qk (ne a o e)];exact n) (λa o f e=>⟨o,all a o f e⟩) (λa xs e=>by rw[qk (O e)];exact e) (λa o q e=>by rw[qk (O e)];exact e) (λa ps e=>⟨#[],by rw[qk (O e),e];simp⟩) (λmm hm=>?_) F I.bare.self
   obtain⟨o,es,ep,ho,r⟩:=hm
   exact⟨o,es,ep,all _ o (λq=>(p _ q).2.1 rfl) ho,r⟩
  refine⟨.ref s.heap.objs.size,_,I2,rfl,⟨_,u,v,rfl,N,rfl,λa3 q=>by rw[qcA I q hx];exact eu,λa4 q=>by rw[qcA I q Q];exact ev⟩,⟨z2,C.extBut _ _ D.zTI t2,?_,t4.at λo e=>C.extBut _ o D.zi e,t5.at λo e=>C.extBut _ o D.zj e⟩,λa ha=>?_⟩
  .obtain ⟨a,d,t3⟩:=t3
   exact⟨a,d,C.extBut _ _ D.zTO t3⟩
  .rw [qk]
   .exact (p a ha).1
   .intro q
    have:∃o,s.heap.get? a=some o:=by
     obtain⟨a',d',a2⟩:=R
     simp only[wN,vV,xG]at ha
     rcases ha with rfl|rfl|rfl|rfl|rfl
     .exact ⟨_,s1⟩
     .exact ⟨_,s2⟩
     .exact ⟨_,a2⟩
     .exact ⟨_,S.obj.choose_spec.1⟩
     .exact ⟨_,U.obj.choose_spec.1⟩
    obtain⟨o,e⟩:=this
    exact ne a o e q
 done:=by
  intro X hP hw hK hc k pins s σ H E I p st hg
  subst hP hw hK
  obtain⟨xs,ys,hx,Q,hl⟩:=hg
  obtain⟨s1,s2,R,S,U⟩:=st
  obtain⟨L,rx,qx⟩:=yX I hx
  obtain⟨M,ry,qy⟩:=yX I Q
  have hn:L.toArray[k]?=none\/M.toArray[k]?=none:=by
   rcases hl with q|q
   .left;simp;rw[<-rx.length];exact q
   .right;simp;rw[<-ry.length];exact q
  refine qgD (I.ok.hd hc) D ⟨s1,s2,R,S,U,qx,qy⟩ hn λh' kp=>⟨rfl,?_⟩
  have nt:∀{a:Addr} {q:HO},H a=some q->a∉[z,TI,TO,i,j]:=λ{a q} e hm=>by rw[(p a hm).1]at e;cases e
  have all:∀a o,a∉[z,TI,TO,i,j]->s.heap.get? a=some o->h'.get? a=some o:=λa o f e=>by
   simp only[wN,vV,xG,not_or]at f
   exact kp a o f.1 f.2.2.1 f.2.2.2.1 f.2.2.2.2 e
  have F:HOk X.prog X.w H h':=λa q e=>by
   refine(I.hok a q e).stay (λd o hd eo=>all d o ?_ eo) (λd A=>A) λd xs A=>A
   rcases hd with J|J
   .subst J;exact nt e
   .exact nt J
  refine I.step (g':=s.gens) (d':=s.drawn) (t':=s.toks) (ch:=[z,TI,TO,i,j]) (λa ha=>⟨(p a ha).2.2.2.1,(p a ha).2.1,(p a ha).2.2.2.2.1,(p a ha).2.2.2.2.2⟩) (λa o _ _ f e _=>all a o f e) (λa o _ _ f e _=>⟨o.slots,all a o f e⟩)
   (λa o _ e n=>n) (λa o f e=>⟨o,all a o f e⟩) (λa xs e=>e) (λa o q e=>e) (λa ps e=>⟨#[],by rw[e];simp⟩) (λmm hm=>?_) F I.bare.self
  obtain⟨o,es,ep,ho,r⟩:=hm
  exact⟨o,es,ep,all _ o (λq=>(p _ q).2.1 rfl) ho,r⟩
 self:=λ_ _ _ _ _ st h=>wpAny_pyIter_zip st.1 h
end
end R
namespace R
open PySem PySem.Spec L2 SeqAt
open PyProof.Rows hiding St
section
variable{X:Cx}{pos:Pos}
theorem j6{ι:List Addr}{H:Hp}{d:D}{l:List D}{v:V}(e:walkF d=some l)(h:Den ι H d v):∃b a xs,v=.ref a/\a∉ι/\Dens ι H l xs/\(if b=true then H a=some (.tup xs)else Rd H a (.lst xs)):=by
 cases d with
 |tup f=>cases e;obtain⟨a,xs,e1,n,ha,c⟩:=h;exact⟨true,a,xs,e1,n,c,by simpa using ha⟩
 |lst f=>cases e;obtain⟨a,xs,e1,n,ha,c⟩:=h;exact⟨false,a,xs,e1,n,c,by simpa using ha⟩
 |_=>cases e
def AtB(b:Bool)(H:Hp)(a:Addr)(xs:List V):Prop:=if b=true then H a=some (.tup xs)else Rd H a (.lst xs)
theorem AtB.sq{b:Bool}{H:Hp}{K:PySem.W.Frag}{a:Addr}{xs:List V}(h:AtB b H a xs):SqB b K H a xs:=by
 cases b with
 |true=>exact .inl (.inl h)
 |false=>exact .inl h
theorem AtB.mono{b:Bool}{ι c:List Addr}{H H':Hp}{a:Addr}{xs:List V}(h:AtB b H a xs)(n:a∉ι)(s:Stp ι H c H'):AtB b H' a xs:=by
 cases b with
 |true=>exact s.keep _ _ h n trivial
 |false=>exact(s.rd h n).1
theorem qid{ι:List Addr}{H:Hp}{K:PySem.W.Frag}{b c:Bool}{l m:Addr}{xs ys:List V}{ds es:List D}(r:l∉ι)(nm:m∉ι)(w:AtB b H l xs)(y:AtB c H m ys)(A:Dens ι H ds xs)(B:Dens ι H es ys):ItOk ι H (ItZ K b c l m) ((ds.zip es).map λp=>.tup [p.1,p.2]) where
 go:=λi d a H2 s e=>by
  rw[wW]at e
  cases z:(ds.zip es)[i]? with
  |none=>rw[z]at e;cases e
  |some p =>
   rw[z]at e;cases e
   obtain⟨e1,F⟩:=uu.mp z
   obtain⟨u,C,I⟩:=(Dens.mono s ds A).get e1
   obtain⟨v,E,J⟩:=(Dens.mono s es B).get F
   have f:=(w.mono r s).sq (K:=K)
   have h:=(y.mono nm s).sq (K:=K)
   refine⟨⟨xs,ys,u,v,f,h,C,E⟩,λx H3 L=>?_⟩
   obtain⟨q,M,N,rfl,o,rfl,j,n⟩:=L
   have j:=j xs f
   have n:=n ys h
   rw[C]at j;cases j
   rw[E]at n;cases n
   have g:=Stp.laid (ι:=a) o (.tup [u,v])
   exact⟨g,λS st=>⟨st.laid o _,q,[u,v],rfl,st.fresh o,qr,u,[v],rfl,Den.mono g _ I,v,[],rfl,Den.mono g _ J,rfl⟩⟩
 stop:=λa H2 s=>by
  refine⟨xs,ys,(w.mono r s).sq,(y.mono nm s).sq,?_⟩
  rw[wT,List.length_zip,A.length,B.length]
  lia
theorem qjz(N l m:Nat)(a:l<N)(b:m<N):ZA (N+4) (N+2) (N+3) N (N+1) l m :=
 ⟨(by lia:N+2≠N+4),(by lia:N+3≠N+4),(by lia:N≠N+4),(by lia:N+1≠N+4),(by lia:N+2≠N+3),(by lia:N+2≠N),(by lia:N+2≠N+1),(by lia:N+3≠N),(by lia:N+3≠N+1),(by lia:N≠N+1),
  (by lia:l≠N+4),(by lia:l≠N+3),(by lia:l≠N),(by lia:l≠N+1),(by lia:m≠N+4),(by lia:m≠N+3),(by lia:m≠N),(by lia:m≠N+1)⟩
theorem qeQ:bootBuiltins "zip"=some (.type "zip"):=by decide +kernel
theorem qjA{es:List Expr}{n:Nat}{tp:Pos}{e1 j:Expr}{p:Pos}{m1 m2:En->Sr->Res D}(hg:Gl X "zip")(hm:X.mg "zip"=none)(h1:PE X e1 (T m1))(h2:PE X j (T m2))(M:starEach [e1,j] X.env=(false,eval e1 X.env)::starEach [j] X.env)(u:starEach [j] X.env=(false,eval j X.env)::starEach [] X.env):
  PI X (.Tuple es n tp) (.Call (.Name "zip" p) [e1,j] [] pos) (TIt λρ S=>(m1 ρ S).bind λx S1=>(m2 ρ S1).bind λy S2=>match walkF x,walkF y with
   |some l,some m=>.ok ((l.zip m).map λp=>.tup [p.1,p.2]) S2
   |_,_=>.no):=by
 intro pins s C H R I hw
 obtain⟨ι,S,ρ,O,st,q⟩:=hw
 dsimp only at q
 cases z1:m1 ρ S with
 |no=>rw[z1]at q;exact q.elim
 |err=>rw[z1]at q;exact q.elim
 |ok x S1 =>
  rw[z1,Res.bind_ok]at q
  cases z2:m2 ρ S1 with
  |no=>rw[z2]at q;exact q.elim
  |err=>rw[z2]at q;exact q.elim
  |ok y S2 =>
   rw[z2,Res.bind_ok]at q
   cases z3:walkF x with
   |none=>simp only[z3]at q
   |some l =>
    cases z4:walkF y with
    |none=>simp only[z3,z4]at q
    |some m =>
     simp only[z3,z4]at q
     refine Call_ (zG I hg hm qeQ (v8 (e:=e1) (rest:=[j]) ?_ M (by rw[u];rfl)))
     rw[M,u]
     refine vv (thn (h1 pins s C H (λv i=>∃d,Stp ι H d i/\Sto d i S1/\Den d i x v) I ⟨ι,S,ρ,O,st,by rw[z1];exact λv d i a b c=>⟨d,a,b,c⟩⟩) λu1 s1 ⟨v1,i,I1,r1,d,q1,E,d1⟩=>?_)
     refine vv (thn (h2 pins s1 C i (λv H2=>∃f,Stp d i f H2/\Sto f H2 S2/\Den f H2 y v) I1 ⟨d,S1,ρ,O.mono q1,E,by rw[z2];exact λv d i a b c=>⟨d,a,b,c⟩⟩) λu2 s2 ⟨v2,H2,A,r2,f,q2,F,d2⟩=>uY ?_)
     obtain⟨b,J,xs,rfl,nl,dl,P⟩:=j6 z3 (Den.mono q2 x d1)
     obtain⟨c,L,ys,rfl,nm,dm,Q⟩:=j6 z4 d2
     cases r1
     cases r2
     obtain⟨a0,rx,U⟩:=yX A (AtB.sq P)
     obtain⟨a1,ry,W⟩:=yX A (AtB.sq Q)
     have lt:∀{b:Bool} {a:Addr} {w:Array Value},SQ b s2.heap a w->a<s2.heap.objs.size:=λ{b a w} h=>by
      cases b with
      |true=>obtain⟨o,e,_⟩:=h;exact wG e
      |false=>obtain⟨o,e,_⟩:=h;exact wG e
     have Y:=lt U
     have Z:=lt W
     refine qeO U W λh' r kp=>wpAny_pyIter_zip r.z ?_
     have I3:Inv X pins C H2 {s2 with heap:=h' }:=A.kept (t':=s2.toks) kp
     generalize hN:s2.heap.objs.size=N at Y Z r
     have D:ZA (N+4) (N+2) (N+3) N (N+1) J L:=qjz N J L Y Z
     refine⟨N+4,[N+4,N+2,N+3,N,N+1],_,ItZ X.K b c J L,H2,rfl,I3,qeP D,⟨r.z,r.ti,r.to',r.i1,r.i2⟩,λa ha=>?_,q f H2 _ (q1.trans q2) F (qid nl nm P Q dl dm)⟩
     have B:s2.heap.objs.size<=a:=by
      rw[hN]
      simp only[wN,vV,xG]at ha
      rcases ha with rfl|rfl|rfl|rfl|rfl
      .exact u6 _ _
      .exact u6 _ _
      .exact u6 _ _
      .exact wF _
      .exact u6 _ _
     exact A.fpOk B (A.hok.fresh B)
end
end R
namespace R
open PySem PySem.Spec L2 SeqAt
open PyProof.Rows hiding St
open PySem.W (KasT kas_rev kas_asc kas_desc kas_tail3 kas_descPart kas_count kas_place kas_bin kas_sort)
noncomputable def evT{b:Type}(lt:Nat->Nat->Bool):KasT b->b
 | .ret a=>a
 | .ask i j k=>evT lt (k (lt i j))
theorem zA{a b:Type}(lt:Nat->Nat->Bool)(f:a->KasT b):∀t:KasT a,evT lt (t.bind f)=evT lt (f (evT lt t))
 | .ret _=>rfl
 | .ask i j k=>zA lt f (k (lt i j))
structure Ord (lt:Nat->Nat->Bool) (n:Nat):Prop where
 irr:∀a,a<n->lt a a=false
 tr:∀a b c,a<n->b<n->c<n->lt a b=true->lt b c=true->lt a c=true
 tot:∀a b,a<n->b<n->a≠b->lt a b=true\/lt b a=true
noncomputable def gt(p:Array Nat)(k:Nat):Nat:=p.getD k 0
def Pm(n:Nat)(p:Array Nat):Prop:=p.toList.Perm (List.range n)
section
variable{lt:Nat->Nat->Bool}{n:Nat}{p:Array Nat}
theorem Pm.size(h:Pm n p):p.size=n:=by
 have:=h.length_eq
 simpa using this
theorem qbh{k:Nat}(a:k<p.size):gt p k=p[k]:=by simp[gt,Array.getD,a]
theorem yD{q:Array Nat}{k j:Nat}(h:q[k]?=p[j]?):gt q k=gt p j:=by
 unfold gt
 rw[Array.getD_eq_getD_getElem?,Array.getD_eq_getD_getElem?,h]
theorem Pm.bd(h:Pm n p){k:Nat}(a:k<n):gt p k<n:=by
 have b:k<p.size:=by rw[h.size];exact a
 rw[qbh b]
 have hm:p[k]∈p.toList:=by simp
 exact wi.mp (h.mem_iff.mp hm)
theorem Pm.inj(h:Pm n p){i j:Nat}(hi:i<n)(c:j<n)(e:gt p i=gt p j):i=j:=by
 have nd:p.toList.Nodup:=h.nodup_iff.mpr List.nodup_range
 have a:i<p.size:=by rw[h.size];exact hi
 have b:j<p.size:=by rw[h.size];exact c
 rw[qbh a,qbh b]at e
 have d:p.toList[i]'(by simpa using a)=p.toList[j]'(by simpa using b):=by simpa using e
 exact(xN nd).mp d
def Srt(lt:Nat->Nat->Bool)(p:Array Nat)(m:Nat):Prop:=∀i j,i<j->j<m->lt (gt p i) (gt p j)=true
theorem Srt.one:Srt lt p 1:=λi j a b=>by lia
theorem Srt.snoc(O:Ord lt n)(h:Pm n p){m:Nat}(hm:1<=m)(hn:m<n)(s:Srt lt p m)(q:lt (gt p (m-1)) (gt p m)=true):Srt lt p (m+1):=λi j a c=>by
 by_cases b:j<m
 .exact s i j a b
 .have e:j=m:=by lia
  subst e
  by_cases hi:i=j-1
  .subst hi;exact q
  .exact O.tr _ _ _ (h.bd (by lia)) (h.bd (by lia)) (h.bd hn) (s i (j-1) (by lia) (by lia)) q
theorem qau(O:Ord lt n)(h:Pm n p):∀(f k:Nat),1<=k->k+f=n->Srt lt p k->(k<=evT lt (kas_asc p f k)/\evT lt (kas_asc p f k)<=n/\Srt lt p (evT lt (kas_asc p f k)))/\(evT lt (kas_asc p f k)<n->lt (gt p (evT lt (kas_asc p f k))) (gt p (evT lt (kas_asc p f k)-1))=true)
 |0,k,h1,h2,s=>⟨⟨wF _,by show k<=n;lia,s⟩,λq=>by have j:k<n:=q;lia⟩
 |f+1,k,h1,h2,s=>by
  unfold kas_asc
  simp only[evT]
  cases z:lt (p.getD k 0) (p.getD (k-1) 0)with
  |true =>
   rw[wM rfl]
   exact⟨⟨wF _,by show k<=n;lia,s⟩,λ_=>z⟩
  |false =>
   rw[wL (by decide)]
   have a:gt p k≠gt p (k-1):=λe=>by
    have:=h.inj (by lia) (by lia) e
    lia
   have q:lt (gt p (k-1)) (gt p k)=true:=by
    rcases O.tot _ _ (h.bd (show k<n by lia)) (h.bd (show k-1<n by lia)) a with y|y
    .have b:lt (gt p k) (gt p (k-1))=false:=z
     rw[b]at y;cases y
    .exact y
   obtain⟨⟨l,c,d⟩,i⟩:=qau O h f (k+1) (by lia) (by lia) (s.snoc O h h1 (by lia) q)
   exact⟨⟨by lia,c,d⟩,i⟩
def Fal(lt:Nat->Nat->Bool)(p:Array Nat)(m:Nat):Prop:=∀i j,i<j->j<m->lt (gt p j) (gt p i)=true
theorem Fal.snoc(O:Ord lt n)(h:Pm n p){m:Nat}(hm:1<=m)(hn:m<n)(s:Fal lt p m)(q:lt (gt p m) (gt p (m-1))=true):Fal lt p (m+1):=λi j a c=>by
 by_cases b:j<m
 .exact s i j a b
 .have e:j=m:=by lia
  subst e
  by_cases hi:i=j-1
  .subst hi;exact q
  .exact O.tr _ _ _ (h.bd hn) (h.bd (by lia)) (h.bd (by lia)) q (s i (j-1) (by lia) (by lia))
theorem qav(O:Ord lt n)(h:Pm n p):∀(f k:Nat),1<=k->k+f=n->Fal lt p k->∃m,evT lt (kas_desc f p k 0)=(p,m,0)/\k<=m/\m<=n/\Fal lt p m
 |0,k,h1,h2,s=>⟨k,rfl,wF _,by lia,s⟩
 |f+1,k,h1,h2,s=>by
  unfold kas_desc
  simp only[evT]
  cases z:lt (p.getD k 0) (p.getD (k-1) 0)with
  |true =>
   rw[wM rfl,wL (by lia)]
   obtain⟨m,e,i,b,c⟩:=qav O h f (k+1) (by lia) (by lia) (s.snoc O h h1 (by lia) z)
   exact⟨m,e,by lia,b,c⟩
  |false =>
   rw[wL (by decide)]
   simp only[evT]
   have a:gt p k≠gt p (k-1):=λe=>by
    have:=h.inj (by lia) (by lia) e
    lia
   have q:lt (p.getD (k-1) 0) (p.getD k 0)=true:=by
    rcases O.tot _ _ (h.bd (show k<n by lia)) (h.bd (show k-1<n by lia)) a with y|y
    .have d:lt (gt p k) (gt p (k-1))=false:=z
     rw[d]at y;cases y
    .exact y
   rw[q,wM rfl]
   exact⟨k,rfl,wF _,by lia,s⟩
theorem qeR(h:Pm n p)(i j:Nat):Pm n (kas_rev p i j):=(mirror_perm p i j _).toList.trans h
theorem qgF(O:Ord lt n)(h:Pm n p){k:Nat}(b:1<=k)(c:k<=n)(s:Fal lt p k):∃m q,evT lt (kas_tail3 k n p)=(m,q)/\Pm n q/\1<=m/\m<=n/\Srt lt q m:=by
 have a:Pm n (kas_rev p 0 k):=qeR h 0 k
 have d:Srt lt (kas_rev p 0 k) k:=λi j u f=>by
  have e:∀x,x<k->gt (kas_rev p 0 k) x=gt p (k-1-x):=λx hx=>by
   have:=getElem?_mirror_all (xs:=p) (i:=0) (j:=k) (by rw[h.size];exact c) x
   rw[wM ⟨vF _,hx⟩]at this
   have q:=yD this
   have l:0+k-1-x=k-1-x:=by lia
   rw[l]at q
   exact q
  rw[e i (by lia),e j f]
  exact s (k-1-j) (k-1-i) (by lia) (by lia)
 unfold kas_tail3
 rw[zA]
 obtain⟨⟨v,o,r⟩,_⟩:=qau O a (n-k) k b (by lia) d
 exact⟨_,_,rfl,a,by lia,o,r⟩
theorem qbi(O:Ord lt n)(hn:1<=n)(h:Pm n p):∃m q,evT lt (kas_count n p)=(m,q)/\Pm n q/\1<=m/\m<=n/\Srt lt q m:=by
 unfold kas_count
 rw[zA]
 obtain⟨⟨c,d,a⟩,f⟩:=qau O h (n-1) 1 (wF _) (by lia) Srt.one
 generalize evT lt (kas_asc p (n-1) 1)=m at *
 by_cases e:m=n
 .subst e
  rw[wM (by simp)]
  exact⟨m,p,rfl,h,c,d,a⟩
 .rw [wL (by simpa using e)]
  by_cases b:m>1
  .rw [wM b]
   simp only[evT]
   have q:lt (p.getD 0 0) (p.getD (m-1) 0)=true:=a 0 (m-1) (by lia) (by lia)
   rw[q,wM rfl]
   exact⟨m,p,rfl,h,c,d,a⟩
  .rw [wL b]
   have e1:m=1:=by lia
   subst e1
   have q:=f (by lia)
   unfold kas_descPart
   rw[zA]
   have l:Fal lt p 2:=Fal.snoc (m:=1) O h (wF _) (by lia) (λi j b s=>by lia) q
   obtain⟨k,e,b1,o,r⟩:=qav O h (n-(1+1)) (1+1) (by lia) (by lia) l
   rw[e]
   rw[wL (by simp)]
   exact qgF (k:=k) O h (by lia) o r
theorem jx(O:Ord lt n)(h:Pm n p){k:Nat}(c:k<n)(s:Srt lt p k):∀(f l r:Nat),l<=r->r<=k->r-l<=f->(∀i,i<l->lt (gt p i) (gt p k)=true)->(∀i,r<=i->i<k->lt (gt p k) (gt p i)=true) ->
  evT lt (kas_place p k f l r)<=k/\(∀i,i<evT lt (kas_place p k f l r)->lt (gt p i) (gt p k)=true)/\∀i,evT lt (kas_place p k f l r)<=i->i<k->lt (gt p k) (gt p i)=true
 |0,l,r,h1,h2,h3,a,b=>⟨by show l<=k;lia,a,λi d j=>b i (by have m:l<=i:=d;lia) j⟩
 |f+1,l,r,h1,h2,h3,a,b=>by
  unfold kas_place
  by_cases u:l>=r
  .rw [wM u]
   exact⟨by show l<=k;lia,a,λi d j=>b i (by have m:l<=i:=d;lia) j⟩
  .rw [wL u]
   simp only[evT]
   have hm:(l+r) / 2<k:=by lia
   cases z:lt (p.getD k 0) (p.getD ((l+r) / 2) 0)with
   |true =>
    rw[wM rfl]
    refine jx O h c s f l ((l+r) / 2) (by lia) (by lia) (by lia) a λi d j=>?_
    by_cases e:i=(l+r) / 2
    .subst e;exact z
    .exact O.tr _ _ _ (h.bd c) (h.bd (by lia)) (h.bd (by lia)) z (s ((l+r) / 2) i (by lia) j)
   |false =>
    rw[wL (by decide)]
    have o:gt p k≠gt p ((l+r) / 2):=λe=>by
     have:=h.inj c (by lia) e
     lia
    have q:lt (gt p ((l+r) / 2)) (gt p k)=true:=by
     rcases O.tot _ _ (h.bd c) (h.bd (show(l+r) / 2<n by lia)) o with y|y
     .have v:lt (gt p k) (gt p ((l+r) / 2))=false:=z
      rw[v]at y;cases y
     .exact y
    refine jx O h c s f ((l+r) / 2+1) r (by lia) h2 (by lia) (λi d=>?_) b
    by_cases e:i=(l+r) / 2
    .subst e;exact q
    .exact O.tr _ _ _ (h.bd (by lia)) (h.bd (by lia)) (h.bd c) (s i ((l+r) / 2) (by lia) hm) q
theorem qeS(O:Ord lt n):∀(f k:Nat) (p:Array Nat),Pm n p->k+f=n->Srt lt p k->Pm n (evT lt (kas_bin f p k))/\Srt lt (evT lt (kas_bin f p k)) n
 |0,k,p,h,h1,s=>by
  have e:k=n:=by lia
  subst e
  exact⟨h,s⟩
 |f+1,k,p,h,h1,s=>by
  unfold kas_bin
  rw[zA]
  obtain⟨u,d,m⟩:=jx O h (k:=k) (by lia) s k 0 k (vF _) (wF _) (by lia) (λi hi=>by lia) λi a o=>by lia
  generalize evT lt (kas_place p k k 0 k)=l at *
  have q:Pm n (bubble p k (k-l)):=(bubble_perm p k (k-l)).toList.trans h
  refine qeS O f (k+1) _ q (by lia) λi j a o=>?_
  have ev:∀x,gt (bubble p k (k-l)) x=if x=l then gt p k else if l<x/\x<=k then gt p (x-1)else gt p x:=λx=>by
   have e:=getElem?_bubble (xs:=p) (src:=k) (by rw[h.size];lia) (k-l) (by lia) x
   have r:k-(k-l)=l:=by lia
   rw[r]at e
   by_cases q1:x=l
   .rw [wM q1]at e ⊢;exact yD e
   .rw [wL q1]at e ⊢
    by_cases q2:l<x/\x<=k
    .rw [wM q2]at e ⊢;exact yD e
    .rw [wL q2]at e ⊢;exact yD e
  rw[ev i,ev j]
  by_cases i1:i=l
  .rw [wM i1,wL (by lia),wM ⟨by lia,by lia⟩]
   exact m (j-1) (by lia) (by lia)
  .rw [wL i1]
   by_cases b:j=l
   .rw [wM b,wL (by lia)]
    exact d i (by lia)
   .rw [wL b]
    by_cases i2:l<i/\i<=k
    .rw [wM i2,wM ⟨by lia,by lia⟩]
     exact s (i-1) (j-1) (by lia) (by lia)
    .rw [wL i2]
     by_cases c:l<j/\j<=k
     .rw [wM c]
      exact s i (j-1) (by lia) (by lia)
     .rw [wL c]
      exact s i j a (by lia)
theorem qcB(O:Ord lt n)(hn:1<=n):Pm n (evT lt (kas_sort n))/\Srt lt (evT lt (kas_sort n)) n:=by
 unfold kas_sort
 rw[zA]
 have d:Pm n (List.toArray (List.range n)):=by
  show(List.toArray (List.range n)).toList.Perm _
  simp
 obtain⟨m,q,e,b,f,h,c⟩:=qbi O hn d
 rw[e]
 by_cases hm:m<n
 .rw [wM hm]
  have a:max m 1=m:=by lia
  show Pm n (evT lt (kas_bin (n-max m 1) q (max m 1)))/\_
  rw[a]
  exact qeS O (n-m) m q b (by lia) c
 .rw [wL hm]
  have a:m=n:=by lia
  subst a
  exact⟨b,c⟩
end
end R
namespace R
open PySem PySem.Spec L2 SeqAt
open PyProof.Rows hiding St
open PySem.W (KasT kas_rev kas_asc kas_desc kas_tail3 kas_descPart kas_count kas_place kas_bin kas_sort kas_cmp kas_item kas_item_eq kas_runs kas_st kas_range KatLex kat_lt KatTups kat_kind)
def InT{a:Type}(lt:Nat->Nat->Bool)(n:Nat):KasT a->Prop
 | .ret _=>True
 | .ask i j k=>i<n/\j<n/\InT lt n (k (lt i j))
section
variable{lt:Nat->Nat->Bool}{n:Nat}{p:Array Nat}
theorem zB{a b:Type}{f:a->KasT b}:∀{t:KasT a},InT lt n t->InT lt n (f (evT lt t))->InT lt n (t.bind f)
 | .ret _,_,h=>h
 | .ask i j k,h,h'=>⟨h.1,h.2.1,zB h.2.2 h'⟩
theorem qb5(h:Pm n p):∀(f k:Nat),1<=k->k+f=n->InT lt n (kas_asc p f k)
 |0,_,_,_=>trivial
 |f+1,k,h1,h2=>by
  refine⟨h.bd (show k<n by lia),h.bd (show k-1<n by lia),?_⟩
  dsimp only
  split
  .trivial
  .exact qb5 h f (k+1) (by lia) (by lia)
theorem qcC(O:Ord lt n)(h:Pm n p):∀(f k:Nat),1<=k->k+f=n->InT lt n (kas_desc f p k 0)
 |0,_,_,_=>trivial
 |f+1,k,h1,h2=>by
  refine⟨h.bd (show k<n by lia),h.bd (show k-1<n by lia),?_⟩
  cases z:lt (p.getD k 0) (p.getD (k-1) 0)with
  |true =>
   dsimp only
   rw[wM rfl,wL (by lia)]
   exact qcC O h f (k+1) (by lia) (by lia)
  |false =>
   dsimp only
   rw[wL (by decide)]
   refine⟨h.bd (show k-1<n by lia),h.bd (show k<n by lia),?_⟩
   have a:gt p k≠gt p (k-1):=λe=>by
    have:=h.inj (by lia) (by lia) e
    lia
   have q:lt (p.getD (k-1) 0) (p.getD k 0)=true:=by
    rcases O.tot _ _ (h.bd (show k<n by lia)) (h.bd (show k-1<n by lia)) a with y|y
    .have b:lt (gt p k) (gt p (k-1))=false:=z
     rw[b]at y;cases y
    .exact y
   rw[q]
   dsimp only
   rw[wM rfl]
   trivial
theorem qgG(h:Pm n p){k:Nat}(a:1<=k)(b:k<=n):InT lt n (kas_tail3 k n p):=zB (qb5 (qeR h 0 k) (n-k) k a (by lia)) trivial
theorem qeT(O:Ord lt n)(hn:1<=n)(h:Pm n p):InT lt n (kas_count n p):=by
 unfold kas_count
 obtain⟨⟨l,o,b⟩,c⟩:=qau O h (n-1) 1 (wF _) (by lia) Srt.one
 refine zB (qb5 h (n-1) 1 (wF _) (by lia)) ?_
 generalize evT lt (kas_asc p (n-1) 1)=m at *
 by_cases e:m=n
 .subst e;rw[wM (by simp)];trivial
 .rw [wL (by simpa using e)]
  by_cases a:m>1
  .rw [wM a]
   refine⟨h.bd (show 0<n by lia),h.bd (show m-1<n by lia),?_⟩
   have q:lt (p.getD 0 0) (p.getD (m-1) 0)=true:=b 0 (m-1) (by lia) (by lia)
   rw[q]
   dsimp only
   rw[wM rfl];trivial
  .rw [wL a]
   have e1:m=1:=by lia
   subst e1
   have q:=c (by lia)
   unfold kas_descPart
   have d:Fal lt p 2:=Fal.snoc (m:=1) O h (wF _) (by lia) (λi j a r=>by lia) q
   obtain⟨k,e,b1,f,s⟩:=qav O h (n-(1+1)) (1+1) (by lia) (by lia) d
   refine zB (qcC O h (n-(1+1)) (1+1) (by lia) (by lia)) ?_
   rw[e,wL (by simp)]
   exact qgG (k:=k) h (by lia) f
theorem jy(h:Pm n p){k:Nat}(a:k<n):∀(f l r:Nat),r<=k->InT lt n (kas_place p k f l r)
 |0,_,_,_=>trivial
 |f+1,l,r,h2=>by
  unfold kas_place
  by_cases b:l>=r
  .rw [wM b];trivial
  .rw [wL b]
   refine⟨h.bd a,h.bd (show(l+r) / 2<n by lia),?_⟩
   dsimp only
   split
   .exact jy h a f l _ (by lia)
   .exact jy h a f _ r h2
theorem qeU(O:Ord lt n):∀(f k:Nat) (p:Array Nat),Pm n p->k+f=n->InT lt n (kas_bin f p k)
 |0,_,_,_,_=>trivial
 |f+1,k,p,h,h1=>zB (jy h (by lia) k 0 k (wF _)) (qeU O f (k+1) _ ((bubble_perm p k _).toList.trans h) (by lia))
theorem qgH(O:Ord lt n)(hn:1<=n):InT lt n (kas_sort n):=by
 have a:Pm n (List.toArray (List.range n)):=by
  show(List.toArray (List.range n)).toList.Perm _
  simp
 obtain⟨m,q,e,b,d,f,h⟩:=qbi O hn a
 refine zB (qeT O hn a) ?_
 rw[e]
 by_cases hm:m<n
 .rw [wM hm]
  have c:max m 1=m:=by lia
  show InT lt n (kas_bin (n-max m 1) q (max m 1))
  rw[c]
  exact qeU O (n-m) m q b (by lia)
 .rw [wL hm];trivial
theorem qcD{a:Type}{cmp:Nat->Nat->(Bool->Shared->Prop)->Shared->Prop}{s:Shared}(b:∀i j C,i<n->j<n->C (lt i j) s->cmp i j C s){Q:a->Shared->Prop}:∀{t:KasT a},InT lt n t->Q (evT lt t) s->t.kasWp cmp Q s
 | .ret _,_,h=>h
 | .ask i j k,h,q=>b i j _ h.1 h.2.1 (qcD b h.2.2 q)
end
section
variable{prog:Program}{w:World}{A:Around}{E:Value->Shared->Prop}{s:Shared}
theorem qie{b:Bool}{x y:Int}{t u:Tok}{Q:Bool->Shared->Prop}(h:Q (decide (x<y)) s):wpAny (model prog w) A (oneLt' b (.int x t) (.int y u)) Q E s:=by
 cases b with
 |true=>exact oneLt_int h
 |false=>exact PySem.W.kat_one _ _ (PySem.P.lt_int h)
theorem qeV{b:Bool}{Q:Bool->Shared->Prop}:∀{xs ys:List Int} {us vs:List Value} {i:Nat},IntsAre us xs->IntsAre vs ys->Q (HT.lexLt xs ys) s->KatLex prog w A b (decide (xs.length<ys.length)) Q (us.zip vs) i s:=by
 intro xs
 induction xs with
 |nil =>
  intro ys us vs i a c h
  cases a
  cases c with
  |nil=>exact h
  |cons =>
   show Q _ s
   simpa[HT.lexLt]using h
 |cons x xs d =>
  intro ys us vs i a c h
  cases a with
  |cons _ t f =>
  cases c with
  |nil =>
   show Q _ s
   simpa[HT.lexLt]using h
  |cons _ u j =>
  refine wpAny_eqBool_int ?_
  rw[HT.qS]at h
  split at h
  .rename_i e
   subst e
   rw[wM (by simp)]
   have:=d (i:=i+1) f j h
   simpa[List.zip]using this
  .rename_i e
   rw[wL (by simpa using e)]
   exact qie h
noncomputable def TupsAt(h:Heap):List Value->List (List Int)->Prop
 |[],ks=>ks=[]
 |v::vs,ks=>∃a b k r,v=.ref a/\ks=k::r/\IsTup h a b.toArray/\IntsAre b k/\TupsAt h vs r
theorem TupsAt.len{h:Heap}:∀{vs:List Value} {ks:List (List Int)},TupsAt h vs ks->vs.length=ks.length
 |[],_,e=>by cases (show _=[]from e);rfl
 |_::_,_,e=>by obtain⟨a,b,k,r,_,rfl,_,_,t⟩:=e;simp[TupsAt.len t]
theorem TupsAt.get{h:Heap}:∀{vs:List Value} {ks:List (List Int)} (i:Nat),TupsAt h vs ks->i<ks.length->∃a b,vs.getD i .none=.ref a/\IsTup h a b.toArray/\IntsAre b (ks.getD i [])
 |[],_,_,e,hi=>by cases (show _=[]from e);simp at hi
 |_::vs,_,0,e,hi=>by obtain⟨a,b,k,r,rfl,rfl,c,d,_⟩:=e;exact⟨a,b,rfl,c,by simpa using d⟩
 |_::vs,_,i+1,e,hi=>by
  obtain⟨a,b,k,r,rfl,rfl,c,d,t⟩:=e
  obtain⟨f,its',e1,j,l⟩:=TupsAt.get i t (by simpa using hi)
  exact⟨f,its',by simpa using e1,j,by simpa using l⟩
theorem TupsAt.keep{h h':Heap}:∀{vs:List Value} {ks:List (List Int)},TupsAt h vs ks->(∀a o,Value.ref a∈vs->h.get? a=some o->h'.get? a=some o)->TupsAt h' vs ks
 |[],_,e,_=>e
 |_::_,_,e,hk=>by
  obtain⟨a,d,k,r,rfl,rfl,⟨o,f,c⟩,i,t⟩:=e
  exact⟨a,d,k,r,rfl,rfl,⟨o,hk a o wI f,c⟩,i,t.keep λb u j=>hk b u (wJ _ j)⟩
theorem TupsAt.firsts{h:Heap}:∀{vs:List Value} {ks:List (List Int)},TupsAt h vs ks->(∀k∈ks,k≠[])->∃fs:List Value,KatTups h vs fs/\fs.length=vs.length/\∀f∈fs,∃x t,f=.int x t
 |[],_,e,_=>⟨[],trivial,rfl,λf b=>by cases b⟩
 |_::_,_,e,hn=>by
  obtain⟨a,j,k,r,rfl,rfl,⟨o,l,c,m,d⟩,i,t⟩:=e
  obtain⟨fs,n,p,q⟩:=t.firsts λk u=>hn k (wJ _ u)
  cases i with
  |nil=>exact absurd rfl (hn [] wI)
  |cons x tx i =>
   refine⟨.int x tx::fs,⟨⟨a,o,_,m,rfl,l,c,d,by simp⟩,n⟩,by simp[p],λf b=>?_⟩
   rcases wN.mp b with z|z
   .exact ⟨x,tx,z⟩
   .exact q f z
noncomputable def ltK(ks:List (List Int))(i j:Nat):Bool:=HT.lexLt (ks.getD i []) (ks.getD j [])
theorem qgI{vs:List Value}{ks:List (List Int)}(t:TupsAt s.heap vs ks){i j:Nat}(hi:i<ks.length)(f:j<ks.length){C:Bool->Shared->Prop}(h:C (ltK ks i j) s):kas_cmp prog w A (tuples' true) (pairsOf vs) i j C s:=by
 unfold kas_cmp
 rw[kas_item_eq,kas_item_eq]
 obtain⟨a,xs,e1,⟨o,l,_,m,d⟩,c⟩:=t.get i hi
 obtain⟨b,ys,n,⟨u,eu,_,r,d'⟩,e⟩:=t.get j f
 dsimp only
 rw[e1,n]
 have:=qeV (prog:=prog) (w:=w) (A:=A) (s:=s) (b:=true) (i:=0) (Q:=C) c e h
 refine kat_lt l d eu d' ?_
 have p:=c.length
 have q:=e.length
 simpa[p,q]using this
theorem qeW{vs:List Value}{ks:List (List Int)}(t:TupsAt s.heap vs ks)(hn:∀k∈ks,k≠[])(d:2<=vs.length){Q:SortKind->Shared->Prop}(h:Q (tuples' true) s):wpAny (model prog w) A (keyKind' vs.toArray) Q E s:=by
 obtain⟨fs,a,e,b⟩:=t.firsts hn
 refine kat_kind (T:=Value.type "int") a (by lia) (λv c=>?_) (by decide) h
 obtain⟨x,tx,rfl⟩:=b v c
 exact .now
end
end R
namespace R
open PySem PySem.Spec L2 SeqAt
open PyProof.Rows hiding St
open PySem.W (KasT kas_sort kas_cmp kas_item kas_item_eq kas_runs kas_st kas_range KdlSrc kdl_extend kdl_hint_dict)
section
variable{prog:Program}{w:World}{A:Around}{E:Value->Shared->Prop}{s:Shared}
structure Answers (prog:Program) (w:World) (A:Around) (vs:List Value) (s:Shared) (κ:SortKind) (lt:Nat->Nat->Bool):Prop where
 kind:∀(E:Value->Shared->Prop) (Q:SortKind->Shared->Prop),Q κ s->wpAny (model prog w) A (keyKind' vs.toArray) Q E s
 ord:Ord lt vs.length
 cmp:∀i j C,i<vs.length->j<vs.length->C (lt i j) s->kas_cmp prog w A κ (pairsOf vs) i j C s
noncomputable def outOf(lt:Nat->Nat->Bool)(vs:List Value):List Value:=if vs.length<2 then vs else(evT lt (kas_sort vs.length)).toList.map λi=>vs.getD i Value.none
theorem lsort{D:Addr}{vs:List Value}{n:Nat}{κ:SortKind}{lt:Nat->Nat->Bool}{P:PySem.Fin->Shared->Prop}(r:s.heap.get? D=some (seqObj "list" vs.toArray n))(v:vs.length<64)(x:2<=vs.length->∀h':Heap,(∀b o,b≠D->s.heap.get? b=some o->h'.get? b=some o)->Answers prog w A vs {s with heap:=h' } κ lt)(h:∀(h':Heap) (c:Nat),(∀b o,b≠D->s.heap.get? b=some o->h'.get? b=some o)->h'.get? D=some (seqObj "list" (outOf lt vs).toArray c)->P (.done (.ret .none)) {s with heap:=h' }):
  wpAny (model prog w) A (Builtin.«list.sort» ⟨[.ref D],[]⟩) P E s:=by
 have L:D<s.heap.objs.size:=wG r
 obtain⟨e1,B⟩:∃e1,(s.heap.update D (Obj.mapSeq λ_=>(#[]:Array Value))).get? D=some (seqObj "list" #[] e1):=⟨_,uS r λ_=>#[]⟩
 have y:∀b o,b≠D->s.heap.get? b=some o->(((s.heap.update D (Obj.mapSeq λ_=>(#[]:Array Value))).push (seqObj "tuple" vs.toArray 0)).push (seqObj "list" #[] 0)).get? b=some o:=λb o u e =>
  wB _ (wB _ ((wQ _ _ (Ne.symm u)).trans e))
 have j:(((s.heap.update D (Obj.mapSeq λ_=>(#[]:Array Value))).push (seqObj "tuple" vs.toArray 0)).push (seqObj "list" #[] 0)).get? D=some (seqObj "list" #[] e1):=wB _ (wB _ B)
 rw[list_sort_plain]
 refine wA (listItems_at r rfl (wA (listUpdate_at r rfl (wA (seqEpoch_at B rfl (wA (wpAny_newTuple (wA (wpAny_newList (wu ?_) (vF _))) (by show vs.length<=_;rw[vH];lia)))))
  (by rw[wH,vH];lia) (vF _))))
 generalize M:((s.heap.update D (Obj.mapSeq λ_=>(#[]:Array Value))).push (seqObj "tuple" vs.toArray 0)).push (seqObj "list" #[] 0)=h3 at y j
 show wpAny (model prog w) A _ P E {s with heap:=h3}
 dsimp only
 have fin:∀(xs:Array Value),xs=(outOf lt vs).toArray->P (.done (.ret .none)) {s with heap:=h3.update D (Obj.mapSeq λ_=>xs)}:=λxs ex=>by
  subst ex
  exact h _ _ (λb o u e=>(wQ _ _ (Ne.symm u)).trans (y b o u e)) (uS j λ_=>(outOf lt vs).toArray)
 by_cases l:vs.toArray.size<2
 .have f:vs.length<2:=by simpa using l
  rw[wM l,wM l]
  refine wA (wC ?_)
  rw[StateT.run_pure]
  refine wA (wC (?_:wpAny _ A _ _ _ _))
  dsimp only
  refine wA (seqEpoch_at j rfl (wA (listUpdate_at j rfl ?_ (vF _) (by rw[Array.size_map];show(pairsOf vs).size<=_;rw[pairsOf_size,vH];lia))))
  simp only[xA,wj,vh]
  refine wC (fin _ ?_)
  unfold outOf
  rw[wM f]
  apply Array.toList_inj.mp
  show((vs.toArray.zip vs.toArray).map (·.2)).toList=_
  simp[List.map_snd_zip]
 .have f:2<=vs.length:=by
   have:¬vs.length<2:=by simpa using l
   lia
  have a:=x f h3 y
  rw[wL l,wL l]
  refine wA (a.kind _ _ ?_)
  have z:SortSt.mk' κ (vs.toArray.zip vs.toArray) #[] 7 none=kas_st κ (pairsOf vs) (List.toArray (List.range vs.length)):=by
   have e:=kas_range (pairsOf vs)
   rw[pairsOf_size]at e
   show SortSt.mk' κ (pairsOf vs) #[] 7 none=SortSt.mk' κ ((List.toArray (List.range vs.length)).map (kas_item (pairsOf vs))) #[] 7 none
   rw[e]
  have run:=kas_runs (prog:=prog) (w:=w) (A:=A) (E:=E) (κ:=κ) (it:=pairsOf vs) (s:={s with heap:=h3}) (Q:=λ_ d s'=>s'={s with heap:=h3}/\failedOf d=none/\∃p:Array Nat,p=evT lt (kas_sort vs.length)/\p.size=vs.length/\arrOf d=p.map (kas_item (pairsOf vs)))
   (G:=λp s'=>s'={s with heap:=h3}/\p=evT lt (kas_sort vs.length)) f v (λF d s' b1 H I C=>⟨C.1,I,F,C.2,b1,H⟩) (qcD a.cmp (qgH a.ord (by lia)) ⟨rfl,rfl⟩)
  rw[<-z]at run
  refine wA (v6 run ?_ λ_ _ e=>e)
  rintro⟨⟨⟩,d⟩ s' ⟨rfl,J,p,ep,K,m⟩
  dsimp only
  have q:(arrOf d).map (·.2)=(outOf lt vs).toArray:=by
   unfold outOf
   rw[wL (by lia),<-ep]
   apply Array.toList_inj.mp
   rw[m,Array.map_map,Array.toList_map]
   exact va λi _=>by show(kas_item (pairsOf vs) i).2=_;rw[kas_item_eq]
  have hsz:((arrOf d).map (·.2)).size=vs.length:=by rw[m,Array.map_map,Array.size_map,K]
  refine wA (seqEpoch_at j rfl (wA (listUpdate_at j rfl ?_ (vF _) (by show((arrOf d).map (·.2)).size<=_;rw[hsz,vH];lia))))
  rw[J]
  simp only[xA,wj,vh]
  exact wC (fin _ q)
theorem qdv{x:Value}{vs:List Value}{κ:SortKind}{lt:Nat->Nat->Bool}{Q:Value->Shared->Prop}(d:vs.length<64)(f:∀(n:Value->Shared->Prop) (Q':List Value->Shared->Prop),(∀(h':Heap) (tk:Nat),s.heap.objs.size<=h'.objs.size->(∀b o,s.heap.get? b=some o->h'.get? b=some o)->Q' vs {s with heap:=h',toks:=tk})->wpAny (model prog w) A.in1 (collect x) Q' n s)(i:2<=vs.length->∀(h':Heap) (tk:Nat),(∀b o,s.heap.get? b=some o->h'.get? b=some o)->Answers prog w A.in1.in1 vs {s with heap:=h',toks:=tk} κ lt)(h:∀(h':Heap) (tk:Nat) (D:Addr) (c:Nat),s.heap.objs.size<=D->(∀b o,s.heap.get? b=some o->h'.get? b=some o)->h'.get? D=some (seqObj "list" (outOf lt vs).toArray c)->Q (.ref D) {s with heap:=h',toks:=tk}):
  wpAny (model prog w) A (call (.builtin "sorted") [x]) Q E s:=by
 refine ux kind_sorted plain_sorted entry_sorted (args_sorted1 _) ?_
 unfold Builtin.«sorted»
 refine wA (m:=checkCount "sorted" 1 1 _) (wC (wA (f _ _ λa tk sz j=>wA (wpAny_newList ?_ (by rw[vH];lia)))))
 have l:(a.push (seqObj "list" vs.toArray 0)).get? a.objs.size=some (seqObj "list" vs.toArray 0):=wE _ rfl
 have up:∀b o,s.heap.get? b=some o->(a.push (seqObj "list" vs.toArray 0)).get? b=some o:=λb o e=>wB _ (j b o e)
 have ne:∀b o,s.heap.get? b=some o->b≠a.objs.size:=λb o e=>wS (wG (j b o e))
 show wpAny _ _ _ _ _ {s with heap:=a.push (seqObj "list" vs.toArray 0),toks:=tk}
 refine wA (wu (w6 slot_list_sort ⟨_,l,rfl⟩ entry_list_sort ?_ (args_list_sort _)))
 refine lsort (κ:=κ) (lt:=lt) (s:={s with heap:=a.push (seqObj "list" vs.toArray 0),toks:=tk}) l d (λp h' kp=>i p h' tk λb o e=>kp b o (ne b o e) (up b o e)) λh' c kp q=>?_
 exact⟨_,rfl,wC ⟨_,rfl,h h' tk a.objs.size c sz (λb o e=>kp b o (ne b o e) (up b o e)) q⟩⟩
def EsAt(h:Heap)(d:Addr)(es:Array DictEntry)(ep:Nat):Prop:=∃o,h.get? d=some o/\o.ExactDict/\o.data=.dict es ep
theorem EsAt.at{h h':Heap}{d:Addr}{es:Array DictEntry}{ep:Nat}(x:EsAt h d es ep)(e:∀o,h.get? d=some o->h'.get? d=some o):EsAt h' d es ep:=let ⟨o,a,r⟩:=x;⟨o,e o a,r⟩
theorem EsAt.typeIs{s:Shared}{d:Addr}{es:Array DictEntry}{ep:Nat}(x:EsAt s.heap d es ep):s.TypeIs (.ref d) "dict":=let ⟨o,a,c,_⟩:=x;⟨o,a,c.1⟩
theorem qdw{d:Addr}{es:Array DictEntry}{ep:Nat}{Q:Value->Shared->Prop}(hd:(d == sysModules)=false)(hm:EsAt s.heap d es ep)(e:Q (.ref s.heap.objs.size) {s with heap:=s.heap.push {cls:=.type "dict_keyiterator",data:=.fields #[.ref d,.int 0 0,.int es.size 0,.int ep 0]}}):wpAny (model prog w) A (pyIter (.ref d)) Q E s:=by
 have b:=hm.typeIs
 obtain⟨o,c,f,a⟩:=hm
 refine wpAny_pyIter_slot b F.slot_dict_iter (w6 F.slot_dict_iter b F.entry_dict_iter ?_ (F.args_dict_iter_1 _))
 unfold Builtin.«dict.__iter__»
 refine wA ?_
 unfold Builtin.Dict.dictSlotNone
 refine wA (wpAny_notOrdered_dict b (wC (?_:wpAny _ _ (Builtin.Dict.showsAll d >>= _) _ _ s)))
 unfold Builtin.Dict.showsAll
 rw[wL (by rw[hd];exact wR)]
 refine wA (wC (wA (uy c a (wA (wpAny_dictEpoch c a ?_)))))
 refine wA (wO (wC ⟨_,rfl,"dict_keyiterator",_,⟨_,wE _ rfl,rfl⟩,v4.lookup,?_⟩))
 simpa[rawInt]using e
theorem qdx{it d:Addr}{i ep:Nat}{es:Array DictEntry}{e:DictEntry}{Q:Option Value->Shared->Prop}(c:s.heap.IsKeyIter it d i es.size ep)(hm:EsAt s.heap d es ep)(hx:es[i]?=some e)(l:∀h',h'.IsKeyIter it d (i+1) es.size ep->Heap.SameBut it s.heap h'->Q (some e.key) {s with heap:=h' }):wpAny (model prog w) A (pyNext (.ref it)) Q E s:=by
 have b:=c.typeIs
 obtain⟨o,j,m,hd⟩:=c
 obtain⟨od,f,n,h⟩:=hm
 unfold pyNext
 refine wA (vX (w5 (name:=Str.ofString "__next__") b v4 (w6 v4 b F.entry_dict_keyiterator_next ?_ (F.args_dict_keyiterator_next_1 _))))
 refine wA (wC (wA (wA ?_)))
 first|refine wA (vo b (wC (wA (vp j hd ?_))))|refine wA (uO b (wC (wA (vp j hd ?_))))
 have own:Builtin.Dict_items.ownsTuple "dict_keyiterator"=false:=by decide
 simp only[own,wj,vh]
 show wpAny _ _ (if(Value.ref d == Value.none)=true then _ else _) _ _ s
 rw[wL (show ¬((Value.ref d == Value.none)=true)from wR)]
 refine wA (wC (wA (uy f h ?_)))
 rw[wL (by simp)]
 refine wA (wC (wA (wpAny_dictEpoch f h ?_)))
 rw[wL (by simp)]
 refine wC ?_
 obtain⟨p,q⟩:=Array.getElem?_eq_some_iff.mp hx
 simp only[show ¬((i:Int)<0)from by lia,vh,v7,hx]
 refine wA ?_
 first|refine wA (vo b (wC ?_))|refine wA (uO b (wC ?_))
 refine wA (wpAny_isOneOf_keyiter b (?_:wpAny _ _ (setField (.ref it) 1 (rawInt ((i:Int)+1)) >>= _) _ _ s))
 refine wA (v5 j hd (by simp) ?_)
 have a:(s.heap.update it (Obj.mapFields (·.setIfInBounds 1 (rawInt ((i:Int)+1))))).IsKeyIter it d (i+1) es.size ep :=
  ⟨_,wg _ j (vy (vC hd _)),(xC ..).trans m,by rw[vC hd];simp[rawInt]⟩
 refine wA (wu (wA (wpAny_isOneOf_keyiter (s:={s with heap:=s.heap.update it (Obj.mapFields (·.setIfInBounds 1 (rawInt ((i:Int)+1))))}) a.typeIs (?_:wpAny _ _ (pure e.key) _ _ _))))
 exact wC (wC ⟨_,rfl,wC (l _ a (Heap.SameBut.update ..))⟩)
theorem qeX{it d:Addr}{i ep:Nat}{es:Array DictEntry}{Q:Option Value->Shared->Prop}(l:A.handled=none)(e:s.heap.IsKeyIter it d i es.size ep)(hm:EsAt s.heap d es ep)(hx:es[i]?=none)(n:∀h',Heap.ExtBut it s.heap h'->Q none {s with heap:=h' }):wpAny (model prog w) A (pyNext (.ref it)) Q E s:=by
 have c:=e.typeIs
 obtain⟨o,j,q,hd⟩:=e
 obtain⟨od,f,p,h⟩:=hm
 unfold pyNext
 refine wA (vX (w5 (name:=Str.ofString "__next__") c v4 (w6 v4 c F.entry_dict_keyiterator_next ?_ (F.args_dict_keyiterator_next_1 _))))
 refine wA (wC (wA (wA ?_)))
 first|refine wA (vo c (wC (wA (vp j hd ?_))))|refine wA (uO c (wC (wA (vp j hd ?_))))
 have own:Builtin.Dict_items.ownsTuple "dict_keyiterator"=false:=by decide
 simp only[own,wj,vh]
 show wpAny _ _ (if(Value.ref d == Value.none)=true then _ else _) _ _ s
 rw[wL (show ¬((Value.ref d == Value.none)=true)from wR)]
 refine wA (wC (wA (uy f h ?_)))
 rw[wL (by simp)]
 refine wA (wC (wA (wpAny_dictEpoch f h ?_)))
 rw[wL (by simp)]
 refine wC ?_
 simp only[show ¬((i:Int)<0)from by lia,vh,v7,hx]
 refine wA ?_
 first|refine wA (vo c (wC ?_))|refine wA (uO c (wC ?_))
 refine wA (m:=setField (.ref it) 0 .none) (v5 j hd (by simp) (?_:wpAny _ _ (newExc (.type "StopIteration") [] >>= _) _ _ _))
 refine wA ?_
 unfold newExc newTuple
 refine wA (wO (wA (uX (t:=firstArgMember _ _) (a:=Value.none) (by first|rfl|(simp only[firstArgMember];rfl)) (wO ?_ (by size_fits)))) (by size_fits))
 unfold raiseNew
 refine wA (xF ?_)
 rw[show A.in1.handled=none from l]
 refine wA (wC (wpAny_throw ?_))
 refine wA (vT (T:="StopIteration") (b:=true) ⟨_,wE _ rfl,rfl⟩ ut ?_)
 exact wC (n _ (((Heap.SameBut.update ..).extBut.push _).push _))
theorem qdy(m:A.handled=none)(I d:Addr)(f:d≠I)(es:Array DictEntry)(ep:Nat):Walks prog w A I [I,d] [I] es.size (λi v=>(es[i]?).map (·.key)=some v) (λi h=>h.IsKeyIter I d i es.size ep/\EsAt h d es ep) where
 sub:=λb a=>by simp at a;simp[a]
 frame:=λ_ _ _ st j=>⟨st.1.at λo e=>j I (by simp) o e,st.2.at λo e=>j d (by simp) o e⟩
 item:=λi s Q E hi st c=>by
  have hx:es[i]?=some es[i]:=wa hi
  exact qdx st.1 st.2 hx λh' n l=>c _ h' s.toks (by rw[hx];rfl) ⟨n,st.2.at λo e=>l.extBut _ o f e⟩ λb o a e=>l.extBut b o (λz=>a (by simp[z])) e
 done:=λs Q E st c=>qeX m st.1 st.2 (vc (wF _)) λh' p=>c h' s.toks λb o a e=>p b o (λz=>a (by simp[z])) e
 self:=λ_ _ _ _ st c=>wpAny_pyIter_keyiter st.1 c
theorem qeY{d:Addr}{es:Array DictEntry}{ep:Nat}(lo:(d == sysModules)=false):KdlSrc prog w "dict" d d es.size (λi v=>(es[i]?).map (·.key)=some v) (λh=>EsAt h d es ep) where
 type:=λ_ hm=>hm.typeIs
 there:=λ_ hm=>let ⟨o,a,_⟩:=hm;⟨wG a,wG a⟩
 keep:=λ_ _ hm c=>hm.at λo e=>c d (.inl rfl) o e
 notList:=by decide
 notTuple:=by decide
 hint:=λ_ _ _ _ hm b=>kdl_hint_dict hm.typeIs b
 iter:=λA s f hm=>⟨_,_,(λ_ _ b=>qdw lo hm b),qdy f _ d (by obtain⟨o,a,_⟩:=hm;exact wS (wG a)) es ep,⟨⟨_,wE _ rfl,rfl,rfl⟩,hm.at λo e=>wB _ e⟩⟩
theorem j7{d:Addr}{es:Array DictEntry}{ep:Nat}{Q:List Value->Shared->Prop}(n:A.handled=none)(lo:(d == sysModules)=false)(hm:EsAt s.heap d es ep)(hn:es.size<=sizeLine)(p:∀(h':Heap) (tk:Nat),s.heap.objs.size<=h'.objs.size->(∀b o,s.heap.get? b=some o->h'.get? b=some o)->Q (es.toList.map (·.key)) {s with heap:=h',toks:=tk}):wpAny (model prog w) A (collect (.ref d)) Q E s:=by
 have hd:d≠s.heap.objs.size:=by obtain⟨o,q,_⟩:=hm;exact wS (wG q)
 have c:∀R:Result->Shared->Prop,(∀(h':Heap) (tk:Nat) (a:Array Value) (f:Nat),(∀b o,s.heap.get? b=some o->h'.get? b=some o)->h'.get? s.heap.objs.size=some {cls:=.type "list",dict:=none,data:=.seq a f,slots:=#[]}->ItemsOf (λi v=>(es[i]?).map (·.key)=some v) a es.size ->
   R (.ok (.ret (.ref s.heap.objs.size))) {s with heap:=h',toks:=tk})->codeAny (model prog w) A (.builtin "proto.collect" ⟨[.ref d],[]⟩) R s:=by
  intro R r
  refine wz xW ?_
  rw[wn xV]
  refine wA (m:=newList []) (wO (wC ⟨vD uG _,wz F.entry_list_iadd ?_⟩))
  rw[wn uG]
  have u:(s.heap.push {cls:=.type "list",data:=.seq ([]:List Value).toArray}).get? s.heap.objs.size=some {cls:=.type "list",data:=.seq #[] 0}:=wE _ rfl
  exact kdl_extend (R:=R) (s:={s with heap:=s.heap.push {cls:=.type "list",data:=.seq ([]:List Value).toArray}}) (qeY lo) n (hm.at λo e=>wB _ e) s.heap.objs.size (Ne.symm hd) (Ne.symm hd) (.ref s.heap.objs.size) 0 u (λh' tk a f j h hi =>
   r h' tk a f (λb o e=>j b o (wS (wG e)) (wB _ e)) h hi) hn
 unfold collect
 refine wA (xb (c _ λh' tk a f j h hi=>?_))
 refine wA (m:=load s.heap.objs.size) (wpAny_load h (wC ?_))
 have e:a.toList=es.toList.map (·.key):=by
  apply uD
  intro i
  rw[wW]
  cases z:a[i]? with
  |none =>
   have l:a.size<=i:=by simpa using z
   rw[hi.1]at l
   have x:es[i]?=none:=vc l
   rw[wv,wv,z,x];rfl
  |some v =>
   have:=hi.2 i v z
   rw[wv,wv,z,this]
 rw[e]
 exact p h' tk (uq (wG h)) j
end
end R
namespace R
open PySem PySem.Spec L2 SeqAt
open PyProof.Rows hiding St
open PySem.W (KasT kas_sort)
theorem qaw:∀a:List Int,HT.lexLt a a=false
 |[]=>rfl
 |x::a=>by rw[HT.qS,wM rfl];exact qaw a
theorem qax:∀{a b c:List Int},HT.lexLt a b=true->HT.lexLt b c=true->HT.lexLt a c=true
 |[],[],_,h,_=>by cases h
 |[],_::_,[],_,h=>by cases h
 |[],_::_,_::_,_,_=>rfl
 |_::_,[],_,h,_=>by cases h
 |_::_,_::_,[],_,h=>by cases h
 |x::a,y::b,z::c,h,k=>by
  rw[HT.qS]at h k ⊢
  by_cases e1:x=y
  .subst e1
   rw[wM rfl]at h
   by_cases d:x=z
   .subst d
    rw[wM rfl]at k ⊢
    exact qax h k
   .rw [wL d]at k ⊢;exact k
  .rw [wL e1]at h
   have h':=vQ h
   by_cases d:y=z
   .subst d
    rw[wL e1];exact h
   .rw [wL d]at k
    have e:=vQ k
    rw[wL (by lia)]
    exact vj (by lia)
theorem lex_tot:∀{a b:List Int},a≠b->HT.lexLt a b=true\/HT.lexLt b a=true
 |[],[],h=>absurd rfl h
 |[],_::_,_=>.inl rfl
 |_::_,[],_=>.inr rfl
 |x::a,y::b,h=>by
  rw[HT.qS,HT.qS]
  by_cases e:x=y
  .subst e
   rw[wM rfl,wM rfl]
   exact lex_tot λz=>h (by rw[z])
  .rw [wL e,wL (Ne.symm e)]
   rcases Int.lt_or_gt_of_ne e with z|z
   .exact .inl (vj z)
   .exact .inr (vj z)
theorem yY(x:List Int):∀l:List (List Int),(insT x l).Perm (x::l)
 |[]=>.refl _
 |y::r=>by
  unfold insT
  split
  .exact ((yY x r).cons y).trans (.swap ..)
  .exact .refl _
theorem qG:∀l:List (List Int),(sortT l).Perm l
 |[]=>.refl _
 |x::r=>(yY x (sortT r)).trans ((qG r).cons x)
def Ris(l:List (List Int)):Prop:=l.Pairwise λa b=>HT.lexLt a b=true
theorem qbj{x:List Int}:∀{l:List (List Int)},x∉l->Ris l->Ris (insT x l)
 |[],_,_=>xI _ _
 |y::r,hn,h=>by
  obtain⟨f,i⟩:=wp.mp h
  unfold insT
  split
  .rename_i d
   refine wp.mpr ⟨λz hz=>?_,qbj (λm=>hn (wJ _ m)) i⟩
   rcases wN.mp ((yY x r).mem_iff.mp hz)with e|e
   .rw [e];exact d
   .exact f z e
  .rename_i d
   have c:HT.lexLt x y=true:=by
    rcases lex_tot (a:=x) (b:=y) λe=>hn (by rw[e];exact wI)with z|z
    .exact z
    .rw [z]at d;exact absurd rfl d
   refine wp.mpr ⟨λz hz=>?_,h⟩
   rcases wN.mp hz with e|e
   .rw [e];exact c
   .exact qax c (f z e)
theorem yZ:∀{l:List (List Int)},l.Nodup->Ris (sortT l)
 |[],_=>.nil
 |x::r,h=>by
  obtain⟨a,b⟩:=vz.mp h
  exact qbj (λm=>a ((qG r).mem_iff.mp m)) (yZ b)
theorem qbk:∀{a b:List (List Int)},a.Perm b->Ris a->Ris b->a=b
 |[],b,p,_,_=>(List.nil_perm.mp p).symm
 |x::a,[],p,_,_=>absurd (List.perm_nil.mp p) (by simp)
 |x::a,y::b,p,h,k=>by
  obtain⟨d,f⟩:=wp.mp h
  obtain⟨i,j⟩:=wp.mp k
  have e:x=y:=by
   rcases wN.mp (p.mem_iff.mp wI)with z|z
   .exact z
   .rcases wN.mp (p.symm.mem_iff.mp wI)with c|c
    .exact c.symm
    .have:=qax (d y c) (i x z)
     rw[qaw]at this;cases this
  subst e
  rw[qbk (List.Perm.cons_inv p) f j]
theorem y0(x:Int):∀l:List Int,(insI x l).Perm (x::l)
 |[]=>.refl _
 |y::r=>by
  unfold insI
  split
  .exact .refl _
  .exact ((y0 x r).cons y).trans (.swap ..)
theorem qH:∀l:List Int,(sortI l).Perm l
 |[]=>.refl _
 |x::r=>(y0 x (sortI r)).trans ((qH r).cons x)
theorem qcE{x:Int}:∀{l:List Int},l.Pairwise (·<=·)->(insI x l).Pairwise (·<=·)
 |[],_=>xI _ _
 |y::r,h=>by
  obtain⟨b,c⟩:=wp.mp h
  unfold insI
  split
  .rename_i a
   refine wp.mpr ⟨λz hz=>?_,h⟩
   rcases wN.mp hz with e|e
   .rw [e];exact a
   .exact Int.le_trans a (b z e)
  .rename_i a
   refine wp.mpr ⟨λz hz=>?_,qcE c⟩
   rcases wN.mp ((y0 x r).mem_iff.mp hz)with e|e
   .rw [e];lia
   .exact b z e
theorem yE:∀l:List Int,(sortI l).Pairwise (·<=·)
 |[]=>.nil
 |x::r=>qcE (yE r)
theorem qb6{ks:List (List Int)}(nd:ks.Nodup):Ord (ltK ks) ks.length where
 irr:=λa _=>qaw _
 tr:=λa b c _ _ _ h k=>qax h k
 tot:=λa b ha d h=>lex_tot λe=>h (by
  rw[ww,ww,wD ha,wD d]at e
  exact(xN nd).mp e)
theorem qbl{ks:List (List Int)}(nd:ks.Nodup)(c:1<=ks.length):(evT (ltK ks) (kas_sort ks.length)).toList.map (λi=>ks.getD i [])=sortT ks:=by
 obtain⟨pm,d⟩:=qcB (qb6 nd) c
 generalize evT (ltK ks) (kas_sort ks.length)=p at *
 have f:(p.toList.map λi=>ks.getD i []).Perm ks:=by
  have e:(List.range ks.length).map (λi=>ks.getD i [])=ks:=by
   apply uD
   intro i
   rw[wW]
   by_cases hi:i<ks.length
   .rw [wD (by simpa using hi),wD hi]
    simp[hi]
   .rw [vS (by simpa using hi),vS (by lia)];rfl
  have:=pm.map λi=>ks.getD i []
  rwa [e]at this
 refine qbk (f.trans (qG ks).symm) ?_ (yZ nd)
 show(p.toList.map λi=>ks.getD i []).Pairwise _
 rw[List.pairwise_map,uK]
 intro i j hi b a
 have hsz:=pm.size
 have:=d i j a (by simpa[hsz]using b)
 rw[qbh (by simpa using hi),qbh (by simpa using b)]at this
 simpa[ltK]using this
end R
namespace R
open PySem PySem.Spec L2 SeqAt
open PyProof.Rows hiding St
open PySem.W (KasT kas_sort)
section
variable{X:Cx}{pins:List (Addr×Obj)}{σ:St}{H:Hp}{s:Shared}{ι:List Addr}{S:Sr}
theorem qcF(I:Inv X pins σ H s):∀{l:List D} {ks:List (List Int)} {xs:List V} {vs:List Value},tupsOf l=some ks->Dens ι H l xs->Vals xs vs->TupsAt s.heap vs ks/\l=ks.map tupI
 |[],ks,xs,vs,e,hd,r=>by
  cases e
  cases (show xs=[]from hd)
  cases r
  exact⟨rfl,rfl⟩
 | .tup a::l,ks,xs,vs,e,hd,r=>by
  obtain⟨x,d,rfl,hx,f⟩:=hd
  obtain⟨b,ys,rfl,_,h,i⟩:=hx
  simp only[tupsOf]at e
  cases z1:intsOf a with
  |none=>rw[z1]at e;cases e
  |some k =>
   rw[z1,wY]at e
   cases z2:tupsOf l with
   |none=>rw[z2]at e;cases e
   |some j =>
    rw[z2]at e;cases e
    cases r with
    |cons m n =>
     cases m
     obtain⟨t1,t2⟩:=qcF I z2 f n
     obtain⟨c,o,p,_⟩:=yU I h
     have q:=intsOf_eq z1
     subst q
     cases dens_ints i
     refine⟨⟨b,c,k,j,rfl,rfl,p,qL o,t1⟩,?_⟩
     rw[t2];rfl
 | .non::_,_,_,_,e,_,_=>by cases e
 | .bl _::_,_,_,_,e,_,_=>by cases e
 | .int _::_,_,_,_,e,_,_=>by cases e
 | .str _::_,_,_,_,e,_,_=>by cases e
 | .lst _::_,_,_,_,e,_,_=>by cases e
 | .emp::_,_,_,_,e,_,_=>by cases e
 | .ref _::_,_,_,_,e,_,_=>by cases e
theorem qbm{xs:List V}{vs:List Value}(r:Vals xs vs):∀p:List Nat,(∀i∈p,i<vs.length)->Vals (p.map λi=>xs.getD i .non) (p.map λi=>vs.getD i .none)
 |[],_=>.nil
 |i::p,h=>by
  refine .cons ?_ (qbm r p λj a=>h j (wJ _ a))
  have hi:=h i wI
  obtain⟨x,e1,b⟩:=Vals.at r hi
  dsimp only
  rw[ww,ww,e1,wD hi]
  exact b
theorem qbn{l:List D}{xs:List V}(h:Dens ι H l xs):∀p:List Nat,(∀i∈p,i<l.length)->Dens ι H (p.map λi=>l.getD i .non) (p.map λi=>xs.getD i .non)
 |[],_=>rfl
 |i::p,hp=>by
  have hi:=hp i wI
  obtain⟨x,e1,a⟩:=h.get (wD hi)
  refine⟨_,_,rfl,?_,qbn h p λj b=>hp j (wJ _ b)⟩
  dsimp only
  rw[ww,ww,e1,wD hi]
  exact a
theorem zu{m:Bool}{x:Value}{l:List D}{ks:List (List Int)}{xs:List V}{vs:List Value}{Q:VK}(I:Inv X pins σ H s)(st:Sto ι H S)(O:X.calm=true)(n:Dens ι H l xs)(p:Vals xs vs)(e:tupsOf l=some ks)(B:l.length<64)(nd:ks.Nodup)(ne:∀k∈ks,k≠[])(r:∀(y:Value->Shared->Prop) (Q':List Value->Shared->Prop),(∀(h':Heap) (tk:Nat),s.heap.objs.size<=h'.objs.size->(∀b o,s.heap.get? b=some o->h'.get? b=some o)->Q' vs {s with heap:=h',toks:=tk})->wpAny (model X.prog X.w) X.A.in1 (collect x) Q' y s)(q:Pst Den (newL m ((sortT ks).map tupI) S) ι H Q):wpAny (model X.prog X.w) X.A (call (.builtin "sorted") [x]) (EP X pins σ Q) X.xe s:=by
 obtain⟨z,u⟩:=qcF I e n p
 have len:vs.length=ks.length:=z.len
 have E:l.length=ks.length:=by rw[u];simp
 refine qdv (κ:=tuples' true) (lt:=ltK ks) (by lia) r (λh h' tk kp=>?_) λh' tk D c sz kp F=>?_
 .have t':TupsAt h' vs ks:=z.keep λa o _ J=>kp a o J
  exact⟨λy Q' K=>qeW (s:={s with heap:=h',toks:=tk}) t' ne h K,by rw[len];exact qb6 nd,λi j C hi P L=>qgI (s:={s with heap:=h',toks:=tk}) t' (by lia) (by lia) L⟩
 .-- the answer's data
  have fin:∃f,Vals f (outOf (ltK ks) vs)/\Dens ι H ((sortT ks).map tupI) f:=by
   unfold outOf
   by_cases h:vs.length<2
   .rw [wM h]
    refine⟨xs,p,?_⟩
    have:sortT ks=ks:=by
     match ks,len with
     |[],_=>rfl
     |[k],_=>rfl
     |_::_::_,len=>simp at len;lia
    rw[this,<-u]
    exact n
   .rw [wL h]
    rw[len]
    obtain⟨pm,_⟩:=qcB (qb6 nd) (show 1<=ks.length by lia)
    have v:∀i∈(evT (ltK ks) (kas_sort ks.length)).toList,i<ks.length:=λi hi=>wi.mp (pm.mem_iff.mp hi)
    refine⟨_,qbm p _ λi hi=>by rw[len];exact v i hi,?_⟩
    have d:=qbn n _ λi hi=>by rw[E];exact v i hi
    have M:(sortT ks).map tupI=(evT (ltK ks) (kas_sort ks.length)).toList.map λi=>l.getD i .non:=by
     rw[<-qbl nd (by lia),wq]
     refine va λi hi=>?_
     have:=v i hi
     rw[u]
     simp[this]
    rw[M]
    exact d
  obtain⟨f,N,d'⟩:=fin
  have fr:H D=none:=I.hok.fresh sz
  have hz:f.length<=sizeLine:=by
   rw[<-d'.length,wT,(qG ks).length_eq,vH];lia
  exact⟨.ref D,upd H D (.lst f),I.laid (o:=.lst f) (t':=tk) kp sz ⟨hz,outOf (ltK ks) vs,c,N,F⟩,rfl,ze st d' q D fr⟩
theorem qeZ{a:Addr}{xs:List V}(I:Inv X pins σ H s)(h:Rd H a (.lst xs)):∃vs:List Value,Vals xs vs/\s.heap.IsList a vs.toArray/\(∀(A:Around) (c:Value->Shared->Prop) (Q':List Value->Shared->Prop),(∀(h':Heap) (tk:Nat),s.heap.objs.size<=h'.objs.size->(∀b o,s.heap.get? b=some o->h'.get? b=some o)->Q' vs {s with heap:=h',toks:=tk})->wpAny (model X.prog X.w) A (collect (.ref a)) Q' c s):=by
 obtain⟨vs,r,p,hz⟩:=qam I h
 refine⟨vs,r,p,λA c Q' d=>collect_list p (d _ s.toks ?_ λb o e=>?_) (by rw[<-r.length];exact hz)⟩
 .rw [xO,size_push'];lia
 .exact (wQ _ _ (vR (wG e))).trans (wB _ e)
theorem qdz{m:Bool}{a:Addr}{ns:List Int}{xs:List V}{Q:VK}(I:Inv X pins σ H s)(st:Sto ι H S)(h:Rd H a (.lst xs))(y:Dens ι H (ns.map .int) xs)(z:ns.length<64)(q:Pst Den (newL m ((sortI ns).map .int) S) ι H Q):
  wpAny (model X.prog X.w) X.A (call (.builtin "sorted") [.ref a]) (EP X pins σ Q) X.xe s:=by
 obtain⟨vs,r,p,hz⟩:=qam I h
 cases dens_ints y
 have v:IntsAre vs ns:=qL r
 have L:=v.length
 refine sorted_ints p v (by lia) λd f i1 i2 B=>?_
 have C:f=sortI ns:=PySem.W.lks_uniq (i2.trans (qH ns).symm) B (yE ns)
 have up:∀b o,s.heap.get? b=some o->(sortedAll s.heap vs d).get? b=some o:=λb o e=>by
  have j:b<s.heap.objs.size:=wG e
  unfold sortedAll sortedHeap
  refine(wQ _ _ (vR (w1 j))).trans (wB _ (wB _ ((wQ _ _ (vR (w1 j))).trans (wB _ ?_))))
  exact(wQ _ _ (vR j)).trans (wB _ e)
 have E:(((s.heap.push (seqObj "list" #[] 0)).update s.heap.objs.size (Obj.mapSeq (·++vs.toArray))).push (seqObj "list" vs.toArray 0)).get? (s.heap.objs.size+1)=some (seqObj "list" vs.toArray 0):=by
  have:((s.heap.push (seqObj "list" #[] 0)).update s.heap.objs.size (Obj.mapSeq (·++vs.toArray))).objs.size=s.heap.objs.size+1:=by rw[xO,size_push']
  rw[<-this];exact wE _ rfl
 obtain⟨c,at'⟩:∃c,(sortedAll s.heap vs d).get? (s.heap.objs.size+1)=some (seqObj "list" d c):=by
  unfold sortedAll sortedHeap
  have e1:=uS E λ_=>(#[]:Array Value)
  have F:=wB (seqObj "list" #[] 0) (wB (seqObj "tuple" vs.toArray 0) e1)
  exact⟨_,uS F λ_=>d⟩
 have sz:s.heap.objs.size<=s.heap.objs.size+1:=vU _
 have fr:H (s.heap.objs.size+1)=none:=I.hok.fresh sz
 have J:Vals (f.map V.int) d.toList:=by
  have:∀{us:List Value} {i:List Int},IntsAre us i->Vals (i.map V.int) us:=λ{us i} h=>by
   induction h with
   |nil=>exact .nil
   |cons n t _ l=>exact .cons ⟨t,rfl⟩ l
  exact this i1
 have K:Dens ι H ((sortI ns).map .int) (f.map V.int):=by
  rw[C]
  have:∀i:List Int,Dens ι H (i.map .int) (i.map V.int):=λi=>by
   induction i with
   |nil=>rfl
   |cons x r l=>exact⟨_,_,rfl,rfl,l⟩
  exact this _
 have u:(f.map V.int).length<=sizeLine:=by rw[wT,i2.length_eq,vH];lia
 refine⟨.ref _,upd H (s.heap.objs.size+1) (.lst (f.map V.int)),I.laid (o:=.lst (f.map V.int)) (t':=s.toks) up sz ⟨u,d.toList,c,J,by rw[at']⟩,rfl,ze st K q _ fr⟩
theorem qe0(m:Bool)(C:X.calm=true):CallR X (.builtin "sorted") (Gn (one (bSorted m))):=by
 intro pins s σ H xs us Q I r h
 obtain⟨ι,S,ds,st,hd,p⟩:=h
 obtain⟨d,rfl,p⟩:=yV p
 .skip
  obtain⟨x,rfl,hx⟩:=dens1 hd
  obtain⟨u,rfl,R⟩:=vals1 r
  simp only[one,bSorted]at p
  have f:∀{l:List D},lstOf S d=some l->walkD S d=some l->wpAny (model X.prog X.w) X.A (call (.builtin "sorted") [u]) (EP X pins σ Q) X.xe s:=λ{l} hl hw=>by
   obtain⟨a,xs,rfl,ha,E⟩:=qT st hl hx
   cases R
   rw[hw,wY]at p
   unfold sortL at p
   by_cases c:l.length<64
   .rw [wM c]at p
    cases z:intsOf l with
    |some ns =>
     rw[z]at p
     have:=intsOf_eq z
     subst this
     exact qdz I st ha E (by simpa using c) p
    |none =>
     rw[z]at p
     cases z2:tupsOf l with
     |none=>simp only[z2,xK]at p;exact p.elim
     |some ks =>
      simp only[z2,wY]at p
      by_cases i:ks.Nodup/\∀t∈ks,t≠[]
      .rw [wM i]at p
       obtain⟨vs,L,_,n⟩:=qeZ I ha
       exact zu I st C E L z2 c i.1 i.2 (n _) p
      .rw [wL i]at p;exact p.elim
   .rw [wL c]at p;exact p.elim
  cases d with
  |lst l=>exact f rfl rfl
  |ref k =>
   cases z:S[k]? with
   |none=>simp only[walkD,z,xK]at p;exact p.elim
   |some so =>
    cases so with
    |lst l=>exact f (by unfold lstOf;dsimp only;rw[z]) (by unfold walkD;dsimp only;rw[z])
    |dis l=>simp only[walkD,z,xK]at p;exact p.elim
    |dic l =>
     obtain⟨a,rfl,ha⟩:=hx
     cases R
     obtain⟨_,kvs,e1,dk⟩:=st.obj k a _ ha z
     obtain⟨hz,lo,ys,J,o,es,ep,U,ex,W,Y,Z⟩:=I.hok a _ e1
     simp only[walkD,z,wY]at p
     have keys:∀{l:List (List Int×D)} {kvs:List (List Key×V)} {ys:List (List Key×Addr×Value)},DGs keyT ι H l kvs->Paired (λ(p:List Key×V) (q:List Key×Addr×Value)=>p.1=q.1/\H q.2.1=some (.tup (p.1.map kV))/\RelV p.2 q.2.2) kvs ys ->
       Dens ι H (l.map λp=>tupI p.1) (ys.map λq=>V.ref q.2.1):=λ{l}=>by
      induction l with
      |nil=>intro kvs ys M N;cases (show kvs=[]from M);cases N;rfl
      |cons q l K =>
       intro kvs ys M N
       obtain⟨v,r',rfl,_,a0⟩:=M
       cases N with
       |cons y t =>
        rename_i q2 a1
        obtain⟨ya,O,yc⟩:=y
        refine⟨_,_,rfl,⟨q2.2.1,_,rfl,λhm=>?_,O,?_⟩,K a0 t⟩
        .obtain ⟨j,hj,ej⟩:=vG hm
         have hs:j<S.length:=by rw[<-st.len];exact hj
         have F:=st.obj j _ S[j] (by rw[wD hj,ej]) (wD hs)
         cases e:S[j]with
         |lst _=>rw[e]at F;obtain⟨_,_,B,_⟩:=F;rw[O]at B;cases B
         |dic _=>rw[e]at F;obtain⟨_,_,B,_⟩:=F;rw[O]at B;cases B
         |dis _=>rw[e]at F;obtain⟨_,_,B,_⟩:=F;rw[O]at B;cases B
        .show Dens ι H (q.1.map .int) ((keyT q.1).map kV)
         unfold keyT
         rw[wq]
         have:∀P:List Int,Dens ι H (P.map .int) (P.map (kV∘Sum.inl)):=λP=>by
          induction P with
          |nil=>rfl
          |cons x r K=>exact⟨_,_,rfl,rfl,K⟩
         exact this _
     have E:=keys dk J
     have L:Vals (ys.map λq=>V.ref q.2.1) (ys.map λq=>Value.ref q.2.1):=by
      clear J Y E Z
      induction ys with
      |nil=>exact .nil
      |cons q r K=>exact .cons rfl K
     have ev:es.toList.map (·.key)=ys.map λq=>Value.ref q.2.1:=by rw[Y,wq];rfl
     have hsz:es.size<=sizeLine:=by
      have M:es.toList.length=ys.length:=by rw[Y];simp
      have N:kvs.length=ys.length:=Paired.length J
      have:es.size=es.toList.length:=by simp
      lia
     have n:∀(E':Value->Shared->Prop) (Q':List Value->Shared->Prop),(∀(h':Heap) (tk:Nat),s.heap.objs.size<=h'.objs.size->(∀b o,s.heap.get? b=some o->h'.get? b=some o)->Q' (ys.map λq=>Value.ref q.2.1) {s with heap:=h',toks:=tk})->wpAny (model X.prog X.w) X.A.in1 (collect (.ref a)) Q' E' s:=λE' Q' hq =>
      j7 (A:=X.A.in1) (I.ok.hd C) lo ⟨o,U,ex,W⟩ hsz (by rw[ev];exact hq)
     unfold sortL at p
     by_cases c:(l.map λp=>tupI p.1).length<64
     .rw [wM c]at p
      cases z1:intsOf (l.map λp=>tupI p.1)with
      |some ns =>
       rw[z1]at p
       cases l with
       |nil =>
        cases z1
        exact zu (ks:=[]) I st C E L rfl (by simp) (by simp) (by simp) n p
       |cons q l=>cases z1
      |none =>
       rw[z1]at p
       cases z2:tupsOf (l.map λp=>tupI p.1)with
       |none=>simp only[z2,xK]at p;exact p.elim
       |some ks =>
        simp only[z2,wY]at p
        by_cases i:ks.Nodup/\∀t∈ks,t≠[]
        .rw [wM i]at p
         exact zu I st C E L z2 c i.1 i.2 n p
        .rw [wL i]at p;exact p.elim
     .rw [wL c]at p;exact p.elim
  |emp =>
   obtain⟨a,rfl,_,ha⟩:=hx
   cases R
   obtain⟨hz,lo,ys,J,o,es,ep,U,ex,W,eK,eP,_⟩:=I.hok a _ ha
   cases J
   have e0:es.toList.map (·.key)=[]:=by
    cases eP' :es.toList with
    |nil=>rfl
    |cons q r=>rw[eP']at eP;cases eP
   have hsz:es.size<=sizeLine:=by
    have:es.toList=[]:=by simpa using e0
    have:es.size=es.toList.length:=by simp
    simp_all
   simp only[walkD,wY]at p
   refine zu (l:=[]) (ks:=[]) (xs:=[]) (vs:=[]) I st C rfl .nil rfl (by simp) (by simp) (by simp) (λE' Q' hq=>j7 (A:=X.A.in1) (I.ok.hd C) lo ⟨o,U,ex,W⟩ hsz (by rw[e0];exact hq)) p
  |_=>exact p.elim
end
end R
namespace R
open PySem PySem.Spec L2 SeqAt
open PyProof.Rows hiding St
noncomputable def CEs.len:CEs->Nat
 | .nil=>0
 | .cons _ r=>r.len+1
theorem qay{F:Fs}:∀{es:CEs} {ρ:En} {S:Sr} {l:List D} {a:Sr},evs F es ρ S=.ok l a->l.length=es.len
 | .nil,_,_,_,_,h=>by cases h;rfl
 | .cons e r,ρ,S,l,a,h=>by
  unfold evs at h
  cases z:ev F e ρ S with
  |no=>rw[z]at h;cases h
  |err=>rw[z]at h;cases h
  |ok x S1 =>
   rw[z,Res.bind_ok]at h
   cases z2:evs F r ρ S1 with
   |no=>rw[z2]at h;cases h
   |err=>rw[z2]at h;cases h
   |ok b S2 =>
    rw[z2,Res.bind_ok]at h
    cases h
    show b.length+1=r.len+1
    rw[qay z2]
noncomputable def CTs.len:CTs->Nat
 | .nil=>0
 | .cons _ r=>r.len+1
theorem qbo{F:Fs}:∀{ts:CTs} {l:List D} {ρ:En} {S:Sr} {a:En} {b:Sr},asgs F ts l ρ S=.ok a b->l.length=ts.len
 | .nil,[],_,_,_,_,_=>rfl
 | .nil,_::_,_,_,_,_,h=>by unfold asgs at h;cases h
 | .cons t r,[],_,_,_,_,h=>by unfold asgs at h;cases h
 | .cons t r,d::l,ρ,S,a,b,h=>by
  unfold asgs at h
  dsimp only at h
  cases z:asg F t d ρ S with
  |no=>rw[z]at h;cases h
  |err=>rw[z]at h;cases h
  |ok ρ1 S1 =>
   rw[z,Res.bind_ok]at h
   show l.length+1=r.len+1
   rw[qbo h]
noncomputable def FnAt(P:Program)(w:World)(K:PySem.W.Frag)(mg:Str->Option Value)(base:Heap)(k:Nat)(F:Fs)(i:Nat)(x:Str)(ps:List Str):Prop :=
 ∃f fd,mg x=some (.ref f)/\PySem.W.keepIn K (.ref f)=true/\Binds K fd ps []/\FnOk P w K mg base CX0 k f fd ps (SpD ps.length (F i))
structure Gb (mg:Str->Option Value):Prop where
 len:mg "len"=none
 range:mg "range"=none
 list:mg "list"=none
 tuple:mg "tuple"=none
 sorted:mg "sorted"=none
 sum:mg "sum"=none
 all:mg "all"=none
 any:mg "any"=none
 zip:mg "zip"=none
 min:mg "min"=none
 max:mg "max"=none
 abs:mg "abs"=none
 divmod:mg "divmod"=none
 isinstance:mg "isinstance"=none
 int:mg "int"=none
 bool:mg "bool"=none
 str:mg "str"=none
 dict:mg "dict"=none
 set:mg "set"=none
theorem Gb.ty{mg:Str->Option Value}(g:Gb mg):∀t:Ty,mg (Str.ofString t.nm)=none
 | .int=>g.int|.bool=>g.bool|.tuple=>g.tuple|.list=>g.list|.str=>g.str|.dict=>g.dict
noncomputable def nodupB:List Str->Bool
 |[]=>true
 |x::r=>!(r.any λy=>y == x)&&nodupB r
theorem zb:∀{l:List Str},nodupB l=true->l.Nodup
 |[],_=>.nil
 |x::r,h=>by
  unfold nodupB at h
  simp only[wP,uH,uF,ve]at h
  exact vz.mpr ⟨λhm=>h.1 x hm rfl,zb h.2⟩
@[irreducible] noncomputable def QE(X:Cx)(e:Expr)(t:TE):Prop:=PE X e t
@[irreducible] noncomputable def QT(X:Cx)(e:Expr)(t:TT):Prop:=PT X e t
@[irreducible] noncomputable def QW(X:Cx)(e:Expr)(t:TT):Prop:=PW X e t
@[irreducible] noncomputable def QA(X:Cx)(e:List Expr)(t:TA):Prop:=PA X e t
@[irreducible] noncomputable def QS(X:Cx)(e:Stmt)(t:TS):Prop:=PS X e t
@[irreducible] noncomputable def QSs(X:Cx)(e:List Stmt)(t:TS):Prop:=PSs X e t
@[irreducible] noncomputable def QG(X:Cx)(e:Expr)(t:L2.TG):Prop:=PG X e t
@[irreducible] noncomputable def QGs(X:Cx)(e:List Expr)(t:L2.TGs):Prop:=PGs X e t
@[irreducible] noncomputable def QI(X:Cx)(tg e:Expr)(t:TI):Prop:=PI X tg e t
@[irreducible] noncomputable def QO(X:Cx)(e:Option Expr)(t:TO):Prop:=PO X e t
@[irreducible] noncomputable def QTl(X:Cx)(e:List Expr)(t:TT):Prop:=PTl X e t
theorem Qpt{X:Cx}{e:Expr}{t:TT}(h:QW X e t):QT X e t:=by delta QW at h;delta QT;exact h.pt
theorem QSs.un{X:Cx}{e:List Stmt}{t:TS}(h:QSs X e t):PSs X e t:=by delta QSs at h;exact h
section
variable{X:Cx}{F:Fs}{pos:Pos}
theorem qc(i:Nat){x:Str}(b:X.N[i]?=some x:=by rfl)(c:Vis X.env.scope x:=by first|exact Or.inl rfl|exact Or.inr (Or.inl rfl)|exact Or.inr (Or.inr rfl))(hd:(x == ("__debug__":Str))=false:=by decide)(a:(x == ("__classdict__":Str))=false:=by decide):QE X (.Name x pos) (T (ev F (.var i))):=by
 delta QE;exact(qi1 (qhi b c hd a))
theorem qj{n:Int}{j}:QE X (.Constant (.int n) j pos) (T (ev F (.cst (.int n)))):=by
 delta QE;exact(qek qhj λ_ _=>rfl)
theorem qJ{b:Bool}{j}:QE X (.Constant (.bool b) j pos) (T (ev F (.cst (.bl b)))):=by
 delta QE;exact(qek qiM λ_ _=>rfl)
theorem jz{x:Str}{n:Int}{t:Tok}(hm:X.mg x=some (.int n t))(a:Gl X x:=by rfl)(hd:(x == ("__debug__":Str))=false:=by decide):QE X (.Name x pos) (T (ev F (.cst (.int n)))):=by
 delta QE;exact(qhN (qfO (v:=.int n) a hm ⟨t,rfl⟩ hd) λ_ _=>rfl)
theorem qo(o:BOp){a b:Expr}{c d:CE}(ha:QE X a (T (ev F c)))(e:QE X b (T (ev F d))):QE X (.BinOp a (opOf o) b pos) (T (ev F (.bin o c d))):=by
 delta QE;delta QE at ha;delta QE at e;exact(qi3 (qge o) ha e)
theorem jA(o:COp){k:Nat}{a b:Expr}{c d:CE}(f:Room k X.A)(ha:QE X a (T (ev F c)))(e:QE X b (T (ev F d)))(hm:behindInMarks (cOf o) b=false:=by rfl):QE X (.Compare a [cOf o] [b] pos) (T (ev F (.cmp o c d))):=by
 delta QE;delta QE at ha;delta QE at e;exact(qi4 (yi o (by have:=f.un;lia)) ha e hm)
theorem qgJ(o o':COp){k:Nat}{a b c:Expr}{d e f:CE}(h:Room k X.A)(ha:QE X a (T (ev F d)))(i:QE X b (T (ev F e)))(j:QE X c (T (ev F f)))(hm:lastMarks [cOf o,cOf o'] [b,c]=false:=by rfl):
  QE X (.Compare a [cOf o,cOf o'] [b,c] pos) (T (ev F (.chain o o' d e f))):=by
 delta QE;delta QE at ha;delta QE at i;delta QE at j;exact(qgj (yi o (by have:=h.un;lia)) (yi o' (by have:=h.un;lia)) ha i j hm)
theorem y1{a:Expr}{t:TE}(ha:QE X a t):QE X (.BoolOp .And [a] pos) t:=by
 delta QE;delta QE at ha;exact(qhn ha)
theorem j8{a b:Expr}{rest:List Expr}{c d:CE}(ha:QE X a (T (ev F c)))(e:QE X (.BoolOp .And (b::rest) pos) (T (ev F d))):QE X (.BoolOp .And (a::b::rest) pos) (T (ev F (.and c d))):=by
 delta QE;delta QE at ha;delta QE at e;exact(qi6 ha e)
theorem qg3{a:Expr}{b:CE}(ha:QE X a (T (ev F b))):QE X (.UnaryOp .Not a pos) (T (ev F (.not b))):=by
 delta QE;delta QE at ha;exact(qi7 ha)
theorem qe :QA X [] (TL (evs F .nil)):=by
 delta QA;exact(qi2)
theorem qb{e:Expr}{es:List Expr}{c:CE}{cs:CEs}(a:QE X e (T (ev F c)))(b:QA X es (TL (evs F cs)))(d:starEach (e::es) X.env=(false,eval e X.env)::starEach es X.env:=by rfl):QA X (e::es) (TL (evs F (.cons c cs))):=by
 delta QA;delta QE at a;delta QA at b;exact(qhO a b d)
theorem jB{es:List Expr}{k:Nat}{cs:CEs}(h:QA X es (TL (evs F cs))):QE X (.Tuple es k pos) (T (ev F (.tup cs))):=by
 delta QE;delta QA at h;exact(qi8 h)
theorem y8(m:Bool){es:List Expr}{cs:CEs}(h:QA X es (TL (evs F cs))):QE X (.List es pos) (T (ev F (.lst m cs))):=by
 delta QE;delta QA at h;exact(qi9 h)
theorem qjB(m:Bool):QE X (.Dict [] [] pos) (T (ev F (.dic m))):=by
 delta QE;exact(qja)
theorem qg{k i:Nat}{x:Str}{ps:List Str}{e:Expr}{es:List Expr}{cs:CEs}{p:Pos}(h:FnAt X.prog X.w X.K X.mg X.base k F i x ps)(c:Room k X.A)(ha:QA X (e::es) (TL (evs F cs)))(d:Gl X x:=by rfl)(j:cs.len=ps.length:=by rfl)(a:(x == ("__debug__":Str))=false:=by decide)(m:starEach (e::es) X.env=(false,eval e X.env)::starEach es X.env:=by rfl)(b:(backTo pos (starEach es X.env)).any (·.1)=false:=by rfl):QE X (.Call (.Name x p) (e::es) [] pos) (T (ev F (.call i cs))):=by
 delta QE;delta QA at ha
 obtain⟨f,fd,hm,n,o,q⟩:=h
 exact qhV q c d hm n o pass0 ha (λρ S l r z=>(qay z).trans j) a m b
theorem yF(b:Blt){x:Str}{id:String}{e:Expr}{es:List Expr}{cs:CEs}{p:Pos}(d:CallR X (.builtin id) (Gn (bltD b)))(hm:X.mg x=none)(f:bootBuiltins x=some (.builtin id))(ha:PA X (e::es) (TL (evs F cs)))(h:Gl X x:=by rfl)(hn:x≠"__name__":=by decide)(a:(x == ("__debug__":Str))=false:=by decide)(i:starEach (e::es) X.env=(false,eval e X.env)::starEach es X.env:=by rfl)(c:(backTo pos (starEach es X.env)).any (·.1)=false:=by rfl):PE X (.Call (.Name x p) (e::es) [] pos) (T (ev F (.blt b cs))):=qgn d h hm f ha hn a i c
theorem qjC(b:Blt){x:Str}{ty:String}{e:Expr}{es:List Expr}{cs:CEs}{p:Pos}(d:CallR X (.type ty) (Gn (bltD b)))(hm:X.mg x=none)(f:bootBuiltins x=some (.type ty))(ha:PA X (e::es) (TL (evs F cs)))(h:Gl X x:=by rfl)(hn:x≠"__name__":=by decide)(a:(x == ("__debug__":Str))=false:=by decide)(i:starEach (e::es) X.env=(false,eval e X.env)::starEach es X.env:=by rfl)(c:(backTo pos (starEach es X.env)).any (·.1)=false:=by rfl):PE X (.Call (.Name x p) (e::es) [] pos) (T (ev F (.blt b cs))):=qet d h hm f ha hn a i c
theorem jC(t:Ty){a:Expr}{f:CE}{p b:Pos}(gb:Gb X.mg)(ha:QE X a (T (ev F f)))(h:Gl X "isinstance":=by rfl)(c:Gl X (Str.ofString t.nm):=by rfl)(i:starEach [a,.Name (Str.ofString t.nm) b] X.env=(false,eval a X.env)::starEach [.Name (Str.ofString t.nm) b] X.env:=by rfl)(d:starEach [.Name (Str.ofString t.nm) b] X.env=(false,eval (.Name (Str.ofString t.nm) b) X.env)::starEach [] X.env:=by rfl)(e:(backTo pos (starEach [.Name (Str.ofString t.nm) b] X.env)).any (·.1)=false:=by rfl):
  QE X (.Call (.Name "isinstance" p) [a,.Name (Str.ofString t.nm) b] [] pos) (T (ev F (.isi t f))):=by
 delta QE;delta QE at ha;exact(qjc h gb.isinstance c (gb.ty t) ha i d e)
theorem qjD{o e:Expr}{co i:CE}{b:Pos}(j:QE X o (T (ev F co)))(l:QE X e (T (ev F i)))(h:starEach [e] X.env=(false,eval e X.env)::starEach [] X.env:=by rfl)(c:attributeBase o "pop" X.env (eval o X.env)=eval o X.env:=by rfl)(d:(b.endLine == pos.line)=true:=by rfl)(f:((backTo pos (starEach [e] X.env)).all (λx=>!x.1)&&(backToKw pos (keywordEach [] X.env)).all (λx=>x.1.isSome)&&decide ([e].length+([]:List Keyword).length+(if([]:List Keyword).isEmpty then 0 else 1)<30))=true:=by rfl)(a:(backTo pos (starEach [] X.env)).any (·.1)=false:=by rfl):QE X (.Call (.Attribute o "pop" b) [e] [] pos) (T (ev F (.popAt co i))):=by
 delta QE;delta QE at j;delta QE at l;exact(qhX PySem.F.slot_list_pop PySem.F.type_list_pop qd1 (λι S x y v u H Q st hx m p=>qjl st hx m p) j l h c d f a)
theorem qU{k:Nat}{a b:Expr}{c d:CE}(f:Room k X.A)(ha:QE X a (T (ev F c)))(e:QE X b (T (ev F d)))(h:PlainIx b:=by exact λ_ _=>rfl):QE X (.Subscript a b pos) (T (ev F (.idx c d))):=by
 delta QE;delta QE at ha;delta QE at e;exact(qjb (qg1 f) ha e h)
theorem k_on :QO X none (TOp (evO F .none)):=by
 delta QO;exact(qes)
theorem k_os{e:Expr}{c:CE}(h:QE X e (T (ev F c))):QO X (some e) (TOp (evO F (.some c))):=by
 delta QO;delta QE at h;exact(qer h)
theorem qg4{e:Expr}{lo hi:Option Expr}{f:Pos}{c:CE}{cl ch:CO}(a:QE X e (T (ev F c)))(b:QO X lo (TOp (evO F cl)))(d:QO X hi (TOp (evO F ch))):QE X (.Subscript e (.Slice lo hi none f) pos) (T (ev F (.slc c cl ch))):=by
 delta QE;delta QE at a;delta QO at b;delta QO at d;exact(qjd a b d)
theorem qif(m:Bool){a:Expr}{es:List Expr}{cs:CEs}{e f b:Pos}(gb:Gb X.mg)(ha:QA X (a::es) (TL (evs F cs)))(h:X.calm=true:=by rfl)(i:Gl X "range":=by rfl)(c:Gl X "list":=by rfl)(j:starEach (a::es) X.env=(false,eval a X.env)::starEach es X.env:=by rfl)(d:(backTo b (starEach es X.env)).any (·.1)=false:=by rfl):QE X (.Call (.Name "list" e) [.Call (.Name "range" f) (a::es) [] b] [] pos) (T (ev F (.rng (some m) cs))):=by
 delta QE;delta QA at ha;exact(qjy (k:=some m) (.inl ⟨rfl,rfl,m,rfl⟩) h i gb.range c gb.list ha j d)
theorem qX{e:Expr}{c:CE}(h:QE X e (T (ev F c)))(b:∀a,isTrue e X.env a=(do let v <-a;standAt e.pos;holding [v] (truthy v)):=by intro _;rfl):QT X e (TB (tst F (.val c))):=by
 delta QT;delta QE at h;exact(qhQ h b)
theorem qZ(o:COp){k:Nat}{a b:Expr}{c d:CE}(f:Room k X.A)(ha:QE X a (T (ev F c)))(e:QE X b (T (ev F d)))(hm:behindInMarks (cOf o) b=false:=by rfl):QT X (.Compare a [cOf o] [b] pos) (TB (tst F (.val (.cmp o c d)))):=by
 delta QT;delta QE at ha;delta QE at e;exact(qhR (yi o (by have:=f.un;lia)) ha e hm)
theorem qgK(o o':COp){k:Nat}{a b c:Expr}{d e f:CE}(h:Room k X.A)(ha:QE X a (T (ev F d)))(i:QE X b (T (ev F e)))(j:QE X c (T (ev F f)))(hm:lastMarks [cOf o,cOf o'] [b,c]=false:=by rfl):
  QT X (.Compare a [cOf o,cOf o'] [b,c] pos) (TB (tst F (.val (.chain o o' d e f)))):=by
 delta QT;delta QE at ha;delta QE at i;delta QE at j;exact(qeo (yi o (by have:=h.un;lia)) (yi o' (by have:=h.un;lia)) ha i j hm)
theorem zv{a:Expr}{b:CB}(ha:QT X a (TB (tst F b))):QT X (.UnaryOp .Not a pos) (TB (tst F (.not b))):=by
 delta QT;delta QT at ha;exact(qhT ha)
theorem qb7{a:Expr}{t:TT}(ha:QT X a t):QW X (.BoolOp .And [a] pos) t:=by
 delta QW;delta QT at ha;exact(qfQ ha)
theorem jD{a:Expr}{t:TT}(ha:QT X a t):QW X (.BoolOp .Or [a] pos) t:=by
 delta QW;delta QT at ha;exact(qhk ha)
theorem qe1{a b:Expr}{rest:List Expr}{c d:CB}(ha:QT X a (TB (tst F c)))(e:QW X (.BoolOp .And (b::rest) pos) (TB (tst F d))):QW X (.BoolOp .And (a::b::rest) pos) (TB (tst F (.and c d))):=by
 delta QW;delta QT at ha;delta QW at e;exact(qhS ha e)
theorem w_or{a b:Expr}{rest:List Expr}{c d:CB}(ha:QT X a (TB (tst F c)))(e:QW X (.BoolOp .Or (b::rest) pos) (TB (tst F d))):QW X (.BoolOp .Or (a::b::rest) pos) (TB (tst F (.or c d))):=by
 delta QW;delta QT at ha;delta QW at e;exact(qi5 ha e)
theorem qN :QTl X [] (TB (tsts F .nil)):=by
 delta QTl;exact(qh5)
theorem jE{c:Expr}{ifs:List Expr}{a:CB}{cs:CBs}(b:QT X c (TB (tst F a)))(d:QTl X ifs (TB (tsts F cs))):QTl X (c::ifs) (TB (tsts F (.cons a cs))):=by
 delta QTl;delta QT at b;delta QTl at d;exact(qgt b d)
theorem qV{tg e:Expr}{c:CE}(h:QE X e (T (ev F c))):QI X tg e (TIt (evI F (.seq c))):=by
 delta QI;delta QE at h;exact(qjt h)
theorem jF{tg a:Expr}{es:List Expr}{cs:CEs}{p:Pos}(gb:Gb X.mg)(ha:QA X (a::es) (TL (evs F cs)))(c:Gl X "range":=by rfl)(d:starEach (a::es) X.env=(false,eval a X.env)::starEach es X.env:=by rfl)(b:(backTo pos (starEach es X.env)).any (·.1)=false:=by rfl):
  QI X tg (.Call (.Name "range" p) (a::es) [] pos) (TIt (evI F (.rng cs))):=by
 delta QI;delta QA at ha;exact(i_rng c gb.range ha d b)
theorem qjE{es:List Expr}{n:Nat}{e:Pos}{e1 a:Expr}{c1 c2:CE}{p:Pos}(gb:Gb X.mg)(c:QE X e1 (T (ev F c1)))(d:QE X a (T (ev F c2)))(f:Gl X "zip":=by rfl)(h:starEach [e1,a] X.env=(false,eval e1 X.env)::starEach [a] X.env:=by rfl)(b:starEach [a] X.env=(false,eval a X.env)::starEach [] X.env:=by rfl):QI X (.Tuple es n e) (.Call (.Name "zip" p) [e1,a] [] pos) (TIt (evI F (.zip c1 c2))):=by
 delta QI;delta QE at c;delta QE at d;exact(qjA f gb.zip c d h b)
theorem qp(i:Nat){x:Str}(a:nodupB X.N=true:=by rfl)(hi:X.N[i]?=some x:=by rfl)(hx:Loc X.env.scope x:=by first|exact Or.inl rfl|exact Or.inr rfl)(b:X.fn x=true\/X.env.scope.names.lookup x=some .local:=by first|exact .inl rfl|exact .inr rfl):QG X (.Name x pos) (TGt (asg F (.var i))):=by
 delta QG;exact(qjn (qfT (zb a) hi hx b))
theorem yG :QGs X [] (TGts (asgs F .nil)):=by
 delta QGs;exact(qjo)
theorem qK{e:Expr}{es:List Expr}{c:CT}{cs:CTs}(a:QG X e (TGt (asg F c)))(b:QGs X es (TGts (asgs F cs)))(d:(assignEach (e::es) X.env).map (·.2)=assign e X.env::(assignEach es X.env).map (·.2):=by rfl):QGs X (e::es) (TGts (asgs F (.cons c cs))):=by
 delta QGs;delta QG at a;delta QGs at b;exact(qhY a b d)
theorem yH{es:List Expr}{k:Nat}{cs:CTs}(h:QGs X es (TGts (asgs F cs)))(b:X.calm=true:=by rfl)(hn:(assignEach es X.env).length=cs.len:=by rfl)(a:(assignEach es X.env).findIdx? (·.1)=none:=by rfl):QG X (.Tuple es k pos) (TGt (asg F (.tup cs))):=by
 delta QG;delta QGs at h;exact(qjp b h hn a λl ρ S c d z=>qbo z)
theorem qg5{k:Nat}{o i:Expr}{co c:CE}(e:Room k X.A)(d:QE X o (T (ev F co)))(hi:QE X i (T (ev F c)))(ha:∀v,assign (.Subscript o i pos) X.env v=(do
   let a <-holding [v] (eval o X.env)
   let b <-holding [v,a] (eval i X.env)
   standAt pos
   holding [v,a,b] (setItem a b v)
   release [v,a,b] []):=by intro _;rfl):QG X (.Subscript o i pos) (TGt (asg F (.sub co c))):=by
 delta QG;delta QE at d;delta QE at hi;exact(qjq (qg1 e) d hi ha)
end
end R
namespace R
open PySem PySem.Spec L2 SeqAt
open PyProof.Rows hiding St
section
variable{X:Cx}{F:Fs}{N:Nat}{pos:Pos}
theorem qh :QSs X [] (TSm (exs F N .nil)):=by
 delta QSs;exact(qjr)
theorem qd{st:Stmt}{rest:List Stmt}{c:CS}{cs:CSs}(a:QS X st (TSm (ex F N c)))(b:QSs X rest (TSm (exs F N cs))):QSs X (st::rest) (TSm (exs F N (.cons c cs))):=by
 delta QSs;delta QS at a;delta QSs at b;exact(qhZ a b)
theorem qaz{e:Expr}{c:CE}(a:QE X e (T (ev F c)))(b:swapsWith e none pos.line X.env=pure false:=by rfl):QS X (.Expr e pos) (TSm (ex F N (.expr c))):=by
 delta QS;delta QE at a;exact(qh0 a b)
theorem ql{e:Expr}{c:CE}(a:QE X e (T (ev F c))):QS X (.Return (some e) pos) (TSm (ex F N (.ret c))):=by
 delta QS;delta QE at a;exact(qjs a)
theorem qaA{st:Stmt}:QS X st (TSm (ex F N .never)):=by
 delta QS;exact(qgq)
theorem z_if{c:Expr}{a b:List Stmt}{d:CB}{e f:CSs}(h:QT X c (TB (tst F d)))(ha:QSs X a (TSm (exs F N e)))(i:QSs X b (TSm (exs F N f))):QS X (.If c a b pos) (TSm (ex F N (.ifs d e f))):=by
 delta QS;delta QT at h;delta QSs at ha;delta QSs at i;exact(s_if h ha i)
theorem qbp{tg e:Expr}{c:CE}{t:CT}(a:QE X e (T (ev F c)))(b:QG X tg (TGt (asg F t)))(d:swapsWithSole [tg] e pos.line X.env=pure false:=by rfl)(f:swappedStores [tg] e X.env=pure none:=by rfl)(h:(assignEach [tg] X.env).map (·.2)=[assign tg X.env]:=by rfl):
  QS X (.Assign [tg] e pos) (TSm (ex F N (.set t c))):=by
 delta QS;delta QE at a;delta QG at b;exact(qg2 (qht a b d f h))
theorem qR(i:Nat){x:Str}{e:Expr}{c:CE}{a:Pos}(n:QE X e (T (ev F c)))(q:nodupB X.N=true:=by rfl)(hi:X.N[i]?=some x:=by rfl)(hx:Loc X.env.scope x:=by first|exact Or.inl rfl|exact Or.inr rfl)(r:swapsWith e (some (.Name x a)) pos.line X.env=pure false:=by rfl)(s:X.fn x=true\/X.env.scope.names.lookup x=some .local:=by first|exact .inl rfl|exact .inr rfl):QS X (.Assign [.Name x a] e pos) (TSm (ex F N (.set (.var i) c))):=by
 delta QS;delta QE at n
 refine qg2 (g:=λd ρ S=>.ok (ρ.set i (some d)) S) (PSimp (qhu (zb q) hi hx n r s) λD C H u=>?_)
 obtain⟨ι,S,ρ,w,st,p⟩:=u
 refine⟨ι,S,ρ,w,st,?_⟩
 cases z:ev F c ρ S with
 |no=>rw[z]at p;exact p
 |err=>rw[z]at p;exact p
 |ok d S1 =>
  rw[z]at p
  intro v b o s1 f y
  obtain⟨h,S2,A,d2,j,l,m,B⟩:=p v b o s1 f y
  exact B _ h o (Stp.refl _ _) l (j.set m)
theorem qbq{tg iter:Expr}{body:List Stmt}{it:CI}{t:CT}{a:CSs}(hi:QI X tg iter (TIt (evI F it)))(b:QG X tg (TGt (asg F t)))(c:QSs X body (TSm (exs F N a)))(d:PassesOwn (model X.prog X.w) X.A X.env X.xe:=by exact PassesOwn.never)(e:X.calm=true:=by rfl)(f:∀x,foldedSetIterable iter X.env x=pure x:=by intro _;rfl):QS X (.For tg iter body [] pos) (TSm (ex F N (.forS t it a))):=by
 delta QS;delta QI at hi;delta QG at b;delta QSs at c;exact(qju d e hi b c f)
theorem qgL{c:Expr}{body:List Stmt}{a:CB}{b:CSs}(d:QT X c (TB (tst F a)))(e:QSs X body (TSm (exs F N b)))(f:PassesOwn (model X.prog X.w) X.A X.env X.xe:=by exact PassesOwn.never):QS X (.While c body [] pos) (TSm (ex F N (.whileS a b))):=by
 delta QS;delta QT at d;delta QSs at e;exact(qgr f d e)
noncomputable def cscB(O:List (Str×NameKind))(N':List Str)(sc:Scope)(fr:List Nat)(xs ts:List Str):Bool :=
 (sc.kind == .function)&&sc.names.all (λy=>y.2 != .cell)&&sc.names.all (λy=>y.2 != .local || sc.names.lookup y.1 == some .local)&&sc.names.all (λy=>y.2 != .free || O.lookup y.1 == some .cell || O.lookup y.1 == some .free) &&
 decide (fr.length=xs.length)&&(fr.zip xs).all (λp=>N'[p.1]? == some p.2)&&xs.all (λx=>sc.names.lookup x == some .free&&(O.lookup x == some .cell || O.lookup x == some .free))&&ts.all (λx=>sc.names.lookup x == some .local)&&decide (xs++ts).Nodup
theorem qb8{sc:Scope}{fr:List Nat}{xs ts:List Str}(h:cscB X.env.scope.names X.N sc fr xs ts=true):CSc X sc fr xs ts:=by
 unfold cscB at h
 simp only[wP,vf,xX,xZ,ve,wy]at h
 obtain⟨⟨⟨⟨⟨⟨⟨⟨b,c⟩,d⟩,e⟩,f⟩,l⟩,m⟩,n⟩,o⟩:=h
 refine⟨b,c,λy a p=>?_,λy a q=>?_,⟨f,λi j x e1 r=>?_,m,n,o⟩⟩
 .rcases d y a with z|z
  .exact absurd p z
  .exact z
 .rcases e y a with (z|z)|z
  .exact absurd q z
  .exact .inl z
  .exact .inr z
 .have hm:(j,x)∈fr.zip xs:=by
   apply wm (i:=i)
   rw[uu]
   exact⟨e1,r⟩
  exact l (j,x) hm
theorem zg{k:Nat}{sc:Scope}{cl:List (Str×Addr)}{C:Addr}{code:Value}{N':List Str}{fp:List Addr}{tg elt iter:Expr}{ifs:List Expr}{a:Pos}{it:Addr}{o:Addr×Obj}{s:Shared}{H:Hp}(r:Room (k+1) X.A):
  Room k (genCx X sc cl C code N' fp (.GeneratorExp elt [⟨tg,iter,ifs,0⟩] sc a) it o s H).A:=by
 have c:=r.hd
 have d:=r.dp
 have e:=r.un
 refine⟨c,?_,?_⟩
 .show X.A.depth+frameCount ([].map Frame.where_)+Code.weight _+3*k+5<_
  have:Code.weight (.compLoop (.GeneratorExp elt [⟨tg,iter,ifs,0⟩] sc a) 0 (.ref it) .none (genEnv sc cl C code builtinsNs X.env))<=1:=Nat.le_of_ble_eq_true rfl
  have b:frameCount (([]:List Frame).map Frame.where_)=0:=rfl
  rw[b]
  lia
 .show X.A.units+1+1+1+1+1+unitsOf ([].map Frame.where_)+Code.cUnits _+16*k+200<_
  have:Code.cUnits (.compLoop (.GeneratorExp elt [⟨tg,iter,ifs,0⟩] sc a) 0 (.ref it) .none (genEnv sc cl C code builtinsNs X.env))<=3:=Nat.le_of_ble_eq_true rfl
  have b:unitsOf (([]:List Frame).map Frame.where_)=0:=rfl
  rw[b]
  lia
theorem k_lc(m:Bool)(fr:List Nat)(xs ts:List Str){tg elt iter:Expr}{ifs:List Expr}{sc:Scope}{t:CT}{it:CI}{a:CBs}{b:CE}(hi:QI X tg iter (TIt (evI F it)))(rt:∀cl C fp s H,QG (compCx X sc cl C (xs++ts) fp s H) tg (TGt (asg F t)))(ri:∀cl C fp s H,QTl (compCx X sc cl C (xs++ts) fp s H) ifs (TB (tsts F a)))(re:∀cl C fp s H,QE (compCx X sc cl C (xs++ts) fp s H) elt (T (ev F b)))(c:X.calm=true:=by rfl)(d:∀x,foldedSetIterable iter X.env x=pure x:=by intro _;rfl)(h:cscB X.env.scope.names X.N sc fr xs ts=true:=by rfl):QE X (.ListComp elt [⟨tg,iter,ifs,0⟩] sc pos) (T (ev F (.lc m fr ts.length b t it a))):=by
 delta QE;delta QI at hi;delta QG at rt;delta QTl at ri;delta QE at re;exact(r_lc c hi d (qb8 h) ⟨rt,ri,re⟩)
theorem qaB(i:Nat)(m:Bool)(fr:List Nat)(xs ts:List Str){tg elt iter:Expr}{ifs:List Expr}{sc:Scope}{t:CT}{it:CI}{c:CBs}{d:CE}{y:Str}{e a:Pos}(hi:QI X tg iter (TIt (evI F it)))(rt:∀cl C fp s H,QG (compCx X sc cl C (xs++ts) fp s H) tg (TGt (asg F t)))(ri:∀cl C fp s H,QTl (compCx X sc cl C (xs++ts) fp s H) ifs (TB (tsts F c)))(re:∀cl C fp s H,QE (compCx X sc cl C (xs++ts) fp s H) elt (T (ev F d)))(f:X.calm=true:=by rfl)(j:∀x,foldedSetIterable iter X.env x=pure x:=by intro _;rfl)(h:cscB X.env.scope.names X.N sc fr xs ts=true:=by rfl)(l:nodupB X.N=true:=by rfl)(n:X.N[i]?=some y:=by rfl)(o:X.env.scope.names.lookup y=some .local:=by rfl)(b:swapsWith (.ListComp elt [⟨tg,iter,ifs,0⟩] sc pos) (some (.Name y e)) a.line X.env=pure true:=by rfl):
  QS X (.Assign [.Name y e] (.ListComp elt [⟨tg,iter,ifs,0⟩] sc pos) a) (TSm (ex F N (.set (.var i) (.lc m fr ts.length d t it c)))):=by
 delta QS;delta QI at hi;delta QG at rt;delta QTl at ri;delta QE at re;exact(qgu f hi j (qb8 h) ⟨rt,ri,re⟩ (zb l) n o b)
theorem qg6(w:GW)(fr:List Nat)(xs ts:List Str){id:String}{f:Str}{p d:Pos}{tg elt iter:Expr}{ifs:List Expr}{sc:Scope}{k:Nat}{c T':Addr}{t:CT}{it:CI}{l:CBs}{m:CE}(n:Room k X.A)(q:GCall X w (.builtin id))(hm:X.mg f=none)(r:bootBuiltins f=some (.builtin id))(a:X.env.code=.ref c)(b:codeTab X.K c T'=true)(hi:PI X tg iter (TIt (evI F it)))(rt:∀cl C code fp it o s H,PG (genCx X sc cl C code (xs++ts) fp (.GeneratorExp elt [⟨tg,iter,ifs,0⟩] sc d) it o s H) tg (TGt (asg F t)))(ri:∀cl C code fp it o s H,PTl (genCx X sc cl C code (xs++ts) fp (.GeneratorExp elt [⟨tg,iter,ifs,0⟩] sc d) it o s H) ifs (TB (tsts F l)))(re:∀cl C code fp it o s H,PE (genCx X sc cl C code (xs++ts) fp (.GeneratorExp elt [⟨tg,iter,ifs,0⟩] sc d) it o s H) elt (T (ev F m)))(u:X.calm=true:=by rfl)(e:Gl X f:=by rfl)(hn:f≠"__name__":=by decide)(i:(f == ("__debug__":Str))=false:=by decide)(v:∀x,genFold iter X.env x=pure x:=by intro _;rfl)(h:cscB X.env.scope.names X.N sc fr xs ts=true:=by rfl)(hz:sc.names.lookup (".0":Str)=some NameKind.local:=by rfl)(j:sc.isCoroutine=false:=by rfl):PE X (.Call (.Name f p) [.GeneratorExp elt [⟨tg,iter,ifs,0⟩] sc d] [] pos) (T (ev F (.gen w fr ts.length m t it l))) :=
 qjx u n.depth q e hm r hn i hi v (qb8 h) hz j a b ⟨rt,ri,re⟩
theorem jG(fr:List Nat)(xs ts:List Str){p d:Pos}{tg elt iter:Expr}{ifs:List Expr}{sc:Scope}{k:Nat}{c T':Addr}{t:CT}{it:CI}{j:CBs}{l:CE}(e:Room k X.A)(gb:Gb X.mg)(a:X.env.code=.ref c)(b:codeTab X.K c T'=true)(hi:QI X tg iter (TIt (evI F it)))(rt:∀cl C code fp it o s H,QG (genCx X sc cl C code (xs++ts) fp (.GeneratorExp elt [⟨tg,iter,ifs,0⟩] sc d) it o s H) tg (TGt (asg F t)))(ri:∀cl C code fp it o s H,QTl (genCx X sc cl C code (xs++ts) fp (.GeneratorExp elt [⟨tg,iter,ifs,0⟩] sc d) it o s H) ifs (TB (tsts F j)))(re:∀cl C code fp it o s H,QE (genCx X sc cl C code (xs++ts) fp (.GeneratorExp elt [⟨tg,iter,ifs,0⟩] sc d) it o s H) elt (T (ev F l)))(m:X.calm=true:=by rfl)(f:Gl X "all":=by rfl)(n:∀x,genFold iter X.env x=pure x:=by intro _;rfl)(h:cscB X.env.scope.names X.N sc fr xs ts=true:=by rfl)(hz:sc.names.lookup (".0":Str)=some NameKind.local:=by rfl)(i:sc.isCoroutine=false:=by rfl):QE X (.Call (.Name "all" p) [.GeneratorExp elt [⟨tg,iter,ifs,0⟩] sc d] [] pos) (T (ev F (.gen .all fr ts.length l t it j))):=by
 delta QE;delta QI at hi;delta QG at rt;delta QTl at ri;delta QE at re;exact(qg6 .all fr xs ts e (qh8 m e.depth λ_=>e.hd) gb.all (by decide +kernel) a b hi rt ri re m f (by decide) (by decide) n h hz i)
theorem qb9(fr:List Nat)(xs ts:List Str){p d:Pos}{tg elt iter:Expr}{ifs:List Expr}{sc:Scope}{k:Nat}{c T':Addr}{t:CT}{it:CI}{j:CBs}{l:CE}(e:Room k X.A)(gb:Gb X.mg)(a:X.env.code=.ref c)(b:codeTab X.K c T'=true)(hi:QI X tg iter (TIt (evI F it)))(rt:∀cl C code fp it o s H,QG (genCx X sc cl C code (xs++ts) fp (.GeneratorExp elt [⟨tg,iter,ifs,0⟩] sc d) it o s H) tg (TGt (asg F t)))(ri:∀cl C code fp it o s H,QTl (genCx X sc cl C code (xs++ts) fp (.GeneratorExp elt [⟨tg,iter,ifs,0⟩] sc d) it o s H) ifs (TB (tsts F j)))(re:∀cl C code fp it o s H,QE (genCx X sc cl C code (xs++ts) fp (.GeneratorExp elt [⟨tg,iter,ifs,0⟩] sc d) it o s H) elt (T (ev F l)))(m:X.calm=true:=by rfl)(f:Gl X "sum":=by rfl)(n:∀x,genFold iter X.env x=pure x:=by intro _;rfl)(h:cscB X.env.scope.names X.N sc fr xs ts=true:=by rfl)(hz:sc.names.lookup (".0":Str)=some NameKind.local:=by rfl)(i:sc.isCoroutine=false:=by rfl):QE X (.Call (.Name "sum" p) [.GeneratorExp elt [⟨tg,iter,ifs,0⟩] sc d] [] pos) (T (ev F (.gen .sum fr ts.length l t it j))):=by
 delta QE;delta QI at hi;delta QG at rt;delta QTl at ri;delta QE at re;exact(qg6 .sum fr xs ts e (qh9 m e.depth λ_=>e.hd) gb.sum (by decide +kernel) a b hi rt ri re m f (by decide) (by decide) n h hz i)
end
structure FunT (K:PySem.W.Frag) (x:Str) (st:Stmt) (f:Addr) (fd:FuncData) (c T':Addr):Prop where
 ex:∃(oc:Value) (od:Option Addr) (kV doc pm:Value) (an:Option Addr) (ct:Value) (osl:Array (Option Value)),
  fd=PySem.W.fnOf x x (defArgs st) (defBody st) (defScope st) .none kV doc pm an (.ref c) ct/\K.lookup f=some ⟨oc,od,.func fd,osl⟩/\PySem.W.codeIn K (.ref c) x=true
 tab:codeTab K c T'=true
 kp:PySem.W.keepIn K (.ref f)=true
mutual
theorem Den.frz{ι:List Addr}{H:Hp}{S:Sr}{n:Nat}(st:Sto ι H S):∀(d:D) {d':D} {v:V},R.frz S n d=some d'->Den ι H d v->Den (ι.take n) H d' v
 | .non,d',v,e,h=>by cases e;exact h
 | .bl b,d',v,e,h=>by cases e;exact h
 | .int b,d',v,e,h=>by cases e;exact h
 | .str b,d',v,e,h=>by cases e;exact h
 | .emp,d',v,e,h=>by
  cases e
  obtain⟨a,e1,e2,e3⟩:=h
  exact⟨a,e1,λm=>e2 (vk m),e3⟩
 | .tup l,d',v,e,h=>by
  unfold R.frz at e
  cases z:R.frzs S n l with
  |none=>rw[z]at e;cases e
  |some l' =>
   rw[z]at e;cases e
   obtain⟨a,xs,e1,e2,e3,e4⟩:=h
   exact⟨a,xs,e1,λm=>e2 (vk m),e3,Dens.frz st l z e4⟩
 | .lst l,d',v,e,h=>by
  unfold R.frz at e
  cases z:R.frzs S n l with
  |none=>rw[z]at e;cases e
  |some l' =>
   rw[z]at e;cases e
   obtain⟨a,xs,e1,e2,e3,e4⟩:=h
   exact⟨a,xs,e1,λm=>e2 (vk m),e3,Dens.frz st l z e4⟩
 | .ref m,d',v,e,h=>by
  obtain⟨a,e1,e2⟩:=h
  unfold R.frz at e
  split at e
  .rename_i hm
   cases e
   exact⟨a,e1,by rw[List.getElem?_take];rw[wM hm];exact e2⟩
  .rename_i hm
   split at e
   .rename_i l hl
    split at e
    rotate_left
    .cases e
    rename_i f
    cases e
    obtain⟨_,xs,h1,h2⟩:=st.obj m a _ e2 hl
    refine⟨a,xs,e1,λhmem=>?_,.inl h1,Dens.less l f h2⟩
    obtain⟨i,hi,ei⟩:=List.mem_iff_getElem?.mp hmem |>.elim λi hi=>(⟨i,by
     have:=(wK.mp hi).1
     rw[vA]at this;lia,hi⟩:∃i,i<n/\(ι.take n)[i]?=some a)
    rw[List.getElem?_take,wM hi]at ei
    have hlt:=(wK.mp ei).1
    have:=(List.getElem?_inj hlt st.nd).mp (ei.trans e2.symm)
    lia
   .cases e
theorem Dens.frz{ι:List Addr}{H:Hp}{S:Sr}{n:Nat}(st:Sto ι H S):∀(ds:List D) {ds':List D} {xs:List V},R.frzs S n ds=some ds'->Dens ι H ds xs->Dens (ι.take n) H ds' xs
 |[],ds',xs,e,h=>by cases e;exact h
 |d::r,ds',xs,e,h=>by
  unfold R.frzs at e
  split at e
  .rename_i a b h1 h2
   cases e
   obtain⟨x,t,e1,e2,e3⟩:=h
   exact⟨x,t,e1,Den.frz st d h1 e2,Dens.frz st r h2 e3⟩
  .cases e
end
theorem qgM{F:Fs}{N:Nat}{c:CF}{ns ps:List Str}{vs:List V}{H:Hp}{Q:VK}(o:ps.length=c.np)(hn:ns.length=c.nn)(s:c.np<=c.nn)(h:SpD ps.length (callC F N c) vs H Q E0):TSm (exs F N c.body) {nx:=λ_ H'=>Q .non H',rt:=Q} (start ns vs) H:=by
 obtain⟨r,ι,S,ds,st,l,p⟩:=h
 have m:ds.length=c.np:=by rw[l.length,r,o]
 unfold callC at p
 rw[wM m]at p
 have u:EnR ι H (ds.map some++List.replicate (c.nn-c.np) none) (start ns vs):=by
  unfold L2.start
  have e1:ns.length-vs.length=c.nn-c.np:=by rw[hn,r,o]
  rw[e1]
  refine⟨by simp[l.length],λi d e=>?_⟩
  by_cases hi:i<ds.length
  .rw [wX (by simpa using hi),wW,wD hi]at e
   cases e
   obtain⟨x,w,y⟩:=l.get (wD hi)
   refine⟨x,?_,y⟩
   rw[wX (by rw[wT,<-l.length];exact hi),wW,w];rfl
  .rw [w8 (by simpa using hi),v0]at e
   split at e <;> cases e
 refine⟨ι,S,_,u,st,?_⟩
 have lv:∀{d:D} {S1:Sr},Pst Den (leave c.keeps S.length d S1) ι H Q->∀a H',Stp ι H a H'->Sto a H' S1->∀v,Den a H' d v->Q v H':=by
  intro d S1 q a H' s1 b v j
  unfold leave at q
  split at q
  .exact q v a H' s1 b j
  .split at q
   .exact q v a H' s1 b j
   .split at q
    .rename_i A
     have e:=s1.take_eq
     have n:ι.length=S.length:=st.len
     refine q v (a.take S.length) H' (by rw[<-n];exact s1.less) (b.less _) (Den.less d A j)
    .split at q
     .rename_i d' hd
      have n:ι.length=S.length:=st.len
      exact q v (a.take S.length) H' (by rw[<-n];exact s1.less) (b.less _) (Den.frz b d hd j)
     .exact q.elim
 cases z:exs F N c.body (ds.map some++List.replicate (c.nn-c.np) none) S with
 |no=>rw[z]at p;exact p.elim
 |err=>rw[z]at p;exact p.elim
 |ok f S1 =>
  rw[z,Res.bind_ok]at p
  intro a H' s1 b
  cases f with
  |nx ρ=>exact λB _=>lv p a H' s1 b .non rfl
  |rt d=>exact λv j=>lv p a H' s1 b v j
  |bk ρ=>exact p.elim
  |ct ρ=>exact p.elim
end R
namespace R
open PySem PySem.Spec L2 SeqAt
open PyProof.Rows hiding St
noncomputable def isFields:Data->Bool
 | .fields _=>true
 |_=>false
noncomputable def plainK(K:PySem.W.Frag):Bool:=K.all λp=>p.2.cls != .type "list"&&!(p.2.cls == .none&&isFields p.2.data)
noncomputable def codesK(q:Program)(K:PySem.W.Frag):Bool:=K.all λp=>p.2.cls != .type "code" || (recsOf q).any λd=>match PySem.W.nsIn K mainGlobals d.name with
 |some (some (.ref a))=>(match K.lookup a with
  |some ⟨_,_,.func fd,_⟩=>fd.code == .ref p.1
  |_=>false)
 |_=>false
theorem zL:∀{K:PySem.W.Frag} {a:Addr} {o:Obj},K.lookup a=some o->(a,o)∈K
 |[],_,_,h=>by cases h
 | (b,u)::K,a,o,h=>by
  rw[vM]at h
  cases z:a == b with
  |true=>rw[z]at h;cases h;rw[ve.mp z];exact wI
  |false=>rw[z]at h;exact wJ _ (zL h)
theorem qe2{K:PySem.W.Frag}(h:plainK K=true){a:Addr}{o:Obj}(e:K.lookup a=some o):o.cls≠.type "list"/\¬(o.cls=.none/\isFields o.data=true):=by
 unfold plainK at h
 rw[vf]at h
 have:=h _ (zL e)
 simp only[wP,xZ,uH,xY,wt]at this
 refine⟨this.1,λ⟨b,c⟩=>?_⟩
 rcases this.2 with z|z
 .exact z b
 .rw [c]at z;cases z
theorem jH{K:PySem.W.Frag}{c t:Addr}(h:codeTab K c t=true):∃o vs,K.lookup c=some o/\o.cls=.type "code"/\o.data=.fields vs/\vs[11]?=some (.ref t):=by
 unfold codeTab at h
 split at h
 .rename_i cls d vs sl i
  simp only[wP,ve]at h
  obtain⟨e1,f⟩:=h
  split at f
  .rename_i a b p q r s u v w j e l x y m
   simp only[wP,ve,xZ]at f
   obtain⟨⟨z,n⟩,ne⟩:=f
   subst n
   exact⟨_,vs,i,e1,rfl,e⟩
  .cases f
 .cases h
theorem qgN{q:Program}{b:List Str}{i:ExcName->Option Value}{mg mb:Str->Option Value}{h:Heap}{K:PySem.W.Frag}(T:Top q b i mg mb h)(j:K.In h)(l:codesK q K=true){c t:Addr}(e:codeTab K c t=true):
  h.get? t=some {cls:=.none,data:=.fields #[]}/\isCodeTable h t:=by
 obtain⟨o,vs,m,cl,n,p⟩:=jH e
 unfold codesK at l
 rw[vf]at l
 have:=l _ (zL m)
 simp only[xX,xZ,vW]at this
 rcases this with z|⟨d,hd,hz⟩
 .exact absurd cl z
 .split at hz
  .rename_i a hn
   split at hz
   .rename_i oc od fd sl w
    have f:fd.code=.ref c:=by simpa using hz
    obtain⟨H,o',x,I,J,e1,y,A,r,L,B⟩:=T.tab d hd
    have C:=PySem.W.mg_of j T.g hn
    rw[C]at e1
    cases e1
    have:=j _ _ w
    rw[y]at this
    cases this
    cases A
    rw[f]at r
    cases r
    obtain⟨⟨E,M,s,N,u,v⟩,F⟩:=B
    have:=j _ _ m
    rw[s]at this
    cases this
    rw[n]at u
    cases u
    rw[p]at v
    cases v
    exact⟨F,c,_,_,s,cl,n,p⟩
   .cases hz
  .cases hz
noncomputable def tabOf(K:PySem.W.Frag)(b:Addr):Bool:=K.any λp=>codeTab K p.1 b
theorem j9{K:PySem.W.Frag}{b:Addr}:tabOf K b=true ↔ ∃c,codeTab K c b=true:=by
 unfold tabOf
 rw[vW]
 constructor
 .rintro ⟨p,_,h⟩;exact⟨p.1,h⟩
 .rintro ⟨c,h⟩
  obtain⟨o,vs,a,_⟩:=jH h
  exact⟨(c,o),zL a,h⟩
noncomputable def entryH(K:PySem.W.Frag)(a:Addr)(vs:List Value)(ns:List Int):Hp:=λb=>if b=a then some (.frz {cls:=.type "list",data:=.seq vs.toArray} (.lst (ns.map V.int)))else if tabOf K b=true then some (.tbl #[])else none
theorem qdA{P:Program}{w:World}{q:Program}{A:List Str}{J:ExcName->Option Value}{K:PySem.W.Frag}{mg mb:Str->Option Value}{k:Nat}{fa a:Addr}{fd:FuncData}{x:Str}{sp:Sp}{f:Shared}{vs:List Value}{ns:List Int}(T:Top q A J mg mb f.heap)(O:K.In f.heap)(hp:plainK K=true)(Q:codesK q K=true)(hg:f.gens=#[])(ha:f.heap.get? a=some {cls:=.type "list",data:=.seq vs.toArray})(hi:IntsAre vs ns)(hl:ns.length<=sizeLine)(hr:Room k callerA)(F:∀base:Heap,K.In base->base.Ns mainGlobals mg->FnOk P w K mg base CX0 k fa fd [x] sp)(B:∀(s:Shared) (u:Value),BindsTo s fd ⟨[u],[]⟩ [(x,u)])(R:∀H:Hp,H a=some (.frz {cls:=.type "list",data:=.seq vs.toArray} (.lst (ns.map V.int)))->sp [.ref a] H (λv _=>v=.bl true) λ_ _ _=>False):
  codeAny (model P w) callerA (.call (.ref fa) ⟨[.ref a],[]⟩) (λr s'=>r=.ok (.ret (.bool true))/\OldK f.heap s'.heap/\s'.os=f.os/\AllBare s'.gens) f:=by
 have rv:=vals_ints hi
 have I:∀{b:Addr},tabOf K b=true->f.heap.get? b=some {cls:=.none,data:=.fields #[]}/\isCodeTable f.heap b:=λ{b} h=>by
  obtain⟨c,e⟩:=j9.mp h
  exact qgN T O Q e
 have na:tabOf K a≠true:=λh=>by
  have:=(I h).1
  rw[ha]at this;cases this
 generalize S:entryH K a vs ns=H
 have U:H a=some (.frz {cls:=.type "list",data:=.seq vs.toArray} (.lst (ns.map V.int))):=by rw[<-S];unfold entryH;rw[wM rfl]
 have X:∀{b:Addr},tabOf K b=true->H b=some (.tbl #[]):=λ{b} h=>by
  rw[<-S];unfold entryH
  rw[wL (λ(z:b=a)=>na (by rw[<-z];exact h)),wM h]
 have j:∀{b:Addr} {u:HO},H b=some u->(b=a/\u=.frz {cls:=.type "list",data:=.seq vs.toArray} (.lst (ns.map V.int)))\/(tabOf K b=true/\u=.tbl #[]):=λ{b u} e=>by
  rw[<-S]at e;unfold entryH at e
  split at e
  .rename_i z;cases e;exact .inl ⟨z,rfl⟩
  .split at e
   .rename_i z;cases e;exact .inr ⟨z,rfl⟩
   .cases e
 have hok:HOk P w H f.heap:=λb u e=>by
  rcases j e with ⟨rfl,rfl⟩|⟨h,rfl⟩
  .exact ⟨ha,by rw[wT];exact hl,vs,_,rv,ha⟩
  .exact ⟨(I h).1,trivial⟩
 have i:∀{b:Addr} {o:Obj},f.heap.get? b=some o->H b=none->(hidT f.heap H).get? b=some o:=λe n=>qdK e n
 have Y:∀{b:Addr} {o:Obj} {es:Array DictEntry} {ep:Nat},f.heap.get? b=some o->o.data=.dict es ep->H b=none:=λ{b o es ep} e d=>by
  cases z:H b with
  |none=>rfl
  |some u =>
   rcases j z with ⟨rfl,rfl⟩|⟨h,rfl⟩
   .rw [ha]at e;cases e;cases (show Data.seq vs.toArray _=Data.dict es ep from d)
   .rw [(I h).1]at e;cases e;cases (show Data.fields #[]=Data.dict es ep from d)
 have l:∀{b:Addr} {m:Str->Option Value},f.heap.Ns b m->(hidT f.heap H).Ns b m:=λ{b m} ⟨o,es,ep,e,d,r⟩=>⟨o,es,ep,i e (Y e d),d,r⟩
 have L:K.In (hidT f.heap H):=λb o e=>i (O b o e) (by
  cases z:H b with
  |none=>rfl
  |some u =>
   obtain⟨p1,p2⟩:=qe2 hp e
   have N:=O b o e
   rcases j z with ⟨rfl,rfl⟩|⟨h,rfl⟩
   .rw [ha]at N;cases N;exact absurd rfl p1
   .rw [(I h).1]at N;cases N;exact absurd ⟨rfl,rfl⟩ p2)
 have bm:∃bm ob,mg "__builtins__"=some (.ref bm)/\bm≠builtinsNs/\(hidT f.heap H).get? bm=some ob/\ob.cls=.type "module"/\ob.dict=some builtinsNs/\ob.data=.plain:=by
  obtain⟨bm,ob,e1,C,E,M,e5,e6⟩:=T.bmain
  refine⟨bm,ob,e1,C,i E ?_,M,e5,e6⟩
  cases z:H bm with
  |none=>rfl
  |some u =>
   rcases j z with ⟨rfl,rfl⟩|⟨h,rfl⟩
   .rw [ha]at E;cases E;exact absurd (show Value.type "list"=Value.type "module" from M) (by decide)
   .rw [(I h).1]at E;cases E;exact absurd M (by decide)
 have hM:Mod K mg (hidT f.heap H):=⟨L,l T.g,⟨mb,l T.b,T.builtins⟩,(let ⟨mc,h1,h2⟩:=T.nolimit;⟨mc,l h1,h2⟩),bm⟩
 have e0:Env0 P w K mg (hidT f.heap H) callerA [] f H:=⟨rfl,hM,λb o e=>qfN e,Nat.le_of_eq (qc4 _ _),trivial,λb hb=>absurd (show b∈([]:List Addr)from hb) (by simp),hok,.of_eq hg,λc t z=>⟨_,X (j9.mpr ⟨c,z⟩)⟩⟩
 refine xR ((F _ L (l T.g)).run callerA [] f H ⟨[.ref a],[]⟩ [.ref a] [.ref a] _ _ hr e0 (B f (.ref a)) (.cons rfl .nil) (R H U)) λr s' h=>?_
 cases r with
 |error e=>exact(show False from h).elim
 |ok fl =>
  cases fl with
  |next=>exact False.elim h
  |brk=>exact False.elim h
  |cont=>exact False.elim h
  |ret u =>
   obtain⟨v,H',os,bare,un,p,r',Z⟩:=h
   have Z:v=.bl true:=Z
   subst Z
   obtain rfl:u=Value.bool true:=r'
   have old:∀b o,f.heap.get? b=some o->asItWas f.heap s'.heap b o/\∃o',s'.heap.get? b=some o':=λb o e=>by
    cases z:H b with
    |none =>
     have:=un.keep b o e z (by intro y;exact absurd (show b∈([]:List Addr)from y) (by simp)) (by simp)
     exact⟨.inl this,_,this⟩
    |some u =>
     rcases j z with ⟨rfl,rfl⟩|⟨h,rfl⟩
     .have z2:=un.frzs _ _ _ z
      obtain⟨C,_⟩:=p _ _ z2
      rw[ha]at e;cases e
      exact⟨.inl C,_,C⟩
     .obtain ⟨more,z2⟩:=un.tbls _ _ z
      obtain⟨C,_⟩:=p _ _ z2
      obtain⟨E,M⟩:=I h
      rw[E]at e;cases e
      exact⟨.inr (.inl ⟨M,rfl,#[],more,rfl,C⟩),_,C⟩
   exact⟨rfl,⟨λb o e=>(old b o e).1,λb o e=>(old b o e).2⟩,os,bare.bare⟩
theorem qig{l:PySem.W.OpenLaw}{n k:Nat}{q:Program}{c:List Str}{M:(Str->Option Value)->Heap->Prop}{C:World->Heap->Prop}{d:DefRec}{K:Params->PySem.W.Frag}{x:Str}{g:List D->Sr->Res D}(hn:l.most=some n)(y:n<=sizeLine)(z:d.params.defaults=[])(N:Room k callerA)(O:∀(w:World) (h:Heap),C w h->(K w.params).In h)(Q:∀P,plainK (K P)=true)(A:∀P,codesK q (K P)=true)(F:∀(w:World) (mg:Str->Option Value) (m:Addr) (h:Heap),(K w.params).In h->h.Ns mainGlobals mg->mg d.name=some (.ref m) ->
   ∃fd:FuncData,(∀(s:Shared) (u:Value),BindsTo s fd ⟨[u],[]⟩ [(x,u)])/\∀base:Heap,(K w.params).In base->base.Ns mainGlobals mg->FnOk l.prog w (K w.params) mg base CX0 k m fd [x] (SpD 1 g))(R:∀ns:List Int,ns.length<=n->∃E,g [.lst (ns.map .int)] []=.ok (.bl true) E):
  PySem.W.WalkO q c M C l.row.toRowW d [] (λf vs=>PySem.call f vs):=by
 refine Att.attach_call hn z λw s₀ I mg mb m o pm cd doc a vs ns G Y ho hd J B j i b S=>?_
 have L:=O w _ Y
 obtain⟨fd,U,X⟩:=F w mg m _ L G.T.g B
 refine qdA G.T L (Q _) (A _) S j i (wf b y) N X U λH Z=>?_
 obtain⟨E,e⟩:=R ns b
 have dd:∀p:List Int,Dens [] H (p.map .int) (p.map V.int):=λp=>by
  induction p with
  |nil=>rfl
  |cons x r ih=>exact⟨_,_,rfl,rfl,ih⟩
 refine⟨rfl,[],[],[.lst (ns.map .int)],⟨rfl,.nil,λn a so e1 _=>by simp at e1⟩,⟨_,_,rfl,⟨a,ns.map V.int,rfl,by simp,.inr ⟨_,Z⟩,dd ns⟩,rfl⟩,?_⟩
 rw[e]
 exact λv a0 H' _ _ hv=>hv
end R
namespace R
open PySem PySem.Spec L2 SeqAt
open PyProof.Rows hiding St
theorem m2{k:Nat}{A:Around}(r:Room (k+2) A):Room k A:=r.mono (by lia)
theorem m1{k:Nat}{A:Around}(r:Room (k+1) A):Room k A:=r.mono (by lia)
theorem qih:bootBuiltins "len"=some (.builtin "len"):=by decide +kernel
theorem qii:bootBuiltins "min"=some (.builtin "min"):=by decide +kernel
theorem qij:bootBuiltins "max"=some (.builtin "max"):=by decide +kernel
theorem qik:bootBuiltins "abs"=some (.builtin "abs"):=by decide +kernel
theorem qdB:bootBuiltins "divmod"=some (.builtin "divmod"):=by decide +kernel
theorem qaa:bootBuiltins "sorted"=some (.builtin "sorted"):=by decide +kernel
theorem qil:bootBuiltins "all"=some (.builtin "all"):=by decide +kernel
theorem qim:bootBuiltins "any"=some (.builtin "any"):=by decide +kernel
theorem qin:bootBuiltins "sum"=some (.builtin "sum"):=by decide +kernel
theorem qe3:bootBuiltins "tuple"=some (.type "tuple"):=by decide +kernel
section
variable{X:Cx}{F:Fs}{pos p:Pos}{e:Expr}{es:List Expr}{cs:CEs}
theorem zQ(gb:Gb X.mg)(ha:QA X (e::es) (TL (evs F cs)))(b:Gl X "len":=by rfl)(c:starEach (e::es) X.env=(false,eval e X.env)::starEach es X.env:=by rfl)(a:(backTo pos (starEach es X.env)).any (·.1)=false:=by rfl):QE X (.Call (.Name "len" p) (e::es) [] pos) (T (ev F (.blt .len cs))):=by
 delta QE;delta QA at ha;exact(yF .len qje gb.len qih ha b (by decide) (by decide) c a)
theorem qg7(gb:Gb X.mg)(ha:QA X (e::es) (TL (evs F cs)))(b:X.calm=true:=by rfl)(c:Gl X "min":=by rfl)(d:starEach (e::es) X.env=(false,eval e X.env)::starEach es X.env:=by rfl)(a:(backTo pos (starEach es X.env)).any (·.1)=false:=by rfl):QE X (.Call (.Name "min" p) (e::es) [] pos) (T (ev F (.blt .min2 cs))):=by
 delta QE;delta QA at ha;exact(yF .min2 (qjg b) gb.min qii ha c (by decide) (by decide) d a)
theorem qjF(gb:Gb X.mg)(ha:QA X (e::es) (TL (evs F cs)))(b:X.calm=true:=by rfl)(c:Gl X "max":=by rfl)(d:starEach (e::es) X.env=(false,eval e X.env)::starEach es X.env:=by rfl)(a:(backTo pos (starEach es X.env)).any (·.1)=false:=by rfl):QE X (.Call (.Name "max" p) (e::es) [] pos) (T (ev F (.blt .max2 cs))):=by
 delta QE;delta QA at ha;exact(yF .max2 (qjh b) gb.max qij ha c (by decide) (by decide) d a)
theorem qjG(gb:Gb X.mg)(ha:QA X (e::es) (TL (evs F cs)))(b:Gl X "abs":=by rfl)(c:starEach (e::es) X.env=(false,eval e X.env)::starEach es X.env:=by rfl)(a:(backTo pos (starEach es X.env)).any (·.1)=false:=by rfl):QE X (.Call (.Name "abs" p) (e::es) [] pos) (T (ev F (.blt .abs cs))):=by
 delta QE;delta QA at ha;exact(yF .abs qjf gb.abs qik ha b (by decide) (by decide) c a)
theorem qe4(gb:Gb X.mg)(ha:QA X (e::es) (TL (evs F cs)))(b:Gl X "divmod":=by rfl)(c:starEach (e::es) X.env=(false,eval e X.env)::starEach es X.env:=by rfl)(a:(backTo pos (starEach es X.env)).any (·.1)=false:=by rfl):QE X (.Call (.Name "divmod" p) (e::es) [] pos) (T (ev F (.blt .divmod cs))):=by
 delta QE;delta QA at ha;exact(yF .divmod qew gb.divmod qdB ha b (by decide) (by decide) c a)
theorem qbr(m:Bool)(gb:Gb X.mg)(ha:QA X (e::es) (TL (evs F cs)))(b:X.calm=true:=by rfl)(c:Gl X "sorted":=by rfl)(d:starEach (e::es) X.env=(false,eval e X.env)::starEach es X.env:=by rfl)(a:(backTo pos (starEach es X.env)).any (·.1)=false:=by rfl):QE X (.Call (.Name "sorted" p) (e::es) [] pos) (T (ev F (.blt (.sorted m) cs))):=by
 delta QE;delta QA at ha;exact(yF (.sorted m) (qe0 m b) gb.sorted qaa ha c (by decide) (by decide) d a)
theorem qcG(gb:Gb X.mg)(ha:QA X (e::es) (TL (evs F cs)))(b:X.calm=true:=by rfl)(c:Gl X "all":=by rfl)(d:starEach (e::es) X.env=(false,eval e X.env)::starEach es X.env:=by rfl)(a:(backTo pos (starEach es X.env)).any (·.1)=false:=by rfl):QE X (.Call (.Name "all" p) (e::es) [] pos) (T (ev F (.blt .all cs))):=by
 delta QE;delta QA at ha;exact(yF .all (qji b) gb.all qil ha c (by decide) (by decide) d a)
theorem qg8(gb:Gb X.mg)(ha:QA X (e::es) (TL (evs F cs)))(b:X.calm=true:=by rfl)(c:Gl X "any":=by rfl)(d:starEach (e::es) X.env=(false,eval e X.env)::starEach es X.env:=by rfl)(a:(backTo pos (starEach es X.env)).any (·.1)=false:=by rfl):QE X (.Call (.Name "any" p) (e::es) [] pos) (T (ev F (.blt .any cs))):=by
 delta QE;delta QA at ha;exact(yF .any (qjj b) gb.any qim ha c (by decide) (by decide) d a)
theorem qjH(gb:Gb X.mg)(ha:QA X (e::es) (TL (evs F cs)))(b:X.calm=true:=by rfl)(c:Gl X "sum":=by rfl)(d:starEach (e::es) X.env=(false,eval e X.env)::starEach es X.env:=by rfl)(a:(backTo pos (starEach es X.env)).any (·.1)=false:=by rfl):QE X (.Call (.Name "sum" p) (e::es) [] pos) (T (ev F (.blt .sum cs))):=by
 delta QE;delta QA at ha;exact(yF .sum (qjk b) gb.sum qin ha c (by decide) (by decide) d a)
theorem zM(gb:Gb X.mg)(ha:QA X (e::es) (TL (evs F cs)))(b:Gl X "tuple":=by rfl)(c:starEach (e::es) X.env=(false,eval e X.env)::starEach es X.env:=by rfl)(a:(backTo pos (starEach es X.env)).any (·.1)=false:=by rfl):QE X (.Call (.Name "tuple" p) (e::es) [] pos) (T (ev F (.blt .tuple cs))):=by
 delta QE;delta QA at ha;exact(qjC .tuple qgo gb.tuple qe3 ha b (by decide) (by decide) c a)
end
end R
namespace R
open PySem PySem.Spec L2 SeqAt
open PyProof.Rows hiding St
theorem qz{P:Program}{w:World}{K:PySem.W.Frag}{mg:Str->Option Value}{base:Heap}{k N i:Nat}{F G:Fs}{x:Str}{st:Stmt}{f c T':Addr}{fd:FuncData}{a:CF}{ns ps:List Str}(U:FunT K x st f fd c T')(S:FnScope ns ps (defScope st))(e:ps.length=a.np)(hn:ns.length=a.nn)(b:a.np<=a.nn)(j:G i=callC F N a)(body:∀(A:Around) (outer:List Env) (s:Shared) (H:Hp) (E:XK),Room k (A.deeper (envOfC x (defScope st) s.heap.objs.size f (.ref c)))->QSs (cxOf CX0 P w K mg base ns x (defScope st) f (.ref c) A outer s H E).nox (defBody st) (TSm (exs F N a.body))):
  FnOk P w K mg base CX0 (k+1) f fd ps (SpD ps.length (G i)):=by
 obtain⟨oc,od,kV,doc,pm,an,ct,osl,rfl,l,d⟩:=U.ex
 refine qiU l d S (λvs H Q E h=>h.1) λA outer s H vs Q E m h=>⟨_,(body A outer s H E m).un.nox,?_⟩
 rw[j]at h
 exact qgM e hn b h
theorem qA{P:Program}{w:World}{K:PySem.W.Frag}{mg:Str->Option Value}{base:Heap}{i:Nat}{G:Fs}{f:Addr}{fd:FuncData}{ps:List Str}(a:G i=λ_ _=>.no){k:Nat}:
  FnOk P w K mg base CX0 k f fd ps (SpD ps.length (G i)):=by
 refine⟨λvs H Q E h=>h.1,λA outer s H args us vs Q E _ _ _ _ h=>?_⟩
 obtain⟨_,ι,S,ds,_,_,p⟩:=h
 rw[a]at p
 exact p.elim
def DefIn(K:PySem.W.Frag)(mg:Str->Option Value)(x:Str)(st:Stmt)(ps:List Str):Prop:=∃(f:Addr) (fd:FuncData) (c t:Addr),mg x=some (.ref f)/\FunT K x st f fd c t/\Binds K fd ps []
theorem DefIn.fn{P:Program}{w:World}{K:PySem.W.Frag}{mg:Str->Option Value}{base:Heap}{k i:Nat}{F:Fs}{x:Str}{st:Stmt}{ps:List Str}(u:DefIn K mg x st ps)(h:∀f fd c t,FunT K x st f fd c t->FnOk P w K mg base CX0 k f fd ps (SpD ps.length (F i))):FnAt P w K mg base k F i x ps:=by
 obtain⟨f,fd,c,t,hm,U,a⟩:=u
 exact⟨f,fd,hm,U.kp,a,h f fd c t U⟩
theorem len0{us:List Value}(h:us.length=0):us=[]:=u9 h
theorem lenS{us:List Value}{n:Nat}(h:us.length=n+1):∃a r,us=a::r/\r.length=n:=by
 cases us with
 |nil=>cases h
 |cons a r=>exact⟨a,r,rfl,Nat.succ.inj h⟩
theorem len1{us:List Value}(h:us.length=1):∃b,us=[b]:=by
 obtain⟨a,_,rfl,q⟩:=lenS h;cases len0 q;exact⟨a,rfl⟩
theorem len2{us:List Value}(h:us.length=2):∃b c,us=[b,c]:=by
 obtain⟨a,r,rfl,q⟩:=lenS h;obtain⟨d,rfl⟩:=len1 q;exact⟨a,d,rfl⟩
theorem len3{us:List Value}(h:us.length=3):∃b c d,us=[b,c,d]:=by
 obtain⟨a,r,rfl,q⟩:=lenS h;obtain⟨e,b1,rfl⟩:=len2 q;exact⟨a,e,b1,rfl⟩
noncomputable def tabIn(vs:Array Value)(c T':Addr):Bool:=match(vs.getD 11 Value.none:Value),(vs.getD 18 Value.none:Value),(vs.getD 7 Value.none:Value),(vs.getD 9 Value.none:Value),(vs.getD 10 Value.none:Value)with
  | .ref a,.str _ _,.int _ _,.bool _,.int _ _=>a == T'&&c != T'
  |_,_,_,_,_=>false
theorem qio{K:PySem.W.Frag}{c t:Addr}{d:Option Addr}{vs:Array Value}{sl:Array (Option Value)}(e:K.lookup c=some ⟨.type "code",d,.fields vs,sl⟩)(b:vs[11]?=some (.ref t))(h:tabIn vs c t=true):codeTab K c t=true:=by
 unfold codeTab
 rw[e]
 simp only[b]
 unfold tabIn at h
 split at h
 .rename_i a m n o p q r e1 f i j l
  simp only[e1,f,i,j,l]
  simpa using h
 .cases h
theorem qu{K:PySem.W.Frag}{h:Heap}{mg:Str->Option Value}(X:K.In h)(G:h.Ns mainGlobals mg){x:Str}{st:Stmt}{ps:List Str}{f c t:Addr}{oc kV doc pm ct:Value}{od an:Option Addr}{osl:Array (Option Value)}{d2:Option Addr}{vs:Array Value}{b:Array (Option Value)}(a:PySem.W.nsIn K mainGlobals x=some (some (.ref f)))(l:K.lookup f=some ⟨oc,od,.func (PySem.W.fnOf x x (defArgs st) (defBody st) (defScope st) .none kV doc pm an (.ref c) ct),osl⟩)(i:PySem.W.codeIn K (.ref c) x=true)(j:K.lookup c=some ⟨.type "code",d2,.fields vs,b⟩)(d:vs[11]?=some (.ref t))(m:tabIn vs c t=true)(kp:PySem.W.keepIn K (.ref f)=true)(n:∀(kV doc pm:Value) (an:Option Addr) (e ct:Value) (us:List Value),us.length=ps.length->bindArgs (PySem.W.fnOf x x (defArgs st) (defBody st) (defScope st) .none kV doc pm an e ct) ⟨us,[]⟩=pure (ps.zip us)):DefIn K mg x st ps :=
 ⟨f,_,c,t,PySem.W.mg_of X G a,⟨⟨oc,od,kV,doc,pm,an,ct,osl,rfl,l,i⟩,qio j d m,kp⟩,.all (n kV doc pm an (.ref c) ct)⟩
theorem jI{K:PySem.W.Frag}{h:Heap}{mg:Str->Option Value}(X:K.In h)(G:h.Ns mainGlobals mg){x:Str}{i:Int}{t:Tok}{v:Value}(a:PySem.W.nsIn K mainGlobals x=some (some v))(e:v=.int i t):∃t:Tok,mg x=some (.int i t):=⟨t,by rw[PySem.W.mg_of X G a,e]⟩
end R
namespace R
open PySem PySem.Spec L2 SeqAt
open PyProof.Rows hiding St
section
variable{X:Cx}{F:Fs}{N:Nat}{pos:Pos}
theorem qjI(i j:Nat){x y:Str}{a b:Expr}{d e:CE}{f m pt:Pos}{kt k2 pt2}(ha:QA X [a,b] (TL (evs F (.cons d (.cons e .nil)))))(C:X.calm=true:=by rfl)(E:nodupB X.N=true:=by rfl)(hi:X.N[i]?=some x:=by rfl)(I:X.N[j]?=some y:=by rfl)(n:i≠j:=by decide)(hx:X.env.scope.names.lookup x=some .local:=by rfl)(J:X.env.scope.names.lookup y=some .local:=by rfl)(K:swappedStores [.Tuple [.Name x f,.Name y m] kt pt] (.Tuple [a,b] k2 pt2) X.env=pure (some [x,y]):=by rfl)(o:swapsWithSole [.Tuple [.Name x f,.Name y m] kt pt] (.Tuple [a,b] k2 pt2) pos.line X.env=pure false:=by rfl):
  QS X (.Assign [.Tuple [.Name x f,.Name y m] kt pt] (.Tuple [a,b] k2 pt2) pos) (TSm (ex F N (.set (.tup (.cons (.var i) (.cons (.var j) .nil))) (.tup (.cons d (.cons e .nil)))))):=by
 delta QS;delta QA at ha
 refine PSimp (qhv C (zb E) hi I n hx J ha K o) λP Q H h=>?_
 obtain⟨ι,S,ρ,B,st,p⟩:=h
 refine⟨ι,S,ρ,B,st,?_⟩
 have c:∀{l S'},evs F (.cons d (.cons e .nil)) ρ S=.ok l S'->l.length=2:=λz=>qay z
 simp only[ex,ev]at p
 cases z:evs F (.cons d (.cons e .nil)) ρ S with
 |no=>rw[z]at p;exact p
 |err=>rw[z]at p;exact p
 |ok l S1 =>
  rw[z]at p
  have L:=c z
  match l,L with
  |[d1,d2],_ =>
   have o:([d1,d2]:List D).length<=sizeLine:=by simp[sizeLine]
   simp only[Res.bind,o,ws,asg,asgs]at p
   intro vs q M s1 s O
   obtain⟨v,r,rfl,u,w,R,rfl,A,rfl⟩:=O
   exact⟨v,w,rfl,p q M s1 s _ (((B.mono s1).set u).set A)⟩
end
end R
namespace R
open PySem PySem.Spec L2 SeqAt
open PyProof.Rows hiding St
open PySem.W (KasT kas_sort kas_cmp kas_item_eq kat_lt kat_kind KatTups KatLex kat_cons kat_yes kat_no kat_go kat_nil kat_one)
end R
namespace R
open PySem PySem.Spec L2 SeqAt
open PyProof.Rows hiding St
end R
namespace R
open PySem PySem.Spec L2 SeqAt
open PyProof.Rows hiding St
end R
namespace R
open PySem PySem.Spec L2 SeqAt
open PyProof.Rows hiding St
variable{X:Cx}
end R
namespace R
open PySem PySem.Spec L2 SeqAt
open PyProof.Rows hiding St
section
variable{X:Cx}{pins:List (Addr×Obj)}{σ:List (Option V)}{H:Hp}{s:Shared}
theorem qdC{d':Drawn}(I:Inv X pins σ H s):Inv X pins σ H {s with drawn:=d' }:=⟨I.ok,I.os,I.bare,I.base,I.loc,I.cell,I.free,I.freeC,I.pin,I.hok,I.len⟩
theorem y9{ns:List Int}:firstMet (λi=>ns.getD i 0) ns.length=ddI ns:=by
 unfold firstMet ddI
 have:(List.range ns.length).map (λi=>ns.getD i 0)=ns:=by
  apply uD
  intro i
  rw[wW]
  by_cases h:i<ns.length
  .rw [List.getElem?_range h,wD h];simp[h]
  .rw [vS (by simpa using h),vS (by lia)];rfl
 rw[this]
theorem qip(ns:List Int):(ddI ns).length<=ns.length:=by rw[<-y9];exact firstMet_length_le _ _
theorem qiq:bootBuiltins "set"=some (.type "set"):=by decide +kernel
theorem vals_ints:∀{us:List Value} {a:List Int},IntsAre us a->Vals (a.map V.int) us
 |_,_,.nil=>.nil
 |_,_,.cons n t r=>.cons ⟨t,rfl⟩ (vals_ints r)
theorem yI{ι:List Addr}{H:Hp}:∀a:List Int,Dens ι H (a.map .int) (a.map V.int)
 |[]=>rfl
 |_::r=>⟨_,_,rfl,rfl,yI r⟩
theorem qir{e:Expr}{J K pos h:Pos}{L:En->Sr->Res (List D)}(m:Bool)(Y:X.calm=true)(hg:Gl X "sorted")(hm:X.mg "sorted"=none)(M:Gl X "set")(N:X.mg "set"=none)(ha:PA X [e] (TL L))(hs:starEach [e] X.env=(false,eval e X.env)::starEach [] X.env):
  PE X (.Call (.Name "sorted" J) [.Call (.Name "set" K) [e] [] h] [] pos) (T λρ S=>(L ρ S).bind λl S1=>bltD (.sset m) l S1):=by
 intro pins s σ H Q I hw
 obtain⟨ι,S,ρ,er,st,q⟩:=hw
 dsimp only at q
 cases z:L ρ S with
 |no=>rw[z]at q;exact q.elim
 |err=>rw[z]at q;exact q.elim
 |ok l S1 =>
  rw[z,Res.bind_ok]at q
  obtain⟨d,rfl,q⟩:=yV q
  have q2:Pst Den (bSset m d S1) ι H Q:=q
  clear q
  cases d with
  |tup l =>
   unfold bSset at q2
   dsimp only at q2
   cases zi:intsOf l with
   |none=>rw[zi]at q2;exact q2.elim
   |some ns =>
    rw[zi]at q2
    dsimp only at q2
    by_cases y:ns.length<4000/\(ddI ns).length<64
    .rw [wM y]at q2
     have:=intsOf_eq zi
     subst this
     refine Call_ (zG I hg hm qaa ?_)
     refine uZ (e:=.Call (.Name "set" K) [e] [] h) (rest:=[]) ?_ rfl rfl
     have B:wpAny (model X.prog X.w) X.A (eval (.Call (.Name "set" K) [e] [] h) X.env) (λv s'=>∃E H' a,v=.ref a/\Stp ι H E H'/\Sto E H' S1/\Inv X pins σ H' s'/\SN.SetL s'.heap a (SN.ledW X.w) (ddI ns)) X.xe s:=by
      refine Call_ (zG I M N qiq (v8 (thn (ha h pins s σ H (λvs j=>∃f,Stp ι H f j/\Sto f j S1/\Dens f j [.tup (ns.map .int)] vs) I ⟨ι,S,ρ,er,st,?_⟩) λus s1 ⟨vs,j,C,r1,f,q1,i,d1⟩=>?_) hs rfl))
      .rw [z];exact λvs f j q1 i d1=>⟨f,q1,i,d1⟩
      .obtain ⟨x,rfl,hx⟩:=dens1 d1
       obtain⟨u,rfl,ru⟩:=vals1 r1
       obtain⟨p,xs,rfl,_,hp,dx⟩:=hx
       cases ru
       cases dens_ints dx
       obtain⟨r,rv,t1,hz⟩:=yU C hp
       have Z:IntsAre r ns:=qL rv
       have hl:=Z.length
       have t2:s1.heap.IsTuple p r.toArray:=let ⟨o,a,b,n,d⟩:=t1;⟨o,a,b,n,d⟩
       refine SN.set_tup (items:=r.toArray) (ns:=ns) (C.ok.hd Y) t2 (by simpa using Z) (by rw[wH];unfold scanBound;lia) λh' tk F hk=>?_
       have I2:=C.kept (h':=h') (t':=tk) λb u e=>hk b u (wG e) e
       have e3:r.toArray.size=ns.length:=by rw[wH,hl]
       rw[e3,y9]at F
       exact⟨f,j,_,rfl,q1,i,I2,F⟩
     refine vv (thn B λv s1 ⟨f,j,a,ev,q1,i,C,F⟩=>uY ?_)
     subst ev
     refine SN.sorted_set (by have:=C.ok.hd Y;simpa using this) F y.2 λh' tk d' D O c P sz k1 i1 J R hD=>?_
     have en:P=sortI (ddI ns):=PySem.W.lks_uniq (J.trans (qH (ddI ns)).symm) R (yE (ddI ns))
     subst en
     have fr:j D=none:=C.hok.fresh sz
     have hl:=qip ns
     have U:((sortI (ddI ns)).map V.int).length<=sizeLine:=by rw[wT,(qH (ddI ns)).length_eq,vH];lia
     exact⟨.ref D,upd j D (.lst ((sortI (ddI ns)).map V.int)),qdC (C.laid (o:=.lst ((sortI (ddI ns)).map V.int)) (t':=tk) k1 sz ⟨U,O.toList,c,vals_ints i1,by rw[hD]⟩),rfl,ze i (yI _) (Pst.from q2 q1) D fr⟩
    .rw [wL y]at q2;exact q2.elim
  |_=>exact q2.elim
end
section
variable{X:Cx}{F:Fs}{pos p p2 pos2:Pos}{e:Expr}{c:CE}
theorem qis(m:Bool)(gb:Gb X.mg)(ha:QA X [e] (TL (evs F (.cons c .nil))))(b:X.calm=true:=by rfl)(d:Gl X "sorted":=by rfl)(a:Gl X "set":=by rfl)(f:starEach [e] X.env=(false,eval e X.env)::starEach [] X.env:=by rfl):
  QE X (.Call (.Name "sorted" p) [.Call (.Name "set" p2) [e] [] pos2] [] pos) (T (ev F (.blt (.sset m) (.cons c .nil)))):=by
 delta QE;delta QA at ha;exact(qir m b d gb.sorted a gb.set ha f)
end
end R
namespace R
open PySem PySem.Spec L2 SeqAt
open PyProof.Rows hiding St
theorem zo:∀(names:List (Str×NameKind)) (n:Nat) (a:List (Str×Addr)),cellsFrom n names a=cellsFrom n names []++a
 |[],n,a=>rfl
 | (x,k)::r,n,a=>by
  unfold cellsFrom
  split
  .rw [zo r (n+1) ((x,n)::a),zo r (n+1) [(x,n)],uE];rfl
  .exact zo r n a
theorem cells_mem:∀(names:List (Str×NameKind)) (n:Nat) (a:List (Str×Addr)) {x:Str} {c:Addr},(x,c)∈cellsFrom n names a->(x,NameKind.cell)∈names\/(x,c)∈a
 |[],n,a,x,c,h=>.inr h
 | (y,k)::r,n,a,x,c,h=>by
  unfold cellsFrom at h
  split at h
  .rename_i b
   rcases cells_mem r (n+1) _ h with z|z
   .exact .inl (wJ _ z)
   .rcases wN.mp z with e|z
    .cases e;rw[show k=NameKind.cell by simpa using b];exact .inl wI
    .exact .inr z
  .rcases cells_mem r n _ h with z|z
   .exact .inl (wJ _ z)
   .exact .inr z
theorem qbs:∀{names:List (Str×NameKind)} {x:Str} {a b:NameKind},(names.map (·.1)).Nodup->names.lookup x=some a->(x,b)∈names->a=b
 | (y,k)::r,x,a,b,nd,h1,h2=>by
  rw[w4,vz]at nd
  rw[vM]at h1
  rcases wN.mp h2 with e|h3
  .cases e;simp at h1;exact h1.symm
  .have c:(x == y)=false:=by
    rw[wt]
    rintro rfl
    exact nd.1 (vL.mpr ⟨_,h3,rfl⟩)
   rw[c]at h1
   exact qbs nd.2 h1 h3
structure CScK (X:Cx) (sc:Scope) (fr:List Nat) (xs ts:List Str):Prop where
 kind:sc.kind=.function
 names:∀x∈sc.names,x.2=.local->sc.names.lookup x.1=some .local
 frees:∀x∈sc.names,x.2=.free->X.env.kindOf x.1=some .cell\/X.env.kindOf x.1=some .free
 keys:(sc.names.map (·.1)).Nodup
 len:fr.length=xs.length
 at':∀(i j:Nat) (x:Str),fr[i]?=some j->xs[i]?=some x->X.N[j]?=some x
 kd:∀x∈xs,sc.names.lookup x=some .free/\(X.env.kindOf x=some .cell\/X.env.kindOf x=some .free)
noncomputable def compCxK(X:Cx)(sc:Scope)(cl:List (Str×Addr))(C:Addr)(N':List Str)(fp:List Addr)(s:Shared)(H:Hp):Cx :=
 {compCx X sc cl C N' fp s H with fn:=λx=>sc.names.lookup x == some .cell}
structure BlkK (X:Cx) (sc:Scope) (N':List Str) (tg:Expr) (ifs:List Expr) (elt:Expr) (g:D->En->Sr->Res En) (mt:En->Sr->Res Bool) (me:En->Sr->Res D):Prop where
 tg:∀cl C fp s H,PG (compCxK X sc cl C N' fp s H) tg (TGt g)
 ifs:∀cl C fp s H,PTl (compCxK X sc cl C N' fp s H) ifs (TB mt)
 elt:∀cl C fp s H,PE (compCxK X sc cl C N' fp s H) elt (T me)
theorem qaC{X:Cx}{sc:Scope}{cl:List (Str×Addr)}{C:Addr}{N':List Str}{fp:List Addr}{s s':Shared}{H H':Hp}{pins:List (Addr×Obj)}{a:St}(J:Inv (compCxK X sc cl C N' fp s H) pins a H' s'):Inv (compCx X sc cl C N' fp s H) pins a H' s' :=
 ⟨{J.ok with cab:=λx c h _=>by cases h},J.os,J.bare,J.base,J.loc,J.cell,J.free,J.freeC,J.pin,J.hok,J.len⟩
section
variable{X:Cx}{pos:Pos}
theorem qaD{sc:Scope}{globals:Addr}{cl:List (Str×Addr)}{b:Str}{a:Env}{builtins:Addr}{M:Model}{A:Around}{E:Value->Shared->Prop}{s:Shared}{Q:Env->Shared->Prop}(h:Q (newEnv sc s.heap.objs.size globals (cellsFrom (s.heap.objs.size+1) sc.names cl) b none .none (some a) builtins) {s with heap:=pushCells (s.heap.push {cls:=.type "dict",data:=.dict #[]}) sc.names}):
  wpAny M A (newFunctionEnv sc globals cl [] b none .none (some a) builtins) Q E s:=by
 simp only[newFunctionEnv,Option.isSome_some,ws]
 refine wA (wpAny_alloc ?_)
 refine wA (wpAny_layCells _ (λname kind cells=>by cases hkc:kind == NameKind.cell <;> simp[hkc]) _ _ _ _ ?_)
 rw[show({s with heap:=s.heap.push {cls:=.type "dict",data:=.dict #[]}}:Shared).heap.objs.size=s.heap.objs.size+1 from w9 ..]
 exact wA (wC (wC h))
theorem qg9{sc:Scope}{cl:List (Str×Addr)}{pins:List (Addr×Obj)}{a:St}{H:Hp}{s:Shared}(I:Inv X pins a H s)(b:Clos X sc cl){x:Str}{c:Addr}(e:cl.lookup x=some c):c<s.heap.objs.size:=by
 obtain⟨v,o,e1,_⟩:=I.cell x c (b.sub x c e)
 exact wG e1
theorem look_split{sc:Scope}{cl:List (Str×Addr)}{n:Nat}{x:Str}{c:Addr}(e:(cellsFrom n sc.names cl).lookup x=some c):(x,c)∈cellsFrom n sc.names []\/cl.lookup x=some c:=by
 rw[zo,List.lookup_append]at e
 cases z:(cellsFrom n sc.names []).lookup x with
 |none=>rw[z]at e;exact .inr (by simpa using e)
 |some a=>rw[z]at e;simp at e;rw[e]at z;exact .inl (wx z)
theorem qdD{sc:Scope}{cl:List (Str×Addr)}{n:Nat}{x:Str}(nd:(sc.names.map (·.1)).Nodup)(hx:sc.names.lookup x=some .free):(cellsFrom n sc.names cl).lookup x=cl.lookup x:=by
 rw[zo,List.lookup_append]
 cases z:(cellsFrom n sc.names []).lookup x with
 |none=>rfl
 |some c =>
  rcases cells_mem _ _ _ (wx z)with q|q
  .have:=qbs nd hx q;cases this
  .simp at q
theorem jJ(s:Shared)(names:List (Str×NameKind)):CellsOk (pushCells (s.heap.push {cls:=.type "dict",data:=.dict #[]}) names) (s.heap.objs.size+1) (cellsFrom (s.heap.objs.size+1) names []):=by
 have ok:=cellsFrom_ok names (s.heap.push {cls:=.type "dict",data:=.dict #[]}) (s.heap.objs.size+1) [] ⟨λ_ _ hm=>(nomatch hm),List.Pairwise.nil⟩ (by rw[w9];exact wF _)
 rw[w9]at ok
 exact ok
theorem qca{sc:Scope}{cl:List (Str×Addr)}{N':List Str}{fp:List Addr}{fr:List Nat}{xs ts:List Str}{pins:List (Addr×Obj)}{n:St}{H:Hp}{s:Shared}(I:Inv X pins n H s)(p:CScK X sc fr xs ts)(d:Clos X sc cl)(j:∀b∈fp,FpOk X pins H b)(l:∀b∈fp,b<s.heap.objs.size):(compCxK X sc (cellsFrom (s.heap.objs.size+1) sc.names cl) s.heap.objs.size N' fp s H).Ok where
 mod:=I.ok.mod
 kind:=p.kind
 glob:=I.ok.glob
 blt:=I.ok.blt
 above:=wF _
 inj:=λx y c r u=>by
  have own:=jJ s sc.names
  rcases look_split r with f|f <;> rcases look_split u with i|i
  .exact name_of_addr own.apart f i
  .exact absurd (qg9 I d i) (xD.mpr (wf (vU _) (own.empty _ _ f).2))
  .exact absurd (qg9 I d f) (xD.mpr (wf (vU _) (own.empty _ _ i).2))
  .exact I.ok.inj x y c (d.sub x c f) (d.sub y c i)
 has:=λx hx=>by
  have hx:(relabel sc X.env).names.lookup x=some .cell\/(relabel sc X.env).names.lookup x=some .free:=hx
  have e:(relabel sc X.env).names.lookup x=_:=qM (env:=X.env) (names:=sc.names) (x:=x)
  rw[e]at hx
  have some_of:∀{o:Option Addr},o.isSome=true->∃c,o=some c:=λ{o} h=>Option.isSome_iff_exists.mp h
  cases z:sc.names.lookup x with
  |none=>rw[z]at hx;simp at hx
  |some k =>
   cases k with
   |free =>
    obtain⟨c,v⟩:=d.all x z
    exact some_of (vq _ _ _ (.inr (by rw[v];rfl)))
   |cell=>exact some_of (vq _ _ _ (.inl z))
   |_=>rw[z]at hx;simp at hx
 cab:=λx c h e=>by
  have hx:sc.names.lookup x=some .cell:=by simpa using(show(sc.names.lookup x == some NameKind.cell)=true from h)
  have e:(cellsFrom (s.heap.objs.size+1) sc.names cl).lookup x=some c:=e
  rw[zo,List.lookup_append]at e
  have q:=vq sc.names (s.heap.objs.size+1) [] (.inl hx)
  cases z:(cellsFrom (s.heap.objs.size+1) sc.names []).lookup x with
  |none=>rw[z]at q;cases q
  |some B =>
   rw[z]at e
   simp at e
   subst e
   exact wf (vU _) ((jJ s sc.names).empty _ _ (wx z)).2
 hd:=I.ok.hd
 frames:=I.ok.frames
 stk:=.inl rfl
 exf:=λb a=>⟨wS (l b a),λx c h=>by
  rcases look_split h with z|z
  .exact λe=>absurd (l b a) (xD.mpr (by rw[<-e];exact wf (vU _) ((jJ s sc.names).empty _ _ z).2))
  .exact (j b a).2.2.2.2.1 x c (d.sub x c z)⟩
 bs:=I.bs
 bsz:=wf I.ok.bsz I.sz
 noex:=λb o e a=>by
  rcases(j b a).2.2.2.1 with z|z
  .exact I.ok.noex b o e z
  .exact absurd (wU (wG e) (wf I.ok.bsz z)) (vE _)
 exfs:=λb a w=>by
  rcases wN.mp (I.stkSub b w)with z|z
  .exact (j b a).2.1 z
  .exact (j b a).2.2.1 z
 funs:=I.stack
 frf:=I.stkFree
 tab:=λc T z=>let ⟨ps,e⟩:=I.ok.tab c T z;let ⟨m,A⟩:=I.base.tbls _ _ e;⟨_,A⟩
theorem qbt{sc:Scope}{cl:List (Str×Addr)}{fp:List Addr}{pins:List (Addr×Obj)}{f:St}{H:Hp}{s:Shared}{fr:List Nat}{xs ts:List Str}(I:Inv X pins f H s)(h:CScK X sc fr xs ts)(j:Clos X sc cl)(K:∀b∈fp,FpOk X pins H b)(L:∀b∈fp,b<s.heap.objs.size){m:Str->Option Value}{tk:Nat}(hn:(pushCells (s.heap.push {cls:=.type "dict",data:=.dict #[]}) sc.names).Ns s.heap.objs.size m):
  Inv (compCxK X sc (cellsFrom (s.heap.objs.size+1) sc.names cl) s.heap.objs.size (xs++ts) fp s H) [] (frS f fr ts.length) H {s with heap:=pushCells (s.heap.push {cls:=.type "dict",data:=.dict #[]}) sc.names,toks:=tk}:=by
 have a:∀b o,s.heap.get? b=some o->(pushCells (s.heap.push {cls:=.type "dict",data:=.dict #[]}) sc.names).get? b=some o:=λb o M=>pushCells_keeps _ _ b o (wB _ M)
 refine⟨qca I h j K L,rfl,GK.refl I.bare.bare,Un.kept a,⟨m,hn,λi x v n d U=>?_⟩,λx c e=>?_,I.hok.fresh (wF _),λx c e=>?_,λp N=>absurd (show p∈([]:List (Addr×Obj))from N) (by simp),I.hok.kept a,?_⟩
 .have n:(xs++ts)[i]?=some x:=n
  have d:(frS f fr ts.length)[i]?=some (some v):=d
  unfold frS at d
  by_cases hi:i<fr.length
  .rw [wX (by simpa using hi),wW,wD hi]at d
   rw[wX (by rw[<-h.len];exact hi)]at n
   simp only[wb,Option.some.injEq]at d
   have O:=h.at' i fr[i] x (wD hi) n
   have A:f[fr[i]]?=some (some v):=by
    cases z:f[fr[i]]? with
    |none=>rw[z]at d;cases d
    |some o=>rw[z]at d;simp at d;rw[d]
   obtain⟨B,E⟩:=h.kd x (wm n)
   obtain⟨W,P,C⟩:=I.loc
   have w:Vis X.env.scope x:=by
    rcases E with z|z
    .exact .inr (.inl z)
    .exact .inr (.inr z)
   obtain⟨u,r,l⟩:=C fr[i] x v O A w
   refine⟨u,r,.inr ?_⟩
   have Q:∃c,X.env.cells.lookup x=some c/\s.heap.IsCell c (some u):=by
    rcases l with ⟨z,_⟩|⟨_,c,e1,y⟩
    .rcases E with q|q <;> (rw[z]at q;cases q)
    .exact ⟨c,e1,y⟩
   obtain⟨c,e1,o,y,R⟩:=Q
   obtain⟨S,F⟩:=j.all x B
   have J:=j.sub x S F
   rw[e1]at J;cases J
   refine⟨?_,c,(qdD h.keys B).trans F,o,a _ _ y,R⟩
   have e:(relabel sc X.env).names.lookup x=_:=qM (env:=X.env) (names:=sc.names) (x:=x)
   show(relabel sc X.env).names.lookup x=some .cell\/(relabel sc X.env).names.lookup x=some .free
   rw[e,B]
   simp only[wb]
   split
   .exact .inl rfl
   .exact .inr rfl
  .rw [w8 (by simpa using hi),v0]at d
   split at d <;> cases d
 .rcases look_split e with z|z
  .exact ⟨none,((jJ s sc.names).empty _ _ z).1⟩
  .obtain ⟨v,o,e1,y⟩:=I.cell x c (j.sub x c z)
   exact⟨v,o,a _ _ e1,y⟩
 .rcases look_split e with z|z
  .exact I.hok.fresh (wf (vU _) ((jJ s sc.names).empty _ _ z).2)
  .exact I.freeC x c (j.sub x c z)
 .show (frS f fr ts.length).length=(xs++ts).length
  simp[frS,h.len]
theorem qe5{tg elt iter:Expr}{ifs:List Expr}{sc:Scope}{fr:List Nat}{xs ts:List Str}{mi:En->Sr->Res (List D×(Sr->Prop))}{g:D->En->Sr->Res En}{mt:En->Sr->Res Bool}{me:En->Sr->Res D}{mm:Bool}(hc:X.calm=true)(hi:PI X tg iter (TIg mi))(hs:∀x,foldedSetIterable iter X.env x=pure x)(W:CScK X sc fr xs ts)(B:BlkK X sc (xs++ts) tg ifs elt g mt me){pins:List (Addr×Obj)}{s:Shared}{F:St}{H:Hp}{Q:VK}{use:Option (Value->Sem Unit)}{Q':Value->Shared->Prop}(I:Inv X pins F H s)(hw:T (mLcG mm fr ts.length mi g mt me) F H Q)(fin:∀(D C:Addr) (H':Hp) (s':Shared) (m:Str->Option Value),s'.heap.Ns C m->C≠X.env.locals->(∀x c,X.env.cells.lookup x=some c->c≠C)->(H' C=none/\X.s₀.heap.objs.size<=C/\∀p∈X.pn++pins,p.1≠C)->(∀h',Heap.SameBut C s'.heap h'->Inv X pins F H' {s' with heap:=h' })->Q (.ref D) H'->compPost (model X.prog X.w) X.A X.xe use Q' (.ref D) C (.ok .next) s'):
  wpAny (model X.prog X.w) X.A (comprehension (.ListComp elt [⟨tg,iter,ifs,0⟩] sc pos) sc X.env (firstIterPos [⟨tg,iter,ifs,0⟩] pos) (newList []) false (eval iter X.env) use) Q' X.xe s:=by
 obtain⟨ι,S,ρ,er,st,p⟩:=hw
 dsimp only[mLcG]at p
 cases z:mi ρ S with
 |no=>rw[z]at p;exact p.elim
 |err=>rw[z]at p;exact p.elim
 |ok dg S1 =>
 obtain⟨ds,gd⟩:=dg
 rw[z,Res.bind_ok]at p
 dsimp only at p
 cases z2:lcLoop S1.length (λd ρ S=>grd gd S (g d ρ S)) mt me ds (frE ρ fr ts.length) (S1++[.lst []])with
 |no=>rw[z2]at p;exact p.elim
 |err=>rw[z2]at p;exact p.elim
 |ok aa Sf =>
 rw[z2,Res.bind_ok]at p
 have K:gd Sf:=by
  apply Classical.byContradiction
  intro hn
  rw[zw hn]at p
  exact p
 rw[zq K]at p
 obtain⟨cl,CL⟩:=qaq (X:=X) (sc:=sc) λx hx hf=>I.ok.has x.1 (W.frees x hx hf)
 refine wpAny_comprehension_free rfl hs CL.eq W.kind W.names ?_
 refine thn (hi pins s F H (λJ H2=>∃a,Stp ι H a H2/\Sto a H2 S1/\ItG a H2 J ds gd) I ⟨ι,S,ρ,er,st,?_⟩) λxv s1 Z=>thn Z λab s2 h2=>?_
 .rw [z];exact λh H' J q f ok=>⟨h,q,f,ok⟩
 obtain⟨it,fp,tn,J,H2,e,I2,T',t2,f2,a,q2,y,a0⟩:=h2
 subst e
 refine wO ?_
 have L:H2 s2.heap.objs.size=none:=I2.hok.fresh (wF _)
 have M:∀b∈fp,b<s2.heap.objs.size:=λb i=>by
  obtain⟨o,r,_⟩:=T'.obj _ _ t2 b i
  exact wG r
 have E:Inv X pins F (upd H2 s2.heap.objs.size (.lst [])) {s2 with heap:=s2.heap.push {cls:=.type "list",dict:=none,data:=.seq ([]:List Value).toArray}} :=
  I2.laid (t':=s2.toks) (λb o e=>wB _ e) (wF _) ⟨vF _,[],0,.nil,wE _ rfl⟩
 have f3:∀b∈fp,FpOk X pins (upd H2 s2.heap.objs.size (.lst [])) b:=λb i=>⟨by rw[qk (wS (M b i))];exact(f2 b i).1,(f2 b i).2⟩
 have Y:=Stp.grow (ι:=a) L (.lst [])
 have a1:Sto (a++[s2.heap.objs.size]) (upd H2 s2.heap.objs.size (.lst [])) (S1++[.lst []]):=y.grow L ⟨⟨a.length,by simp,rfl⟩,[],qr,rfl⟩
 have N:(a++[s2.heap.objs.size])[S1.length]?=some s2.heap.objs.size:=by rw[<-y.len];simp
 generalize O:({s2 with heap:=s2.heap.push {cls:=.type "list",dict:=none,data:=.seq ([]:List Value).toArray}}:Shared)=s3 at E ⊢
 have P:∀b∈fp,b<s3.heap.objs.size:=λb i=>by
  rw[<-O]
  show b<(s2.heap.push _).objs.size
  rw[w9];exact w1 (M b i)
 have t3:tn 0 s3.heap:=T'.keep _ _ _ t2 λb i o r=>by rw[<-O];exact wB _ r
 refine qaD (?_)
 have R:(pushCells (s3.heap.push {cls:=.type "dict",data:=.dict #[]}) sc.names).Ns s3.heap.objs.size (λ_=>none):=(Heap.Ns.new s3.heap (.type "dict")).keeps (pushCells_keeps _ _)
 have n:∀b o,s3.heap.get? b=some o->(pushCells (s3.heap.push {cls:=.type "dict",data:=.dict #[]}) sc.names).get? b=some o:=λb o r=>pushCells_keeps _ _ b o (wB _ r)
 have I4:=qbt (tk:=s3.toks) E W CL f3 P R
 generalize ac:pushCells (s3.heap.push {cls:=.type "dict",data:=.dict #[]}) sc.names=h4 at R n I4 ⊢
 generalize a9:cellsFrom (s3.heap.objs.size+1) sc.names cl=cl4 at I4 ⊢
 have t4:tn 0 h4:=T'.keep _ _ _ t3 λb i o r=>n b o r
 have a2:EnR (a++[s2.heap.objs.size]) (upd H2 s2.heap.objs.size (.lst [])) (frE ρ fr ts.length) (frS F fr ts.length):=(qar er fr ts.length).mono (q2.trans Y)
 have loop:codeAny (model X.prog X.w) X.A (.compLoop (.ListComp elt [⟨tg,iter,ifs,0⟩] sc pos) 0 (.ref it) (.ref s2.heap.objs.size) (compEnvC sc cl4 s3.heap.objs.size X.env)) (compPost (model X.prog X.w) X.A X.xe use Q' (.ref s2.heap.objs.size) s3.heap.objs.size) {s3 with heap:=h4}:=by
  refine qcv (X:=compCxK X sc cl4 s3.heap.objs.size (xs++ts) fp s3 (upd H2 s2.heap.objs.size (.lst []))) (pos:=pos) rfl hc rfl rfl T' (qez (gd:=gd) (B.tg _ _ _ _ _)) (B.ifs _ _ _ _ _) (B.elt _ _ _ _ _) (λd ρ S hn=>zw hn _) N (a0.mono Y) I4 t4 (λb i=>(f3 b i).1) a2 a1 z2 K λad H' h s' J' q' f=>?_
  obtain⟨m',a3,_⟩:=J'.loc
  refine fin s2.heap.objs.size s3.heap.objs.size H' s' m' a3 (vR E.lt) (λx c ec ez=>?_) ⟨J'.free,E.sz,λq hq ez=>by have:=wG (E.pin q hq).1;rw[ez]at this;exact absurd this (vE _)⟩ (λh5 a4=>ju E f3 (qaC J') a4) ?_
  .obtain ⟨v,o,r,_⟩:=E.cell x c ec
   rw[ez]at r
   exact absurd (wG r) (vE _)
  .have u:h[S1.length]?=some s2.heap.objs.size:=q'.get N
   unfold lcEnd at p
   cases mm with
   |true =>
    rw[wM rfl]at p
    exact p _ h H' ((q2.trans Y).trans q') f ⟨_,rfl,u⟩
   |false =>
    rw[wL (by decide)]at p
    by_cases hl:Sf.length=S1.length+1
    .rw [wM hl]at p
     split at p
     .rename_i l a5
      obtain⟨⟨n',a6,a7⟩,ys,Z,dl⟩:=f.obj _ _ _ u a5
      obtain rfl:n'=S1.length:=qQ f.nd a6 u
      have en:S1.length=a.length:=y.len.symm
      have qq:Stp ι H (h.take S1.length) H':=by rw[en];exact q2.trans (Y.trans q').less
      have U:=f.less S1.length
      refine p (.ref s2.heap.objs.size) _ H' qq U ⟨_,ys,rfl,λhm=>?_,.inl Z,Dens.less l a7 dl⟩
      obtain⟨j,hj,ej⟩:=vG hm
      rw[vA]at hj
      have a8:h[j]?=some s2.heap.objs.size:=by
       rw[List.getElem_take]at ej
       rw[wD (by omega),ej]
      have:=qQ f.nd a8 u
      omega
     .exact p.elim
    .rw [wL hl]at p;exact p.elim
 exact codeAny_compStart_list loop (T'.self _ 0 _ _ _ t4 loop)
theorem qdE{tg elt iter:Expr}{ifs:List Expr}{sc:Scope}{fr:List Nat}{xs ts:List Str}{mi:En->Sr->Res (List D×(Sr->Prop))}{g:D->En->Sr->Res En}{mt:En->Sr->Res Bool}{me:En->Sr->Res D}{O:Bool}{i:Nat}{y:Str}{h c:Pos}(U:X.calm=true)(hi:PI X tg iter (TIg mi))(W:∀x,foldedSetIterable iter X.env x=pure x)(Y:CScK X sc fr xs ts)(B:BlkK X sc (xs++ts) tg ifs elt g mt me)(Z:X.N.Nodup)(hy:X.N[i]?=some y)(P:X.env.scope.names.lookup y=some .local)(n:swapsWith (.ListComp elt [⟨tg,iter,ifs,0⟩] sc pos) (some (.Name y h)) c.line X.env=pure true):
  PS X (.Assign [.Name y h] (.ListComp elt [⟨tg,iter,ifs,0⟩] sc pos) c) (TSm λρ S=>(mLcG O fr ts.length mi g mt me ρ S).bind λd S1=>.ok (.nx (ρ.set i (some d))) S1):=λpins s r H D I hw=>by
 obtain⟨ι,S,ρ,Q,st,p⟩:=hw
 rw[exec_Assign_Name_used _ _ _ _ n]
 refine wA (vg (wA ?_))
 show wpAny _ X.A (do let _ <-comprehension (.ListComp elt [⟨tg,iter,ifs,0⟩] sc pos) sc X.env _ (newList []) false (eval iter X.env) (some (assign (.Name y h) X.env))) _ _ s
 have hT:T (mLcG O fr ts.length mi g mt me) r H (λv u=>D.nx (r.set i (some v)) u):=⟨ι,S,ρ,Q,st,PsF.bind p λa S1 w u b s1 E ra p1=>p1 w u (Stp.refl _ _) E _ ((Q.mono s1).set ra)⟩
 refine wA (v6 (qe5 (use:=some (assign (.Name y h) X.env)) (Q':=λ_ s'=>SP X pins D .next s') U hi W Y B I hT λR C H' s' m hn j l f hI q=>?_) (λ_ s' hq=>wC (wC hq)) λ_ _ e=>e)
 show wpAny _ X.A (assign (.Name y h) X.env (.ref R)) _ _ _
 have I0:Inv X pins r H' s':=by
  have:=hI s'.heap (Heap.SameBut.refl ..)
  exact this
 refine wpAny_assign_Name (yQ I0 Z hy (.inl P) (v:=.ref R) rfl (λF J K=>?_) (.inr P))
 obtain⟨a,sb,ha⟩:=K
 have L:C≠a:=by
  rcases ha with z|z
  .rw [z];exact j
  .exact λq=>l y a z q.symm
 refine⟨m,hn.sameBut sb L,λh' M=>?_⟩
 have I3:=J.turned (h':=h') (t':=F.toks) (it:=C) (λb o hb e=>M.extBut b o hb e) f.1 j (.inr f.2.1) l f.2.2
 exact⟨_,H',I3,q⟩
theorem qe6{tg elt iter:Expr}{ifs:List Expr}{sc:Scope}{fr:List Nat}{xs ts:List Str}{mi:En->Sr->Res (List D)}{g:D->En->Sr->Res En}{mt:En->Sr->Res Bool}{me:En->Sr->Res D}{e:Bool}{i:Nat}{y:Str}{c a:Pos}(f:X.calm=true)(hi:PI X tg iter (TIt mi))(h:∀x,foldedSetIterable iter X.env x=pure x)(j:CScK X sc fr xs ts)(B:BlkK X sc (xs++ts) tg ifs elt g mt me)(l:X.N.Nodup)(m:X.N[i]?=some y)(n:X.env.scope.names.lookup y=some .local)(b:swapsWith (.ListComp elt [⟨tg,iter,ifs,0⟩] sc pos) (some (.Name y c)) a.line X.env=pure true):
  PS X (.Assign [.Name y c] (.ListComp elt [⟨tg,iter,ifs,0⟩] sc pos) a) (TSm λρ S=>(mLc e fr ts.length mi g mt me ρ S).bind λd S1=>.ok (.nx (ρ.set i (some d))) S1):=by
 rw[<-qey];exact qdE f (pi_g hi) h j B l m n b
end
noncomputable def cscK(O:List (Str×NameKind))(N':List Str)(sc:Scope)(fr:List Nat)(xs:List Str):Bool :=
 (sc.kind == .function)&&sc.names.all (λy=>y.2 != .local || sc.names.lookup y.1 == some .local)&&sc.names.all (λy=>y.2 != .free || O.lookup y.1 == some .cell || O.lookup y.1 == some .free)&&nodupB (sc.names.map (·.1)) &&
 decide (fr.length=xs.length)&&(fr.zip xs).all (λp=>N'[p.1]? == some p.2)&&xs.all (λx=>sc.names.lookup x == some .free&&(O.lookup x == some .cell || O.lookup x == some .free))
theorem qgO{X:Cx}{sc:Scope}{fr:List Nat}{xs ts:List Str}(h:cscK X.env.scope.names X.N sc fr xs=true):CScK X sc fr xs ts:=by
 unfold cscK at h
 simp only[wP,vf,xX,xZ,ve,wy]at h
 obtain⟨⟨⟨⟨⟨⟨b,c⟩,d⟩,hn⟩,e⟩,f⟩,l⟩:=h
 refine⟨b,λy a m=>?_,λy a n=>?_,zb hn,e,λi j x e1 o=>?_,l⟩
 .rcases c y a with z|z
  .exact absurd m z
  .exact z
 .rcases d y a with (z|z)|z
  .exact absurd n z
  .exact .inl z
  .exact .inr z
 .have hm:(j,x)∈fr.zip xs:=by
   apply wm (i:=i)
   rw[uu]
   exact⟨e1,o⟩
  exact f (j,x) hm
section
variable{X:Cx}{F:Fs}{pos:Pos}
theorem qe7(i:Nat)(m:Bool)(fr:List Nat)(xs ts:List Str){tg elt iter:Expr}{ifs:List Expr}{sc:Scope}{t:CT}{it:CI}{c:CBs}{d:CE}{y:Str}{e a:Pos}(hi:QI X tg iter (TIt (evI F it)))(rt:∀cl C fp s H,QG (compCxK X sc cl C (xs++ts) fp s H) tg (TGt (asg F t)))(ri:∀cl C fp s H,QTl (compCxK X sc cl C (xs++ts) fp s H) ifs (TB (tsts F c)))(re:∀cl C fp s H,QE (compCxK X sc cl C (xs++ts) fp s H) elt (T (ev F d)))(f:X.calm=true:=by rfl)(j:∀x,foldedSetIterable iter X.env x=pure x:=by intro _;rfl)(h:cscK X.env.scope.names X.N sc fr xs=true:=by rfl)(l:nodupB X.N=true:=by rfl)(n:X.N[i]?=some y:=by rfl)(o:X.env.scope.names.lookup y=some .local:=by rfl)(b:swapsWith (.ListComp elt [⟨tg,iter,ifs,0⟩] sc pos) (some (.Name y e)) a.line X.env=pure true:=by rfl):
  QS X (.Assign [.Name y e] (.ListComp elt [⟨tg,iter,ifs,0⟩] sc pos) a) (TSm (ex F N (.set (.var i) (.lc m fr ts.length d t it c)))):=by
 delta QS;delta QI at hi;delta QG at rt;delta QTl at ri;delta QE at re;exact(qe6 f hi j (qgO h) ⟨rt,ri,re⟩ (zb l) n o b)
end
end R
namespace RP
open R
def c_0:CF:=⟨1,1,false,.cons (.ret (.and (.isi .int (.var 0)) (.not (.isi .bool (.var 0))))) .nil⟩
def c_1:CF:=⟨3,3,false,.cons (.ret (.and (.call 0 (.cons (.var 0) .nil)) (.chain .le .le (.var 1) (.var 0) (.var 2)))) .nil⟩
def c_2:CF:=⟨2,2,false,.cons (.whileS (.val (.var 1)) (.cons (.set (.tup (.cons (.var 0) (.cons (.var 1) .nil))) (.tup (.cons (.var 1) (.cons (.bin .mod (.var 0) (.var 1)) .nil)))) .nil)) (.cons (.ret (.var 0)) .nil)⟩
def c_3:CF:=⟨2,3,false,.cons (.set (.var 2) (.call 2 (.cons (.blt .abs (.cons (.var 0) .nil)) (.cons (.var 1) .nil)))) (.cons (.ret (.tup (.cons (.bin .fdiv (.var 0) (.var 2)) (.cons (.bin .fdiv (.var 1) (.var 2)) .nil)))) .nil)⟩
def c_4:CF:=⟨1,3,false,.cons (.ifs (.or (.not (.val (.isi .tuple (.var 0)))) (.val (.cmp .ne (.blt .len (.cons (.var 0) .nil)) (.cst (.int 2))))) (.cons (.ret (.cst (.bl false))) .nil) .nil) (.cons (.set (.tup (.cons (.var 1) (.cons (.var 2) .nil))) (.var 0)) (.cons (.ret (.and (.call 5 (.cons (.var 1) .nil)) (.call 6 (.cons (.var 2) (.cons (.blt .len (.cons (.var 1) .nil)) .nil))))) .nil))⟩
def c_5:CF:=⟨1,1,false,.cons (.ifs (.or (.not (.val (.isi .tuple (.var 0)))) (.not (.val (.chain .le .le (.cst (.int 1)) (.blt .len (.cons (.var 0) .nil)) (.cst (.int 12)))))) (.cons (.ret (.cst (.bl false))) .nil) .nil) (.cons (.ret (.gen .all [] 1 (.call 1 (.cons (.var 0) (.cons (.cst (.int 1)) (.cons (.cst (.int 100)) .nil)))) (.var 0) (.seq (.var 0)) .nil)) .nil)⟩
def c_6:CF:=⟨2,2,false,.cons (.ifs (.or (.not (.val (.isi .tuple (.var 0)))) (.val (.cmp .gt (.blt .len (.cons (.var 0) .nil)) (.cst (.int 30))))) (.cons (.ret (.cst (.bl false))) .nil) .nil) (.cons (.ifs (.not (.val (.gen .all [1] 1 (.call 7 (.cons (.var 1) (.cons (.var 0) .nil))) (.var 1) (.seq (.var 0)) .nil))) (.cons (.ret (.cst (.bl false))) .nil) .nil) (.cons (.ret (.call 10 (.cons (.lc false [] 2 (.var 0) (.tup (.cons (.var 0) (.cons (.var 1) .nil))) (.seq (.var 0)) .nil) .nil))) .nil))⟩
def c_7:CF:=⟨2,4,false,.cons (.ifs (.or (.not (.val (.isi .tuple (.var 0)))) (.val (.cmp .ne (.blt .len (.cons (.var 0) .nil)) (.cst (.int 2))))) (.cons (.ret (.cst (.bl false))) .nil) .nil) (.cons (.set (.tup (.cons (.var 2) (.cons (.var 3) .nil))) (.var 0)) (.cons (.ret (.and (.call 8 (.cons (.var 2) (.cons (.var 1) .nil))) (.call 1 (.cons (.var 3) (.cons (.cst (.int 1)) (.cons (.cst (.int 1000000)) .nil)))))) .nil))⟩
def c_8:CF:=⟨2,2,false,.cons (.ret (.and (.call 9 (.cons (.var 0) (.cons (.var 1) .nil))) (.cmp .le (.blt .len (.cons (.var 0) .nil)) (.cst (.int 4))))) .nil⟩
def c_9:CF:=⟨2,2,false,.cons (.ifs (.or (.not (.val (.isi .tuple (.var 0)))) (.not (.val (.var 0)))) (.cons (.ret (.cst (.bl false))) .nil) .nil) (.cons (.ret (.and (.gen .all [1] 1 (.call 1 (.cons (.var 1) (.cons (.cst (.int 0)) (.cons (.bin .sub (.var 0) (.cst (.int 1))) .nil)))) (.var 1) (.seq (.var 0)) .nil) (.call 10 (.cons (.var 0) .nil)))) .nil)⟩
def c_10:CF:=⟨1,1,false,.cons (.ret (.gen .all [] 2 (.cmp .lt (.var 0) (.var 1)) (.tup (.cons (.var 0) (.cons (.var 1) .nil))) (.zip (.var 0) (.slc (.var 0) (.some (.cst (.int 1))) .none)) .nil)) .nil⟩
def c_11:CF:=⟨1,1,false,.cons (.ifs (.not (.val (.call 4 (.cons (.var 0) .nil)))) (.cons (.never) .nil) .nil) .nil⟩
def c_12:CF:=⟨2,2,false,.cons (.expr (.call 11 (.cons (.var 0) .nil))) (.cons (.ret (.call 9 (.cons (.var 1) (.cons (.blt .len (.cons (.idx (.var 0) (.cst (.int 0))) .nil)) .nil)))) .nil)⟩
def c_13:CF:=⟨2,2,false,.cons (.ifs (.not (.val (.call 12 (.cons (.var 0) (.cons (.var 1) .nil))))) (.cons (.never) .nil) .nil) .nil⟩
def c_14:CF:=⟨2,2,false,.cons (.ret (.lc false [1] 1 (.var 1) (.var 1) (.seq (.idx (.var 0) (.cst (.int 1)))) (.cons (.val (.gen .all [0] 1 (.cmp .inn (.var 1) (.var 0)) (.var 1) (.seq (.idx (.var 1) (.cst (.int 0)))) .nil)) .nil))) .nil⟩
def c_15:CF:=⟨2,2,false,.cons (.expr (.call 13 (.cons (.var 0) (.cons (.var 1) .nil)))) (.cons (.ret (.gen .sum [] 2 (.var 1) (.tup (.cons (.var 0) (.cons (.var 1) .nil))) (.seq (.call 14 (.cons (.var 0) (.cons (.var 1) .nil)))) .nil)) .nil)⟩
def c_16:CF:=⟨2,2,false,.cons (.expr (.call 13 (.cons (.var 0) (.cons (.var 1) .nil)))) (.cons (.ret (.gen .sum [0] 1 (.idx (.idx (.var 0) (.cst (.int 0))) (.var 1)) (.var 1) (.seq (.var 1)) .nil)) .nil)⟩
def c_17:CF:=⟨2,2,false,.cons (.ret (.call 3 (.cons (.call 15 (.cons (.var 0) (.cons (.var 1) .nil))) (.cons (.call 16 (.cons (.var 0) (.cons (.var 1) .nil))) .nil)))) .nil⟩
def c_18:CF:=⟨3,3,false,.cons (.expr (.call 13 (.cons (.var 0) (.cons (.var 1) .nil)))) (.cons (.ifs (.or (.not (.val (.call 0 (.cons (.var 2) .nil)))) (.val (.cmp .nin (.var 2) (.var 1)))) (.cons (.never) .nil) .nil) (.cons (.ret (.gen .sum [2] 2 (.var 2) (.tup (.cons (.var 1) (.cons (.var 2) .nil))) (.seq (.call 14 (.cons (.var 0) (.cons (.var 1) .nil)))) (.cons (.val (.cmp .inn (.var 0) (.var 1))) .nil))) .nil))⟩
def c_19:CF:=⟨1,1,false,.cons (.ret (.bin .mod (.bin .mul (.bin .mod (.var 0) (.bin .pow (.cst (.int 10)) (.cst (.int 60)))) (.cst (.int 845098040014256830712216258592636193483572396323965406503637))) (.bin .pow (.cst (.int 10)) (.cst (.int 60))))) .nil⟩
def c_20:CF:=⟨2,5,true,.cons (.set (.var 2) (.cst (.int 0))) (.cons (.forS (.var 3) (.seq (.lst false (.cons (.bin .add (.var 1) (.cst (.int 1))) (.cons (.var 1) .nil)))) (.cons (.set (.var 4) (.idx (.bin .add (.slc (.var 0) (.some (.var 3)) (.some (.bin .add (.var 3) (.cst (.int 1))))) (.lst false (.cons (.bin .add (.bin .add (.bin .mul (.cst (.int 5701)) (.var 3)) (.cst (.int 43))) (.bin .mul (.cst (.int 7)) (.idx (.bin .add (.var 0) (.lst false (.cons (.cst (.int 0)) .nil))) (.cst (.int 0))))) .nil))) (.cst (.int 0)))) (.cons (.set (.var 2) (.bin .add (.bin .mul (.var 2) (.bin .pow (.cst (.int 10)) (.cst (.int 60)))) (.call 19 (.cons (.var 4) .nil)))) .nil))) (.cons (.ret (.lst true (.cons (.var 2) .nil))) .nil))⟩
def c_21:CF:=⟨2,3,false,.cons (.set (.tup (.cons (.sub (.var 0) (.cst (.int 0))) (.cons (.var 2) .nil))) (.blt .divmod (.cons (.idx (.var 0) (.cst (.int 0))) (.cons (.var 1) .nil)))) (.cons (.ret (.var 2)) .nil)⟩
def c_22:CF:=⟨2,2,false,.cons (.ret (.cmp .lt (.bin .mul (.idx (.var 0) (.cst (.int 0))) (.idx (.var 1) (.cst (.int 1)))) (.bin .mul (.idx (.var 1) (.cst (.int 0))) (.idx (.var 0) (.cst (.int 1)))))) .nil⟩
def c_23:CF:=⟨2,5,false,.cons (.set (.var 2) (.idx (.lst false (.cons (.cst (.int 2)) (.cons (.cst (.int 2)) (.cons (.cst (.int 2)) (.cons (.cst (.int 3)) (.cons (.cst (.int 3)) (.cons (.cst (.int 1)) (.cons (.cst (.int 4)) (.cons (.cst (.int 2)) .nil))))))))) (.call 21 (.cons (.var 0) (.cons (.cst (.int 8)) .nil))))) (.cons (.set (.var 3) (.rng (some true) (.cons (.var 1) .nil))) (.cons (.set (.var 4) (.lc false [3,0] 1 (.popAt (.var 0) (.call 21 (.cons (.var 1) (.cons (.blt .len (.cons (.var 0) .nil)) .nil)))) (.var 2) (.rng (.cons (.blt .min2 (.cons (.var 2) (.cons (.var 1) .nil))) .nil)) .nil)) (.cons (.ret (.blt .tuple (.cons (.blt (.sorted false) (.cons (.var 4) .nil)) .nil))) .nil)))⟩
def c_24:CF:=⟨3,8,false,.cons (.set (.var 3) (.bin .add (.cst (.int 1)) (.call 21 (.cons (.var 0) (.cons (.var 1) .nil))))) (.cons (.set (.var 4) (.bin .mul (.lst false (.cons (.cst (.int 1)) .nil)) (.var 3))) (.cons (.ifs (.val (.cmp .eq (.call 21 (.cons (.var 0) (.cons (.cst (.int 3)) .nil))) (.cst (.int 0)))) (.cons (.set (.var 4) (.lc false [0] 1 (.bin .add (.cst (.int 1)) (.call 21 (.cons (.var 0) (.cons (.cst (.int 5)) .nil)))) (.var 1) (.rng (.cons (.var 3) .nil)) .nil)) .nil) .nil) (.cons (.set (.var 5) (.dic true)) (.cons (.forS (.var 6) (.rng (.cons (.call 21 (.cons (.var 0) (.cons (.bin .add (.var 2) (.cst (.int 1))) .nil))) .nil)) (.cons (.set (.var 7) (.call 23 (.cons (.var 0) (.cons (.var 3) .nil)))) (.cons (.set (.sub (.var 5) (.var 7)) (.bin .add (.cst (.int 1)) (.call 21 (.cons (.var 0) (.cons (.cst (.int 9)) .nil))))) .nil))) (.cons (.ret (.tup (.cons (.blt .tuple (.cons (.var 4) .nil)) (.cons (.blt .tuple (.cons (.lc false [5] 1 (.tup (.cons (.var 1) (.cons (.idx (.var 0) (.var 1)) .nil))) (.var 1) (.seq (.blt (.sorted false) (.cons (.var 5) .nil))) .nil) .nil)) .nil)))) .nil)))))⟩
def c_25:CF:=⟨2,3,false,.cons (.set (.var 2) (.bin .add (.cst (.int 1)) (.call 21 (.cons (.var 0) (.cons (.bin .sub (.bin .shl (.cst (.int 1)) (.var 1)) (.cst (.int 1))) .nil))))) (.cons (.ret (.blt .tuple (.cons (.lc false [2] 1 (.var 1) (.var 1) (.rng (.cons (.var 1) .nil)) (.cons (.val (.cmp .eq (.bin .band (.bin .shr (.var 0) (.var 1)) (.cst (.int 1))) (.cst (.int 1)))) .nil)) .nil))) .nil)⟩
def c_26:CF:=⟨2,2,false,.cons (.ifs (.val (.cmp .eq (.var 1) (.tup .nil))) (.cons (.ret (.cst (.int 0))) .nil) .nil) (.cons (.ret (.call 15 (.cons (.var 0) (.cons (.var 1) .nil)))) .nil)⟩
def c_27:CF:=⟨3,13,false,.cons (.set (.var 3) (.blt .tuple (.cons (.blt (.sset false) (.cons (.bin .add (.var 1) (.var 2)) .nil)) .nil))) (.cons (.set (.var 4) (.blt .tuple (.cons (.lc false [2] 1 (.var 1) (.var 1) (.seq (.var 1)) (.cons (.val (.cmp .inn (.var 1) (.var 0))) .nil)) .nil))) (.cons (.ifs (.val (.cmp .isn (.call 12 (.cons (.var 0) (.cons (.var 3) .nil))) (.cst (.bl true)))) (.cons (.ret (.cst (.bl false))) .nil) .nil) (.cons (.set (.var 5) (.bin .sub (.bin .add (.call 16 (.cons (.var 0) (.cons (.var 1) .nil))) (.call 16 (.cons (.var 0) (.cons (.var 2) .nil)))) (.call 16 (.cons (.var 0) (.cons (.var 3) .nil))))) (.cons (.ifs (.val (.cmp .ne (.var 5) (.blt .sum (.cons (.lc false [0] 1 (.idx (.idx (.var 0) (.cst (.int 0))) (.var 1)) (.var 1) (.seq (.var 4)) .nil) .nil)))) (.cons (.ret (.cst (.bl false))) .nil) .nil) (.cons (.set (.var 6) (.bin .add (.call 15 (.cons (.var 0) (.cons (.var 1) .nil))) (.call 15 (.cons (.var 0) (.cons (.var 2) .nil))))) (.cons (.ifs (.val (.cmp .gt (.var 6) (.bin .add (.call 15 (.cons (.var 0) (.cons (.var 3) .nil))) (.call 26 (.cons (.var 0) (.cons (.var 4) .nil)))))) (.cons (.ret (.cst (.bl false))) .nil) .nil) (.cons (.ifs (.val (.cmp .lt (.call 15 (.cons (.var 0) (.cons (.var 3) .nil))) (.call 15 (.cons (.var 0) (.cons (.var 1) .nil))))) (.cons (.ret (.cst (.bl false))) .nil) .nil) (.cons (.ifs (.val (.blt .any (.cons (.lc false [0,3,1] 1 (.cmp .lt (.call 18 (.cons (.var 0) (.cons (.var 1) (.cons (.var 3) .nil)))) (.call 18 (.cons (.var 0) (.cons (.var 2) (.cons (.var 3) .nil))))) (.var 3) (.seq (.var 1)) .nil) .nil))) (.cons (.ret (.cst (.bl false))) .nil) .nil) (.cons (.ifs (.val (.cmp .ne (.var 4) (.tup .nil))) (.cons (.ret (.cst (.bl true))) .nil) .nil) (.cons (.set (.var 7) (.cst (.int 0))) (.cons (.forS (.tup (.cons (.var 8) (.cons (.var 9) .nil))) (.seq (.idx (.var 0) (.cst (.int 1)))) (.cons (.set (.var 10) (.lc false [3] 1 (.cmp .inn (.var 1) (.var 0)) (.var 1) (.seq (.var 8)) .nil)) (.cons (.set (.var 11) (.lc false [8] 1 (.blt .any (.cons (.lc false [1] 1 (.cmp .inn (.var 1) (.var 0)) (.var 1) (.seq (.var 0)) .nil) .nil)) (.var 1) (.seq (.lst false (.cons (.var 1) (.cons (.var 2) .nil)))) .nil)) (.cons (.ifs (.and (.val (.blt .all (.cons (.var 10) .nil))) (.val (.blt .all (.cons (.var 11) .nil)))) (.cons (.set (.var 7) (.bin .add (.var 7) (.var 9))) .nil) .nil) .nil)))) (.cons (.ifs (.val (.cmp .ne (.call 15 (.cons (.var 0) (.cons (.var 3) .nil))) (.bin .add (.var 6) (.var 7)))) (.cons (.ret (.cst (.bl false))) .nil) .nil) (.cons (.set (.var 12) (.lst false (.cons (.call 17 (.cons (.var 0) (.cons (.var 1) .nil))) (.cons (.call 17 (.cons (.var 0) (.cons (.var 2) .nil))) .nil)))) (.cons (.ifs (.and (.val (.cmp .eq (.var 7) (.cst (.int 0)))) (.val (.blt .all (.cons (.lc false [0,3] 1 (.call 22 (.cons (.var 2) (.cons (.call 17 (.cons (.var 0) (.cons (.var 1) .nil))) .nil))) (.var 2) (.seq (.var 12)) .nil) .nil)))) (.cons (.ret (.cst (.bl false))) .nil) .nil) (.cons (.ret (.not (.blt .all (.cons (.lc false [0,3] 1 (.call 22 (.cons (.call 17 (.cons (.var 0) (.cons (.var 1) .nil))) (.cons (.var 2) .nil))) (.var 2) (.seq (.var 12)) .nil) .nil)))) .nil)))))))))))))))⟩
def qcH:CF:=⟨1,9,false,.cons (.forS (.var 1) (.rng (.cons (.cst (.int 0)) (.cons (.blt .max2 (.cons (.cst (.int 1)) (.cons (.blt .min2 (.cons (.blt .len (.cons (.var 0) .nil)) (.cons (.cst (.int 12)) .nil))) .nil))) (.cons (.cst (.int 2)) .nil)))) (.cons (.set (.var 2) (.call 20 (.cons (.var 0) (.cons (.var 1) .nil)))) (.cons (.set (.var 3) (.call 24 (.cons (.var 2) (.cons (.cst (.int 8)) (.cons (.cst (.int 12)) .nil))))) (.cons (.set (.var 4) (.call 20 (.cons (.var 0) (.cons (.bin .add (.var 1) (.cst (.int 3))) .nil)))) (.cons (.forS (.var 5) (.rng (.cons (.cst (.int 5)) .nil)) (.cons (.set (.tup (.cons (.var 6) (.cons (.var 7) .nil))) (.tup (.cons (.call 25 (.cons (.var 4) (.cons (.blt .len (.cons (.idx (.var 3) (.cst (.int 0))) .nil)) .nil))) (.cons (.call 25 (.cons (.var 4) (.cons (.blt .len (.cons (.idx (.var 3) (.cst (.int 0))) .nil)) .nil))) .nil)))) (.cons (.set (.var 8) (.blt .tuple (.cons (.lc false [6] 1 (.var 1) (.var 1) (.rng (.cons (.blt .len (.cons (.idx (.var 3) (.cst (.int 0))) .nil)) .nil)) (.cons (.val (.cmp .nin (.var 1) (.var 0))) .nil)) .nil))) (.cons (.ifs (.or (.not (.val (.call 27 (.cons (.var 3) (.cons (.var 6) (.cons (.var 7) .nil)))))) (.not (.val (.call 27 (.cons (.var 3) (.cons (.var 6) (.cons (.var 6) .nil))))))) (.cons (.ret (.cst (.bl false))) .nil) .nil) (.cons (.ifs (.and (.val (.cmp .ne (.var 8) (.tup .nil))) (.not (.val (.call 27 (.cons (.var 3) (.cons (.var 6) (.cons (.var 8) .nil))))))) (.cons (.ret (.cst (.bl false))) .nil) .nil) .nil))))) .nil))))) (.cons (.ret (.cst (.bl true))) .nil)⟩
noncomputable def prg:List CF:=[c_0,c_1,c_2,c_3,c_4,c_5,c_6,c_7,c_8,c_9,c_10,c_11,c_12,c_13,c_14,c_15,c_16,c_17,c_18,c_19,c_20,c_21,c_22,c_23,c_24,c_25,c_26,c_27,qcH]
end RP
namespace RP
open PySem PySem.Spec L2 SeqAt R
open PyProof.Rows hiding St
noncomputable def top(i:Nat):Stmt:=PySem.Challenge.pw_weblayers_k06_whole_two_parts.main.body.getD i (.Pass ⟨0,0,0,0⟩)
structure Pre (K:PySem.W.Frag) (mg:Str->Option Value):Prop where
 gb:Gb mg
 g_MOST_COST:∃t:Tok,mg "MOST_COST"=some (.int 100 t)
 g_MOST_PLACES:∃t:Tok,mg "MOST_PLACES"=some (.int 12 t)
 g_MOST_PLACES_OF_TIE:∃t:Tok,mg "MOST_PLACES_OF_TIE"=some (.int 4 t)
 g_MOST_TIES:∃t:Tok,mg "MOST_TIES"=some (.int 30 t)
 g_MOST_WEIGHT:∃t:Tok,mg "MOST_WEIGHT"=some (.int 1000000 t)
 u_0:DefIn K mg "is_whole" (top 5) ["thing"]
 u_1:DefIn K mg "is_whole_within" (top 6) ["thing","least","most"]
 u_2:DefIn K mg "common_divisor" (top 7) ["one","other"]
 u_3:DefIn K mg "lowest" (top 8) ["top","bottom"]
 u_4:DefIn K mg "is_web" (top 15) ["thing"]
 u_5:DefIn K mg "are_costs" (top 16) ["thing"]
 u_6:DefIn K mg "are_ties" (top 17) ["thing","many"]
 u_7:DefIn K mg "is_tie" (top 18) ["thing","many"]
 u_8:DefIn K mg "are_tied_places" (top 19) ["thing","many"]
 u_9:DefIn K mg "are_places" (top 20) ["thing","many"]
 u_10:DefIn K mg "is_rising" (top 21) ["things"]
 u_11:DefIn K mg "need_web" (top 22) ["thing"]
 u_12:DefIn K mg "is_part" (top 23) ["web","thing"]
 u_13:DefIn K mg "need_part" (top 24) ["web","thing"]
 u_14:DefIn K mg "ties_within" (top 25) ["web","part"]
 u_15:DefIn K mg "weight" (top 26) ["web","part"]
 u_16:DefIn K mg "cost" (top 27) ["web","part"]
 u_17:DefIn K mg "share" (top 28) ["web","part"]
 u_18:DefIn K mg "degree" (top 29) ["web","part","place"]
 u_19:DefIn K mg "_law_mixed" (top 31) ["_law_cell"]
 u_20:DefIn K mg "_law_pack" (top 32) ["_law_script","_law_k"]
 u_21:DefIn K mg "_law_take" (top 33) ["_law_pack_here","_law_size"]
 u_22:DefIn K mg "_law_under" (top 34) ["_law_one","_law_other"]
 u_23:DefIn K mg "_law_places" (top 35) ["_law_pack_here","_law_many"]
 u_24:DefIn K mg "_law_web" (top 36) ["_law_pack_here","_law_most","_law_ties"]
 u_25:DefIn K mg "_law_part" (top 37) ["_law_pack_here","_law_many"]
 u_26:DefIn K mg "_law_within" (top 38) ["_law_web_here","_law_part_here"]
 u_27:DefIn K mg "_law_right" (top 39) ["_law_web_here","_law_one","_law_other"]
 u_28:DefIn K mg "law" (top 40) ["_law_script"]
structure All (P:Program) (w:World) (K:PySem.W.Frag) (mg:Str->Option Value) (base:Heap) (k:Nat) (F:Fs):Prop where
 h_0:FnAt P w K mg base k F 0 "is_whole" ["thing"]
 h_1:FnAt P w K mg base k F 1 "is_whole_within" ["thing","least","most"]
 h_2:FnAt P w K mg base k F 2 "common_divisor" ["one","other"]
 h_3:FnAt P w K mg base k F 3 "lowest" ["top","bottom"]
 h_4:FnAt P w K mg base k F 4 "is_web" ["thing"]
 h_5:FnAt P w K mg base k F 5 "are_costs" ["thing"]
 h_6:FnAt P w K mg base k F 6 "are_ties" ["thing","many"]
 h_7:FnAt P w K mg base k F 7 "is_tie" ["thing","many"]
 h_8:FnAt P w K mg base k F 8 "are_tied_places" ["thing","many"]
 h_9:FnAt P w K mg base k F 9 "are_places" ["thing","many"]
 h_10:FnAt P w K mg base k F 10 "is_rising" ["things"]
 h_11:FnAt P w K mg base k F 11 "need_web" ["thing"]
 h_12:FnAt P w K mg base k F 12 "is_part" ["web","thing"]
 h_13:FnAt P w K mg base k F 13 "need_part" ["web","thing"]
 h_14:FnAt P w K mg base k F 14 "ties_within" ["web","part"]
 h_15:FnAt P w K mg base k F 15 "weight" ["web","part"]
 h_16:FnAt P w K mg base k F 16 "cost" ["web","part"]
 h_17:FnAt P w K mg base k F 17 "share" ["web","part"]
 h_18:FnAt P w K mg base k F 18 "degree" ["web","part","place"]
 h_19:FnAt P w K mg base k F 19 "_law_mixed" ["_law_cell"]
 h_20:FnAt P w K mg base k F 20 "_law_pack" ["_law_script","_law_k"]
 h_21:FnAt P w K mg base k F 21 "_law_take" ["_law_pack_here","_law_size"]
 h_22:FnAt P w K mg base k F 22 "_law_under" ["_law_one","_law_other"]
 h_23:FnAt P w K mg base k F 23 "_law_places" ["_law_pack_here","_law_many"]
 h_24:FnAt P w K mg base k F 24 "_law_web" ["_law_pack_here","_law_most","_law_ties"]
 h_25:FnAt P w K mg base k F 25 "_law_part" ["_law_pack_here","_law_many"]
 h_26:FnAt P w K mg base k F 26 "_law_within" ["_law_web_here","_law_part_here"]
 h_27:FnAt P w K mg base k F 27 "_law_right" ["_law_web_here","_law_one","_law_other"]
 h_28:FnAt P w K mg base k F 28 "law" ["_law_script"]
theorem sc_0:FnScope ["thing"] ["thing"] (defScope (top 5)):=⟨rfl,rfl,rfl,by decide +kernel,rfl,by decide +kernel,by decide +kernel⟩
theorem sc_1:FnScope ["thing","least","most"] ["thing","least","most"] (defScope (top 6)):=⟨rfl,rfl,rfl,by decide +kernel,rfl,by decide +kernel,by decide +kernel⟩
theorem sc_2:FnScope ["one","other"] ["one","other"] (defScope (top 7)):=⟨rfl,rfl,rfl,by decide +kernel,rfl,by decide +kernel,by decide +kernel⟩
theorem sc_3:FnScope ["top","bottom","divisor"] ["top","bottom"] (defScope (top 8)):=⟨rfl,rfl,rfl,by decide +kernel,rfl,by decide +kernel,by decide +kernel⟩
theorem sc_4:FnScope ["thing","costs","ties"] ["thing"] (defScope (top 15)):=⟨rfl,rfl,rfl,by decide +kernel,rfl,by decide +kernel,by decide +kernel⟩
theorem sc_5:FnScope ["thing"] ["thing"] (defScope (top 16)):=⟨rfl,rfl,rfl,by decide +kernel,rfl,by decide +kernel,by decide +kernel⟩
theorem sc_6:FnScope ["thing","many"] ["thing","many"] (defScope (top 17)):=⟨rfl,rfl,rfl,by decide +kernel,rfl,by decide +kernel,by decide +kernel⟩
theorem sc_7:FnScope ["thing","many","places","heavy"] ["thing","many"] (defScope (top 18)):=⟨rfl,rfl,rfl,by decide +kernel,rfl,by decide +kernel,by decide +kernel⟩
theorem sc_8:FnScope ["thing","many"] ["thing","many"] (defScope (top 19)):=⟨rfl,rfl,rfl,by decide +kernel,rfl,by decide +kernel,by decide +kernel⟩
theorem sc_9:FnScope ["thing","many"] ["thing","many"] (defScope (top 20)):=⟨rfl,rfl,rfl,by decide +kernel,rfl,by decide +kernel,by decide +kernel⟩
theorem sc_10:FnScope ["things"] ["things"] (defScope (top 21)):=⟨rfl,rfl,rfl,by decide +kernel,rfl,by decide +kernel,by decide +kernel⟩
theorem sc_11:FnScope ["thing"] ["thing"] (defScope (top 22)):=⟨rfl,rfl,rfl,by decide +kernel,rfl,by decide +kernel,by decide +kernel⟩
theorem sc_12:FnScope ["web","thing"] ["web","thing"] (defScope (top 23)):=⟨rfl,rfl,rfl,by decide +kernel,rfl,by decide +kernel,by decide +kernel⟩
theorem sc_13:FnScope ["web","thing"] ["web","thing"] (defScope (top 24)):=⟨rfl,rfl,rfl,by decide +kernel,rfl,by decide +kernel,by decide +kernel⟩
theorem sc_14:FnScope ["web","part"] ["web","part"] (defScope (top 25)):=⟨rfl,rfl,rfl,by decide +kernel,rfl,by decide +kernel,by decide +kernel⟩
theorem sc_15:FnScope ["web","part"] ["web","part"] (defScope (top 26)):=⟨rfl,rfl,rfl,by decide +kernel,rfl,by decide +kernel,by decide +kernel⟩
theorem sc_16:FnScope ["web","part"] ["web","part"] (defScope (top 27)):=⟨rfl,rfl,rfl,by decide +kernel,rfl,by decide +kernel,by decide +kernel⟩
theorem sc_17:FnScope ["web","part"] ["web","part"] (defScope (top 28)):=⟨rfl,rfl,rfl,by decide +kernel,rfl,by decide +kernel,by decide +kernel⟩
theorem sc_18:FnScope ["web","part","place"] ["web","part","place"] (defScope (top 29)):=⟨rfl,rfl,rfl,by decide +kernel,rfl,by decide +kernel,by decide +kernel⟩
theorem sc_19:FnScope ["_law_cell"] ["_law_cell"] (defScope (top 31)):=⟨rfl,rfl,rfl,by decide +kernel,rfl,by decide +kernel,by decide +kernel⟩
theorem sc_20:FnScope ["_law_script","_law_k","_law_found","_law_at","_law_cell"] ["_law_script","_law_k"] (defScope (top 32)):=⟨rfl,rfl,rfl,by decide +kernel,rfl,by decide +kernel,by decide +kernel⟩
theorem sc_21:FnScope ["_law_pack_here","_law_size","_law_digit"] ["_law_pack_here","_law_size"] (defScope (top 33)):=⟨rfl,rfl,rfl,by decide +kernel,rfl,by decide +kernel,by decide +kernel⟩
theorem sc_22:FnScope ["_law_one","_law_other"] ["_law_one","_law_other"] (defScope (top 34)):=⟨rfl,rfl,rfl,by decide +kernel,rfl,by decide +kernel,by decide +kernel⟩
theorem sc_23:FnScope ["_law_pack_here","_law_many","_law_size","_law_left","_law_found"] ["_law_pack_here","_law_many"] (defScope (top 35)):=⟨rfl,rfl,rfl,by decide +kernel,rfl,by decide +kernel,by decide +kernel⟩
theorem sc_24:FnScope ["_law_pack_here","_law_most","_law_ties","_law_many","_law_costs","_law_known","_law_turn","_law_some"] ["_law_pack_here","_law_most","_law_ties"] (defScope (top 36)):=⟨rfl,rfl,rfl,by decide +kernel,rfl,by decide +kernel,by decide +kernel⟩
theorem sc_25:FnScope ["_law_pack_here","_law_many","_law_number"] ["_law_pack_here","_law_many"] (defScope (top 37)):=⟨rfl,rfl,rfl,by decide +kernel,rfl,by decide +kernel,by decide +kernel⟩
theorem sc_26:FnScope ["_law_web_here","_law_part_here"] ["_law_web_here","_law_part_here"] (defScope (top 38)):=⟨rfl,rfl,rfl,by decide +kernel,rfl,by decide +kernel,by decide +kernel⟩
theorem sc_27:FnScope ["_law_web_here","_law_one","_law_other","_law_both","_law_meet","_law_dear","_law_apart_sum","_law_joined","_law_some","_law_mass","_law_inside","_law_ways","_law_shares"] ["_law_web_here","_law_one","_law_other"] (defScope (top 39)):=⟨rfl,rfl,rfl,by decide +kernel,rfl,by decide +kernel,by decide +kernel⟩
theorem sc_28:FnScope ["_law_script","_law_k","_law_pack_here","_law_web_here","_law_more","_law_turn","_law_one","_law_other","_law_left"] ["_law_script"] (defScope (top 40)):=⟨rfl,rfl,rfl,by decide +kernel,rfl,by decide +kernel,by decide +kernel⟩
section
variable{P:Program}{w:World}{K:PySem.W.Frag}{mg:Str->Option Value}{base:Heap}{k n:Nat}{F:Fs}{f c t:Addr}{A:Around}{outer:List Env}{s:Shared}{H:Hp}{E:XK}
noncomputable abbrev Bdy(P:Program)(w:World)(K:PySem.W.Frag)(mg:Str->Option Value)(base:Heap)(n:Nat)(F:Fs)(f c:Addr)(A:Around)(outer:List Env)(s:Shared)(H:Hp)(E:XK)(N:List Str)(x:Str)(i:Nat)(b:CSs):Prop:=QSs (cxOf CX0 P w K mg base N x (defScope (top i)) f (.ref c) A outer s H E).nox (defBody (top i)) (TSm (exs F n b))
noncomputable abbrev Rm(k:Nat)(A:Around)(s:Shared)(f c:Addr)(x:Str)(i:Nat):Prop:=Room (k+2) (A.deeper (envOfC x (defScope (top i)) s.heap.objs.size f (.ref c)))
variable(p:Pre K mg)(a:All P w K mg base k F)(tab:codeTab K c t=true)
include p a tab
theorem b_0(b:Rm k A s f c "is_whole" 5):Bdy P w K mg base n F f c A outer s H E ["thing"] "is_whole" 5 c_0.body :=
 qd (ql (j8 (jC .int p.gb (qc 0)) (y1 (qg3 (jC .bool p.gb (qc 0)))))) qh
theorem b_1(b:Rm k A s f c "is_whole_within" 6):Bdy P w K mg base n F f c A outer s H E ["thing","least","most"] "is_whole_within" 6 c_1.body :=
 qd (ql (j8 (qg a.h_0 (m2 b) (qb (qc 0) qe)) (y1 (qgJ .le .le b (qc 1) (qc 0) (qc 2))))) qh
theorem b_2(b:Rm k A s f c "common_divisor" 7):Bdy P w K mg base n F f c A outer s H E ["one","other"] "common_divisor" 7 c_2.body :=
 qd (qgL (qX (qc 1)) (qd (qjI 0 1 (qb (qc 1) (qb (qo .mod (qc 0) (qc 1)) qe))) qh)) (qd (ql (qc 0)) qh)
theorem b_3(b:Rm k A s f c "lowest" 8):Bdy P w K mg base n F f c A outer s H E ["top","bottom","divisor"] "lowest" 8 c_3.body :=
 qd (qR 2 (qg a.h_2 (m2 b) (qb (qjG p.gb (qb (qc 0) qe)) (qb (qc 1) qe)))) (qd (ql (jB (qb (qo .fdiv (qc 0) (qc 2)) (qb (qo .fdiv (qc 1) (qc 2)) qe)))) qh)
theorem b_4(b:Rm k A s f c "is_web" 15):Bdy P w K mg base n F f c A outer s H E ["thing","costs","ties"] "is_web" 15 c_4.body :=
 qd (z_if (Qpt (w_or (zv (qX (jC .tuple p.gb (qc 0)))) (jD (qZ .ne b (zQ p.gb (qb (qc 0) qe)) qj)))) (qd (ql qJ) qh) qh) (qd (qbp (qc 0) (yH (qK (qp 1) (qK (qp 2) yG)))) (qd (ql (j8 (qg a.h_5 (m2 b) (qb (qc 1) qe)) (y1 (qg a.h_6 (m2 b) (qb (qc 2) (qb (zQ p.gb (qb (qc 1) qe)) qe)))))) qh))
theorem b_5(b:Rm k A s f c "are_costs" 16):Bdy P w K mg base n F f c A outer s H E ["thing"] "are_costs" 16 c_5.body :=
 qd (z_if (Qpt (w_or (zv (qX (jC .tuple p.gb (qc 0)))) (jD (zv (qgK .le .le b qj (zQ p.gb (qb (qc 0) qe)) (jz (p.g_MOST_PLACES).choose_spec)))))) (qd (ql qJ) qh) qh) (qd (ql (jG [] [] ["one"] b p.gb rfl tab (qV (qc 0)) (λ_ _ _ _ _ _ _ _=>qp 0) (λ_ _ _ _ _ _ _ _=>qN) (λ_ _ _ _ _ _ _ _=>qg a.h_1 (m1 (zg b)) (qb (qc 0) (qb qj (qb (jz (p.g_MOST_COST).choose_spec) qe)))))) qh)
theorem b_6(b:Rm k A s f c "are_ties" 17):Bdy P w K mg base n F f c A outer s H E ["thing","many"] "are_ties" 17 c_6.body :=
 qd (z_if (Qpt (w_or (zv (qX (jC .tuple p.gb (qc 0)))) (jD (qZ .gt b (zQ p.gb (qb (qc 0) qe)) (jz (p.g_MOST_TIES).choose_spec))))) (qd (ql qJ) qh) qh) (qd (z_if (zv (qX (jG [1] ["many"] ["one"] b p.gb rfl tab (qV (qc 0)) (λ_ _ _ _ _ _ _ _=>qp 1) (λ_ _ _ _ _ _ _ _=>qN) (λ_ _ _ _ _ _ _ _=>qg a.h_7 (m1 (zg b)) (qb (qc 1) (qb (qc 0) qe)))))) (qd (ql qJ) qh) qh) (qd (ql (qg a.h_10 (m2 b) (qb (k_lc false [] [] ["places","heavy"] (qV (qc 0)) (λ_ _ _ _ _=>yH (qK (qp 0) (qK (qp 1) yG))) (λ_ _ _ _ _=>qN) (λ_ _ _ _ _=>qc 0)) qe))) qh))
theorem b_7(b:Rm k A s f c "is_tie" 18):Bdy P w K mg base n F f c A outer s H E ["thing","many","places","heavy"] "is_tie" 18 c_7.body :=
 qd (z_if (Qpt (w_or (zv (qX (jC .tuple p.gb (qc 0)))) (jD (qZ .ne b (zQ p.gb (qb (qc 0) qe)) qj)))) (qd (ql qJ) qh) qh) (qd (qbp (qc 0) (yH (qK (qp 2) (qK (qp 3) yG)))) (qd (ql (j8 (qg a.h_8 (m2 b) (qb (qc 2) (qb (qc 1) qe))) (y1 (qg a.h_1 (m2 b) (qb (qc 3) (qb qj (qb (jz (p.g_MOST_WEIGHT).choose_spec) qe))))))) qh))
theorem b_8(b:Rm k A s f c "are_tied_places" 19):Bdy P w K mg base n F f c A outer s H E ["thing","many"] "are_tied_places" 19 c_8.body :=
 qd (ql (j8 (qg a.h_9 (m2 b) (qb (qc 0) (qb (qc 1) qe))) (y1 (jA .le b (zQ p.gb (qb (qc 0) qe)) (jz (p.g_MOST_PLACES_OF_TIE).choose_spec))))) qh
theorem b_9(b:Rm k A s f c "are_places" 20):Bdy P w K mg base n F f c A outer s H E ["thing","many"] "are_places" 20 c_9.body :=
 qd (z_if (Qpt (w_or (zv (qX (jC .tuple p.gb (qc 0)))) (jD (zv (qX (qc 0)))))) (qd (ql qJ) qh) qh) (qd (ql (j8 (jG [1] ["many"] ["one"] b p.gb rfl tab (qV (qc 0)) (λ_ _ _ _ _ _ _ _=>qp 1) (λ_ _ _ _ _ _ _ _=>qN) (λ_ _ _ _ _ _ _ _=>qg a.h_1 (m1 (zg b)) (qb (qc 1) (qb qj (qb (qo .sub (qc 0) qj) qe))))) (y1 (qg a.h_10 (m2 b) (qb (qc 0) qe))))) qh)
theorem b_10(b:Rm k A s f c "is_rising" 21):Bdy P w K mg base n F f c A outer s H E ["things"] "is_rising" 21 c_10.body :=
 qd (ql (jG [] [] ["one","other"] b p.gb rfl tab (qjE p.gb (qc 0) (qg4 (qc 0) (k_os qj) (k_on))) (λ_ _ _ _ _ _ _ _=>yH (qK (qp 0) (qK (qp 1) yG))) (λ_ _ _ _ _ _ _ _=>qN) (λ_ _ _ _ _ _ _ _=>jA .lt (zg b) (qc 0) (qc 1)))) qh
theorem b_11(b:Rm k A s f c "need_web" 22):Bdy P w K mg base n F f c A outer s H E ["thing"] "need_web" 22 c_11.body :=
 qd (z_if (zv (qX (qg a.h_4 (m2 b) (qb (qc 0) qe)))) (qd (qaA) qh) qh) qh
theorem b_12(b:Rm k A s f c "is_part" 23):Bdy P w K mg base n F f c A outer s H E ["web","thing"] "is_part" 23 c_12.body :=
 qd (qaz (qg a.h_11 (m2 b) (qb (qc 0) qe))) (qd (ql (qg a.h_9 (m2 b) (qb (qc 1) (qb (zQ p.gb (qb (qU b (qc 0) qj) qe)) qe)))) qh)
theorem b_13(b:Rm k A s f c "need_part" 24):Bdy P w K mg base n F f c A outer s H E ["web","thing"] "need_part" 24 c_13.body :=
 qd (z_if (zv (qX (qg a.h_12 (m2 b) (qb (qc 0) (qb (qc 1) qe))))) (qd (qaA) qh) qh) qh
theorem b_14(b:Rm k A s f c "ties_within" 25):Bdy P w K mg base n F f c A outer s H E ["web","part"] "ties_within" 25 c_14.body :=
 qd (ql (k_lc false [1] ["part"] ["tie"] (qV (qU b (qc 0) qj)) (λ_ _ _ _ _=>qp 1) (λ_ _ _ _ _=>jE (qX (jG [0] ["part"] ["place"] b p.gb rfl tab (qV (qU b (qc 1) qj)) (λ_ _ _ _ _ _ _ _=>qp 1) (λ_ _ _ _ _ _ _ _=>qN) (λ_ _ _ _ _ _ _ _=>jA .inn (zg b) (qc 1) (qc 0)))) qN) (λ_ _ _ _ _=>qc 1))) qh
theorem b_15(b:Rm k A s f c "weight" 26):Bdy P w K mg base n F f c A outer s H E ["web","part"] "weight" 26 c_15.body :=
 qd (qaz (qg a.h_13 (m2 b) (qb (qc 0) (qb (qc 1) qe)))) (qd (ql (qb9 [] [] ["places","heavy"] b p.gb rfl tab (qV (qg a.h_14 (m2 b) (qb (qc 0) (qb (qc 1) qe)))) (λ_ _ _ _ _ _ _ _=>yH (qK (qp 0) (qK (qp 1) yG))) (λ_ _ _ _ _ _ _ _=>qN) (λ_ _ _ _ _ _ _ _=>qc 1))) qh)
theorem b_16(b:Rm k A s f c "cost" 27):Bdy P w K mg base n F f c A outer s H E ["web","part"] "cost" 27 c_16.body :=
 qd (qaz (qg a.h_13 (m2 b) (qb (qc 0) (qb (qc 1) qe)))) (qd (ql (qb9 [0] ["web"] ["place"] b p.gb rfl tab (qV (qc 1)) (λ_ _ _ _ _ _ _ _=>qp 1) (λ_ _ _ _ _ _ _ _=>qN) (λ_ _ _ _ _ _ _ _=>qU (zg b) (qU (zg b) (qc 0) qj) (qc 1)))) qh)
theorem b_17(b:Rm k A s f c "share" 28):Bdy P w K mg base n F f c A outer s H E ["web","part"] "share" 28 c_17.body :=
 qd (ql (qg a.h_3 (m2 b) (qb (qg a.h_15 (m2 b) (qb (qc 0) (qb (qc 1) qe))) (qb (qg a.h_16 (m2 b) (qb (qc 0) (qb (qc 1) qe))) qe)))) qh
theorem b_18(b:Rm k A s f c "degree" 29):Bdy P w K mg base n F f c A outer s H E ["web","part","place"] "degree" 29 c_18.body :=
 qd (qaz (qg a.h_13 (m2 b) (qb (qc 0) (qb (qc 1) qe)))) (qd (z_if (Qpt (w_or (zv (qX (qg a.h_0 (m2 b) (qb (qc 2) qe)))) (jD (qZ .nin b (qc 2) (qc 1))))) (qd (qaA) qh) qh) (qd (ql (qb9 [2] ["place"] ["places","heavy"] b p.gb rfl tab (qV (qg a.h_14 (m2 b) (qb (qc 0) (qb (qc 1) qe)))) (λ_ _ _ _ _ _ _ _=>yH (qK (qp 1) (qK (qp 2) yG))) (λ_ _ _ _ _ _ _ _=>jE (qZ .inn (zg b) (qc 0) (qc 1)) qN) (λ_ _ _ _ _ _ _ _=>qc 2))) qh))
theorem b_19(b:Rm k A s f c "_law_mixed" 31):Bdy P w K mg base n F f c A outer s H E ["_law_cell"] "_law_mixed" 31 c_19.body :=
 qd (ql (qo .mod (qo .mul (qo .mod (qc 0) (qo .pow qj qj)) qj) (qo .pow qj qj))) qh
theorem b_20(b:Rm k A s f c "_law_pack" 32):Bdy P w K mg base n F f c A outer s H E ["_law_script","_law_k","_law_found","_law_at","_law_cell"] "_law_pack" 32 c_20.body :=
 qd (qR 2 qj) (qd (qbq (qV (y8 false (qb (qo .add (qc 1) qj) (qb (qc 1) qe)))) (qp 3) (qd (qR 4 (qU b (qo .add (qg4 (qc 0) (k_os (qc 3)) (k_os (qo .add (qc 3) qj))) (y8 false (qb (qo .add (qo .add (qo .mul qj (qc 3)) qj) (qo .mul qj (qU b (qo .add (qc 0) (y8 false (qb qj qe))) qj))) qe))) qj)) (qd (qR 2 (qo .add (qo .mul (qc 2) (qo .pow qj qj)) (qg a.h_19 (m2 b) (qb (qc 4) qe)))) qh))) (qd (ql (y8 true (qb (qc 2) qe))) qh))
theorem b_21(b:Rm k A s f c "_law_take" 33):Bdy P w K mg base n F f c A outer s H E ["_law_pack_here","_law_size","_law_digit"] "_law_take" 33 c_21.body :=
 qd (qbp (qe4 p.gb (qb (qU b (qc 0) qj) (qb (qc 1) qe))) (yH (qK (qg5 b (qc 0) qj) (qK (qp 2) yG)))) (qd (ql (qc 2)) qh)
theorem b_22(b:Rm k A s f c "_law_under" 34):Bdy P w K mg base n F f c A outer s H E ["_law_one","_law_other"] "_law_under" 34 c_22.body :=
 qd (ql (jA .lt b (qo .mul (qU b (qc 0) qj) (qU b (qc 1) qj)) (qo .mul (qU b (qc 1) qj) (qU b (qc 0) qj)))) qh
theorem b_23(b:Rm k A s f c "_law_places" 35):Bdy P w K mg base n F f c A outer s H E ["_law_pack_here","_law_many","_law_size","_law_left","_law_found"] "_law_places" 35 c_23.body :=
 qd (qR 2 (qU b (y8 false (qb qj (qb qj (qb qj (qb qj (qb qj (qb qj (qb qj (qb qj qe))))))))) (qg a.h_21 (m2 b) (qb (qc 0) (qb qj qe))))) (qd (qR 3 (qif true p.gb (qb (qc 1) qe))) (qd (qaB 4 false [3,0] ["_law_left","_law_pack_here"] ["_law_turn"] (jF p.gb (qb (qg7 p.gb (qb (qc 2) (qb (qc 1) qe))) qe)) (λ_ _ _ _ _=>qp 2) (λ_ _ _ _ _=>qN) (λ_ _ _ _ _=>qjD (qc 0) (qg a.h_21 (m2 b) (qb (qc 1) (qb (zQ p.gb (qb (qc 0) qe)) qe))))) (qd (ql (zM p.gb (qb (qbr false p.gb (qb (qc 4) qe)) qe))) qh)))
theorem b_24(b:Rm k A s f c "_law_web" 36):Bdy P w K mg base n F f c A outer s H E ["_law_pack_here","_law_most","_law_ties","_law_many","_law_costs","_law_known","_law_turn","_law_some"] "_law_web" 36 c_24.body :=
 qd (qR 3 (qo .add qj (qg a.h_21 (m2 b) (qb (qc 0) (qb (qc 1) qe))))) (qd (qR 4 (qo .mul (y8 false (qb qj qe)) (qc 3))) (qd (z_if (qZ .eq b (qg a.h_21 (m2 b) (qb (qc 0) (qb qj qe))) qj) (qd (qaB 4 false [0] ["_law_pack_here"] ["_law_place"] (jF p.gb (qb (qc 3) qe)) (λ_ _ _ _ _=>qp 1) (λ_ _ _ _ _=>qN) (λ_ _ _ _ _=>qo .add qj (qg a.h_21 (m2 b) (qb (qc 0) (qb qj qe))))) qh) qh) (qd (qR 5 (qjB true)) (qd (qbq (jF p.gb (qb (qg a.h_21 (m2 b) (qb (qc 0) (qb (qo .add (qc 2) qj) qe))) qe)) (qp 6) (qd (qR 7 (qg a.h_23 (m2 b) (qb (qc 0) (qb (qc 3) qe)))) (qd (qbp (qo .add qj (qg a.h_21 (m2 b) (qb (qc 0) (qb qj qe)))) (qg5 b (qc 5) (qc 7))) qh))) (qd (ql (jB (qb (zM p.gb (qb (qc 4) qe)) (qb (zM p.gb (qb (k_lc false [5] ["_law_known"] ["_law_some"] (qV (qbr false p.gb (qb (qc 5) qe))) (λ_ _ _ _ _=>qp 1) (λ_ _ _ _ _=>qN) (λ_ _ _ _ _=>jB (qb (qc 1) (qb (qU b (qc 0) (qc 1)) qe)))) qe)) qe)))) qh)))))
theorem b_25(b:Rm k A s f c "_law_part" 37):Bdy P w K mg base n F f c A outer s H E ["_law_pack_here","_law_many","_law_number"] "_law_part" 37 c_25.body :=
 qd (qR 2 (qo .add qj (qg a.h_21 (m2 b) (qb (qc 0) (qb (qo .sub (qo .shl qj (qc 1)) qj) qe))))) (qd (ql (zM p.gb (qb (k_lc false [2] ["_law_number"] ["_law_place"] (jF p.gb (qb (qc 1) qe)) (λ_ _ _ _ _=>qp 1) (λ_ _ _ _ _=>jE (qZ .eq b (qo .band (qo .shr (qc 0) (qc 1)) qj) qj) qN) (λ_ _ _ _ _=>qc 1)) qe))) qh)
theorem b_26(b:Rm k A s f c "_law_within" 38):Bdy P w K mg base n F f c A outer s H E ["_law_web_here","_law_part_here"] "_law_within" 38 c_26.body :=
 qd (z_if (qZ .eq b (qc 1) (jB qe)) (qd (ql qj) qh) qh) (qd (ql (qg a.h_15 (m2 b) (qb (qc 0) (qb (qc 1) qe)))) qh)
theorem b_27(b:Rm k A s f c "_law_right" 39):Bdy P w K mg base n F f c A outer s H E ["_law_web_here","_law_one","_law_other","_law_both","_law_meet","_law_dear","_law_apart_sum","_law_joined","_law_some","_law_mass","_law_inside","_law_ways","_law_shares"] "_law_right" 39 c_27.body :=
 qd (qR 3 (zM p.gb (qb (qis false p.gb (qb (qo .add (qc 1) (qc 2)) qe)) qe))) (qd (qR 4 (zM p.gb (qb (k_lc false [2] ["_law_other"] ["_law_place"] (qV (qc 1)) (λ_ _ _ _ _=>qp 1) (λ_ _ _ _ _=>jE (qZ .inn b (qc 1) (qc 0)) qN) (λ_ _ _ _ _=>qc 1)) qe))) (qd (z_if (qZ .isn b (qg a.h_12 (m2 b) (qb (qc 0) (qb (qc 3) qe))) qJ) (qd (ql qJ) qh) qh) (qd (qR 5 (qo .sub (qo .add (qg a.h_16 (m2 b) (qb (qc 0) (qb (qc 1) qe))) (qg a.h_16 (m2 b) (qb (qc 0) (qb (qc 2) qe)))) (qg a.h_16 (m2 b) (qb (qc 0) (qb (qc 3) qe))))) (qd (z_if (qZ .ne b (qc 5) (qjH p.gb (qb (k_lc false [0] ["_law_web_here"] ["_law_place"] (qV (qc 4)) (λ_ _ _ _ _=>qp 1) (λ_ _ _ _ _=>qN) (λ_ _ _ _ _=>qU b (qU b (qc 0) qj) (qc 1))) qe))) (qd (ql qJ) qh) qh) (qd (qR 6 (qo .add (qg a.h_15 (m2 b) (qb (qc 0) (qb (qc 1) qe))) (qg a.h_15 (m2 b) (qb (qc 0) (qb (qc 2) qe))))) (qd (z_if (qZ .gt b (qc 6) (qo .add (qg a.h_15 (m2 b) (qb (qc 0) (qb (qc 3) qe))) (qg a.h_26 (m2 b) (qb (qc 0) (qb (qc 4) qe))))) (qd (ql qJ) qh) qh) (qd (z_if (qZ .lt b (qg a.h_15 (m2 b) (qb (qc 0) (qb (qc 3) qe))) (qg a.h_15 (m2 b) (qb (qc 0) (qb (qc 1) qe)))) (qd (ql qJ) qh) qh) (qd (z_if (qX (qg8 p.gb (qb (k_lc false [0,3,1] ["_law_web_here","_law_both","_law_one"] ["_law_place"] (qV (qc 1)) (λ_ _ _ _ _=>qp 3) (λ_ _ _ _ _=>qN) (λ_ _ _ _ _=>jA .lt b (qg a.h_18 (m2 b) (qb (qc 0) (qb (qc 1) (qb (qc 3) qe)))) (qg a.h_18 (m2 b) (qb (qc 0) (qb (qc 2) (qb (qc 3) qe)))))) qe))) (qd (ql qJ) qh) qh) (qd (z_if (qZ .ne b (qc 4) (jB qe)) (qd (ql qJ) qh) qh) (qd (qR 7 qj) (qd (qbq (qV (qU b (qc 0) qj)) (yH (qK (qp 8) (qK (qp 9) yG))) (qd (qaB 10 false [3] ["_law_both"] ["_law_place"] (qV (qc 8)) (λ_ _ _ _ _=>qp 1) (λ_ _ _ _ _=>qN) (λ_ _ _ _ _=>jA .inn b (qc 1) (qc 0))) (qd (qe7 11 false [8] ["_law_some"] ["_law_side"] (qV (y8 false (qb (qc 1) (qb (qc 2) qe)))) (λ_ _ _ _ _=>qp 1) (λ_ _ _ _ _=>qN) (λ_ _ _ _ _=>qg8 p.gb (qb (k_lc false [1] ["_law_side"] ["_law_place"] (qV (qc 0)) (λ_ _ _ _ _=>qp 1) (λ_ _ _ _ _=>qN) (λ_ _ _ _ _=>jA .inn b (qc 1) (qc 0))) qe))) (qd (z_if (Qpt (qe1 (qX (qcG p.gb (qb (qc 10) qe))) (qb7 (qX (qcG p.gb (qb (qc 11) qe)))))) (qd (qR 7 (qo .add (qc 7) (qc 9))) qh) qh) qh)))) (qd (z_if (qZ .ne b (qg a.h_15 (m2 b) (qb (qc 0) (qb (qc 3) qe))) (qo .add (qc 6) (qc 7))) (qd (ql qJ) qh) qh) (qd (qR 12 (y8 false (qb (qg a.h_17 (m2 b) (qb (qc 0) (qb (qc 1) qe))) (qb (qg a.h_17 (m2 b) (qb (qc 0) (qb (qc 2) qe))) qe)))) (qd (z_if (Qpt (qe1 (qZ .eq b (qc 7) qj) (qb7 (qX (qcG p.gb (qb (k_lc false [0,3] ["_law_web_here","_law_both"] ["_law_some"] (qV (qc 12)) (λ_ _ _ _ _=>qp 2) (λ_ _ _ _ _=>qN) (λ_ _ _ _ _=>qg a.h_22 (m2 b) (qb (qc 2) (qb (qg a.h_17 (m2 b) (qb (qc 0) (qb (qc 1) qe))) qe)))) qe)))))) (qd (ql qJ) qh) qh) (qd (ql (qg3 (qcG p.gb (qb (k_lc false [0,3] ["_law_web_here","_law_both"] ["_law_some"] (qV (qc 12)) (λ_ _ _ _ _=>qp 2) (λ_ _ _ _ _=>qN) (λ_ _ _ _ _=>qg a.h_22 (m2 b) (qb (qg a.h_17 (m2 b) (qb (qc 0) (qb (qc 1) qe))) (qb (qc 2) qe)))) qe)))) qh)))))))))))))))
theorem b_28(b:Rm k A s f c "law" 40):Bdy P w K mg base n F f c A outer s H E ["_law_script","_law_k","_law_pack_here","_law_web_here","_law_more","_law_turn","_law_one","_law_other","_law_left"] "law" 40 qcH.body :=
 qd (qbq (jF p.gb (qb qj (qb (qjF p.gb (qb qj (qb (qg7 p.gb (qb (zQ p.gb (qb (qc 0) qe)) (qb qj qe))) qe))) (qb qj qe)))) (qp 1) (qd (qR 2 (qg a.h_20 (m2 b) (qb (qc 0) (qb (qc 1) qe)))) (qd (qR 3 (qg a.h_24 (m2 b) (qb (qc 2) (qb qj (qb qj qe))))) (qd (qR 4 (qg a.h_20 (m2 b) (qb (qc 0) (qb (qo .add (qc 1) qj) qe)))) (qd (qbq (jF p.gb (qb qj qe)) (qp 5) (qd (qbp (jB (qb (qg a.h_25 (m2 b) (qb (qc 4) (qb (zQ p.gb (qb (qU b (qc 3) qj) qe)) qe))) (qb (qg a.h_25 (m2 b) (qb (qc 4) (qb (zQ p.gb (qb (qU b (qc 3) qj) qe)) qe))) qe))) (yH (qK (qp 6) (qK (qp 7) yG)))) (qd (qR 8 (zM p.gb (qb (k_lc false [6] ["_law_one"] ["_law_place"] (jF p.gb (qb (zQ p.gb (qb (qU b (qc 3) qj) qe)) qe)) (λ_ _ _ _ _=>qp 1) (λ_ _ _ _ _=>jE (qZ .nin b (qc 1) (qc 0)) qN) (λ_ _ _ _ _=>qc 1)) qe))) (qd (z_if (Qpt (w_or (zv (qX (qg a.h_27 (m2 b) (qb (qc 3) (qb (qc 6) (qb (qc 7) qe)))))) (jD (zv (qX (qg a.h_27 (m2 b) (qb (qc 3) (qb (qc 6) (qb (qc 6) qe))))))))) (qd (ql qJ) qh) qh) (qd (z_if (Qpt (qe1 (qZ .ne b (qc 8) (jB qe)) (qb7 (zv (qX (qg a.h_27 (m2 b) (qb (qc 3) (qb (qc 6) (qb (qc 8) qe))))))))) (qd (ql qJ) qh) qh) qh))))) qh))))) (qd (ql qJ) qh)
end
section
variable{P:Program}{w:World}{K:PySem.W.Frag}{mg:Str->Option Value}{base:Heap}{k N d:Nat}(p:Pre K mg)(a:All P w K mg base k (run prg N d)){f:Addr}{fd:FuncData}{c t:Addr}
include p a
theorem o_0(U:FunT K "is_whole" (top 5) f fd c t):FnOk P w K mg base CX0 (k+3) f fd ["thing"] (SpD 1 (run prg N (d+1) 0)):=qz (G:=run prg N (d+1)) (i:=0) U sc_0 rfl rfl (by decide) rfl λA outer s H E b=>b_0 p a U.tab b
theorem o_1(U:FunT K "is_whole_within" (top 6) f fd c t):FnOk P w K mg base CX0 (k+3) f fd ["thing","least","most"] (SpD 3 (run prg N (d+1) 1)):=qz (G:=run prg N (d+1)) (i:=1) U sc_1 rfl rfl (by decide) rfl λA outer s H E b=>b_1 p a U.tab b
theorem o_2(U:FunT K "common_divisor" (top 7) f fd c t):FnOk P w K mg base CX0 (k+3) f fd ["one","other"] (SpD 2 (run prg N (d+1) 2)):=qz (G:=run prg N (d+1)) (i:=2) U sc_2 rfl rfl (by decide) rfl λA outer s H E b=>b_2 p a U.tab b
theorem o_3(U:FunT K "lowest" (top 8) f fd c t):FnOk P w K mg base CX0 (k+3) f fd ["top","bottom"] (SpD 2 (run prg N (d+1) 3)):=qz (G:=run prg N (d+1)) (i:=3) U sc_3 rfl rfl (by decide) rfl λA outer s H E b=>b_3 p a U.tab b
theorem o_4(U:FunT K "is_web" (top 15) f fd c t):FnOk P w K mg base CX0 (k+3) f fd ["thing"] (SpD 1 (run prg N (d+1) 4)):=qz (G:=run prg N (d+1)) (i:=4) U sc_4 rfl rfl (by decide) rfl λA outer s H E b=>b_4 p a U.tab b
theorem o_5(U:FunT K "are_costs" (top 16) f fd c t):FnOk P w K mg base CX0 (k+3) f fd ["thing"] (SpD 1 (run prg N (d+1) 5)):=qz (G:=run prg N (d+1)) (i:=5) U sc_5 rfl rfl (by decide) rfl λA outer s H E b=>b_5 p a U.tab b
theorem o_6(U:FunT K "are_ties" (top 17) f fd c t):FnOk P w K mg base CX0 (k+3) f fd ["thing","many"] (SpD 2 (run prg N (d+1) 6)):=qz (G:=run prg N (d+1)) (i:=6) U sc_6 rfl rfl (by decide) rfl λA outer s H E b=>b_6 p a U.tab b
theorem o_7(U:FunT K "is_tie" (top 18) f fd c t):FnOk P w K mg base CX0 (k+3) f fd ["thing","many"] (SpD 2 (run prg N (d+1) 7)):=qz (G:=run prg N (d+1)) (i:=7) U sc_7 rfl rfl (by decide) rfl λA outer s H E b=>b_7 p a U.tab b
theorem o_8(U:FunT K "are_tied_places" (top 19) f fd c t):FnOk P w K mg base CX0 (k+3) f fd ["thing","many"] (SpD 2 (run prg N (d+1) 8)):=qz (G:=run prg N (d+1)) (i:=8) U sc_8 rfl rfl (by decide) rfl λA outer s H E b=>b_8 p a U.tab b
theorem o_9(U:FunT K "are_places" (top 20) f fd c t):FnOk P w K mg base CX0 (k+3) f fd ["thing","many"] (SpD 2 (run prg N (d+1) 9)):=qz (G:=run prg N (d+1)) (i:=9) U sc_9 rfl rfl (by decide) rfl λA outer s H E b=>b_9 p a U.tab b
theorem o_10(U:FunT K "is_rising" (top 21) f fd c t):FnOk P w K mg base CX0 (k+3) f fd ["things"] (SpD 1 (run prg N (d+1) 10)):=qz (G:=run prg N (d+1)) (i:=10) U sc_10 rfl rfl (by decide) rfl λA outer s H E b=>b_10 p a U.tab b
theorem o_11(U:FunT K "need_web" (top 22) f fd c t):FnOk P w K mg base CX0 (k+3) f fd ["thing"] (SpD 1 (run prg N (d+1) 11)):=qz (G:=run prg N (d+1)) (i:=11) U sc_11 rfl rfl (by decide) rfl λA outer s H E b=>b_11 p a U.tab b
theorem o_12(U:FunT K "is_part" (top 23) f fd c t):FnOk P w K mg base CX0 (k+3) f fd ["web","thing"] (SpD 2 (run prg N (d+1) 12)):=qz (G:=run prg N (d+1)) (i:=12) U sc_12 rfl rfl (by decide) rfl λA outer s H E b=>b_12 p a U.tab b
theorem o_13(U:FunT K "need_part" (top 24) f fd c t):FnOk P w K mg base CX0 (k+3) f fd ["web","thing"] (SpD 2 (run prg N (d+1) 13)):=qz (G:=run prg N (d+1)) (i:=13) U sc_13 rfl rfl (by decide) rfl λA outer s H E b=>b_13 p a U.tab b
theorem o_14(U:FunT K "ties_within" (top 25) f fd c t):FnOk P w K mg base CX0 (k+3) f fd ["web","part"] (SpD 2 (run prg N (d+1) 14)):=qz (G:=run prg N (d+1)) (i:=14) U sc_14 rfl rfl (by decide) rfl λA outer s H E b=>b_14 p a U.tab b
theorem o_15(U:FunT K "weight" (top 26) f fd c t):FnOk P w K mg base CX0 (k+3) f fd ["web","part"] (SpD 2 (run prg N (d+1) 15)):=qz (G:=run prg N (d+1)) (i:=15) U sc_15 rfl rfl (by decide) rfl λA outer s H E b=>b_15 p a U.tab b
theorem o_16(U:FunT K "cost" (top 27) f fd c t):FnOk P w K mg base CX0 (k+3) f fd ["web","part"] (SpD 2 (run prg N (d+1) 16)):=qz (G:=run prg N (d+1)) (i:=16) U sc_16 rfl rfl (by decide) rfl λA outer s H E b=>b_16 p a U.tab b
theorem o_17(U:FunT K "share" (top 28) f fd c t):FnOk P w K mg base CX0 (k+3) f fd ["web","part"] (SpD 2 (run prg N (d+1) 17)):=qz (G:=run prg N (d+1)) (i:=17) U sc_17 rfl rfl (by decide) rfl λA outer s H E b=>b_17 p a U.tab b
theorem o_18(U:FunT K "degree" (top 29) f fd c t):FnOk P w K mg base CX0 (k+3) f fd ["web","part","place"] (SpD 3 (run prg N (d+1) 18)):=qz (G:=run prg N (d+1)) (i:=18) U sc_18 rfl rfl (by decide) rfl λA outer s H E b=>b_18 p a U.tab b
theorem o_19(U:FunT K "_law_mixed" (top 31) f fd c t):FnOk P w K mg base CX0 (k+3) f fd ["_law_cell"] (SpD 1 (run prg N (d+1) 19)):=qz (G:=run prg N (d+1)) (i:=19) U sc_19 rfl rfl (by decide) rfl λA outer s H E b=>b_19 p a U.tab b
theorem o_20(U:FunT K "_law_pack" (top 32) f fd c t):FnOk P w K mg base CX0 (k+3) f fd ["_law_script","_law_k"] (SpD 2 (run prg N (d+1) 20)):=qz (G:=run prg N (d+1)) (i:=20) U sc_20 rfl rfl (by decide) rfl λA outer s H E b=>b_20 p a U.tab b
theorem o_21(U:FunT K "_law_take" (top 33) f fd c t):FnOk P w K mg base CX0 (k+3) f fd ["_law_pack_here","_law_size"] (SpD 2 (run prg N (d+1) 21)):=qz (G:=run prg N (d+1)) (i:=21) U sc_21 rfl rfl (by decide) rfl λA outer s H E b=>b_21 p a U.tab b
theorem o_22(U:FunT K "_law_under" (top 34) f fd c t):FnOk P w K mg base CX0 (k+3) f fd ["_law_one","_law_other"] (SpD 2 (run prg N (d+1) 22)):=qz (G:=run prg N (d+1)) (i:=22) U sc_22 rfl rfl (by decide) rfl λA outer s H E b=>b_22 p a U.tab b
theorem o_23(U:FunT K "_law_places" (top 35) f fd c t):FnOk P w K mg base CX0 (k+3) f fd ["_law_pack_here","_law_many"] (SpD 2 (run prg N (d+1) 23)):=qz (G:=run prg N (d+1)) (i:=23) U sc_23 rfl rfl (by decide) rfl λA outer s H E b=>b_23 p a U.tab b
theorem o_24(U:FunT K "_law_web" (top 36) f fd c t):FnOk P w K mg base CX0 (k+3) f fd ["_law_pack_here","_law_most","_law_ties"] (SpD 3 (run prg N (d+1) 24)):=qz (G:=run prg N (d+1)) (i:=24) U sc_24 rfl rfl (by decide) rfl λA outer s H E b=>b_24 p a U.tab b
theorem o_25(U:FunT K "_law_part" (top 37) f fd c t):FnOk P w K mg base CX0 (k+3) f fd ["_law_pack_here","_law_many"] (SpD 2 (run prg N (d+1) 25)):=qz (G:=run prg N (d+1)) (i:=25) U sc_25 rfl rfl (by decide) rfl λA outer s H E b=>b_25 p a U.tab b
theorem o_26(U:FunT K "_law_within" (top 38) f fd c t):FnOk P w K mg base CX0 (k+3) f fd ["_law_web_here","_law_part_here"] (SpD 2 (run prg N (d+1) 26)):=qz (G:=run prg N (d+1)) (i:=26) U sc_26 rfl rfl (by decide) rfl λA outer s H E b=>b_26 p a U.tab b
theorem o_27(U:FunT K "_law_right" (top 39) f fd c t):FnOk P w K mg base CX0 (k+3) f fd ["_law_web_here","_law_one","_law_other"] (SpD 3 (run prg N (d+1) 27)):=qz (G:=run prg N (d+1)) (i:=27) U sc_27 rfl rfl (by decide) rfl λA outer s H E b=>b_27 p a U.tab b
theorem o_28(U:FunT K "law" (top 40) f fd c t):FnOk P w K mg base CX0 (k+3) f fd ["_law_script"] (SpD 1 (run prg N (d+1) 28)):=qz (G:=run prg N (d+1)) (i:=28) U sc_28 rfl rfl (by decide) rfl λA outer s H E b=>b_28 p a U.tab b
theorem qe8:All P w K mg base (k+3) (run prg N (d+1)) where
 h_0:=p.u_0.fn λ_ _ _ _ U=>o_0 p a U
 h_1:=p.u_1.fn λ_ _ _ _ U=>o_1 p a U
 h_2:=p.u_2.fn λ_ _ _ _ U=>o_2 p a U
 h_3:=p.u_3.fn λ_ _ _ _ U=>o_3 p a U
 h_4:=p.u_4.fn λ_ _ _ _ U=>o_4 p a U
 h_5:=p.u_5.fn λ_ _ _ _ U=>o_5 p a U
 h_6:=p.u_6.fn λ_ _ _ _ U=>o_6 p a U
 h_7:=p.u_7.fn λ_ _ _ _ U=>o_7 p a U
 h_8:=p.u_8.fn λ_ _ _ _ U=>o_8 p a U
 h_9:=p.u_9.fn λ_ _ _ _ U=>o_9 p a U
 h_10:=p.u_10.fn λ_ _ _ _ U=>o_10 p a U
 h_11:=p.u_11.fn λ_ _ _ _ U=>o_11 p a U
 h_12:=p.u_12.fn λ_ _ _ _ U=>o_12 p a U
 h_13:=p.u_13.fn λ_ _ _ _ U=>o_13 p a U
 h_14:=p.u_14.fn λ_ _ _ _ U=>o_14 p a U
 h_15:=p.u_15.fn λ_ _ _ _ U=>o_15 p a U
 h_16:=p.u_16.fn λ_ _ _ _ U=>o_16 p a U
 h_17:=p.u_17.fn λ_ _ _ _ U=>o_17 p a U
 h_18:=p.u_18.fn λ_ _ _ _ U=>o_18 p a U
 h_19:=p.u_19.fn λ_ _ _ _ U=>o_19 p a U
 h_20:=p.u_20.fn λ_ _ _ _ U=>o_20 p a U
 h_21:=p.u_21.fn λ_ _ _ _ U=>o_21 p a U
 h_22:=p.u_22.fn λ_ _ _ _ U=>o_22 p a U
 h_23:=p.u_23.fn λ_ _ _ _ U=>o_23 p a U
 h_24:=p.u_24.fn λ_ _ _ _ U=>o_24 p a U
 h_25:=p.u_25.fn λ_ _ _ _ U=>o_25 p a U
 h_26:=p.u_26.fn λ_ _ _ _ U=>o_26 p a U
 h_27:=p.u_27.fn λ_ _ _ _ U=>o_27 p a U
 h_28:=p.u_28.fn λ_ _ _ _ U=>o_28 p a U
omit a
theorem qe9:All P w K mg base 0 (run prg N 0) where
 h_0:=p.u_0.fn λ_ _ _ _ _=>qA (i:=0) rfl
 h_1:=p.u_1.fn λ_ _ _ _ _=>qA (i:=1) rfl
 h_2:=p.u_2.fn λ_ _ _ _ _=>qA (i:=2) rfl
 h_3:=p.u_3.fn λ_ _ _ _ _=>qA (i:=3) rfl
 h_4:=p.u_4.fn λ_ _ _ _ _=>qA (i:=4) rfl
 h_5:=p.u_5.fn λ_ _ _ _ _=>qA (i:=5) rfl
 h_6:=p.u_6.fn λ_ _ _ _ _=>qA (i:=6) rfl
 h_7:=p.u_7.fn λ_ _ _ _ _=>qA (i:=7) rfl
 h_8:=p.u_8.fn λ_ _ _ _ _=>qA (i:=8) rfl
 h_9:=p.u_9.fn λ_ _ _ _ _=>qA (i:=9) rfl
 h_10:=p.u_10.fn λ_ _ _ _ _=>qA (i:=10) rfl
 h_11:=p.u_11.fn λ_ _ _ _ _=>qA (i:=11) rfl
 h_12:=p.u_12.fn λ_ _ _ _ _=>qA (i:=12) rfl
 h_13:=p.u_13.fn λ_ _ _ _ _=>qA (i:=13) rfl
 h_14:=p.u_14.fn λ_ _ _ _ _=>qA (i:=14) rfl
 h_15:=p.u_15.fn λ_ _ _ _ _=>qA (i:=15) rfl
 h_16:=p.u_16.fn λ_ _ _ _ _=>qA (i:=16) rfl
 h_17:=p.u_17.fn λ_ _ _ _ _=>qA (i:=17) rfl
 h_18:=p.u_18.fn λ_ _ _ _ _=>qA (i:=18) rfl
 h_19:=p.u_19.fn λ_ _ _ _ _=>qA (i:=19) rfl
 h_20:=p.u_20.fn λ_ _ _ _ _=>qA (i:=20) rfl
 h_21:=p.u_21.fn λ_ _ _ _ _=>qA (i:=21) rfl
 h_22:=p.u_22.fn λ_ _ _ _ _=>qA (i:=22) rfl
 h_23:=p.u_23.fn λ_ _ _ _ _=>qA (i:=23) rfl
 h_24:=p.u_24.fn λ_ _ _ _ _=>qA (i:=24) rfl
 h_25:=p.u_25.fn λ_ _ _ _ _=>qA (i:=25) rfl
 h_26:=p.u_26.fn λ_ _ _ _ _=>qA (i:=26) rfl
 h_27:=p.u_27.fn λ_ _ _ _ _=>qA (i:=27) rfl
 h_28:=p.u_28.fn λ_ _ _ _ _=>qA (i:=28) rfl
omit p
theorem qfa(p:Pre K mg):∀d:Nat,All P w K mg base (3*d) (run prg N d)
 |0=>qe9 p
 |d+1=>qe8 p (qfa p d)
end
end RP
namespace RP
open R
section
variable{α:Type}{g:α->D}
theorem qaE{n:Nat}{bind:D->En->Sr->Res En}{test:En->Sr->Res Bool}{elt:En->Sr->Res D}{b:α->Bool}{v:α->D}(R:En->Prop){S:Sr}(hn:S.length=n):∀(ds:List α) (a:List D) (ρ:En),a.length+ds.length<=PySem.sizeLine->R ρ ->
  (∀d∈ds,∀(ρ:En) (m:List D),R ρ->∃ρ1,bind (g d) ρ (S++[.lst m])=.ok ρ1 (S++[.lst m])/\R ρ1/\test ρ1 (S++[.lst m])=.ok (b d) (S++[.lst m])/\(b d=true->elt ρ1 (S++[.lst m])=.ok (v d) (S++[.lst m])/\refsLt 0 (v d)=true)) ->
  ∃c,lcLoop n bind test elt (ds.map g) ρ (S++[.lst a])=.ok c (S++[.lst (a++(ds.filter b).map v)])
 |[],a,ρ,_,_,_=>⟨ρ,by simp[lcLoop]⟩
 |d::ds,a,ρ,hl,hR,H=>by
  obtain⟨ρ1,e1,f,i,j⟩:=H d wI ρ a hR
  simp only[wc]at hl
  rw[w4]
  unfold lcLoop
  rw[e1,Res.bind_ok,i,Res.bind_ok]
  cases z:b d with
  |true =>
   obtain⟨l,o⟩:=j z
   have p:appD (S++[.lst a]) (.ref n) (v d)=.ok .non (S++[.lst (a++[v d])]):=by
    subst hn
    have h:a.length<PySem.sizeLine:=by lia
    simp[appD,o,h]
   rw[wM rfl,l,Res.bind_ok,p,Res.bind_ok]
   obtain⟨c,e⟩:=qaE R hn ds (a++[v d]) ρ1 (by simp;lia) f λd' hd=>H d' (wJ _ hd)
   exact⟨c,by rw[e];simp[z]⟩
  |false =>
   rw[wL (by simp)]
   obtain⟨c,e⟩:=qaE R hn ds a ρ1 (by lia) f λd' hd=>H d' (wJ _ hd)
   exact⟨c,by rw[e];simp[z]⟩
theorem zC{F:Fs}{fr:List Nat}{nt:Nat}{elt:CE}{tg:CT}{it:CI}{ifs:CBs}{ρ:En}{S S1:Sr}{ds:List D}(xs:List α)(b:α->Bool)(v:α->D)(R:En->Prop)(a:evI F it ρ S=.ok ds S1)(hd:ds=xs.map g)(c:R (frE ρ fr nt))(f:xs.length<=PySem.sizeLine)(H:∀d∈xs,∀(ρ:En) (m:List D),R ρ->∃ρ1,asg F tg (g d) ρ (S1++[.lst m])=.ok ρ1 (S1++[.lst m])/\R ρ1/\tsts F ifs ρ1 (S1++[.lst m])=.ok (b d) (S1++[.lst m])/\(b d=true->ev F elt ρ1 (S1++[.lst m])=.ok (v d) (S1++[.lst m])/\refsLt 0 (v d)=true)):
  ev F (.lc false fr nt elt tg it ifs) ρ S=.ok (.lst ((xs.filter b).map v)) S1:=by
 obtain⟨h,e⟩:=qaE (n:=S1.length) (bind:=λd ρ S=>asg F tg d ρ S) (test:=λρ S=>tsts F ifs ρ S) (elt:=λρ S=>ev F elt ρ S) R rfl xs [] _ (by simpa using f) c H
 simp only[ev,a,Res.bind,hd,e,lcEnd]
 simp
theorem qcI{bind:D->En->Sr->Res En}{test:En->Sr->Res Bool}{elt:En->Sr->Res D}{p:α->Bool}(R:En->Prop){S:Sr}:∀(ds:List α) (ρ:En),R ρ ->
  (∀d∈ds,∀ρ:En,R ρ->∃ρ1,bind (g d) ρ S=.ok ρ1 S/\R ρ1/\test ρ1 S=.ok true S/\elt ρ1 S=.ok (.bl (p d)) S) ->
  genLoop bind test elt (stepG .all) (finG .all) (ds.map g) ρ .non S=.ok (.bl (ds.all p)) S
 |[],ρ,_,_=>by simp[genLoop,finG]
 |d::ds,ρ,hR,H=>by
  obtain⟨ρ1,e1,a,b,c⟩:=H d wI ρ hR
  rw[w4]
  unfold genLoop
  rw[e1,Res.bind_ok,b,Res.bind_ok,wM rfl,c,Res.bind_ok]
  cases z:p d with
  |true=>simp only[stepG];rw[qcI R ds ρ1 a λd' hd=>H d' (wJ _ hd)];simp[z]
  |false=>simp[stepG,z]
theorem jd{F:Fs}{fr:List Nat}{nt:Nat}{elt:CE}{tg:CT}{it:CI}{ρ:En}{S S1:Sr}{ds:List D}(xs:List α)(p:α->Bool)(R:En->Prop)(e:evI F it ρ S=.ok ds S1)(hd:ds=xs.map g)(f:R (frE ρ fr nt))(H:∀d∈xs,∀ρ:En,R ρ->∃ρ1,asg F tg (g d) ρ S1=.ok ρ1 S1/\R ρ1/\ev F elt ρ1 S1=.ok (.bl (p d)) S1):
  ev F (.gen .all fr nt elt tg it .nil) ρ S=.ok (.bl (xs.all p)) S1:=by
 simp only[ev,e,Res.bind,hd,startG]
 exact qcI R xs _ f λd hd ρ h=>let ⟨ρ1,a,b,c⟩:=H d hd ρ h;⟨ρ1,a,b,rfl,c⟩
theorem qaF{bind:D->En->Sr->Res En}{test:En->Sr->Res Bool}{elt:En->Sr->Res D}{b:α->Bool}{v:α->Int}(R:En->Prop){S:Sr}:∀(ds:List α) (ρ:En) (a:Int),R ρ ->
  (∀d∈ds,∀ρ:En,R ρ->∃ρ1,bind (g d) ρ S=.ok ρ1 S/\R ρ1/\test ρ1 S=.ok (b d) S/\(b d=true->elt ρ1 S=.ok (.int (v d)) S)) ->
  genLoop bind test elt (stepG .sum) (finG .sum) (ds.map g) ρ (.int a) S=.ok (.int (a+((ds.filter b).map v).sum)) S
 |[],ρ,a,_,_=>by simp[genLoop,finG]
 |d::ds,ρ,a,hR,H=>by
  obtain⟨ρ1,e1,c,e,f⟩:=H d wI ρ hR
  rw[w4]
  unfold genLoop
  rw[e1,Res.bind_ok,e,Res.bind_ok]
  cases z:b d with
  |true =>
   rw[wM rfl,f z,Res.bind_ok]
   simp only[stepG]
   rw[qaF R ds ρ1 _ c λd' hd=>H d' (wJ _ hd)]
   simp[z,Int.add_assoc]
  |false =>
   rw[wL (by simp),qaF R ds ρ1 _ c λd' hd=>H d' (wJ _ hd)]
   simp[z]
theorem qaG{F:Fs}{fr:List Nat}{nt:Nat}{elt:CE}{tg:CT}{it:CI}{ifs:CBs}{ρ:En}{S S1:Sr}{ds:List D}(xs:List α)(b:α->Bool)(v:α->Int)(R:En->Prop)(a:evI F it ρ S=.ok ds S1)(hd:ds=xs.map g)(c:R (frE ρ fr nt))(H:∀d∈xs,∀ρ:En,R ρ->∃ρ1,asg F tg (g d) ρ S1=.ok ρ1 S1/\R ρ1/\tsts F ifs ρ1 S1=.ok (b d) S1/\(b d=true->ev F elt ρ1 S1=.ok (.int (v d)) S1)):
  ev F (.gen .sum fr nt elt tg it ifs) ρ S=.ok (.int ((xs.filter b).map v).sum) S1:=by
 simp only[ev,a,Res.bind,hd,startG]
 rw[qaF R xs _ 0 c H];simp
end
noncomputable abbrev Tie:=List Int×Int
noncomputable def tieD(t:Tie):D:=.tup [tupI t.1,.int t.2]
structure Wb where
 costs:List Int
 ties:List Tie
noncomputable def webD(w:Wb):D:=.tup [tupI w.costs,.tup (w.ties.map tieD)]
structure PlOk (n:Nat) (p:List Int):Prop where
 ne:p≠[]
 rng:∀x∈p,0<=x/\x<n
 up:p.Pairwise (· < ·)
structure WbOk (w:Wb):Prop where
 c1:1<=w.costs.length
 c2:w.costs.length<=12
 c3:∀c∈w.costs,1<=c/\c<=100
 t1:w.ties.length<=30
 t2:∀t∈w.ties,PlOk w.costs.length t.1/\t.1.length<=4/\1<=t.2/\t.2<=1000000
 t3:(w.ties.map (·.1)).Pairwise λa b=>HT.lexLt a b=true
theorem qO:∀l:List Int,intsOf (l.map .int)=some l
 |[]=>rfl
 |a::r=>by simp[intsOf,qO r]
theorem qfb:∀{l:List Int},l.Pairwise (· < ·)->(l.zip (l.drop 1)).all (λp=>decide (p.1<p.2))=true
 |[],_=>rfl
 |[a],_=>rfl
 |a::b::r,h=>by
  have c:=wp.mp h
  have:=qfb c.2
  simp only[ui,uw,vu,uf,wP,wy]at this ⊢
  exact⟨c.1 b wI,this⟩
theorem qcJ:∀{l:List (List Int)},l.Pairwise (λa b=>HT.lexLt a b=true)->(l.zip (l.drop 1)).all (λp=>HT.lexLt p.1 p.2)=true
 |[],_=>rfl
 |[a],_=>rfl
 |a::b::r,h=>by
  have c:=wp.mp h
  have:=qcJ c.2
  simp only[ui,uw,vu,uf,wP]at this ⊢
  exact⟨c.1 b wI,this⟩
theorem cut1(l:List D):cutD l (some 1) none=l.drop 1:=by
 unfold cutD HT.sIx
 cases l with
 |nil=>rfl
 |cons a r =>
  have:min (1:Int).toNat (a::r).length=1:=by simp
  simp only[this]
  rw[wL (by lia)]
  simp
end RP
namespace RP
open R
section
variable{F:Fs}{N:Nat}{ρ ρ1:En}{S S1 S2:Sr}{r a b:CSs}{e e1 e2:CE}{t:CT}{c:CB}{X:Res Fl}{d d1 d2:D}
theorem qF(h:ev F e ρ S=.ok d S1):exs F N (.cons (.ret e) r) ρ S=.ok (.rt d) S1:=by simp[exs,ex,h,Res.bind]
theorem yJ:exs F N .nil ρ S=.ok (.nx ρ) S:=by simp[exs]
theorem qW(h:ev F e ρ S=.ok d S1)(f:asg F t d ρ S1=.ok ρ1 S2)(i:exs F N r ρ1 S2=X):exs F N (.cons (.set t e) r) ρ S=X:=by simp[exs,ex,h,f,i,Res.bind]
theorem qaH(h:ev F e ρ S=.ok d S1)(f:exs F N r ρ S1=X):exs F N (.cons (.expr e) r) ρ S=X:=by simp[exs,ex,h,f,Res.bind]
theorem x_no(h:tst F c ρ S=.ok false S1)(f:exs F N r ρ S1=X):exs F N (.cons (.ifs c a .nil) r) ρ S=X:=by simp[exs,ex,h,f,Res.bind]
theorem qjJ(h:tst F c ρ S=.ok true S1)(f:exs F N a ρ S1=.ok (.rt d) S2):exs F N (.cons (.ifs c a b) r) ρ S=.ok (.rt d) S2:=by simp[exs,ex,h,f,Res.bind]
theorem qfc(h:tst F c ρ S=.ok true S1)(f:exs F N a ρ S1=.ok (.nx ρ1) S2)(i:exs F N r ρ1 S2=X):exs F N (.cons (.ifs c a b) r) ρ S=X:=by simp[exs,ex,h,f,i,Res.bind]
theorem qfd{it:CI}{ds:List D}(h:evI F it ρ S=.ok ds S1)(f:forLoop (λd ρ S=>(asg F t d ρ S).bind λρ1 S1=>exs F N a ρ1 S1) ds ρ S1=.ok (.nx ρ1) S2)(i:exs F N r ρ1 S2=X):exs F N (.cons (.forS t it a) r) ρ S=X:=by
 simp only[exs,ex,h,Res.bind]at f ⊢
 rw[f]
 exact i
theorem qD{f:CF}{l:List D}(i:l.length=f.np)(h:exs F N f.body (l.map some++List.replicate (f.nn-f.np) none) S=.ok (.rt d) S):callC F N f l S=.ok d S:=by
 simp only[callC,i,wM,h,Res.bind,leave]
 cases f.keeps <;> simp
theorem qcK{f:CF}{l:List D}(i:l.length=f.np)(h:exs F N f.body (l.map some++List.replicate (f.nn-f.np) none) S=.ok (.nx ρ) S):callC F N f l S=.ok .non S:=by
 simp only[callC,i,wM,h,Res.bind,leave]
 cases f.keeps <;> simp
theorem qcL{f:CF}{l:List D}(j:l.length=f.np)(m:f.keeps=false)(h:exs F N f.body (l.map some++List.replicate (f.nn-f.np) none) S=.ok (.rt d) (S1++S2))(i:S1.length=S.length)(n:refsLt S.length d=true):callC F N f l S=.ok d S1:=by
 simp only[callC,j,wM,h,Res.bind,leave,m]
 rw[wL (by simp)]
 split
 .rename_i z
  have:S2=[]:=by
   rw[vK,i]at z
   exact vZ.mp (by lia)
  rw[this,uV]
 .rw [<-i];simp
theorem qit{f:CF}{l:List D}(i:l.length=f.np)(j:f.keeps=true)(h:exs F N f.body (l.map some++List.replicate (f.nn-f.np) none) S=.ok (.rt d) S1):callC F N f l S=.ok d S1:=by
 simp only[callC,i,wM,h,Res.bind,leave,j]
theorem qcM{x y:Bool}(h:ev F e1 ρ S=.ok (.bl x) S)(f:ev F e2 ρ S=.ok (.bl y) S):ev F (.and e1 e2) ρ S=.ok (.bl (x&&y)) S:=by
 cases x <;> simp[ev,h,f,Res.bind]
theorem qi{i:Nat}{es:CEs}{l:List D}(h:evs F es ρ S=.ok l S1)(f:F i l S1=.ok d S2):ev F (.call i es) ρ S=.ok d S2:=by simp[ev,h,f,Res.bind]
theorem qB{i:Blt}{es:CEs}{l:List D}(h:evs F es ρ S=.ok l S1)(f:bltD i l S1=.ok d S2):ev F (.blt i es) ρ S=.ok d S2:=by simp[ev,h,f,Res.bind]
theorem qf{es:CEs}{l:List D}(h:ev F e ρ S=.ok d S1)(f:evs F es ρ S1=.ok l S2):evs F (.cons e es) ρ S=.ok (d::l) S2:=by simp[evs,h,f,Res.bind]
theorem qv{o:BOp}(h:ev F e1 ρ S=.ok d1 S1)(f:ev F e2 ρ S1=.ok d2 S2)(i:binD o d1 d2 S2=some d):ev F (.bin o e1 e2) ρ S=.ok d S2:=by simp[ev,h,f,i,Res.bind]
theorem qI{o:COp}{x:Bool}(h:ev F e1 ρ S=.ok d1 S1)(f:ev F e2 ρ S1=.ok d2 S2)(i:cmpD o d1 d2 S2=some x):ev F (.cmp o e1 e2) ρ S=.ok (.bl x) S2:=by simp[ev,h,f,i,Res.bind]
theorem zr(h:ev F e1 ρ S=.ok d1 S1)(f:ev F e2 ρ S1=.ok d2 S2)(i:idxD S2 d1 d2=some d):ev F (.idx e1 e2) ρ S=.ok d S2:=by simp[ev,h,f,i,Res.bind]
theorem ja{es:CEs}{l:List D}(h:evs F es ρ S=.ok l S1)(f:l.length<=PySem.sizeLine):ev F (.tup es) ρ S=.ok (.tup l) S1:=by simp[ev,h,f,Res.bind]
theorem t_of{x:Bool}(h:ev F e ρ S=.ok (.bl x) S1):tst F (.val e) ρ S=.ok x S1:=by simp[tst,h,Res.bind,truD]
theorem t_no{x:Bool}(h:tst F c ρ S=.ok x S1):tst F (.not c) ρ S=.ok (!x) S1:=by simp[tst,h,Res.bind]
theorem t_or{c2:CB}{x y:Bool}(h:tst F c ρ S=.ok x S)(f:tst F c2 ρ S=.ok y S):tst F (.or c c2) ρ S=.ok (x || y) S:=by
 cases x <;> simp[tst,h,f,Res.bind]
theorem qcN{c2:CB}{x y:Bool}(h:tst F c ρ S=.ok x S)(f:x=true->tst F c2 ρ S=.ok y S):tst F (.and c c2) ρ S=.ok (x&&y) S:=by
 cases x <;> simp[tst,h,f,Res.bind]
theorem jK{x:Bool}(h:tst F c ρ S=.ok x S):tsts F (.cons c .nil) ρ S=.ok x S:=by
 cases x <;> simp[tsts,h,Res.bind]
end
theorem jL{a:Type}{g:a->D}{F:Fs}{fr:List Nat}{nt:Nat}{elt:CE}{tg:CT}{it:CI}{ρ:En}{S S1:Sr}{ds:List D}(xs:List a)(R:En->Prop)(b:evI F it ρ S=.ok ds S1)(hd:ds=xs.map g)(c:R (frE ρ fr nt))(H:∀d∈xs,∀ρ:En,R ρ->∃ρ1,asg F tg (g d) ρ S1=.ok ρ1 S1/\R ρ1/\ev F elt ρ1 S1=.ok (.bl true) S1):
  ev F (.gen .all fr nt elt tg it .nil) ρ S=.ok (.bl true) S1:=by
 have:=jd xs (λ_=>true) R b hd c H
 rw[vf.mpr (λ_ _=>rfl)]at this
 exact this
theorem qE{a:Type}(l:List a):l.filter (λ_=>true)=l:=List.filter_eq_self.mpr λ_ _=>rfl
theorem qfe{a:Type}(f:a->D)(p:List a):((p.map f).zip ((p.drop 1).map f)).map (λq=>D.tup [q.1,q.2])=(p.zip (p.drop 1)).map λq=>.tup [f q.1,f q.2]:=by
 rw[List.zip_map,wq];rfl
theorem refsI(k:Nat):∀l:List Int,refsLts k (l.map .int)=true
 |[]=>rfl
 |a::r=>by rw[w4,refsLts,refsI k r];rfl
theorem zD(k:Nat)(l:List Int):refsLt k (tupI l)=true:=refsI k l
theorem jM(k:Nat)(t:Tie):refsLt k (tieD t)=true:=by
 show(refsLt k (tupI t.1)&&(refsLt k (.int t.2)&&true))=true
 rw[zD];rfl
theorem qab(k:Nat):∀l:List Tie,refsLts k (l.map tieD)=true
 |[]=>rfl
 |a::r=>by rw[w4,refsLts,qab k r,jM];rfl
theorem qff(k:Nat)(w:Wb):refsLt k (webD w)=true:=by
 show(refsLt k (tupI w.costs)&&(refsLts k (w.ties.map tieD)&&true))=true
 rw[zD,qab];rfl
theorem yK(l:List Int)(S:Sr):bltD .len [tupI l] S=.ok (.int l.length) S:=by simp[bltD,one,bLen,lenD,tupI]
noncomputable def subB(a p:List Int):Bool:=a.all λx=>p.contains x
noncomputable def tin(w:Wb)(p:List Int):List Tie:=w.ties.filter λt=>subB t.1 p
end RP
namespace RP
open R
theorem yL{a:Int}{n:Nat}(h:a.natAbs<2^n):PySem.Builtin.Int.intBits a<=n:=by
 unfold PySem.Builtin.Int.intBits
 split
 .lia
 .rename_i z
  have hz:a.natAbs≠0:=by
   intro e;apply z;simp;lia
  have:=(Nat.log2_lt hz).mpr h
  lia
theorem qcO{a b:Int}(h:a.natAbs<2^64):mulOk a b=true:=by
 have:=yL h
 unfold mulOk PySem.shortFactorBits
 have e:decide (PySem.Builtin.Int.intBits a>64)=false:=by simp;lia
 rw[e];rfl
theorem qcP{a b:Int}(h:b.natAbs<2^64):mulOk a b=true:=by
 have:=yL h
 unfold mulOk PySem.shortFactorBits
 have e:decide (PySem.Builtin.Int.intBits b>64)=false:=by simp;lia
 rw[e,xc];rfl
theorem qcQ{a b:Int}(h:a.natAbs<2^250)(c:b.natAbs<2^250):mulOk a b=true:=by
 have d:=yL h
 have c:=yL c
 unfold mulOk PySem.Builtin.Int.intTooBig PySem.bitsLine
 have e:decide (((PySem.Builtin.Int.intBits a:Int)+(PySem.Builtin.Int.intBits b:Int))>((2^27:Nat):Int))=false:=by
  rw[vY];norm_cast;lia
 rw[e,xc];rfl
theorem qcR{a b:Int}(f:0<b)(h:b.natAbs<2^64):divOk a b=true:=by
 have c:=yL h
 unfold divOk PySem.Builtin.divisionGoesByPylong
 unfold PySem.Builtin.Int.intBits at c
 have d:(b == 0)=false:=by rw[wt];lia
 rw[d]at c
 simp only[d,wj,vh]at c ⊢
 have e:decide (b.natAbs.log2 / 30+1>300)=false:=by rw[vY];lia
 simp only[e,Bool.false_and];rfl
theorem bmul{a b:Int}{S:Sr}(h:mulOk a b=true):binD .mul (.int a) (.int b) S=some (.int (a*b)):=by
 simp only[binD,binI];rw[wM h];rfl
theorem badd{a b:Int}{S:Sr}:binD .add (.int a) (.int b) S=some (.int (a+b)):=rfl
noncomputable def pk(S:Sr)(n:Nat)(v:Int):Sr:=S.set n (.lst [.int v])
theorem qw(S:Sr)(n:Nat)(v:Int):(pk S n v).length=S.length:=by simp[pk]
theorem qjK{S:Sr}{n:Nat}(h:n<S.length)(v:Int):(pk S n v)[n]?=some (.lst [.int v]):=by simp[pk,h]
theorem zx{S T:Sr}{n:Nat}(h:n<S.length)(v:Int):pk S n v++T=pk (S++T) n v:=by simp[pk,List.set_append_left _ _ h]
theorem qcS{S:Sr}{n:Nat}{v:Int}(h:S[n]?=some (.lst [.int v])):pk S n v=S:=by
 unfold pk
 apply uD
 intro i
 rw[List.getElem?_set]
 split
 .rename_i e;subst e
  obtain⟨a,_⟩:=wK.mp h
  rw[wM a,h]
 .rfl
theorem qbu{F:Fs}{ρ:En}{S S1:Sr}{es:CEs}{l:List D}(h:evs F es ρ S=.ok l S1)(a:l.length<=1000):ev F (.lst false es) ρ S=.ok (.lst l) S1:=by
 have:l.length<=PySem.sizeLine:=by unfold PySem.sizeLine;lia
 simp[ev,h,this,Res.bind,newL]
theorem qiu{F:Fs}{ρ:En}{S S1:Sr}{es:CEs}{l:List D}(h:evs F es ρ S=.ok l S1)(b:l.length<=1000)(a:refsLts 0 l=true):ev F (.lst true es) ρ S=.ok (.ref S1.length) (S1++[.lst l]):=by
 have:l.length<=PySem.sizeLine:=by unfold PySem.sizeLine;lia
 simp[ev,h,this,Res.bind,newL,a]
theorem jN{body:D->En->Sr->Res Fl}{d:D}{r:List D}{ρ ρ1:En}{S S1:Sr}(h:body d ρ S=.ok (.nx ρ1) S1):forLoop body (d::r) ρ S=forLoop body r ρ1 S1:=by
 simp only[forLoop,h,Res.bind]
theorem qcT{c:Type}{g:c->D}{body:D->En->Sr->Res Fl}(P:List c->En->Sr->Prop)(xs:List c){ρ:En}{S:Sr}(i:P [] ρ S)(H:∀(pre:List c) (x:c) (b:List c) (ρ:En) (S:Sr),xs=pre++x::b->P pre ρ S->∃ρ1 S1,body (g x) ρ S=.ok (.nx ρ1) S1/\P (pre++[x]) ρ1 S1):
  ∃a d,forLoop body (xs.map g) ρ S=.ok (.nx a) d/\P xs a d:=by
 have f:∀(b pre:List c) (ρ:En) (S:Sr),xs=pre++b->P pre ρ S->∃a d,forLoop body (b.map g) ρ S=.ok (.nx a) d/\P xs a d:=by
  intro b
  induction b with
  |nil=>intro pre ρ S e h;rw[uV]at e;subst e;exact⟨ρ,S,rfl,h⟩
  |cons x r j =>
   intro pre ρ S e h
   obtain⟨ρ1,S1,e1,l⟩:=H pre x r ρ S e h
   obtain⟨a,d,m,n⟩:=j (pre++[x]) ρ1 S1 (by rw[e];simp) l
   exact⟨a,d,by rw[w4,jN e1,m],n⟩
 exact f xs [] ρ S rfl i
theorem qfg{y:Type}{g:y->D}{n:Nat}{bind:D->En->Sr->Res En}{test:En->Sr->Res Bool}{elt:En->Sr->Res D}(R:En->Prop)(I:List D->Sr->Prop)(i:∀ρ S,test ρ S=.ok true S):∀(ds:List y) (f:List D) (ρ:En) (S:Sr),f.length+ds.length<=1000->R ρ->I f S->S.length=n ->
  (∀d∈ds,∀(ρ:En) (m:List D) (S:Sr),R ρ->I m S->S.length=n->m.length<f.length+ds.length->∃ρ1 v j,bind (g d) ρ (S++[.lst m])=.ok ρ1 (S++[.lst m])/\R ρ1/\elt ρ1 (S++[.lst m])=.ok v (j++[.lst m])/\j.length=n/\refsLt 0 v=true/\I (m++[v]) j) ->
  ∃l h j,lcLoop n bind test elt (ds.map g) ρ (S++[.lst f])=.ok l (j++[.lst h])/\I h j/\j.length=n/\h.length=f.length+ds.length
 |[],f,ρ,S,_,_,hI,hn,_=>⟨ρ,f,S,by simp[lcLoop],hI,hn,by simp⟩
 |d::ds,f,ρ,S,hl,hR,hI,hn,H=>by
  obtain⟨ρ1,v,j,e1,p,z,o,A,q⟩:=H d wI ρ f S hR hI hn (by simp)
  simp only[wc]at hl
  rw[w4]
  unfold lcLoop
  have B:appD (j++[.lst f]) (.ref n) v=.ok .non (j++[.lst (f++[v])]):=by
   subst o
   have r:f.length<PySem.sizeLine:=by unfold PySem.sizeLine;lia
   simp[appD,A,r]
  rw[e1,Res.bind_ok,i,Res.bind_ok,wM rfl,z,Res.bind_ok,B,Res.bind_ok]
  obtain⟨l,h,S2,e,s,u,w⟩:=qfg R I i ds (f++[v]) ρ1 j (by simp;lia) p q o λd' hd ρ m S a b c x=>H d' (wJ _ hd) ρ m S a b c (by simp at x ⊢;lia)
  exact⟨l,h,S2,e,s,u,by rw[w];simp;lia⟩
theorem qfh{f:Type}{g:f->D}{F:Fs}{fr:List Nat}{nt:Nat}{elt:CE}{tg:CT}{it:CI}{ρ:En}{S S1:Sr}{ds:List D}(xs:List f)(R:En->Prop)(I:List D->Sr->Prop)(i:evI F it ρ S=.ok ds S1)(hd:ds=xs.map g)(j:R (frE ρ fr nt))(l:xs.length<=1000)(hi:I [] S1)(H:∀d∈xs,∀(ρ:En) (m:List D) (S:Sr),R ρ->I m S->S.length=S1.length->m.length<xs.length->∃ρ1 v b,asg F tg (g d) ρ (S++[.lst m])=.ok ρ1 (S++[.lst m])/\R ρ1/\ev F elt ρ1 (S++[.lst m])=.ok v (b++[.lst m])/\b.length=S1.length/\refsLt 0 v=true/\I (m++[v]) b):
  ∃a b,ev F (.lc false fr nt elt tg it .nil) ρ S=.ok (.lst a) b/\I a b/\b.length=S1.length/\a.length=xs.length:=by
 obtain⟨o,c,b,e,p,h,q⟩:=qfg (n:=S1.length) (bind:=λd ρ S=>asg F tg d ρ S) (test:=λρ S=>tsts F .nil ρ S) (elt:=λρ S=>ev F elt ρ S) R I (λ_ _=>by simp[tsts]) xs [] _ S1 (by simpa using l) j hi rfl (by simpa using H)
 refine⟨c,b,?_,p,h,by simpa using q⟩
 simp only[ev,i,Res.bind,hd,e,lcEnd]
 rw[<-h]
 simp
end RP
namespace RP
open R
noncomputable def rI(n:Nat):List Int:=(List.range n).map λ(k:Nat)=>(k:Int)
theorem zh(n:Nat):(rI n).length=n:=by simp[rI]
theorem zN{n:Nat}{x:Int}:x∈rI n ↔ 0<=x/\x<n:=by
 unfold rI
 rw[vL]
 constructor
 .rintro ⟨k,a,rfl⟩;have:=wi.mp a;lia
 .rintro ⟨b,c⟩;exact⟨x.toNat,wi.mpr (by lia),by lia⟩
theorem qbv(n:Nat):(rI n).Nodup:=by
 unfold rI
 exact List.Pairwise.map _ (λa b h e=>h (by lia)) List.nodup_range
theorem qfi(n:Nat):(rI n).Pairwise (· < ·):=by
 unfold rI
 exact List.Pairwise.map _ (λa b h=>by lia) List.pairwise_lt_range
theorem qgP(n:Nat):rngL 0 n 1=(rI n).map .int:=by
 unfold rngL rI
 have:(((n:Int)-0+1-1) / 1).toNat=n:=by lia
 rw[this,wq]
 apply va
 intro k _
 simp
theorem qfj{n:Nat}(h:n<=1000):rngD [.int n]=some ((rI n).map .int):=by
 have a:-(2^62)<=(n:Int):=by lia
 have b:(n:Int)<2^62:=by lia
 simp only[rngD,a,b,and_self,ws,qgP]
theorem qjL{n:Nat}(h:n<=1000):((rI n).map D.int).length<=1000000:=by
 rw[wT,zh];exact wf h (by decide)
theorem qfk{b c:Type}(f:b->c):∀(l:List b) (i:Nat),(l.map f).eraseIdx i=(l.eraseIdx i).map f
 |[],_=>by simp
 |a::r,0=>by simp
 |a::r,i+1=>by simp[qfk f r i]
theorem qcU{b:Type}:∀{l:List b} {i:Nat} {x:b},l[i]?=some x->(x::l.eraseIdx i).Perm l
 |[],i,x,h=>by simp at h
 |a::r,0,x,h=>by simp at h;subst h;simp
 |a::r,i+1,x,h=>by
  simp at h
  have:=qcU h
  simp only[List.eraseIdx_cons_succ]
  exact(List.Perm.swap a x _).trans (this.cons a)
theorem qbw{l:List Int}(h:l.Nodup):(sortI l).Pairwise (· < ·):=by
 have c:=yE l
 have d:(sortI l).Nodup:=(qH l).nodup_iff.mpr h
 exact(c.and d).imp λ⟨a,b⟩=>by lia
theorem qdF{l:List Int}(h:l.length<64):sortL (l.map .int)=some ((sortI l).map .int):=by
 unfold sortL
 rw[wM (by simpa using h),qO]
theorem fm{v m:Int}(h:0<m):0<=v.fmod m/\v.fmod m<m:=⟨wk v h,vi v h⟩
theorem qiv{F:Fs}{ρ:En}{S S1:Sr}{es:CEs}{l:List D}{k:Option Bool}(h:evs F es ρ S=.ok l S1){ds:List D}(a:rngD l=some ds)(b:ds.length<=1000000):ev F (.rng k es) ρ S=match k with|some m=>newL m ds S1|none=>.ok (.tup ds) S1:=by
 cases k <;> simp only[ev,h,Res.bind,a,b,ws]
theorem qiw{F:Fs}{ρ:En}{S S1:Sr}{es:CEs}{n:Nat}(h:evs F es ρ S=.ok [.int n] S1)(hn:n<=1000):ev F (.rng (some true) es) ρ S=.ok (.ref S1.length) (S1++[.lst ((rI n).map .int)]):=by
 rw[qiv h (qfj hn) (qjL hn)]
 simp only[newL,refsI,ws]
theorem i_rng{F:Fs}{ρ:En}{S S1:Sr}{es:CEs}{n:Nat}(h:evs F es ρ S=.ok [.int n] S1)(hn:n<=1000):evI F (.rng es) ρ S=.ok ((rI n).map .int) S1:=by
 simp only[evI,h,Res.bind,qfj hn];rfl
theorem qjM{F:Fs}{ρ:En}{S S1 S2 a:Sr}{o i:CE}{x y d:D}(h:ev F o ρ S=.ok x S1)(hi:isLst S1 x=true)(b:ev F i ρ S1=.ok y S2)(c:popD S2 x y=.ok d a):ev F (.popAt o i) ρ S=.ok d a:=by
 simp only[ev,h,Res.bind,hi,ws,b,c]
end RP
namespace RP
open R
noncomputable def ent(t:Tie):List Int×D:=(t.1,.int t.2)
noncomputable def dicD(ts:List Tie):SO:=.dic (ts.map ent)
structure KnOk (many:Nat) (ts:List Tie):Prop where
 nd:(ts.map (·.1)).Nodup
 ok:∀t∈ts,PlOk many t.1/\t.1.length<=4/\1<=t.2/\t.2<=1000000
noncomputable def putTie(k:List Int)(w:Int)(ts:List Tie):List Tie :=
 if ts.any (λt=>decide (t.1=k))then ts.map (λt=>if t.1=k then(t.1,w)else t)else ts++[(k,w)]
theorem qfl(k:List Int)(w:Int)(ts:List Tie):putT k (.int w) (ts.map ent)=(putTie k w ts).map ent:=by
 unfold putT putTie
 have e:(ts.map ent).any (λp=>decide (p.1=k))=ts.any (λt=>decide (t.1=k)):=by rw[List.any_map];rfl
 rw[e]
 split
 .rw [wq,wq]
  apply va
  intro t _
  show(if t.1=k then(t.1,D.int w)else ent t)=ent (if t.1=k then(t.1,w)else t)
  split <;> rfl
 .simp [ent]
theorem KnOk.put{many:Nat}{ts:List Tie}(h:KnOk many ts){k:List Int}{w:Int}(l:PlOk many k)(m:k.length<=4)(f:1<=w)(i:w<=1000000):KnOk many (putTie k w ts)/\(putTie k w ts).length<=ts.length+1:=by
 unfold putTie
 split
 .refine ⟨⟨?_,?_⟩,by simp⟩
  .rw [wq]
   have:ts.map ((·.1)∘λt=>if t.1=k then(t.1,w)else t)=ts.map (·.1):=by
    apply va
    intro t _
    show(if t.1=k then(t.1,w)else t).1=t.1
    split <;> rfl
   rw[this];exact h.nd
  .intro t d
   obtain⟨s,c,rfl⟩:=vL.mp d
   split
   .rename_i e;exact⟨(h.ok s c).1,(h.ok s c).2.1,f,i⟩
   .exact h.ok s c
 .rename_i hn
  refine⟨⟨?_,?_⟩,by simp⟩
  .rw [xS,xE]
   refine⟨h.nd,by simp,λa ha b j e=>?_⟩
   simp at j
   obtain⟨s,c,rfl⟩:=vL.mp ha
   apply hn
   rw[vW]
   exact⟨s,c,by rw[wy,e,j]⟩
  .intro t d
   rcases vJ.mp d with z|z
   .exact h.ok t z
   .simp at z;subst z;exact⟨l,m,f,i⟩
noncomputable def look(ts:List Tie)(k:List Int):Int:=match ts with
 |[]=>0
 |t::r=>if t.1=k then t.2 else look r k
theorem je:∀{ts:List Tie} {k:List Int},k∈ts.map (·.1)->lookT k (ts.map ent)=some (.int (look ts k))/\∃t∈ts,t.1=k/\t.2=look ts k
 |[],k,h=>by simp at h
 |t::r,k,h=>by
  rw[w4]
  show(if t.1=k then some (D.int t.2)else lookT k (r.map ent))=some (.int (if t.1=k then t.2 else look r k))/\∃s∈t::r,s.1=k/\s.2=(if t.1=k then t.2 else look r k)
  by_cases e:t.1=k
  .rw [wM e,wM e];exact⟨rfl,t,wI,e,rfl⟩
  .rw [wL e,wL e]
   have h':k∈r.map (·.1):=by
    rw[w4]at h
    rcases wN.mp h with z|z
    .exact absurd z.symm e
    .exact z
   obtain⟨a,s,c,b⟩:=je h'
   exact⟨a,s,wJ _ c,b⟩
noncomputable def srt(ts:List Tie):List Tie:=(sortT (ts.map (·.1))).map λk=>(k,look ts k)
theorem qfm(ts:List Tie):(srt ts).map (·.1)=sortT (ts.map (·.1)):=by
 unfold srt;rw[wq]
 have:((λt:Tie=>t.1)∘λk=>(k,look ts k))=id:=rfl
 rw[this,List.map_id]
theorem qgQ(ts:List Tie):(srt ts).length=ts.length:=by
 unfold srt;rw[wT,(qG _).length_eq,wT]
theorem qix{many:Nat}{ts:List Tie}(h:KnOk many ts):(∀t∈srt ts,PlOk many t.1/\t.1.length<=4/\1<=t.2/\t.2<=1000000)/\((srt ts).map (·.1)).Pairwise λa b=>HT.lexLt a b=true:=by
 refine⟨λt c=>?_,by rw[qfm];exact yZ h.nd⟩
 unfold srt at c
 obtain⟨k,d,rfl⟩:=vL.mp c
 obtain⟨_,s,e,e1,f⟩:=je ((qG _).mem_iff.mp d)
 have:=h.ok s e
 rw[e1,f]at this
 exact this
theorem jO:∀l:List (List Int),tupsOf (l.map tupI)=some l
 |[]=>rfl
 |a::r=>by simp[tupsOf,tupI,qO];exact jO r
theorem qdG{l:List (List Int)}(h:l.length<64)(nd:l.Nodup)(ne:∀t∈l,t≠[]):sortL (l.map tupI)=some ((sortT l).map tupI):=by
 unfold sortL
 rw[wM (by simpa using h)]
 cases l with
 |nil=>rfl
 |cons a r =>
  have:intsOf ((a::r).map tupI)=none:=rfl
  rw[this]
  show(tupsOf ((a::r).map tupI)).bind _=_
  rw[jO,wY,wM ⟨nd,ne⟩]
theorem qiy{F:Fs}{ρ:En}{T:Sr}{kx j many:Nat}{ts:List Tie}(a:ρ[kx]?=some (some (.ref j)))(b:T[j]?=some (dicD ts))(h:KnOk many ts)(f:ts.length<64):
  ev F (.blt .tuple (.cons (.lc false [kx] 1 (.tup (.cons (.var 1) (.cons (.idx (.var 0) (.var 1)) .nil))) (.var 1) (.seq (.blt (.sorted false) (.cons (.var kx) .nil))) .nil) .nil)) ρ T=.ok (.tup ((srt ts).map tieD)) T:=by
 have i:ev F (.var kx) ρ T=.ok (.ref j) T:=by simp only[ev,varE,a]
 have n:walkD T (.ref j)=some ((ts.map (·.1)).map tupI):=by
  simp only[walkD,b,dicD,wq];rfl
 have c:bltD (.sorted false) [.ref j] T=.ok (.lst ((sortT (ts.map (·.1))).map tupI)) T:=by
  simp only[bltD,one,bSorted,n,wY]
  rw[qdG (by simpa using f) h.nd (λt o=>by obtain⟨s,c,rfl⟩:=vL.mp o;exact(h.ok s c).1.ne)]
  rfl
 have d:ev F (.blt (.sorted false) (.cons (.var kx) .nil)) ρ T=.ok (.lst ((sortT (ts.map (·.1))).map tupI)) T:=qB (qf i rfl) c
 have e:=zC (g:=tupI) (F:=F) (fr:=[kx]) (nt:=1) (elt:=.tup (.cons (.var 1) (.cons (.idx (.var 0) (.var 1)) .nil))) (tg:=.var 1) (it:=.seq (.blt (.sorted false) (.cons (.var kx) .nil))) (ifs:=.nil) (ρ:=ρ) (S:=T) (S1:=T) (ds:=(sortT (ts.map (·.1))).map tupI) (sortT (ts.map (·.1))) (λ_=>true) (λk=>tieD (k,look ts k)) (λρ=>∃x,ρ=[some (.ref j),x])
  (by simp only[evI,d,Res.bind]) rfl ⟨none,by simp[frE,a]⟩ (by rw[(qG _).length_eq,wT];unfold PySem.sizeLine;lia) (by
   rintro k p ρ m ⟨x,rfl⟩
   refine⟨_,rfl,⟨_,rfl⟩,rfl,λ_=>⟨ja (l:=[tupI k,.int (look ts k)]) (qf rfl (qf (zr (d1:=.ref j) (d2:=tupI k) rfl rfl ?_) rfl)) (by simp[PySem.sizeLine]),jM _ _⟩⟩
   have q:j<T.length:=(wK.mp b).1
   have:(T++[SO.lst m])[j]?=some (dicD ts):=by rw[wX q,b]
   simp only[idxD,tupI,this,dicD,qO,wY]
   exact(je ((qG _).mem_iff.mp p)).1)
 rw[qE]at e
 refine qB (qf e rfl) ?_
 simp only[bltD,one,bTuple,seqOf,lstOf,wb,ofO]
 unfold srt
 rw[wq];rfl
end RP
namespace RP
open R
theorem qgR{p t:List Int}(a:p.Nodup)(c:t.Nodup)(h:∀x∈t,x∈p):(p.filter λx=>t.contains x).length=t.length:=by
 apply List.Perm.length_eq
 refine(List.perm_ext_iff_of_nodup (a.filter _) c).mpr λx=>?_
 rw[v9]
 constructor
 .rintro ⟨_,b⟩;simpa using b
 .intro hx;exact⟨h x hx,by simpa using hx⟩
theorem qfn{p:List Int}(h:p.Pairwise (· < ·)):p.Nodup:=h.imp λa=>by lia
end RP
namespace RP
open R
noncomputable def eu:Nat->Int->Int->Int
 |0,a,_=>a
 |n+1,a,b=>if b=0 then a else eu n b (a.fmod b)
theorem qfo:∀(n:Nat) {a b:Int},0<a->0<=b->0<eu n a b
 |0,a,b,ha,_=>ha
 |n+1,a,b,ha,hb=>by
  unfold eu
  split
  .exact ha
  .exact qfo n (by omega) (wk a (by omega))
theorem qha:∀(n:Nat) {a b m:Int},0<=b->a<=m->b<=m->eu n a b<=m
 |0,a,b,m,_,ha,_=>ha
 |n+1,a,b,m,hb0,ha,hb=>by
  unfold eu
  split
  .exact ha
  .have:=vi a (show 0<b by omega)
   exact qha n (wk a (by omega)) hb (by omega)
theorem qfp{n:Nat}{a b:Int}(ha:0<=a)(c:0<b):0<eu (n+1) a b/\eu (n+1) a b<=b:=by
 unfold eu
 rw[wL (by omega)]
 have d:=wk a c
 have e:=vi a c
 exact⟨qfo n c d,qha n d (by omega) (by omega)⟩
theorem half{a b:Int}(h:0<b)(c:0<a.fmod b):2*b.fmod (a.fmod b)<b:=by
 have d:=vi a h
 have e:=vi b c
 have f:=wk b c
 have i:=Int.mul_fdiv_add_fmod b (a.fmod b)
 have j:0<b.fdiv (a.fmod b):=by
  rcases Int.lt_or_le 0 (b.fdiv (a.fmod b))with z|z
  .exact z
  .exfalso
   have:a.fmod b*b.fdiv (a.fmod b)<=0:=by
    have:=ua z (Int.le_of_lt c)
    simpa using this
   omega
 have l:a.fmod b<=a.fmod b*b.fdiv (a.fmod b):=by
  have:=ua (show(1:Int)<=b.fdiv (a.fmod b) by omega) (Int.le_of_lt c)
  simpa using this
 omega
theorem wl{test:En->Sr->Res Bool}{body:En->Sr->Res Fl}{E:Int->Int->En}{S:Sr}(l:∀a b,test (E a b) S=.ok (!(b == 0)) S)(o:∀a b,0<b->body (E a b) S=.ok (.nx (E b (a.fmod b))) S):∀(k n:Nat) (a b:Int),0<=a->0<=b->b<2^k->2*k+1<=n->whileLoop test body n (E a b) S=.ok (.nx (E (eu n a b) 0)) S:=by
 have stop:∀(n:Nat) (a:Int),0<n->whileLoop test body n (E a 0) S=.ok (.nx (E (eu n a 0) 0)) S:=by
  intro n a h
  cases n with
  |zero=>omega
  |succ n =>
   unfold whileLoop eu
   rw[l,wM rfl];rfl
 have go:∀(n:Nat) (a b:Int),0<b->whileLoop test body (n+1) (E a b) S=whileLoop test body n (E b (a.fmod b)) S:=by
  intro n a b h
  rw[whileLoop,l,Res.bind_ok]
  have:(!(b == 0))=true:=by simp;omega
  rw[wM this,o a b h,Res.bind_ok]
 have d:∀(n:Nat) (a b:Int),0<b->eu (n+1) a b=eu n b (a.fmod b):=λn a b h=>by rw[eu,wL (by omega)]
 intro k
 induction k with
 |zero =>
  intro n a b ha j f hn
  have:b=0:=by simp at f;omega
  subst this
  exact stop n a (by omega)
 |succ k p =>
  intro n a b ha j f hn
  by_cases z:b=0
  .subst z;exact stop n a (by omega)
  .have c:0<b:=by omega
   obtain⟨m,rfl⟩:∃m,n=m+2:=⟨n-2,by omega⟩
   have q:=wk a c
   rw[go _ _ _ c,d _ _ _ c]
   by_cases r:a.fmod b=0
   .rw [r];exact stop _ _ (by omega)
   .have i:0<a.fmod b:=by omega
    rw[go _ _ _ i,d _ _ _ i]
    have s:=half c i
    have e:(2:Int)^(k+1)=2*2^k:=by rw[Int.pow_succ];omega
    exact p m _ _ q (wk b i) (by omega) (by omega)
theorem qgS{F:Fs}{N:Nat}{ρ ρ1:En}{S S1:Sr}{r a:CSs}{c:CB}{X:Res Fl}(h:whileLoop (λρ S=>tst F c ρ S) (λρ S=>exs F N a ρ S) N ρ S=.ok (.nx ρ1) S1)(b:exs F N r ρ1 S1=X):exs F N (.cons (.whileS c a) r) ρ S=X:=by
 simp only[exs,ex,h,Res.bind]
 exact b
theorem bmod{a b:Int}{S:Sr}(h:b≠0):binD .mod (.int a) (.int b) S=some (.int (a.fmod b)):=by
 simp only[binD,binI];rw[wL h];rfl
theorem bdiv{a b:Int}{S:Sr}(h:0<b)(c:b.natAbs<2^64):binD .fdiv (.int a) (.int b) S=some (.int (a.fdiv b)):=by
 simp only[binD,binI];rw[wM (qcR h c)];rfl
theorem qjN{a:Int}{S:Sr}(h:0<=a):bltD .abs [.int a] S=.ok (.int a) S:=by
 simp only[bltD,one,bAbs];rw[wL (by omega)]
noncomputable def cstI(w:Wb)(x:Int):Int:=w.costs.getD x.toNat 0
noncomputable def price(w:Wb)(p:List Int):Int:=(p.map (cstI w)).sum
theorem qbx{w:Wb}{x:Int}{S:Sr}(h:0<=x)(a:x<w.costs.length):idxD S (tupI w.costs) (.int x)=some (.int (cstI w x)):=by
 have hx:x.toNat<w.costs.length:=by omega
 have:L2.ixN (w.costs.map D.int).length x=some x.toNat:=by
  unfold L2.ixN;rw[wM h,wT,wM a]
 show(L2.ixN (w.costs.map D.int).length x).bind (λj=>(w.costs.map D.int)[j]?)=_
 rw[this]
 simp only[wY,wW,cstI,ww,wD hx,wb,Option.getD_some]
theorem qiz{w:Wb}(h:WbOk w){x:Int}(a:0<=x)(b:x<w.costs.length):1<=cstI w x/\cstI w x<=100:=by
 have hx:x.toNat<w.costs.length:=by omega
 unfold cstI
 rw[ww,wD hx]
 exact h.c3 _ (u8 hx)
theorem qfq{f:Int->Int}:∀{l:List Int},(∀x∈l,1<=f x/\f x<=100)->(l.length:Int)<=(l.map f).sum/\(l.map f).sum<=100*l.length
 |[],_=>by simp
 |a::r,h=>by
  have b:=qfq (f:=f) (l:=r) λx hx=>h x (wJ _ hx)
  have c:=h a wI
  simp only[w4,ue,wc]
  omega
theorem yM{w:Wb}{p:List Int}(h:WbOk w)(b:PlOk w.costs.length p):1<=p.length/\p.length<=12:=by
 have d:=qgR (p:=rI w.costs.length) (t:=p) (qbv _) (qfn b.up) (λx hx=>zN.mpr (b.rng x hx))
 have c:=List.length_filter_le (λx=>p.contains x) (rI w.costs.length)
 rw[zh]at c
 have:=h.c2
 refine⟨?_,by omega⟩
 cases hz:p with
 |nil=>exact absurd hz b.ne
 |cons a r=>simp
theorem zZ{w:Wb}{p:List Int}(h:WbOk w)(a:PlOk w.costs.length p):1<=price w p/\price w p<=1200:=by
 have b:=yM h a
 have c:=qfq (f:=cstI w) (l:=p) λx hx=>qiz h (a.rng x hx).1 (a.rng x hx).2
 unfold price;omega
noncomputable def mass(w:Wb)(p:List Int):Int:=((tin w p).map (·.2)).sum
theorem qfr:∀{l:List Int},(∀x∈l,0<=x)->0<=l.sum
 |[],_=>by simp
 |a::r,h=>by
  have:=qfr (l:=r) λx hx=>h x (wJ _ hx)
  have:=h a wI
  simp only[ue];omega
theorem qcV{w:Wb}(h:WbOk w)(p:List Int):0<=mass w p:=by
 unfold mass
 apply qfr
 intro x hx
 obtain⟨t,a,rfl⟩:=vL.mp hx
 have:=(h.t2 t (v9.mp a).1).2.2.1
 omega
noncomputable def low(n:Nat)(t b:Int):D:=.tup [.int (t.fdiv (eu n t b)),.int (b.fdiv (eu n t b))]
end RP
namespace RP
open R
end RP
namespace RP
open R
mutual
noncomputable def gd:D->Bool
 | .ref _=>false
 | .tup l=>decide (l.length<=900)&&gds l
 | .lst l=>gds l
 | .non=>true
 | .bl _=>true
 | .int _=>true
 | .str _=>true
 | .emp=>true
noncomputable def gds:List D->Bool
 |[]=>true
 |x::r=>gd x&&gds r
end
mutual
noncomputable def tr:D->Bool
 | .int i=>decide (i.natAbs<=10000000)
 | .tup l=>decide (l.length<=60)&&trs l
 |_=>false
noncomputable def trs:List D->Bool
 |[]=>true
 |x::r=>tr x&&trs r
end
noncomputable def tl:CSs->CSs
 | .cons _ r=>r
 | .nil=>.nil
end RP
namespace RP
open R
@[irreducible] noncomputable def Ok{α:Type}(r:Res α)(Q:α->Sr->Prop):Prop:=∃a S,r=.ok a S/\Q a S
theorem Ok.ex{b:Type}{r:Res b}{Q:b->Sr->Prop}(h:Ok r Q):∃a S,r=.ok a S/\Q a S:=by unfold Ok at h;exact h
theorem Ok.mk{b:Type}{r:Res b}{Q:b->Sr->Prop}(h:∃a S,r=.ok a S/\Q a S):Ok r Q:=by unfold Ok;exact h
theorem qcW{b:Type}{a:b}{S:Sr}{Q:b->Sr->Prop}(h:Q a S):Ok (.ok a S) Q:=.mk ⟨a,S,rfl,h⟩
theorem Ok.of{b:Type}{r:Res b}{a:b}{S:Sr}{Q:b->Sr->Prop}(e:r=.ok a S)(h:Q a S):Ok r Q:=.mk ⟨a,S,e,h⟩
section
variable{F:Fs}{N:Nat}{ρ:En}{S:Sr}{r a b:CSs}{e e1 e2:CE}{t:CT}{c:CB}{Q:Fl->Sr->Prop}{s:CS}
theorem qfs(h:Q (.nx ρ) S):Ok (exs F N .nil ρ S) Q:=by rw[yJ];exact qcW h
theorem qft(h:Ok (ev F e ρ S) λd S1=>Q (.rt d) S1):Ok (exs F N (.cons (.ret e) r) ρ S) Q:=by
 obtain⟨d,S1,e1,f⟩:=h.ex
 rw[qF e1];exact qcW f
theorem zE(h:Ok (ev F e ρ S) λd S1=>Ok (asg F t d ρ S1) λρ1 S2=>Ok (exs F N r ρ1 S2) Q):Ok (exs F N (.cons (.set t e) r) ρ S) Q:=by
 obtain⟨d,S1,e1,f⟩:=h.ex
 obtain⟨ρ1,S2,e2,i⟩:=f.ex
 rw[qW e1 e2 rfl];exact i
theorem o_if(h:Ok (tst F c ρ S) λx S1=>Ok (exs F N (if x then a else b) ρ S1) λf S2=>match f with|.nx ρ1=>Ok (exs F N r ρ1 S2) Q|f=>Q f S2):Ok (exs F N (.cons (.ifs c a b) r) ρ S) Q:=by
 obtain⟨x,S1,e1,i⟩:=h.ex
 obtain⟨f,S2,e2,d⟩:=i.ex
 have:exs F N (.cons (.ifs c a b) r) ρ S=(exs F N (if x then a else b) ρ S1).bind λf S1=>match f with|.nx ρ1=>exs F N r ρ1 S1|f=>.ok f S1:=by
  cases x <;> simp only[exs,ex,e1,Res.bind] <;> rfl
 rw[this,e2,Res.bind_ok]
 cases f <;> first|exact d|exact qcW d
theorem o_no(h:Ok (tst F c ρ S) λx S1=>x=false/\Ok (exs F N r ρ S1) Q):Ok (exs F N (.cons (.ifs c a .nil) r) ρ S) Q:=by
 obtain⟨x,S1,e1,rfl,d⟩:=h.ex
 rw[x_no e1 rfl];exact d
theorem qfu{m:Type}{g:m->D}{it:CI}(P:List m->En->Sr->Prop)(xs:List m)(h:Ok (evI F it ρ S) λds S1=>ds=xs.map g/\P [] ρ S1)(H:∀(pre:List m) (x:m) (j:List m) (ρ:En) (S:Sr),xs=pre++x::j->P pre ρ S->Ok (asg F t (g x) ρ S) λρ1 S1=>Ok (exs F N a ρ1 S1) λf S2=>match f with|.nx l=>P (pre++[x]) l S2|_=>False)(K:∀i n,P xs i n->Ok (exs F N r i n) Q):Ok (exs F N (.cons (.forS t it a) r) ρ S) Q:=by
 obtain⟨ds,S1,e1,rfl,p⟩:=h.ex
 obtain⟨i,n,e2,q⟩:=qcT (g:=g) (body:=λd ρ S=>(asg F t d ρ S).bind λρ1 S1=>exs F N a ρ1 S1) P xs p (by
  intro pre x j ρ S u v
  obtain⟨ρ1,S2,w,y⟩:=(H pre x j ρ S u v).ex
  obtain⟨f,z,A,o⟩:=y.ex
  cases f with
  |nx l=>exact⟨l,z,by rw[w,Res.bind_ok,A],o⟩
  |_=>exact o.elim)
 rw[qfd e1 e2 rfl]
 exact K i n q
theorem qcX{f:CF}{l:List D}{Q:D->Sr->Prop}(j:l.length=f.np)(m:f.keeps=false)(h:Ok (exs F N f.body (l.map some++List.replicate (f.nn-f.np) none) S) λx S1=>match x with
  | .rt d=>S.length<=S1.length/\refsLt S.length d=true/\Q d (S1.take S.length)
  |_=>False):Ok (callC F N f l S) Q:=by
 obtain⟨x,S1,e1,i⟩:=h.ex
 cases x with
 |rt d =>
  obtain⟨p,n,o⟩:=i
  have:callC F N f l S=.ok d (S1.take S.length):=by
   simp only[callC,j,wM,e1,Res.bind,leave,m]
   rw[wL (by simp)]
   split
   .rename_i z;rw[<-z,xL]
   .first|rfl|rw[wM n]
  rw[this];exact qcW o
 |_=>exact i.elim
theorem qiA{S1:Sr}{l:List D}(h:ev F e ρ S=.ok (.lst l) S1):evI F (.seq e) ρ S=.ok l S1:=by
 simp only[evI,h,Res.bind]
end
end RP
namespace RP
open R
theorem qby(a b:Int)(d:0<b):Int.gcd b (a.fmod b)=Int.gcd a b:=by
 have e:a=a.fmod b+b*a.fdiv b:=by have:=Int.mul_fdiv_add_fmod a b;lia
 have c:Int.gcd a b=Int.gcd (a.fmod b+b*a.fdiv b) b:=by rw[<-e]
 rw[c,Int.gcd_comm b]
 simp
theorem qiB:∀(k n:Nat) (a b:Int),0<=a->0<=b->b<2^k->2*k+1<=n->eu n a b=(Int.gcd a b:Int):=by
 have stop:∀(n:Nat) (a:Int),0<=a->0<n->eu n a 0=(Int.gcd a 0:Int):=by
  intro n a ha h
  cases n with
  |zero=>lia
  |succ n=>unfold eu;rw[wM rfl,Int.gcd_zero_right];lia
 have d:∀(n:Nat) (a b:Int),0<b->eu (n+1) a b=eu n b (a.fmod b):=λn a b h=>by rw[eu,wL (by lia)]
 intro k
 induction k with
 |zero =>
  intro n a b ha j f hn
  have:b=0:=by simp at f;lia
  subst this
  exact stop n a ha (by lia)
 |succ k l =>
  intro n a b ha j f hn
  by_cases z:b=0
  .subst z;exact stop n a ha (by lia)
  .have c:0<b:=by lia
   obtain⟨m,rfl⟩:∃m,n=m+2:=⟨n-2,by lia⟩
   have p:=wk a c
   rw[d _ _ _ c,<-qby a b c]
   by_cases o:a.fmod b=0
   .rw [o];exact stop _ _ (by lia) (by lia)
   .have i:0<a.fmod b:=by lia
    rw[d _ _ _ i,<-qby b _ i]
    have q:=half c i
    have e:(2:Int)^(k+1)=2*2^k:=by rw[Int.pow_succ];lia
    exact l m _ _ (by lia) (wk b i) (by lia) (by lia)
noncomputable def lw(t b:Int):Int×Int:=(t.fdiv (Int.gcd t b:Int),b.fdiv (Int.gcd t b:Int))
structure Lw (p:Int×Int):Prop where
 pos:1<=p.2
 one:Int.gcd p.1 p.2=1
theorem jf{t b:Int}(a:1<=b):0<Int.gcd t b:=Int.gcd_pos_of_ne_zero_right t (by lia)
theorem qbz{t g:Int}(a:0<g)(h:g∣t):t.fdiv g*g=t:=by
 rw[uI _ (by lia)]
 exact Int.ediv_mul_cancel h
theorem qcb{t b:Int}(a:1<=b):(lw t b).1*(Int.gcd t b:Int)=t/\(lw t b).2*(Int.gcd t b:Int)=b :=
 ⟨qbz (by have:=jf (t:=t) a;lia) (Int.gcd_dvd_left t b),qbz (by have:=jf (t:=t) a;lia) (Int.gcd_dvd_right t b)⟩
theorem qhb{t b:Int}(a:1<=b):(lw t b).1*b=t*(lw t b).2:=by
 obtain⟨c,d⟩:=qcb (t:=t) a
 calc (lw t b).1*b=(lw t b).1*((lw t b).2*(Int.gcd t b:Int)):=by rw[d]
  _=((lw t b).1*(Int.gcd t b:Int))*(lw t b).2:=by rw[Int.mul_assoc,Int.mul_comm (lw t b).2]
  _=t*(lw t b).2:=by rw[c]
theorem qac{t b:Int}(a:1<=b):Lw (lw t b):=by
 have c:=jf (t:=t) a
 obtain⟨h,d⟩:=qcb (t:=t) a
 have e:0<(Int.gcd t b:Int):=by lia
 refine⟨?_,?_⟩
 .rcases Int.lt_or_le 0 (lw t b).2 with z|z
  .exact z
  .exfalso
   have:=Int.mul_le_mul_of_nonneg_right z (show 0<=(Int.gcd t b:Int) by lia)
   rw[d]at this;lia
 .have e1:(lw t b).1=t / (Int.gcd t b:Int):=uI _ (by lia)
  have f:(lw t b).2=b / (Int.gcd t b:Int):=uI _ (by lia)
  rw[e1,f]
  exact Int.gcd_ediv_gcd_ediv_gcd c
end RP
namespace RP
open R
theorem qfv:∀{a b:List Int},a.Pairwise (· < ·)->b.Pairwise (· < ·)->(∀x,x∈a ↔ x∈b)->a=b
 |[],[],_,_,_=>rfl
 |[],y::s,_,_,h=>by have:=(h y).mpr wI;simp at this
 |x::r,[],_,_,h=>by have:=(h x).mp wI;simp at this
 |x::r,y::s,h1,h2,h=>by
  obtain⟨f,i⟩:=wp.mp h1
  obtain⟨b1,j⟩:=wp.mp h2
  have e:x=y:=by
   rcases wN.mp ((h x).mp wI)with z|z
   .exact z
   .rcases wN.mp ((h y).mpr wI)with d|d
    .exact d.symm
    .have:=f y d;have:=b1 x z;lia
  subst e
  have:r=s:=qfv i j λq=>by
   constructor
   .intro c
    rcases wN.mp ((h q).mp (wJ _ c))with z|z
    .have:=f q c;lia
    .exact z
   .intro c
    rcases wN.mp ((h q).mpr (wJ _ c))with z|z
    .have:=b1 q c;lia
    .exact z
  rw[this]
section
variable{many:Nat}{o:List Int}(hp:o.Perm (rI many))
include hp
end
section
variable{many:Nat}{o:List Int}(hp:o.Perm (rI many))
include hp
end
section
variable{w:Wb}(hw:WbOk w){o:List Int}(hp:o.Perm (rI w.costs.length))
include hw hp
end
theorem qjO{F:Fs}{ρ:En}{S:Sr}{ns:List Int}{c:Int}(h:ρ[0]?=some (some (.lst (ns.map .int))))(d:1<=c)(e:c<=1000):∃n:Nat,(2*n:Int)<=c+1/\evI F (.rng (.cons (.cst (.int 0)) (.cons (.blt .max2 (.cons (.cst (.int 1)) (.cons (.blt .min2 (.cons (.blt .len (.cons (.var 0) .nil)) (.cons (.cst (.int c)) .nil))) .nil))) (.cons (.cst (.int 2)) .nil)))) ρ S=.ok ((List.range n).map λ(k:Nat)=>D.int (0+2*k)) S:=by
 obtain⟨b,a⟩:∃b:Int,b=(if(if c<(ns.length:Int)then c else(ns.length:Int))>1 then(if c<(ns.length:Int)then c else(ns.length:Int))else 1):=⟨_,rfl⟩
 have f:1<=b/\b<=c:=by rw[a];split <;> split <;> lia
 refine⟨((b-0+2-1) / 2).toNat,by lia,?_⟩
 have i:ev F (.var 0) ρ S=.ok (.lst (ns.map .int)) S:=by simp only[ev,varE,h]
 have j:ev F (.blt .len (.cons (.var 0) .nil)) ρ S=.ok (.int ns.length) S:=qB (qf i rfl) (by simp[bltD,one,bLen,lenD])
 have l:ev F (.blt .min2 (.cons (.blt .len (.cons (.var 0) .nil)) (.cons (.cst (.int c)) .nil))) ρ S=.ok (.int (if c<(ns.length:Int)then c else(ns.length:Int))) S:=qB (qf j (qf rfl rfl)) rfl
 have m:ev F (.blt .max2 (.cons (.cst (.int 1)) (.cons (.blt .min2 (.cons (.blt .len (.cons (.var 0) .nil)) (.cons (.cst (.int c)) .nil))) .nil))) ρ S=.ok (.int b) S:=qB (qf rfl (qf l rfl)) (by rw[a];rfl)
 have o:evs F (.cons (.cst (.int 0)) (.cons (.blt .max2 (.cons (.cst (.int 1)) (.cons (.blt .min2 (.cons (.blt .len (.cons (.var 0) .nil)) (.cons (.cst (.int c)) .nil))) .nil))) (.cons (.cst (.int 2)) .nil))) ρ S=.ok [.int 0,.int b,.int 2] S:=qf rfl (qf m rfl)
 simp only[evI,o,Res.bind,rngD]
 have p:-(2^62)<=(0:Int)/\(0:Int)<2^62/\-(2^62)<=b/\b<2^62/\(0:Int)<2/\(2:Int)<2^62:=⟨by decide,by decide,by lia,by lia,by decide,by decide⟩
 rw[wM p];rfl
end RP
namespace RP
open R PySem
noncomputable def tx(p:Int×Int):Str:=if p.2=1 then Str.ofString (toString p.1)else Str.ofString (toString p.1)++Str.ofString "/"++Str.ofString (toString p.2)
end RP
namespace RP
open R
noncomputable abbrev NW:Nat:=60
@[irreducible] noncomputable def G(d:Nat):Fs:=run prg NW d
theorem qfw(d:Nat):G d=run prg NW d:=by unfold G;rfl
theorem G_at{d i:Nat}{c:CF}(h:prg[i]?=some c)(l:List D)(S:Sr):G (d+1) i l S=callC (G d) NW c l S:=by
 rw[qfw,qfw]
 show(match prg[i]? with|some c=>callC (run prg NW d) NW c l S|none=>.no)=_
 rw[h]
theorem jP{d:Nat}{i:Int}{S:Sr}:G (d+1) 0 [.int i] S=.ok (.bl true) S:=by
 rw[G_at (c:=c_0) rfl]
 simp[callC,c_0,Res.bind,exs,ex,ev,varE,isiD,leave]
theorem qY{d:Nat}{i a b:Int}{S:Sr}:G (d+2) 1 [.int i,.int a,.int b] S=.ok (.bl (decide (a<=i)&&decide (i<=b))) S:=by
 rw[G_at (c:=c_1) rfl]
 by_cases h:a<=i <;> simp[callC,c_1,exs,ex,ev,evs,varE,Res.bind,jP,cmpD,h,leave]
theorem qbA{d:Nat}{p:List Int}{S:Sr}(a:p≠[])(h:p.Pairwise (· < ·)):G (d+1) 10 [tupI p] S=.ok (.bl true) S:=by
 rw[G_at (c:=c_10) rfl]
 have e:evI (G d) (.zip (.var 0) (.slc (.var 0) (.some (.cst (.int 1))) .none)) [some (tupI p)] S=.ok ((p.zip (p.drop 1)).map λq=>.tup [.int q.1,.int q.2]) S:=by
  have:slcD S (tupI p) (some 1) none=some (tupI (p.drop 1)):=by
   unfold slcD tupI
   simp only[cut1];simp
  simp[Res.bind,callC,exs,ex,ev,evs,evO,evI,asg,asgs,tst,tsts,varE,frE,bltD,one,two,leave,ofO,truD,this]
  simp only[tupI,walkF,List.zip_map',List.zip_map,wq]
  simp
 refine qD rfl (qF ?_)
 rw[<-qfb h]
 exact jd (p.zip (p.drop 1)) (λq=>decide (q.1<q.2)) (λρ=>∃x y,ρ=[x,y]) e rfl ⟨_,_,rfl⟩ (by
  rintro q _ ρ ⟨x,y,rfl⟩
  exact⟨_,rfl,⟨_,_,rfl⟩,by simp[Res.bind,callC,exs,ex,ev,evs,evO,evI,asg,asgs,tst,tsts,varE,frE,bltD,one,two,leave,ofO,truD,cmpD]⟩)
theorem qaI{d:Nat}{p:List (List Int)}{S:Sr}(h:p.Pairwise λa b=>HT.lexLt a b=true):G (d+1) 10 [.lst (p.map tupI)] S=.ok (.bl true) S:=by
 rw[G_at (c:=c_10) rfl]
 have e:evI (G d) (.zip (.var 0) (.slc (.var 0) (.some (.cst (.int 1))) .none)) [some (.lst (p.map tupI))] S=.ok ((p.zip (p.drop 1)).map λq=>.tup [tupI q.1,tupI q.2]) S:=by
  have:slcD S (.lst (p.map tupI)) (some 1) none=some (.lst ((p.drop 1).map tupI)):=by
   unfold slcD lstOf
   simp[cut1]
  rw[<-qfe]
  simp only[evI,ev,evO,varE,Res.bind,uT,this,ofO,walkF]
 refine qD rfl (qF ?_)
 rw[<-qcJ h]
 exact jd (p.zip (p.drop 1)) (λq=>HT.lexLt q.1 q.2) (λρ=>∃x y,ρ=[x,y]) e rfl ⟨_,_,rfl⟩ (by
  rintro q _ ρ ⟨x,y,rfl⟩
  exact⟨_,rfl,⟨_,_,rfl⟩,by simp[Res.bind,callC,exs,ex,ev,evs,evO,evI,asg,asgs,tst,tsts,varE,frE,bltD,one,two,leave,ofO,truD,cmpD,tupI,qO]⟩)
theorem yN{d n:Nat}{p:List Int}{S:Sr}(h:PlOk n p):G (d+3) 9 [tupI p,.int n] S=.ok (.bl true) S:=by
 rw[G_at (c:=c_9) rfl]
 have hn:(List.map D.int p).isEmpty=false:=by
  cases p with
  |nil=>exact absurd rfl h.ne
  |cons a r=>rfl
 refine qD rfl (x_no (S1:=S) ?_ (qF (qcM (x:=true) (y:=true) ?_ ?_)))
 .simp [Res.bind,callC,exs,ex,ev,evs,evO,evI,asg,asgs,tst,tsts,varE,frE,bltD,one,two,leave,ofO,truD,tupI,isiD,hn]
 .exact jL (g:=.int) p (λρ=>∃x,ρ=[some (.int n),x]) rfl rfl ⟨_,rfl⟩ (by
   rintro q b ρ ⟨x,rfl⟩
   have e:=(h.rng q b).1
   have f:q<=(n:Int)-1:=by have:=(h.rng q b).2;omega
   exact⟨_,rfl,⟨_,rfl⟩,by simp[Res.bind,callC,exs,ex,ev,evs,evO,evI,asg,asgs,tst,tsts,varE,frE,bltD,one,two,leave,ofO,truD,binD,binI,qY,e,f]⟩)
 .exact qi rfl (qbA h.ne h.up)
theorem yO{d n:Nat}{p:List Int}{S:Sr}(h:PlOk n p)(a:p.length<=4):G (d+4) 8 [tupI p,.int n] S=.ok (.bl true) S:=by
 rw[G_at (c:=c_8) rfl]
 exact qD rfl (qF (qcM (x:=true) (y:=true) (qi rfl (yN h)) (qI (qB rfl (yK _ _)) rfl (by simp[cmpD];omega))))
theorem qfx{d n:Nat}{t:Tie}{S:Sr}(h:PlOk n t.1)(b:t.1.length<=4)(a:1<=t.2/\t.2<=1000000):G (d+5) 7 [tieD t,.int n] S=.ok (.bl true) S:=by
 rw[G_at (c:=c_7) rfl]
 refine qD rfl (x_no (S1:=S) ?_ (qW (d:=tieD t) (S1:=S) rfl (ρ1:=[some (tieD t),some (.int n),some (tupI t.1),some (.int t.2)]) rfl (qF (qcM (x:=true) (y:=true) (qi rfl (yO h b)) ?_))))
 .simp [Res.bind,callC,exs,ex,ev,evs,evO,evI,asg,asgs,tst,tsts,varE,frE,bltD,one,two,leave,ofO,truD,tieD,isiD,bLen,lenD,cmpD,eqD]
 .simp [Res.bind,callC,exs,ex,ev,evs,evO,evI,asg,asgs,tst,tsts,varE,frE,bltD,one,two,leave,ofO,truD,qY,a.1,a.2]
theorem qcc{d:Nat}{w:Wb}{S:Sr}(h:WbOk w):G (d+6) 6 [.tup (w.ties.map tieD),.int w.costs.length] S=.ok (.bl true) S:=by
 rw[G_at (c:=c_6) rfl]
 refine qD rfl (x_no (S1:=S) ?_ (x_no (S1:=S) (t_no (x:=true) (t_of ?_)) (qF (qi (l:=[.lst ((w.ties.map (·.1)).map tupI)]) (qf ?_ rfl) (qaI h.t3)))))
 .simp [Res.bind,callC,exs,ex,ev,evs,evO,evI,asg,asgs,tst,tsts,varE,frE,bltD,one,two,leave,ofO,truD,isiD,bLen,lenD,cmpD];have:=h.t1;omega
 .exact jL (g:=tieD) w.ties (λρ=>∃x,ρ=[some (.int w.costs.length),x]) rfl rfl ⟨_,rfl⟩ (by
   rintro t e ρ ⟨x,rfl⟩
   obtain⟨a,b,c⟩:=h.t2 t e
   exact⟨_,rfl,⟨_,rfl⟩,qi rfl (qfx a b c)⟩)
 .have:=zC (g:=tieD) (F:=G (d+5)) (fr:=[]) (nt:=2) (elt:=.var 0) (tg:=.tup (.cons (.var 0) (.cons (.var 1) .nil))) (it:=.seq (.var 0)) (ifs:=.nil) (ρ:=[some (.tup (w.ties.map tieD)),some (.int w.costs.length)]) (S:=S) (S1:=S) w.ties (λ_=>true) (λt=>tupI t.1) (λρ=>∃x y,ρ=[x,y]) rfl rfl ⟨_,_,rfl⟩ (by have:=h.t1;unfold PySem.sizeLine;omega) (by
   rintro t e ρ m ⟨x,y,rfl⟩
   exact⟨_,rfl,⟨_,_,rfl⟩,rfl,λ_=>⟨rfl,zD _ t.1⟩⟩)
  rw[qE]at this
  rw[wq]
  exact this
theorem qbB{d:Nat}{w:Wb}{S:Sr}(h:WbOk w):G (d+4) 5 [tupI w.costs] S=.ok (.bl true) S:=by
 rw[G_at (c:=c_5) rfl]
 refine qD rfl (x_no (S1:=S) ?_ (qF ?_))
 .have b:(1:Int)<=w.costs.length:=by have:=h.c1;omega
  have e:(w.costs.length:Int)<=12:=by have:=h.c2;omega
  simp[Res.bind,callC,exs,ex,ev,evs,evO,evI,asg,asgs,tst,tsts,varE,frE,bltD,one,two,leave,ofO,truD,tupI,isiD,bLen,lenD,cmpD,b,e]
 .exact jL (g:=.int) w.costs (λρ=>∃x,ρ=[x]) rfl rfl ⟨_,rfl⟩ (by
   rintro q a ρ ⟨x,rfl⟩
   exact⟨_,rfl,⟨_,rfl⟩,by simp[Res.bind,callC,exs,ex,ev,evs,evO,evI,asg,asgs,tst,tsts,varE,frE,bltD,one,two,leave,ofO,truD,qY,(h.c3 q a).1,(h.c3 q a).2]⟩)
theorem qfy{d:Nat}{w:Wb}{S:Sr}(h:WbOk w):G (d+7) 4 [webD w] S=.ok (.bl true) S:=by
 rw[G_at (c:=c_4) rfl]
 refine qD rfl (x_no (S1:=S) ?_ (qW (d:=webD w) (S1:=S) rfl rfl (qF (qcM (x:=true) (y:=true) (qi rfl (qbB h)) (qi (l:=[.tup (w.ties.map tieD),.int w.costs.length]) (qf rfl (qf (qB rfl (yK _ _)) rfl)) (qcc h))))))
 simp[Res.bind,callC,exs,ex,ev,evs,evO,evI,asg,asgs,tst,tsts,varE,frE,bltD,one,two,leave,ofO,truD,webD,isiD,bLen,lenD,cmpD,eqD]
theorem qcd{d:Nat}{w:Wb}{S:Sr}(h:WbOk w):G (d+8) 11 [webD w] S=.ok .non S:=by
 rw[G_at (c:=c_11) rfl]
 exact qcK rfl (x_no (S1:=S) (t_no (x:=true) (t_of (qi rfl (qfy h)))) yJ)
theorem qad{d:Nat}{w:Wb}{p:List Int}{S:Sr}(h:WbOk w)(a:PlOk w.costs.length p):G (d+9) 12 [webD w,tupI p] S=.ok (.bl true) S:=by
 rw[G_at (c:=c_12) rfl]
 exact qD rfl (qaH (S1:=S) (qi rfl (qcd h)) (qF (qi (l:=[tupI p,.int w.costs.length]) (qf rfl (qf (qB (qf (zr rfl rfl rfl) rfl) (yK _ _)) rfl)) (yN a))))
theorem z0{d:Nat}{w:Wb}{p:List Int}{S:Sr}(h:WbOk w)(a:PlOk w.costs.length p):G (d+10) 13 [webD w,tupI p] S=.ok .non S:=by
 rw[G_at (c:=c_13) rfl]
 exact qcK rfl (x_no (S1:=S) (t_no (x:=true) (t_of (qi rfl (qad h a)))) yJ)
theorem zO(x:Int)(p:List Int):inD (.int x) (p.map .int)=some (p.contains x):=by
 have a:(p.map D.int).all flatD=true:=by simp[flatD]
 unfold inD
 rw[a]
 simp only[flatD,Bool.and_self,ws,List.any_map]
 congr 1
 rw[<-List.any_beq']
 rfl
theorem yo{d:Nat}{w:Wb}{p:List Int}{S:Sr}(h:WbOk w):G (d+2) 14 [webD w,tupI p] S=.ok (.lst ((tin w p).map tieD)) S:=by
 rw[G_at (c:=c_14) rfl]
 refine qD rfl (qF ?_)
 exact zC (g:=tieD) (S1:=S) w.ties (λt=>subB t.1 p) tieD (λρ=>∃x,ρ=[some (tupI p),x]) rfl rfl ⟨_,rfl⟩ (by have:=h.t1;unfold PySem.sizeLine;omega) (by
   rintro t a ρ m ⟨x,rfl⟩
   refine⟨_,rfl,⟨_,rfl⟩,jK (t_of ?_),λ_=>⟨rfl,jM _ t⟩⟩
   exact jd (g:=.int) t.1 (λx=>p.contains x) (λρ=>∃x,ρ=[some (tupI p),x]) rfl rfl ⟨_,rfl⟩ (by
    rintro q b ρ ⟨x,rfl⟩
    exact⟨_,rfl,⟨_,rfl⟩,qI rfl rfl (zO q p)⟩))
theorem qbC{d:Nat}{w:Wb}{p:List Int}{S:Sr}(h:WbOk w)(a:PlOk w.costs.length p):G (d+11) 15 [webD w,tupI p] S=.ok (.int ((tin w p).map (·.2)).sum) S:=by
 rw[G_at (c:=c_15) rfl]
 refine qD rfl (qaH (S1:=S) (qi rfl (z0 h a)) (qF ?_))
 have:=qaG (g:=tieD) (F:=G (d+10)) (fr:=[]) (nt:=2) (elt:=.var 1) (tg:=.tup (.cons (.var 0) (.cons (.var 1) .nil))) (it:=.seq (.call 14 (.cons (.var 0) (.cons (.var 1) .nil)))) (ifs:=.nil) (ρ:=[some (webD w),some (tupI p)]) (S:=S) (S1:=S) (tin w p) (λ_=>true) (·.2) (λρ=>∃x y,ρ=[x,y]) (by simp[Res.bind,callC,exs,ex,ev,evs,evO,evI,asg,asgs,tst,tsts,varE,frE,bltD,one,two,leave,ofO,truD,yo h]) rfl ⟨_,_,rfl⟩ (by
   rintro t b ρ ⟨x,y,rfl⟩
   exact⟨_,rfl,⟨_,_,rfl⟩,rfl,λ_=>rfl⟩)
 rw[qE]at this
 exact this
theorem qbD{d:Nat}{w:Wb}{p:List Int}{S:Sr}{x:Int}(h:WbOk w)(e:PlOk w.costs.length p)(hx:x∈p):G (d+11) 18 [webD w,tupI p,.int x] S=.ok (.int (((tin w p).filter λt=>t.1.contains x).map (·.2)).sum) S:=by
 rw[G_at (c:=c_18) rfl]
 refine qD rfl (qaH (S1:=S) (qi rfl (z0 h e)) (x_no (S1:=S) (t_or (x:=false) (y:=false) (t_no (x:=true) (t_of (qi rfl jP))) (t_of (qI rfl rfl ?_))) (qF ?_)))
 .show ((inD (.int x) (p.map .int)).map (!·))=some false
  rw[zO];simp[hx]
 .exact qaG (g:=tieD) (S1:=S) (tin w p) (λt=>t.1.contains x) (·.2) (λρ=>∃a b,ρ=[some (.int x),a,b]) (by simp[Res.bind,callC,exs,ex,ev,evs,evO,evI,asg,asgs,tst,tsts,varE,frE,bltD,one,two,leave,ofO,truD,yo h]) rfl ⟨_,_,rfl⟩ (by
   rintro t f ρ ⟨a,b,rfl⟩
   exact⟨_,rfl,⟨_,_,rfl⟩,jK (t_of (qI rfl rfl (zO x t.1))),λ_=>rfl⟩)
theorem qjP{d:Nat}{a b:Int}{S:Sr}(ha:0<=a)(f:0<=b)(e:b<2^20):G (d+1) 2 [.int a,.int b] S=.ok (.int (eu NW a b)) S:=by
 rw[G_at (c:=c_2) rfl]
 have h:=wl (S:=S) (test:=λρ S=>tst (G d) (.val (.var 1)) ρ S) (body:=λρ S=>exs (G d) NW (.cons (.set (.tup (.cons (.var 0) (.cons (.var 1) .nil))) (.tup (.cons (.var 1) (.cons (.bin .mod (.var 0) (.var 1)) .nil)))) .nil) ρ S) (E:=λa b=>[some (.int a),some (.int b)]) (λa b=>rfl) (λa b h=>qW (ja (qf rfl (qf (qv rfl rfl (bmod (by omega))) rfl)) (by simp[PySem.sizeLine])) rfl yJ) 20 NW a b ha f e (by decide)
 exact qD rfl (qgS h (qF rfl))
theorem qfz{d:Nat}{t b:Int}{S:Sr}(e:0<=t)(h:1<=b)(f:b<2^20):G (d+2) 3 [.int t,.int b] S=.ok (low NW t b) S:=by
 rw[G_at (c:=c_3) rfl]
 have a:=qfp (n:=59) e (show 0<b by omega)
 refine qD rfl (qW (d:=.int (eu NW t b)) (S1:=S) (qi (qf (qB rfl (qjN e)) rfl) (qjP e (by omega) f)) (ρ1:=[some (.int t),some (.int b),some (.int (eu NW t b))]) rfl (qF (ja (qf (qv rfl rfl (bdiv a.1 (by have:=a.2;show(eu (59+1) t b).natAbs<2^64;omega))) (qf (qv rfl rfl (bdiv a.1 (by have:=a.2;show(eu (59+1) t b).natAbs<2^64;omega))) rfl)) (by simp[PySem.sizeLine]))))
theorem qaJ{d:Nat}{w:Wb}{p:List Int}{S:Sr}(h:WbOk w)(a:PlOk w.costs.length p):G (d+11) 16 [webD w,tupI p] S=.ok (.int (price w p)) S:=by
 rw[G_at (c:=c_16) rfl]
 refine qD rfl (qaH (S1:=S) (qi rfl (z0 h a)) (qF ?_))
 have e:=qaG (g:=.int) (F:=G (d+10)) (fr:=[0]) (nt:=1) (elt:=.idx (.idx (.var 0) (.cst (.int 0))) (.var 1)) (tg:=.var 1) (it:=.seq (.var 1)) (ifs:=.nil) (ρ:=[some (webD w),some (tupI p)]) (S:=S) (S1:=S) (ds:=p.map .int) p (λ_=>true) (cstI w) (λρ=>∃x,ρ=[some (webD w),x]) rfl rfl ⟨_,rfl⟩ (by
   rintro q b ρ ⟨x,rfl⟩
   exact⟨_,rfl,⟨_,rfl⟩,rfl,λ_=>zr (d1:=tupI w.costs) (d2:=.int q) (S1:=S) (zr rfl rfl rfl) rfl (qbx (a.rng q b).1 (a.rng q b).2)⟩)
 rw[qE]at e
 exact e
theorem qgT{d:Nat}{w:Wb}{p:List Int}{S:Sr}(h:WbOk w)(a:PlOk w.costs.length p):G (d+12) 17 [webD w,tupI p] S=.ok (low NW (mass w p) (price w p)) S:=by
 have hi:=zZ h a
 rw[G_at (c:=c_17) rfl]
 exact qD rfl (qF (qi (qf (qi rfl (qbC h a)) (qf (qi rfl (qaJ h a)) rfl)) (qfz (qcV h p) hi.1 (by have:=hi.2;omega))))
end RP
namespace RP
open R
theorem qgU{d:Nat}{c:Int}{S:Sr}:∃m:Int,0<=m/\m<10^60/\G (d+1) 19 [.int c] S=.ok (.int m) S:=by
 have a:(0:Int)<10^60:=by decide
 have b:=wk c a
 have f:=vi c a
 refine⟨(c.fmod (10^60)*845098040014256830712216258592636193483572396323965406503637).fmod (10^60),wk _ a,vi _ a,?_⟩
 rw[G_at (c:=c_19) rfl]
 refine qD rfl (qF (qv (d1:=.int (c.fmod (10^60)*845098040014256830712216258592636193483572396323965406503637)) (d2:=.int (10^60)) (S1:=S) (qv (d1:=.int (c.fmod (10^60))) (S1:=S) (qv (d1:=.int c) (d2:=.int (10^60)) (S1:=S) rfl rfl rfl) rfl ?_) rfl rfl))
 exact bmul (qcQ (by
  have e:(10:Int)^60<2^250:=by decide
  have:(((2:Nat)^250:Nat):Int)=(2:Int)^250:=by norm_cast
  lia) (by decide))
theorem z9{d n:Nat}{v m:Int}{S:Sr}(hn:n<S.length)(a:0<m)(hm:m.natAbs<2^64):G (d+1) 21 [.ref n,.int m] (pk S n v)=.ok (.int (v.fmod m)) (pk S n (v.fdiv m)):=by
 rw[G_at (c:=c_21) rfl]
 have e:=qjK hn v
 have hx:exs (G d) NW c_21.body [some (.ref n),some (.int m),none] (pk S n v)=.ok (.rt (.int (v.fmod m))) (pk S n (v.fdiv m)):=by
  refine qW (d:=.tup [.int (v.fdiv m),.int (v.fmod m)]) (S1:=pk S n v) (qB (qf (zr (d:=.int v) rfl rfl ?_) (qf rfl rfl)) ?_) (ρ1:=[some (.ref n),some (.int m),some (.int (v.fmod m))]) (S2:=pk S n (v.fdiv m)) ?_ (qF rfl)
  .simp [idxD,seqOf,lstOf,e,L2.atI,L2.ixN]
  .simp [bltD,two,bDivmod,qcR a hm]
  .have:putE (pk S n v) (.ref n) (.int 0) (.int (v.fdiv m))=some (pk S n (v.fdiv m)):=by
    simp[putE,putN,e,L2.ixN,refsLt]
    unfold pk;simp
   simp only[asg,asgs,ev,varE,Res.bind,uT,this]
   rfl
 exact qcL (S2:=[]) rfl rfl (by rw[uV];exact hx) (by simp[qw]) rfl
theorem qbE(l:List Int)(x:Int)(S:Sr):∃c:Int,idxD S (.lst (l.map .int++[.int x])) (.int 0)=some (.int c):=by
 cases l with
 |nil=>exact⟨x,rfl⟩
 |cons a r=>exact⟨a,by simp[idxD,seqOf,lstOf,L2.atI,L2.ixN]⟩
theorem qgV(l:List Int)(a b:Option Int):∃m:List Int,cutD (l.map .int) a b=m.map .int/\m.length<=l.length:=by
 unfold cutD
 rw[wT,<-List.map_drop,<-List.map_take]
 exact⟨_,rfl,by simp;lia⟩
theorem bcat{a b:List D}{S:Sr}(h:a.length+b.length<=1000):binD .add (.lst a) (.lst b) S=some (.lst (a++b)):=by
 have:catOk a b=true:=by unfold catOk PySem.sizeLine;rw[wy];lia
 simp[binD,lstOf,this]
theorem qae{d:Nat}{ns:List Int}(n:ns.length<=63){k f a:Int}{x y:Option D}{S:Sr}(p:0<=f)(u:f<10^60)(ha:0<=a)(q:a<100):∃m c:Int,0<=m/\m<10^60 /\
  (asg (G (d+1)) (.var 3) (.int a) [some (.lst (ns.map .int)),some (.int k),some (.int f),x,y] S).bind (λρ1 S1=>exs (G (d+1)) NW (.cons (.set (.var 4) (.idx (.bin .add (.slc (.var 0) (.some (.var 3)) (.some (.bin .add (.var 3) (.cst (.int 1))))) (.lst false (.cons (.bin .add (.bin .add (.bin .mul (.cst (.int 5701)) (.var 3)) (.cst (.int 43))) (.bin .mul (.cst (.int 7)) (.idx (.bin .add (.var 0) (.lst false (.cons (.cst (.int 0)) .nil))) (.cst (.int 0))))) .nil))) (.cst (.int 0)))) (.cons (.set (.var 2) (.bin .add (.bin .mul (.var 2) (.bin .pow (.cst (.int 10)) (.cst (.int 60)))) (.call 19 (.cons (.var 4) .nil)))) .nil)) ρ1 S1)
   = .ok (.nx [some (.lst (ns.map .int)),some (.int k),some (.int (f*10^60+m)),some (.int a),some (.int c)]) S:=by
 obtain⟨x0,b⟩:=qbE ns 0 S
 obtain⟨h,i,v⟩:=qgV ns (some a) (some (a+1))
 obtain⟨c,r⟩:=qbE h (5701*a+43+7*x0) S
 obtain⟨m,j,l,hm⟩:=qgU (d:=d) (c:=c) (S:=S)
 refine⟨m,c,j,l,?_⟩
 rw[show asg (G (d+1)) (.var 3) (.int a) [some (.lst (ns.map .int)),some (.int k),some (.int f),x,y] S=.ok [some (.lst (ns.map .int)),some (.int k),some (.int f),some (.int a),y] S from rfl,Res.bind_ok]
 refine qW (d:=.int c) (S1:=S) (zr (d1:=.lst (h.map .int++[.int (5701*a+43+7*x0)])) (S1:=S) (qv (d1:=.lst (h.map .int)) (d2:=.lst [.int (5701*a+43+7*x0)]) (S1:=S) ?_ ?_ (bcat (by simp;lia))) rfl r) rfl (qW (d:=.int (f*10^60+m)) (S1:=S) (qv (d1:=.int (f*10^60)) (S1:=S) (qv (d2:=.int (10^60)) (S1:=S) rfl rfl (bmul (qcQ ?_ (by decide)))) (qi rfl hm) badd) rfl yJ)
 .simp only[ev,evO,varE,Res.bind,uT,List.getElem?_cons_succ,badd,ofO,slcD,lstOf]
  simp only[wb,i]
 .have e1:ev (G (d+1)) (.bin .mul (.cst (.int 7)) (.idx (.bin .add (.var 0) (.lst false (.cons (.cst (.int 0)) .nil))) (.cst (.int 0)))) [some (.lst (ns.map .int)),some (.int k),some (.int f),some (.int a),y] S=.ok (.int (7*x0)) S :=
   qv (S1:=S) rfl (zr (d1:=.lst (ns.map .int++[.int 0])) (S1:=S) (qv (d2:=.lst [.int 0]) (S1:=S) rfl rfl (bcat (by simp;lia))) rfl b) (bmul (qcO (by decide)))
  have s:=qv (F:=G (d+1)) (o:=.add) (S:=S) (S1:=S) (e1:=.bin .add (.bin .mul (.cst (.int 5701)) (.var 3)) (.cst (.int 43))) (d1:=.int (5701*a+43)) (qv (S1:=S) (qv (S1:=S) rfl rfl (bmul (qcO (by decide)))) rfl badd) e1 badd
  exact qbu (qf s rfl) (by simp)
 .have e:(10:Int)^60<2^250:=by decide
  have:(((2:Nat)^250:Nat):Int)=(2:Int)^250:=by norm_cast
  lia
theorem qfA{d:Nat}{ns:List Int}(b:ns.length<=63){k:Int}{S:Sr}(o:0<=k)(i:k<90):∃v:Int,0<=v/\G (d+2) 20 [.lst (ns.map .int),.int k] S=.ok (.ref S.length) (S++[.lst [.int v]]):=by
 obtain⟨m,c,j,l,e1⟩:=qae (d:=d) b (k:=k) (f:=0) (a:=k+1) (x:=none) (y:=none) (S:=S) (Int.le_refl 0) (by decide) (by lia) (by lia)
 obtain⟨m2,c2,e,h,n⟩:=qae (d:=d) b (k:=k) (f:=0*10^60+m) (a:=k) (x:=some (.int (k+1))) (y:=some (.int c)) (S:=S) (by lia) (by lia) (by lia) (by lia)
 refine⟨(0*10^60+m)*10^60+m2,by lia,?_⟩
 rw[G_at (c:=c_20) rfl]
 refine qit rfl rfl (qW (d:=.int 0) (S1:=S) rfl (ρ1:=[some (.lst (ns.map .int)),some (.int k),some (.int 0),none,none]) rfl (qfd (ds:=[.int (k+1),.int k]) (S1:=S) ?_ (ρ1:=[some (.lst (ns.map .int)),some (.int k),some (.int ((0*10^60+m)*10^60+m2)),some (.int k),some (.int c2)]) (S2:=S) ?_ (qF (qiu rfl (by simp) rfl))))
 .have:ev (G (d+1)) (.lst false (.cons (.bin .add (.var 1) (.cst (.int 1))) (.cons (.var 1) .nil))) [some (.lst (ns.map .int)),some (.int k),some (.int 0),none,none] S=.ok (.lst [.int (k+1),.int k]) S:=qbu (qf (qv (S1:=S) rfl rfl badd) (qf rfl rfl)) (by simp)
  simp only[evI,this,Res.bind]
 .rw [jN e1,jN n];rfl
end RP
namespace RP
open R
theorem qgW{r:Int}(h:0<=r/\r<8)(S:Sr):∃s:Nat,1<=s/\s<=4/\idxD S (.lst [.int 2,.int 2,.int 2,.int 3,.int 3,.int 1,.int 4,.int 2]) (.int r)=some (.int s):=by
 have:r=0\/r=1\/r=2\/r=3\/r=4\/r=5\/r=6\/r=7:=by lia
 rcases this with rfl|rfl|rfl|rfl|rfl|rfl|rfl|rfl
 .exact ⟨2,by decide,by decide,rfl⟩
 .exact ⟨2,by decide,by decide,rfl⟩
 .exact ⟨2,by decide,by decide,rfl⟩
 .exact ⟨3,by decide,by decide,rfl⟩
 .exact ⟨3,by decide,by decide,rfl⟩
 .exact ⟨1,by decide,by decide,rfl⟩
 .exact ⟨4,by decide,by decide,rfl⟩
 .exact ⟨2,by decide,by decide,rfl⟩
theorem qfB{d n many:Nat}{v:Int}{S:Sr}(hn:n<S.length)(J:0<=v)(U:1<=many)(W:many<=60):∃(p:List Int) (u:Int),PlOk many p/\p.length<=4/\0<=u/\G (d+2) 23 [.ref n,.int many] (pk S n v)=.ok (tupI p) (pk S n u):=by
 obtain⟨s,K,L,M⟩:=qgW (fm (v:=v) (m:=8) (by decide)) (pk S n (v.fdiv 8))
 have w:0<=v.fdiv 8:=vm J (by decide)
 have N:(pk S n (v.fdiv 8)).length=S.length:=qw ..
 have j:(if(many:Int)<(s:Int)then(many:Int)else(s:Int))=((min s many:Nat):Int):=by split <;> lia
 obtain⟨h,X,e,⟨b,a,u,rfl,rfl,z,l⟩,E,A⟩:=qfh (g:=.int) (F:=G (d+1)) (fr:=[3,0]) (nt:=1) (elt:=.popAt (.var 0) (.call 21 (.cons (.var 1) (.cons (.blt .len (.cons (.var 0) .nil)) .nil)))) (tg:=.var 2) (it:=.rng (.cons (.blt .min2 (.cons (.var 2) (.cons (.var 1) .nil))) .nil))
  (ρ:=[some (.ref n),some (.int many),some (.int s),some (.ref S.length),none]) (S:=pk S n (v.fdiv 8)++[.lst ((rI many).map .int)]) (S1:=pk S n (v.fdiv 8)++[.lst ((rI many).map .int)]) (rI (min s many)) (λρ=>∃x,ρ=[some (.ref S.length),some (.ref n),x])
  (λh T=>∃b a u,h=b.map .int/\T=pk S n u++[.lst (a.map .int)]/\0<=u/\(b++a).Perm (rI many))
  (i_rng (n:=min s many) (qf (qB (qf rfl (qf rfl rfl)) (by simp only[bltD,two,bMin,j])) rfl) (by lia)) rfl ⟨_,rfl⟩ (by rw[zh];lia) ⟨[],rI many,_,rfl,rfl,w,.refl _⟩ (by
   rintro q Y ρ m T ⟨x,rfl⟩ ⟨b,a,u,rfl,rfl,z,l⟩ Z hm
   have B:=l.length_eq
   rw[vK,zh]at B
   rw[wT,zh]at hm
   have O:0<a.length:=by lia
   have f:=fm (v:=u) (m:=(a.length:Int)) (by lia)
   have H:=z9 (d:=d) (n:=n) (v:=u) (m:=a.length) (S:=(S++[.lst (a.map .int)])++[.lst (b.map .int)]) (by simp;lia) (by lia) (by lia)
   rw[<-zx (by simp;lia),<-zx hn,<-zx (by simp;lia),<-zx hn]at H
   obtain⟨y,I⟩:∃y,a[(u.fmod a.length).toNat]?=some y:=⟨_,wD (by lia)⟩
   refine⟨[some (.ref S.length),some (.ref n),some (.int q)],.int y,pk S n (u.fdiv a.length)++[.lst ((a.eraseIdx (u.fmod a.length).toNat).map .int)],rfl,⟨_,rfl⟩,?_,by simp[qw],rfl,b++[y],a.eraseIdx (u.fmod a.length).toNat,u.fdiv a.length,by simp,rfl,vm z (by lia),?_⟩
   .have i:∀u,(pk S n u++[.lst (a.map .int)]++[.lst (b.map .int)])[S.length]?=some (.lst (a.map .int)):=by
     intro u
     rw[uE,w8 (by rw[qw];lia),qw];simp
    have P:bltD .len [.ref S.length] (pk S n u++[.lst (a.map .int)]++[.lst (b.map .int)])=.ok (.int a.length) (pk S n u++[.lst (a.map .int)]++[.lst (b.map .int)]):=by
     simp only[bltD,one,bLen,lenD,i,wb,wT,ofO];rfl
    have Q:ev (G (d+1)) (.call 21 (.cons (.var 1) (.cons (.blt .len (.cons (.var 0) .nil)) .nil))) [some (.ref S.length),some (.ref n),some (.int q)] (pk S n u++[.lst (a.map .int)]++[.lst (b.map .int)])=.ok (.int (u.fmod a.length)) (pk S n (u.fdiv a.length)++[.lst (a.map .int)]++[.lst (b.map .int)]) :=
     qi (qf rfl (qf (qB rfl P) rfl)) H
    have o:popD (pk S n (u.fdiv a.length)++[.lst (a.map .int)]++[.lst (b.map .int)]) (.ref S.length) (.int (u.fmod a.length))=.ok (.int y) (pk S n (u.fdiv a.length)++[.lst ((a.eraseIdx (u.fmod a.length).toNat).map .int)]++[.lst (b.map .int)]):=by
     unfold popD
     simp only[i]
     rw[wM ⟨f.1,by lia⟩,wW,I]
     simp only[wb]
     rw[qfk,uE,List.set_append_right _ _ (by rw[qw];lia),qw]
     simp
    have hi:isLst (pk S n u++[.lst (a.map .int)]++[.lst (b.map .int)]) (.ref S.length)=true:=by simp only[isLst,i]
    exact qjM rfl hi Q o
   .rw [uE]
    exact((qcU I).append_left b).trans l)
 have C:b.Nodup:=(xE.mp (l.nodup_iff.mpr (qbv many))).1
 have r:∀x∈b,0<=x/\x<many:=λx hx=>zN.mp (l.mem_iff.mp (vl _ hx))
 rw[wT,zh]at A
 refine⟨sortI b,u,⟨?_,?_,qbw C⟩,?_,z,?_⟩
 .intro R
  have:=(qH b).length_eq
  rw[R]at this;simp at this;lia
 .exact λx hx=>r x ((qH b).mem_iff.mp hx)
 .rw [(qH b).length_eq];lia
 .rw [G_at (c:=c_23) rfl]
  refine qcL (S2:=[.lst (a.map .int)]) rfl rfl (qW (d:=.int s) (S1:=pk S n (v.fdiv 8)) (zr (S1:=pk S n v) (d2:=.int (v.fmod 8)) rfl (qi rfl (z9 hn (by decide) (by decide))) M) (ρ1:=[some (.ref n),some (.int many),some (.int s),none,none]) rfl (qW (qiw (n:=many) rfl (by lia)) (ρ1:=[some (.ref n),some (.int many),some (.int s),some (.ref S.length),none]) (by rw[N];rfl) (qW e rfl (qF (qB (qf (qB (d:=.lst ((sortI b).map .int)) (S2:=pk S n u++[.lst (a.map .int)]) rfl ?_) rfl) ?_))))) (by rw[qw,qw]) (zD _ _)
  .simp only[bltD,one,bSorted,walkD,wY]
   rw[qdF (by lia)];rfl
  .rfl
end RP
namespace RP
open R
theorem eq0(r:Int)(S:Sr):cmpD .eq (.int r) (.int 0) S=some (r == 0):=rfl
theorem qiC{S:Sr}{j:Nat}{ts:List Tie}{k:List Int}{w:Int}(h:S[j]?=some (dicD ts))(a:ts.length<1000):putE S (.ref j) (tupI k) (.int w)=some (S.set j (dicD (putTie k w ts))):=by
 unfold putE
 rw[wM (show refsLt 0 (D.int w)=true from rfl)]
 simp only[putN,h,dicD,tupI,qO,wY,wT,a,ws,qfl]
theorem qjQ{F:Fs}{ρ:En}{S S1 S2 a:Sr}{o i:CE}{x y v:D}(h:ev F o ρ S=.ok x S1)(b:ev F i ρ S1=.ok y S2)(c:putE S2 x y v=some a):asg F (.sub o i) v ρ S=.ok ρ a:=by
 simp only[asg,h,b,c,Res.bind]
def Sm(w:Wb):Prop:=(∀c∈w.costs,c<=5)/\∀t∈w.ties,t.2<=9
theorem qiD{ts:List Tie}{m:Int}(h:∀t∈ts,t.2<=m){k:List Int}{w:Int}(b:w<=m):∀t∈putTie k w ts,t.2<=m:=by
 unfold putTie
 split
 .intro t a
  obtain⟨s,c,rfl⟩:=vL.mp a
  split
  .exact b
  .exact h s c
 .intro t a
  rcases vJ.mp a with z|z
  .exact h t z
  .simp at z;subst z;exact b
theorem qiE{ts:List Tie}{m:Int}(h:∀t∈ts,t.2<=m):∀t∈srt ts,t.2<=m:=by
 intro t a
 unfold srt at a
 obtain⟨k,b,rfl⟩:=vL.mp a
 obtain⟨_,s,c,e1,d⟩:=je ((qG _).mem_iff.mp b)
 show look ts k<=m
 rw[<-d];exact h s c
theorem qbF{d n many:Nat}{v tn:Int}{S:Sr}{cs:List Int}{x0:Option D}(hn:n<S.length)(K:0<=v)(L:1<=many)(X:many<=12)(M:0<=tn)(Y:tn<=30)(f:cs.length=many)(s:∀c∈cs,1<=c/\c<=100)(z:∀c∈cs,c<=5):∃(w:Wb) (u:Int) (T:Sr),WbOk w/\w.costs.length=many/\Sm w/\0<=u /\
  exs (G (d+2)) NW (tl (tl (tl c_24.body))) [some (.ref n),x0,some (.int tn),some (.int many),some (.lst (cs.map .int)),none,none,none] (pk S n v)=.ok (.rt (webD w)) (pk S n u++T):=by
 have hm:0<tn+1:=by lia
 have fr:=fm (v:=v) hm
 obtain⟨c,N⟩:∃c:Nat,v.fmod (tn+1)=c:=⟨(v.fmod (tn+1)).toNat,by lia⟩
 have I:=z9 (d:=d+1) (n:=n) (v:=v) (m:=tn+1) (S:=S++[dicD []]) (by simp;lia) hm (by lia)
 rw[<-zx hn,<-zx hn,N]at I
 obtain⟨O,Z,P,x,y,ts,u,rfl,rfl,A,r,i,a⟩:=qcT (g:=.int) (body:=λQ ρ S=>(asg (G (d+2)) (.var 6) Q ρ S).bind λρ1 S1=>exs (G (d+2)) NW (.cons (.set (.var 7) (.call 23 (.cons (.var 0) (.cons (.var 3) .nil)))) (.cons (.set (.sub (.var 5) (.var 7)) (.bin .add (.cst (.int 1)) (.call 21 (.cons (.var 0) (.cons (.cst (.int 9)) .nil))))) .nil)) ρ1 S1)
  (λ(pre:List Int) ρ T=>∃x y ts u,ρ=[some (.ref n),x0,some (.int tn),some (.int many),some (.lst (cs.map .int)),some (.ref S.length),x,y]/\T=pk S n u++[dicD ts]/\0<=u/\KnOk many ts/\ts.length<=pre.length/\∀t∈ts,t.2<=9) (rI c)
  (ρ:=[some (.ref n),x0,some (.int tn),some (.int many),some (.lst (cs.map .int)),some (.ref S.length),none,none]) (S:=pk S n (v.fdiv (tn+1))++[dicD []])
  ⟨_,_,[],_,rfl,rfl,vm K (by lia),⟨List.nodup_nil,λt h=>by simp at h⟩,by simp,by simp⟩ (by
   rintro pre q R ρ T l ⟨x,y,ts,u,rfl,rfl,A,r,i,a⟩
   have o:=congrArg List.length l
   rw[zh,vK,wc]at o
   obtain⟨p,e,U,B,C,ep⟩:=qfB (d:=d) (n:=n) (many:=many) (v:=u) (S:=S++[dicD ts]) (by simp;lia) A L (by lia)
   have J:=z9 (d:=d+1) (n:=n) (v:=e) (m:=9) (S:=S++[dicD ts]) (by simp;lia) (by decide) (by decide)
   rw[<-zx hn,<-zx hn]at ep J
   have f9:=fm (v:=e) (m:=9) (by decide)
   have b:(pk S n (e.fdiv 9)++[dicD ts])[S.length]?=some (dicD ts):=by
    rw[w8 (by rw[qw];lia),qw];simp
   obtain⟨E,W⟩:=r.put (k:=p) (w:=1+e.fmod 9) U B (by lia) (by lia)
   refine⟨[some (.ref n),x0,some (.int tn),some (.int many),some (.lst (cs.map .int)),some (.ref S.length),some (.int q),some (tupI p)],pk S n (e.fdiv 9)++[dicD (putTie p (1+e.fmod 9) ts)],?_,_,_,_,_,rfl,rfl,vm C (by decide),E,by simp;lia,qiD a (by lia)⟩
   rw[show asg (G (d+2)) (.var 6) (.int q) [some (.ref n),x0,some (.int tn),some (.int many),some (.lst (cs.map .int)),some (.ref S.length),x,y] (pk S n u++[dicD ts])=.ok [some (.ref n),x0,some (.int tn),some (.int many),some (.lst (cs.map .int)),some (.ref S.length),some (.int q),y] (pk S n u++[dicD ts])from rfl,Res.bind_ok]
   refine qW (qi rfl ep) (ρ1:=[some (.ref n),x0,some (.int tn),some (.int many),some (.lst (cs.map .int)),some (.ref S.length),some (.int q),some (tupI p)]) rfl (qW (qv rfl (qi rfl J) badd) (qjQ rfl rfl (qiC b (by lia))) ?_)
   rw[List.set_append_right _ _ (by rw[qw];lia),qw]
   simp[exs])
 obtain⟨F,H⟩:=qix r
 rw[zh]at i
 refine⟨⟨cs,srt ts⟩,u,[dicD ts],⟨by show 1<=cs.length;lia,by show cs.length<=12;lia,s,by show(srt ts).length<=30;rw[qgQ];lia,by show ∀t∈srt ts,PlOk cs.length t.1/\_;rw[f];exact F,H⟩,f,⟨z,qiE a⟩,A,?_⟩
 have b:(pk S n u++[dicD ts])[S.length]?=some (dicD ts):=by
  rw[w8 (by rw[qw];lia),qw];simp
 refine qW (d:=.ref S.length) (S1:=pk S n v++[dicD []]) ?_ (ρ1:=[some (.ref n),x0,some (.int tn),some (.int many),some (.lst (cs.map .int)),some (.ref S.length),none,none]) rfl (qfd (i_rng (n:=c) (qf (qi (qf rfl (qf (qv rfl rfl badd) rfl)) I) rfl) (by lia)) P (qF (ja (qf (qB (d:=tupI cs) (S2:=pk S n u++[dicD ts]) rfl rfl) (qf (qiy (kx:=5) (j:=S.length) rfl b r (by lia)) rfl)) (by simp[PySem.sizeLine]))))
 have:(pk S n v).length=S.length:=qw ..
 simp only[ev,ws,this];rfl
theorem rep1(m:Nat):rep [D.int 1] (m:Int)=(List.replicate m (1:Int)).map .int:=by
 unfold rep
 have:((m:Int)).toNat=m:=by lia
 rw[this,List.map_replicate]
 induction m with
 |zero=>rfl
 |succ k a =>
  rw[wd,uC,a (by lia),wd];rfl
theorem qjR{d n:Nat}{v mo tn:Int}{S:Sr}(hn:n<S.length)(L:0<=v)(M:1<=mo)(N:mo<=12)(s:0<=tn)(J:tn<=30):∃(w:Wb) (u:Int),WbOk w/\(w.costs.length:Int)<=mo/\Sm w/\0<=u/\G (d+3) 24 [.ref n,.int mo,.int tn] (pk S n v)=.ok (webD w) (pk S n u):=by
 have f:=fm (v:=v) (m:=mo) (by lia)
 obtain⟨many,i⟩:∃c:Nat,1+v.fmod mo=c:=⟨(1+v.fmod mo).toNat,by lia⟩
 have C:0<=v.fdiv mo:=vm L (by lia)
 have y:0<=(v.fdiv mo).fdiv 3:=vm C (by decide)
 have a:∀{w:Wb} {u:Int} {T:Sr} {cs:List Int} {v3:Int},exs (G (d+2)) NW (tl (tl c_24.body)) [some (.ref n),some (.int mo),some (.int tn),some (.int many),some (.lst ((List.replicate many (1:Int)).map .int)),none,none,none] (pk S n (v.fdiv mo))=.ok (.rt (webD w)) (pk S n u++T)->G (d+3) 24 [.ref n,.int mo,.int tn] (pk S n v)=.ok (webD w) (pk S n u):=by
  intro w u T cs v3 h
  rw[G_at (c:=c_24) rfl]
  refine qcL (S2:=T) rfl rfl (qW (d:=.int many) (S1:=pk S n (v.fdiv mo)) (qv (d2:=.int (v.fmod mo)) (S1:=pk S n v) rfl (qi rfl (z9 hn (by lia) (by lia))) (by rw[badd,i])) (ρ1:=[some (.ref n),some (.int mo),some (.int tn),some (.int many),none,none,none,none]) rfl (qW (d:=.lst ((List.replicate many (1:Int)).map .int)) (S1:=pk S n (v.fdiv mo)) (qv (S1:=pk S n (v.fdiv mo)) (qbu rfl (by simp)) rfl ?_) (ρ1:=[some (.ref n),some (.int mo),some (.int tn),some (.int many),some (.lst ((List.replicate many (1:Int)).map .int)),none,none,none]) rfl h)) (by rw[qw,qw]) (qff _ _)
  have:repOk [D.int 1] (many:Int)=true:=by
   unfold repOk PySem.sizeLine
   rw[wy]
   refine⟨by lia,by lia,?_⟩
   simp;lia
  simp only[binD,lstOf]
  rw[wM this,rep1]
 have j:=z9 (d:=d+1) (n:=n) (v:=v.fdiv mo) (m:=3) hn (by decide) (by decide)
 by_cases z:((v.fdiv mo).fmod 3)=0
 .rw [z]at j
  obtain⟨b,P,e,⟨cs,O,rfl,rfl,E,l,o⟩,_,A⟩:=qfh (g:=.int) (F:=G (d+2)) (fr:=[0]) (nt:=1) (elt:=.bin .add (.cst (.int 1)) (.call 21 (.cons (.var 0) (.cons (.cst (.int 5)) .nil)))) (tg:=.var 1) (it:=.rng (.cons (.var 3) .nil))
   (ρ:=[some (.ref n),some (.int mo),some (.int tn),some (.int many),some (.lst ((List.replicate many (1:Int)).map .int)),none,none,none]) (S:=pk S n ((v.fdiv mo).fdiv 3)) (S1:=pk S n ((v.fdiv mo).fdiv 3)) (rI many) (λρ=>∃x,ρ=[some (.ref n),x])
   (λb T=>∃cs u,b=cs.map .int/\T=pk S n u/\0<=u/\(∀c∈cs,(1:Int)<=c/\c<=100)/\∀c∈cs,c<=(5:Int)) (i_rng rfl (by lia)) rfl ⟨_,rfl⟩ (by rw[zh];lia) ⟨[],_,rfl,rfl,y,by simp,by simp⟩ (by
    rintro q Q ρ m T ⟨x,rfl⟩ ⟨cs,u,rfl,rfl,B,l,o⟩ _ _
    have K:=z9 (d:=d+1) (n:=n) (v:=u) (m:=5) (S:=S++[.lst (cs.map .int)]) (by simp;lia) (by decide) (by decide)
    rw[<-zx hn,<-zx hn]at K
    have R:=fm (v:=u) (m:=5) (by decide)
    refine⟨_,.int (1+u.fmod 5),pk S n (u.fdiv 5),rfl,⟨_,rfl⟩,qv rfl (qi rfl K) badd,by rw[qw,qw],rfl,cs++[1+u.fmod 5],_,by simp,rfl,vm B (by decide),?_,?_⟩
    .intro c p
     rcases vJ.mp p with z|z
     .exact l c z
     .simp at z;lia
    .intro c p
     rcases vJ.mp p with z|z
     .exact o c z
     .simp at z;lia)
  rw[wT,zh]at A
  obtain⟨w,u,T,H,I,r,B,hx⟩:=qbF (d:=d) (tn:=tn) (x0:=some (.int mo)) hn E (by lia) (by lia) s J A l o
  refine⟨w,u,H,by lia,r,B,a (cs:=cs) (v3:=O) (qfc (t_of (qI (qi rfl j) rfl (eq0 _ _))) (qW e rfl yJ) hx)⟩
 .obtain ⟨w,u,T,H,I,r,B,hx⟩:=qbF (d:=d) (many:=many) (tn:=tn) (x0:=some (.int mo)) (cs:=List.replicate many 1) hn y (by lia) (by lia) s J (by simp) (by intro c p;rw[List.mem_replicate]at p;lia) (by intro c p;rw[List.mem_replicate]at p;lia)
  refine⟨w,u,H,by lia,r,B,a (cs:=[]) (v3:=0) (x_no (t_of (qI (qi rfl j) rfl ?_)) hx)⟩
  rw[eq0,wt.mpr z]
end RP
namespace RP
open R
theorem band1{x:Int}(h:0<=x):PySem.Builtin.bitAnd x 1=x % 2:=by
 unfold PySem.Builtin.bitAnd
 simp only[h,decide_true]
 have:(1:Int).toNat=1:=rfl
 rw[show decide ((0:Int)<=1)=true from rfl]
 simp only[this,Nat.and_one_is_mod]
 lia
noncomputable def bitB(x:Int)(i:Int):Bool:=decide (x / 2^i.toNat % 2=1)
theorem qdH{many:Nat}{x:Int}(h:1<=x)(b:x<2^many):∃i∈rI many,bitB x i=true:=by
 induction many generalizing x with
 |zero=>simp at b;lia
 |succ k c =>
  by_cases z:x % 2=1
  .exact ⟨0,zN.mpr (by lia),by simp[bitB,z]⟩
  .have e:(2:Int)^(k+1)=2*2^k:=by rw[Int.pow_succ];lia
   obtain⟨i,hi,a⟩:=c (x:=x / 2) (by lia) (by lia)
   have d:=zN.mp hi
   refine⟨i+1,zN.mpr (by lia),?_⟩
   unfold bitB at a ⊢
   have f:(i+1).toNat=i.toNat+1:=by lia
   rw[wy]at a ⊢
   rw[f,Int.pow_succ,Int.mul_comm,<-Int.ediv_ediv_of_nonneg (by lia)]
   exact a
theorem qfC{d n many:Nat}{v:Int}{S:Sr}(hn:n<S.length)(j:0<=v)(l:1<=many)(o:many<=12):∃(p:List Int) (u:Int),PlOk many p/\0<=u/\G (d+2) 25 [.ref n,.int many] (pk S n v)=.ok (tupI p) (pk S n u):=by
 have r:(2:Int)^1<=2^many:=by
  have:=Nat.pow_le_pow_right (n:=2) (by decide) l
  exact_mod_cast this
 have h:(2:Int)^many<=2^12:=by
  have:=Nat.pow_le_pow_right (n:=2) (by decide) o
  exact_mod_cast this
 have f:=fm (v:=v) (m:=2^many-1) (by lia)
 refine⟨(rI many).filter (bitB (1+v.fmod (2^many-1))),v.fdiv (2^many-1),⟨?_,?_,(qfi many).filter _⟩,vm j (by lia),?_⟩
 .obtain ⟨i,hi,s⟩:=qdH (many:=many) (x:=1+v.fmod (2^many-1)) (by lia) (by lia)
  intro e
  have:i∈(rI many).filter (bitB (1+v.fmod (2^many-1))):=v9.mpr ⟨hi,s⟩
  rw[e]at this;simp at this
 .exact λx hx=>zN.mp (v9.mp hx).1
 .rw [G_at (c:=c_25) rfl]
  have a:binD .shl (.int 1) (.int many) (pk S n v)=some (.int (2^many)):=by
   simp only[binD,binI]
   have:0<=(many:Int)/\(many:Int)<=1000000/\(1:Int).natAbs<2^64:=⟨by lia,by lia,by decide⟩
   rw[wM this]
   simp
  have e:=zC (g:=.int) (F:=G (d+1)) (fr:=[2]) (nt:=1) (elt:=.var 1) (tg:=.var 1) (it:=.rng (.cons (.var 1) .nil)) (ifs:=.cons (.val (.cmp .eq (.bin .band (.bin .shr (.var 0) (.var 1)) (.cst (.int 1))) (.cst (.int 1)))) .nil) (ρ:=[some (.ref n),some (.int many),some (.int (1+v.fmod (2^many-1)))]) (S:=pk S n (v.fdiv (2^many-1))) (S1:=pk S n (v.fdiv (2^many-1))) (rI many) (bitB (1+v.fmod (2^many-1))) .int (λρ=>∃x,ρ=[some (.int (1+v.fmod (2^many-1))),x]) (i_rng rfl (by lia)) rfl ⟨_,rfl⟩ (by rw[zh];unfold PySem.sizeLine;lia) (by
   rintro q w ρ m ⟨x,rfl⟩
   have b:=zN.mp w
   refine⟨_,rfl,⟨_,rfl⟩,jK (t_of (qI (d1:=.int ((1+v.fmod (2^many-1)) / 2^q.toNat % 2)) (qv (d1:=.int ((1+v.fmod (2^many-1)) / 2^q.toNat)) (qv rfl rfl ?_) rfl ?_) rfl ?_)),λ_=>⟨rfl,rfl⟩⟩
   .simp only[binD,binI];rw[wM b.1];rfl
   .simp only[binD,binI,wb]
    rw[band1]
    exact Int.ediv_nonneg (by lia) (Int.le_of_lt (Int.pow_pos (by decide)))
   .simp only[cmpD,eqD,bitB]
    rfl)
  refine qcL (S2:=[]) rfl rfl (qW (d:=.int (1+v.fmod (2^many-1))) (S1:=pk S n (v.fdiv (2^many-1))) (qv (d2:=.int (v.fmod (2^many-1))) (S1:=pk S n v) rfl (qi (qf rfl (qf (qv (qv rfl rfl a) rfl rfl) rfl)) (z9 hn (by lia) (by lia))) badd) (ρ1:=[some (.ref n),some (.int many),some (.int (1+v.fmod (2^many-1)))]) rfl (qF ?_)) (by rw[qw,qw]) (zD _ _)
  rw[uV]
  exact qB (qf e rfl) rfl
end RP
namespace RP
open R
noncomputable def both(a b:List Int):List Int:=sortI (ddI (a++b))
noncomputable def meet(a b:List Int):List Int:=a.filter λx=>b.contains x
theorem qaK:∀(l c:List Int),c.Nodup->(l.foldl PyProof.Rows.step_dedup c).Nodup/\∀x,x∈l.foldl PyProof.Rows.step_dedup c ↔ x∈c\/x∈l
 |[],c,h=>⟨h,λx=>by simp⟩
 |k::r,c,h=>by
  have d:(PyProof.Rows.step_dedup c k).Nodup/\∀x,x∈PyProof.Rows.step_dedup c k ↔ x∈c\/x=k:=by
   unfold PyProof.Rows.step_dedup
   by_cases q:c.any (· == k)=true
   .rw [wM q]
    obtain⟨y,i,e⟩:=vW.mp q
    have e:y=k:=by simpa using e
    subst e
    exact⟨h,λx=>⟨.inl,λz=>z.elim id λe=>e ▸ i⟩⟩
   .rw [wL q]
    refine⟨xE.mpr ⟨h,by simp,λa ha b f e=>q (vW.mpr ⟨a,ha,?_⟩)⟩,λx=>by simp⟩
    rw[wV]at f
    simp[e,f]
  obtain⟨j,m⟩:=qaK r _ d.1
  refine⟨j,λx=>?_⟩
  rw[List.foldl_cons,m,d.2,wN,or_assoc]
theorem qcY(a b:List Int):(both a b).Pairwise (· < ·):=qbw (qaK (a++b) [] .nil).1
theorem both_mem{a b:List Int}{x:Int}:x∈both a b ↔ x∈a\/x∈b:=by
 unfold both
 rw[(qH _).mem_iff]
 have:=(qaK (a++b) [] .nil).2 x
 unfold ddI
 rw[this];simp
theorem qcZ{n:Nat}{a b:List Int}(ha:PlOk n a)(c:PlOk n b):PlOk n (both a b) where
 ne:=λe=>by
  obtain⟨x,hx⟩:=uv _ ha.ne
  have:=both_mem.mpr (.inl hx:x∈a\/x∈b)
  rw[e]at this;cases this
 rng:=λx hx=>(both_mem.mp hx).elim (ha.rng x) (c.rng x)
 up:=qcY a b
theorem yd{a b:List Int}{x:Int}:x∈meet a b ↔ x∈a/\x∈b:=by
 unfold meet
 rw[v9];simp
theorem zt{a:Type}(q:a->Bool)(f:a->Int):∀l:List a,((l.filter q).map f).sum=(l.map λx=>if q x then f x else 0).sum
 |[]=>rfl
 |x::r=>by
  rw[List.filter_cons,w4,ue,<-zt q f r]
  cases q x <;> simp
theorem jg{a:Type}{f g h k:a->Int}:∀{l:List a},(∀x∈l,f x+g x=h x+k x)->(l.map f).sum+(l.map g).sum=(l.map h).sum+(l.map k).sum
 |[],_=>rfl
 |x::r,H=>by
  have c:=H x wI
  have d:=jg (l:=r) λy b=>H y (wJ _ b)
  simp only[w4,ue];lia
theorem qaL{a:Type}{f g h k:a->Int}:∀{l:List a},(∀x∈l,f x+g x<=h x+k x)->(l.map f).sum+(l.map g).sum<=(l.map h).sum+(l.map k).sum
 |[],_=>by simp
 |x::r,H=>by
  have c:=H x wI
  have d:=qaL (l:=r) λy b=>H y (wJ _ b)
  simp only[w4,ue];lia
theorem ye{a:Type}:∀l:List a,(l.map λ_=>(0:Int)).sum=0
 |[]=>rfl
 |x::r=>by rw[w4,ue,ye r];rfl
theorem qaM{a:Type}{f g:a->Int}{l:List a}(H:∀x∈l,f x<=g x):(l.map f).sum<=(l.map g).sum:=by
 have:=qaL (f:=f) (g:=λ_=>0) (h:=g) (k:=λ_=>0) (l:=l) λx hx=>by have:=H x hx;lia
 lia
theorem qgX{a:Type}{f:a->Int}{l:List a}(H:∀x∈l,0<=f x):0<=(l.map f).sum:=by
 have:=qaM (f:=λ_=>(0:Int)) (g:=f) (l:=l) H
 rw[ye]at this;exact this
theorem qiF{n:Nat}{p:List Int}(a:p.Pairwise (· < ·))(b:∀x∈p,0<=x/\x<(n:Int)):p=(rI n).filter λx=>p.contains x :=
 qfv a ((qfi n).filter _) λx=>by
  rw[v9,zN]
  constructor
  .intro h;exact⟨b x h,by simpa using h⟩
  .intro h;simpa using h.2
theorem yk{w:Wb}{n:Nat}{p:List Int}(a:p.Pairwise (· < ·))(b:∀x∈p,0<=x/\x<(n:Int)):price w p=((rI n).map λx=>if p.contains x then cstI w x else 0).sum:=by
 unfold price
 rw[<-zt (λx=>p.contains x),<-qiF a b]
theorem qc0{a:List Int}(b:List Int)(h:a.Pairwise (· < ·)):(meet a b).Pairwise (· < ·):=h.filter _
theorem qce{w:Wb}{n:Nat}{a b:List Int}(ha:PlOk n a)(c:PlOk n b):price w a+price w b=price w (both a b)+price w (meet a b):=by
 have hm:∀x∈meet a b,0<=x/\x<(n:Int):=λx hx=>ha.rng x (yd.mp hx).1
 rw[yk (w:=w) ha.up ha.rng,yk (w:=w) c.up c.rng,yk (w:=w) (qcY a b) (qcZ ha c).rng,yk (w:=w) (qc0 b ha.up) hm]
 refine jg λx _=>?_
 have e1:(both a b).contains x=(a.contains x || b.contains x):=by
  rw[uB];simp[both_mem]
 have d:(meet a b).contains x=(a.contains x&&b.contains x):=by
  rw[uB];simp[yd]
 rw[e1,d]
 cases a.contains x <;> cases b.contains x <;> simp
theorem qm{a p:List Int}:subB a p=true ↔ ∀x∈a,x∈p:=by
 unfold subB
 rw[vf];simp
theorem yP(w:Wb)(p:List Int):mass w p=(w.ties.map λt=>if subB t.1 p then t.2 else 0).sum:=by
 unfold mass tin
 exact zt (λt:Tie=>subB t.1 p) (·.2) w.ties
theorem qdI{w:Wb}(d:WbOk w)(a b:List Int):mass w a+mass w b<=mass w (both a b)+mass w (meet a b):=by
 simp only[yP]
 refine qaL λt e=>?_
 have f:=(d.t2 t e).2.2.1
 have i1:subB t.1 a=true->subB t.1 (both a b)=true:=λh=>qm.mpr λx hx=>both_mem.mpr (.inl (qm.mp h x hx))
 have i2:subB t.1 b=true->subB t.1 (both a b)=true:=λh=>qm.mpr λx hx=>both_mem.mpr (.inr (qm.mp h x hx))
 have c:subB t.1 a=true->subB t.1 b=true->subB t.1 (meet a b)=true:=λh k=>qm.mpr λx hx=>yd.mpr ⟨qm.mp h x hx,qm.mp k x hx⟩
 cases z1:subB t.1 a <;> cases z2:subB t.1 b <;> simp only[z1,z2,true_implies,wj,ws,vh]at i1 i2 c ⊢
 .split <;> split <;> lia
 .rw [wM i2];split <;> lia
 .rw [wM i1];split <;> lia
 .rw [wM i1,wM c];lia
theorem qdJ{w:Wb}(c:WbOk w){a b:List Int}(h:∀x∈a,x∈b):mass w a<=mass w b:=by
 simp only[yP]
 refine qaM λt d=>?_
 have e:=(c.t2 t d).2.2.1
 cases z1:subB t.1 a with
 |false=>rw[wL (by decide)];split <;> lia
 |true=>rw[wM rfl,wM (qm.mpr λx hx=>h x (qm.mp z1 x hx))];lia
theorem qfD{w:Wb}(c:WbOk w){a b:List Int}(h:∀x∈a,x∈b)(x:Int):(((tin w a).filter λt=>t.1.contains x).map (·.2)).sum<=(((tin w b).filter λt=>t.1.contains x).map (·.2)).sum:=by
 unfold tin
 rw[List.filter_filter,List.filter_filter,zt,zt]
 refine qaM λt d=>?_
 have e:=(c.t2 t d).2.2.1
 cases z1:subB t.1 a with
 |false=>rw[xc,wL (by decide)];split <;> lia
 |true=>rw[qm.mpr λx hx=>h x (qm.mp z1 x hx)];lia
theorem qfE{w:Wb}(a:WbOk w):mass w []=0:=by
 rw[yP]
 have:(w.ties.map λt:Tie=>if subB t.1 []then t.2 else 0)=w.ties.map λ_=>(0:Int):=by
  apply va
  intro t b
  rw[wL]
  intro h
  obtain⟨x,hx⟩:=uv _ (a.t2 t b).1.ne
  have:=qm.mp h x hx
  cases this
 rw[this,ye]
noncomputable def jnB(a b:List Int)(t:Tie):Bool:=subB t.1 (both a b)&&((t.1.any λx=>a.contains x)&&(t.1.any λx=>b.contains x))
noncomputable def jnS(a b:List Int)(ts:List Tie):Int:=(ts.map λt=>if jnB a b t then t.2 else 0).sum
theorem qjS{w:Wb}(c:WbOk w)(a b:List Int):0<=jnS a b w.ties:=qgX λt d=>by
 have:=(c.t2 t d).2.2.1
 split <;> lia
theorem qcf{w:Wb}(m:WbOk w){a b:List Int}(h:meet a b=[]):mass w (both a b)=mass w a+mass w b+jnS a b w.ties:=by
 have no:∀x,x∈a->x∈b->False:=λx c d=>by
  have:=yd.mpr ⟨c,d⟩
  rw[h]at this;cases this
 have e:(w.ties.map λt:Tie=>if subB t.1 (both a b)then t.2 else 0).sum+(w.ties.map λ_=>(0:Int)).sum=(w.ties.map λt:Tie=>(if subB t.1 a then t.2 else 0)+(if subB t.1 b then t.2 else 0)).sum+(w.ties.map λt=>if jnB a b t then t.2 else 0).sum:=by
  refine jg λt n=>?_
  obtain⟨y,j⟩:=uv _ (m.t2 t n).1.ne
  have o:subB t.1 a=true->subB t.1 b=true->False:=λc d=>no y (qm.mp c y j) (qm.mp d y j)
  have i1:subB t.1 a=true->subB t.1 (both a b)=true:=λh=>qm.mpr λx hx=>both_mem.mpr (.inl (qm.mp h x hx))
  have i2:subB t.1 b=true->subB t.1 (both a b)=true:=λh=>qm.mpr λx hx=>both_mem.mpr (.inr (qm.mp h x hx))
  have p:subB t.1 a=true->(t.1.any λx=>b.contains x)=false:=λc=>by
   rw[uF]
   intro x hx i
   exact no x (qm.mp c x hx) (by simpa using i)
  have r:subB t.1 b=true->(t.1.any λx=>a.contains x)=false:=λc=>by
   rw[uF]
   intro x hx i
   exact no x (by simpa using i) (qm.mp c x hx)
  have s:subB t.1 (both a b)=true->(t.1.any λx=>b.contains x)=false->subB t.1 a=true:=λc d=>qm.mpr λx hx=>by
   rcases both_mem.mp (qm.mp c x hx)with q|q
   .exact q
   .exact absurd (by simpa using q) (uF.mp d x hx)
  have u:subB t.1 (both a b)=true->(t.1.any λx=>a.contains x)=false->subB t.1 b=true:=λc d=>qm.mpr λx hx=>by
   rcases both_mem.mp (qm.mp c x hx)with q|q
   .exact absurd (by simpa using q) (uF.mp d x hx)
   .exact q
  unfold jnB
  generalize (t.1.any λx=>a.contains x)=u1 at *
  generalize (t.1.any λx=>b.contains x)=u2 at *
  generalize subB t.1 a=v1 at *
  generalize subB t.1 b=v2 at *
  generalize subB t.1 (both a b)=v3 at *
  cases v1 <;> cases v2 <;> cases v3 <;> cases u1 <;> cases u2 <;> simp at *
 have s2:(w.ties.map λt:Tie=>(if subB t.1 a then t.2 else 0)+(if subB t.1 b then t.2 else 0)).sum=(w.ties.map λt:Tie=>if subB t.1 a then t.2 else 0).sum+(w.ties.map λt:Tie=>if subB t.1 b then t.2 else 0).sum:=by
  have:=jg (f:=λt:Tie=>(if subB t.1 a then t.2 else 0)+(if subB t.1 b then t.2 else 0)) (g:=λ_=>0) (h:=λt:Tie=>if subB t.1 a then t.2 else 0) (k:=λt:Tie=>if subB t.1 b then t.2 else 0) (l:=w.ties) λt _=>by lia
  rw[ye]at this;lia
 rw[ye,s2]at e
 simp only[yP]
 unfold jnS
 lia
noncomputable def undL(p q:Int×Int):Bool:=decide (p.1*q.2<q.1*p.2)
theorem jh{t t' b a:Int}(d:1<=b)(c:1<=a):undL (lw t b) (lw t' a)=decide (t*a<t'*b):=by
 have e1:=qhb (t:=t) d
 have j:=qhb (t:=t') c
 have l:=(qac (t:=t) d).pos
 have m:=(qac (t:=t') c).pos
 unfold undL
 generalize lw t b=P at *
 generalize lw t' a=Q at *
 have h:0<b*a:=Int.mul_pos (by lia) (by lia)
 have i:0<P.2*Q.2:=Int.mul_pos (by lia) (by lia)
 have e:P.1*Q.2*(b*a)=t*a*(P.2*Q.2):=by grind
 have f:Q.1*P.2*(b*a)=t'*b*(P.2*Q.2):=by grind
 rw[decide_eq_decide]
 constructor
 .intro q
  have:=Int.mul_lt_mul_of_pos_right q h
  rw[e,f]at this
  exact Int.lt_of_mul_lt_mul_right this (by lia)
 .intro q
  have:=Int.mul_lt_mul_of_pos_right q i
  rw[<-e,<-f]at this
  exact Int.lt_of_mul_lt_mul_right this (by lia)
theorem qfF{A B a b:Int}:(decide (A*(a+b)<(A+B)*a)&&decide (B*(a+b)<(A+B)*b))=false:=by
 rw[xY,vY,vY]
 by_cases h:A*(a+b)<(A+B)*a
 .right
  intro k
  simp only[Int.mul_add,Int.add_mul]at h k
  omega
 .exact .inl h
theorem qfG{A B J a b:Int}(c:0<=J)(ha:1<=a)(d:1<=b):(decide ((A+B+J)*a<A*(a+b))&&decide ((A+B+J)*b<B*(a+b)))=false:=by
 rw[xY,vY,vY]
 by_cases h:(A+B+J)*a<A*(a+b)
 .right
  intro k
  have e:0<=J*a:=Int.mul_nonneg c (by omega)
  have f:0<=J*b:=Int.mul_nonneg c (by omega)
  simp only[Int.mul_add,Int.add_mul]at h k
  omega
 .exact .inl h
end RP
namespace RP
open R
theorem yf:∀l:List Bool,boolsOf (l.map .bl)=some l
 |[]=>rfl
 |a::r=>by simp[boolsOf,yf r]
theorem qc1(l:List Bool)(S:Sr):bltD .all [.lst (l.map .bl)] S=.ok (.bl (l.all id)) S:=by
 simp only[bltD,one,bAll,seqOf,lstOf,wY,yf,wb,ofO]
theorem qhc(l:List Bool)(S:Sr):bltD .any [.lst (l.map .bl)] S=.ok (.bl (l.any id)) S:=by
 simp only[bltD,one,bAny,seqOf,lstOf,wY,yf,wb,ofO]
theorem qjT(l:List Int)(S:Sr):bltD .sum [.lst (l.map .int)] S=.ok (.int l.sum) S:=by
 simp only[bltD,one,bSum,seqOf,lstOf,wY,qO,wb,ofO]
theorem qhd:∀(l a:List Int),(l.foldl PyProof.Rows.step_dedup a).length<=a.length+l.length
 |[],a=>by simp
 |k::r,a=>by
  have:=qhd r (PyProof.Rows.step_dedup a k)
  have b:(PyProof.Rows.step_dedup a k).length<=a.length+1:=by unfold PyProof.Rows.step_dedup;split <;> simp
  rw[List.foldl_cons,wc];lia
theorem qiG{l:List Int}(h:l.length<64)(S:Sr):bltD (.sset false) [tupI l] S=.ok (.lst ((sortI (ddI l)).map .int)) S:=by
 have a:=qhd l []
 have b:l.length<4000/\(ddI l).length<64:=⟨by lia,by unfold ddI;simp at a;lia⟩
 simp only[bltD,one,bSset,tupI,qO,wM b,newL]
 rfl
theorem qfH(a b:Int)(S:Sr):cmpD .ne (.int a) (.int b) S=some (!(a == b)):=rfl
theorem lt_int(a b:Int)(S:Sr):cmpD .lt (.int a) (.int b) S=some (decide (a<b)):=rfl
theorem gtI(a b:Int)(S:Sr):cmpD .gt (.int a) (.int b) S=some (decide (b<a)):=rfl
theorem qiH(a b:Int)(S:Sr):cmpD .eq (.int a) (.int b) S=some (a == b):=rfl
theorem qiI{F:Fs}{ρ:En}{S S1:Sr}{e:CE}{x:Bool}(h:ev F e ρ S=.ok (.bl x) S1):ev F (.not e) ρ S=.ok (.bl (!x)) S1:=by
 simp[ev,h,Res.bind,truD]
noncomputable def lwD(p:Int×Int):D:=.tup [.int p.1,.int p.2]
theorem qiJ{t b:Int}(c:0<=t)(d:1<=b)(a:b<2^20):low NW t b=lwD (lw t b):=by
 unfold low lwD lw
 rw[qiB 20 NW t b c (by lia) a (by decide)]
theorem qfI{t b:Int}(a:1<=b):(lw t b).2<=b:=by
 obtain⟨c,d⟩:=qcb (t:=t) a
 have e:=jf (t:=t) a
 have f:=(qac (t:=t) a).pos
 have:=ua (show(1:Int)<=(Int.gcd t b:Int) by lia) (show 0<=(lw t b).2 by lia)
 lia
theorem jQ{d:Nat}{w:Wb}{p:List Int}{S:Sr}(h:WbOk w)(a:PlOk w.costs.length p):G (d+12) 17 [webD w,tupI p] S=.ok (lwD (lw (mass w p) (price w p))) S:=by
 have hi:=zZ h a
 rw[qgT h a,qiJ (qcV h p) hi.1 (by lia)]
theorem zP{d:Nat}{w:Wb}{p:List Int}{S:Sr}(h:WbOk w)(a:PlOk w.costs.length p):G (d+11) 15 [webD w,tupI p] S=.ok (.int (mass w p)) S:=qbC h a
noncomputable abbrev Fine(p:Int×Int):Prop:=1<=p.2/\p.2<=1200
theorem qfJ{d:Nat}{p q:Int×Int}{S:Sr}(a:Fine p)(b:Fine q):G (d+1) 22 [lwD p,lwD q] S=.ok (.bl (undL p q)) S:=by
 rw[G_at (c:=c_22) rfl]
 exact qD rfl (qF (qI (qv (zr rfl rfl rfl) (zr rfl rfl rfl) (bmul (qcP (by lia)))) (qv (zr rfl rfl rfl) (zr rfl rfl rfl) (bmul (qcP (by lia)))) (lt_int _ _ _)))
theorem qfK{d:Nat}{w:Wb}{p:List Int}{S:Sr}(h:WbOk w)(f:∀x∈p,0<=x/\x<(w.costs.length:Int))(i:p.Pairwise (· < ·)):G (d+12) 26 [webD w,tupI p] S=.ok (.int (mass w p)) S:=by
 rw[G_at (c:=c_26) rfl]
 have e:ev (G (d+11)) (.tup .nil) [some (webD w),some (tupI p)] S=.ok (.tup []) S:=ja rfl (by simp)
 by_cases b:p=[]
 .subst b
  rw[qfE h]
  exact qD rfl (qjJ (t_of (qI rfl e rfl)) (qF rfl))
 .refine qD rfl (x_no (t_of (qI rfl e ?_)) (qF (qi rfl (zP h ⟨b,f,i⟩))))
  cases p with
  |nil=>exact absurd rfl b
  |cons a r=>rfl
noncomputable abbrev rE(w:Wb)(a b:List Int)(x3 x4 x5 x6 x7 x8 x9 x10 x11 x12:Option D):En:=[some (webD w),some (tupI a),some (tupI b),x3,x4,x5,x6,x7,x8,x9,x10,x11,x12]
theorem qaN(u v:Bool):[u,v].all id=(u&&v):=by simp
set_option maxHeartbeats 4000000 in
theorem qfL{d:Nat}{w:Wb}{a b:List Int}{S:Sr}(h:WbOk w)(ha:PlOk w.costs.length a)(o:PlOk w.costs.length b):Ok (G (d+13) 27 [webD w,tupI a,tupI b] S) λy S'=>y=.bl true/\S'=S:=by
 rw[G_at (c:=c_27) rfl]
 refine qcX (f:=c_27) rfl rfl ?_
 have la:=yM h ha
 have lb:=yM h o
 have l:=qcZ ha o
 have lU:=yM h l
 have u:∀x∈meet a b,0<=x/\x<(w.costs.length:Int):=λx hx=>ha.rng x (yd.mp hx).1
 have N:=qc0 b ha.up
 have lM:(meet a b).length<=12:=wf (List.length_filter_le ..) la.2
 have A:=zZ h ha
 have B:=zZ h o
 have v:=zZ h l
 have done:∀{T:Sr},T=S->S.length<=T.length/\refsLt S.length (.bl true)=true/\(D.bl true=.bl true/\T.take S.length=S):=λ{T} e=>by subst e;exact⟨wF _,rfl,rfl,xL⟩
 have I:binD .add (tupI a) (tupI b) S=some (tupI (a++b)):=by
  have:catOk (a.map D.int) (b.map D.int)=true:=by unfold catOk PySem.sizeLine;rw[wy];simp;lia
  simp only[binD,tupI,this,ws,xS]
 have s1:ev (G (d+12)) (.blt .tuple (.cons (.blt (.sset false) (.cons (.bin .add (.var 1) (.var 2)) .nil)) .nil)) (rE w a b none none none none none none none none none none) S=.ok (tupI (both a b)) S :=
  qB (qf (qB (qf (qv rfl rfl I) rfl) (qiG (by simp;lia) S)) rfl) rfl
 refine zE (Ok.of s1 (Ok.of (a:=rE w a b (some (tupI (both a b))) none none none none none none none none none) rfl ?_))
 have s2:=zC (g:=.int) (F:=G (d+12)) (fr:=[2]) (nt:=1) (elt:=.var 1) (tg:=.var 1) (it:=.seq (.var 1)) (ifs:=.cons (.val (.cmp .inn (.var 1) (.var 0))) .nil) (ρ:=rE w a b (some (tupI (both a b))) none none none none none none none none none) (S:=S) (S1:=S) (ds:=a.map .int) a (λx=>b.contains x) .int (λρ=>∃x,ρ=[some (tupI b),x]) rfl rfl ⟨none,rfl⟩ (by unfold PySem.sizeLine;lia) (by
  rintro q n ρ m ⟨x,rfl⟩
  exact⟨_,rfl,⟨_,rfl⟩,jK (t_of (qI rfl rfl (zO q b))),λ_=>⟨rfl,rfl⟩⟩)
 refine zE (Ok.of (qB (qf s2 rfl) rfl) (Ok.of (a:=rE w a b (some (tupI (both a b))) (some (tupI (meet a b))) none none none none none none none none) rfl ?_))
 refine o_no (Ok.of (t_of (qI (qi rfl (qad (d:=d+3) h l)) rfl rfl)) ⟨rfl,?_⟩)
 refine zE (Ok.of (qv (qv (qi rfl (qaJ (d:=d+1) h ha)) (qi rfl (qaJ (d:=d+1) h o)) badd) (qi rfl (qaJ (d:=d+1) h l)) rfl) (Ok.of (a:=rE w a b (some (tupI (both a b))) (some (tupI (meet a b))) (some (.int (price w a+price w b-price w (both a b)))) none none none none none none none) rfl ?_))
 have U:=zC (g:=.int) (F:=G (d+12)) (fr:=[0]) (nt:=1) (elt:=.idx (.idx (.var 0) (.cst (.int 0))) (.var 1)) (tg:=.var 1) (it:=.seq (.var 4)) (ifs:=.nil) (ρ:=rE w a b (some (tupI (both a b))) (some (tupI (meet a b))) (some (.int (price w a+price w b-price w (both a b)))) none none none none none none none) (S:=S) (S1:=S) (ds:=(meet a b).map .int) (meet a b) (λ_=>true) (λx=>.int (cstI w x)) (λρ=>∃x,ρ=[some (webD w),x]) rfl rfl ⟨none,rfl⟩ (by unfold PySem.sizeLine;lia) (by
  rintro q n ρ m ⟨x,rfl⟩
  exact⟨_,rfl,⟨_,rfl⟩,rfl,λ_=>⟨zr (d1:=tupI w.costs) (d2:=.int q) (S1:=S++[.lst m]) (zr rfl rfl rfl) rfl (qbx (u q n).1 (u q n).2),rfl⟩⟩)
 rw[qE]at U
 have W:=qjT ((meet a b).map (cstI w)) S
 rw[wq]at W
 have pb:=qce (w:=w) ha o
 refine o_no (Ok.of (t_of (qI (x:=false) rfl (qB (qf U rfl) W) ?_)) ⟨rfl,?_⟩)
 .rw [qfH]
  show some (!(price w a+price w b-price w (both a b) == price w (meet a b)))=_
  rw[show price w a+price w b-price w (both a b)=price w (meet a b) by lia]
  simp
 have mm:=qdI h a b
 have m1:=qdJ h (a:=a) (b:=both a b) λx hx=>both_mem.mpr (.inl hx)
 refine zE (Ok.of (qv (qi rfl (zP (d:=d+1) h ha)) (qi rfl (zP (d:=d+1) h o)) badd) (Ok.of (a:=rE w a b (some (tupI (both a b))) (some (tupI (meet a b))) (some (.int (price w a+price w b-price w (both a b)))) (some (.int (mass w a+mass w b))) none none none none none none) rfl ?_))
 refine o_no (Ok.of (t_of (qI (x:=false) rfl (qv (qi rfl (zP (d:=d+1) h l)) (qi rfl (qfK (d:=d) h u N)) badd) ?_)) ⟨rfl,?_⟩)
 .rw [gtI,wo (by lia)]
 refine o_no (Ok.of (t_of (qI (x:=false) (qi rfl (zP (d:=d+1) h l)) (qi rfl (zP (d:=d+1) h ha)) ?_)) ⟨rfl,?_⟩)
 .rw [lt_int,wo (by lia)]
 have X:=zC (g:=.int) (F:=G (d+12)) (fr:=[0,3,1]) (nt:=1) (elt:=.cmp .lt (.call 18 (.cons (.var 0) (.cons (.var 1) (.cons (.var 3) .nil)))) (.call 18 (.cons (.var 0) (.cons (.var 2) (.cons (.var 3) .nil))))) (tg:=.var 3) (it:=.seq (.var 1)) (ifs:=.nil) (ρ:=rE w a b (some (tupI (both a b))) (some (tupI (meet a b))) (some (.int (price w a+price w b-price w (both a b)))) (some (.int (mass w a+mass w b))) none none none none none none) (S:=S) (S1:=S) (ds:=a.map .int) a (λ_=>true) (λ_=>.bl false) (λρ=>∃x,ρ=[some (webD w),some (tupI (both a b)),some (tupI a),x]) rfl rfl ⟨none,rfl⟩ (by unfold PySem.sizeLine;lia) (by
  rintro q n ρ m ⟨x,rfl⟩
  refine⟨_,rfl,⟨_,rfl⟩,rfl,λ_=>⟨qI (qi rfl (qbD (d:=d+1) h l (both_mem.mpr (.inl n)))) (qi rfl (qbD (d:=d+1) h ha n)) ?_,rfl⟩⟩
  have:=qfD h (a:=a) (b:=both a b) (λx hx=>both_mem.mpr (.inl hx)) q
  rw[lt_int,wo (by lia)])
 rw[qE]at X
 have Y:=qhc (a.map λ_=>false) S
 rw[wq]at Y
 refine o_no (Ok.of (t_of (qB (qf X rfl) Y)) ⟨by simp,?_⟩)
 have Z:ev (G (d+12)) (.tup .nil) (rE w a b (some (tupI (both a b))) (some (tupI (meet a b))) (some (.int (price w a+price w b-price w (both a b)))) (some (.int (mass w a+mass w b))) none none none none none none) S=.ok (.tup []) S:=ja rfl (by simp)
 by_cases hN:¬(meet a b=[])
 .refine o_if (Ok.of (t_of (qI (x:=true) rfl Z ?_)) (by rw[wM rfl];exact qft (Ok.of rfl (done rfl))))
  cases hc:meet a b with
  |nil=>exact absurd hc hN
  |cons x r=>rfl
 have O:meet a b=[]:=Classical.not_not.mp hN
 refine o_no (Ok.of (t_of (qI (x:=false) rfl Z (by rw[O];rfl))) ⟨rfl,?_⟩)
 have P:=qcf h O
 have jn:=qjS h a b
 have pe:price w (both a b)=price w a+price w b:=by
  have:price w (meet a b)=0:=by rw[O];rfl
  lia
 generalize a0:(some (D.int (price w a+price w b-price w (both a b))):Option D)=x5
 generalize a1:(some (tupI (meet a b)):Option D)=x4
 refine zE (Ok.of (a:=D.int 0) (S:=S) rfl (Ok.of (a:=rE w a b (some (tupI (both a b))) x4 x5 (some (.int (mass w a+mass w b))) (some (.int 0)) none none none none none) rfl ?_))
 refine qfu (g:=tieD) (λpre ρ T=>T=S/\∃C E j i,ρ=rE w a b (some (tupI (both a b))) x4 x5 (some (.int (mass w a+mass w b))) (some (.int (jnS a b pre))) C E j i none) w.ties (Ok.of (a:=w.ties.map tieD) (S:=S) rfl ⟨rfl,rfl,none,none,none,none,rfl⟩) ?_ ?_
 .rintro pre t a2 ρ T J ⟨rfl,C,E,j,i,rfl⟩
  have ht:t∈w.ties:=by rw[J];simp
  have h2:=h.t2 t ht
  have H:jnS a b (pre++[t])=jnS a b pre+if jnB a b t then t.2 else 0:=by unfold jnS;rw[xS,List.sum_append];simp
  refine Ok.of (a:=rE w a b (some (tupI (both a b))) x4 x5 (some (.int (mass w a+mass w b))) (some (.int (jnS a b pre))) (some (tupI t.1)) (some (.int t.2)) j i none) rfl ?_
  have i1:=zC (g:=.int) (F:=G (d+12)) (fr:=[3]) (nt:=1) (elt:=.cmp .inn (.var 1) (.var 0)) (tg:=.var 1) (it:=.seq (.var 8)) (ifs:=.nil) (ρ:=rE w a b (some (tupI (both a b))) x4 x5 (some (.int (mass w a+mass w b))) (some (.int (jnS a b pre))) (some (tupI t.1)) (some (.int t.2)) j i none) (S:=T) (S1:=T) (ds:=t.1.map .int) t.1 (λ_=>true) (λx=>.bl ((both a b).contains x)) (λρ=>∃x,ρ=[some (tupI (both a b)),x]) rfl rfl ⟨none,rfl⟩ (by unfold PySem.sizeLine;lia) (by
   rintro q n ρ m ⟨x,rfl⟩
   exact⟨_,rfl,⟨_,rfl⟩,rfl,λ_=>⟨qI rfl rfl (zO q _),rfl⟩⟩)
  rw[qE]at i1
  refine zE (Ok.of i1 (Ok.of (a:=rE w a b (some (tupI (both a b))) x4 x5 (some (.int (mass w a+mass w b))) (some (.int (jnS a b pre))) (some (tupI t.1)) (some (.int t.2)) (some (.lst (t.1.map λx=>.bl ((both a b).contains x)))) i none) rfl ?_))
  have l2:ev (G (d+12)) (.lst false (.cons (.var 1) (.cons (.var 2) .nil))) (rE w a b (some (tupI (both a b))) x4 x5 (some (.int (mass w a+mass w b))) (some (.int (jnS a b pre))) (some (tupI t.1)) (some (.int t.2)) (some (.lst (t.1.map λx=>.bl ((both a b).contains x)))) i none) T=.ok (.lst ([a,b].map tupI)) T:=qbu (qf rfl (qf rfl rfl)) (by simp)
  have i2:=zC (g:=tupI) (F:=G (d+12)) (fr:=[8]) (nt:=1) (elt:=.blt .any (.cons (.lc false [1] 1 (.cmp .inn (.var 1) (.var 0)) (.var 1) (.seq (.var 0)) .nil) .nil)) (tg:=.var 1) (it:=.seq (.lst false (.cons (.var 1) (.cons (.var 2) .nil)))) (ifs:=.nil) (ρ:=rE w a b (some (tupI (both a b))) x4 x5 (some (.int (mass w a+mass w b))) (some (.int (jnS a b pre))) (some (tupI t.1)) (some (.int t.2)) (some (.lst (t.1.map λx=>.bl ((both a b).contains x)))) i none) (S:=T) (S1:=T) (ds:=[a,b].map tupI) [a,b] (λ_=>true) (λs=>.bl (t.1.any λx=>s.contains x)) (λρ=>∃x,ρ=[some (tupI t.1),x]) (qiA l2) rfl ⟨none,rfl⟩ (by simp[PySem.sizeLine]) (by
   rintro s hs ρ m ⟨x,rfl⟩
   refine⟨_,rfl,⟨_,rfl⟩,rfl,λ_=>⟨?_,rfl⟩⟩
   have j1:=zC (g:=.int) (F:=G (d+12)) (fr:=[1]) (nt:=1) (elt:=.cmp .inn (.var 1) (.var 0)) (tg:=.var 1) (it:=.seq (.var 0)) (ifs:=.nil) (ρ:=[some (tupI t.1),some (tupI s)]) (S:=T++[.lst m]) (S1:=T++[.lst m]) (ds:=t.1.map .int) t.1 (λ_=>true) (λx=>.bl (s.contains x)) (λρ=>∃x,ρ=[some (tupI s),x]) rfl rfl ⟨none,rfl⟩ (by unfold PySem.sizeLine;lia) (by
    rintro q n ρ m ⟨x,rfl⟩
    exact⟨_,rfl,⟨_,rfl⟩,rfl,λ_=>⟨qI rfl rfl (zO q _),rfl⟩⟩)
   rw[qE]at j1
   have j2:=qhc (t.1.map λx=>s.contains x) (T++[.lst m])
   rw[wq,List.any_map]at j2
   exact qB (qf j1 rfl) j2)
  rw[qE]at i2
  refine zE (Ok.of i2 (Ok.of (a:=rE w a b (some (tupI (both a b))) x4 x5 (some (.int (mass w a+mass w b))) (some (.int (jnS a b pre))) (some (tupI t.1)) (some (.int t.2)) (some (.lst (t.1.map λx=>.bl ((both a b).contains x)))) (some (.lst ([a,b].map λs=>.bl (t.1.any λx=>s.contains x)))) none) rfl ?_))
  have K:=qc1 (t.1.map λx=>(both a b).contains x) T
  rw[wq,List.all_map]at K
  have L:=qc1 ([a,b].map λs=>t.1.any λx=>s.contains x) T
  rw[wq]at L
  have M:tst (G (d+12)) (.and (.val (.blt .all (.cons (.var 10) .nil))) (.val (.blt .all (.cons (.var 11) .nil)))) (rE w a b (some (tupI (both a b))) x4 x5 (some (.int (mass w a+mass w b))) (some (.int (jnS a b pre))) (some (tupI t.1)) (some (.int t.2)) (some (.lst (t.1.map λx=>.bl ((both a b).contains x)))) (some (.lst ([a,b].map λs=>.bl (t.1.any λx=>s.contains x)))) none) T=.ok (jnB a b t) T:=by
   have:=qcN (t_of (qB (F:=G (d+12)) (ρ:=rE w a b (some (tupI (both a b))) x4 x5 (some (.int (mass w a+mass w b))) (some (.int (jnS a b pre))) (some (tupI t.1)) (some (.int t.2)) (some (.lst (t.1.map λx=>.bl ((both a b).contains x)))) (some (.lst ([a,b].map λs=>.bl (t.1.any λx=>s.contains x)))) none) (S:=T) (es:=.cons (.var 10) .nil) (qf rfl rfl) K)) (λ_=>t_of (qB (es:=.cons (.var 11) .nil) (qf rfl rfl) L))
   rw[this]
   unfold jnB subB
   simp only[w4,u0,qaN]
   rfl
  cases hj:jnB a b t with
  |true =>
   rw[hj]at M H
   rw[wM rfl]at H
   exact Ok.of (qfc M (qW (qv rfl rfl badd) rfl yJ) yJ) ⟨rfl,_,_,_,_,by rw[H];rfl⟩
  |false =>
   rw[hj]at M H
   rw[wL (by decide),Int.add_zero]at H
   exact Ok.of (x_no M yJ) ⟨rfl,_,_,_,_,by rw[H]⟩
 .rintro ρ T ⟨rfl,C,E,j,i,rfl⟩
  refine o_no (Ok.of (t_of (qI (x:=false) (qi rfl (zP (d:=d+1) h l)) (qv rfl rfl badd) ?_)) ⟨rfl,?_⟩)
  .rw [qfH,P];simp
  have sa:=jQ (d:=d) (S:=T) h ha
  have sb:=jQ (d:=d) (S:=T) h o
  have f1:Fine (lw (mass w a) (price w a)):=⟨(qac A.1).pos,Int.le_trans (qfI A.1) A.2⟩
  have f2:Fine (lw (mass w b) (price w b)):=⟨(qac B.1).pos,Int.le_trans (qfI B.1) B.2⟩
  have Q:Fine (lw (mass w (both a b)) (price w (both a b))):=⟨(qac v.1).pos,Int.le_trans (qfI v.1) v.2⟩
  have u1:=jh (t:=mass w a) (t':=mass w (both a b)) A.1 v.1
  have u2:=jh (t:=mass w b) (t':=mass w (both a b)) B.1 v.1
  have u3:=jh (t:=mass w (both a b)) (t':=mass w a) v.1 A.1
  have u4:=jh (t:=mass w (both a b)) (t':=mass w b) v.1 B.1
  rw[P,pe]at u1 u2 u3 u4
  have R:∀T,G (d+12) 17 [webD w,tupI (both a b)] T=.ok (lwD (lw (mass w (both a b)) (price w (both a b)))) T:=λT=>jQ (d:=d) (S:=T) h l
  rw[P,pe]at R Q
  generalize lw (mass w a) (price w a)=La at *
  generalize lw (mass w b) (price w b)=Lb at *
  generalize lw (mass w a+mass w b+jnS a b w.ties) (price w a+price w b)=LU at *
  refine zE (Ok.of (qbu (qf (qi rfl sa) (qf (qi rfl sb) rfl)) (by simp)) (Ok.of (a:=rE w a b (some (tupI (both a b))) x4 x5 (some (.int (mass w a+mass w b))) (some (.int (jnS a b w.ties))) C E j i (some (.lst ([La,Lb].map lwD)))) rfl ?_))
  have Ff:∀p∈[La,Lb],Fine p:=λp z=>by
   rcases wN.mp z with rfl|z
   .exact f1
   .rw [wV.mp z];exact f2
  have q1:=zC (g:=lwD) (F:=G (d+12)) (fr:=[0,3]) (nt:=1) (elt:=.call 22 (.cons (.var 2) (.cons (.call 17 (.cons (.var 0) (.cons (.var 1) .nil))) .nil))) (tg:=.var 2) (it:=.seq (.var 12)) (ifs:=.nil) (ρ:=rE w a b (some (tupI (both a b))) x4 x5 (some (.int (mass w a+mass w b))) (some (.int (jnS a b w.ties))) C E j i (some (.lst ([La,Lb].map lwD)))) (S:=T) (S1:=T) (ds:=[La,Lb].map lwD) [La,Lb] (λ_=>true) (λp=>.bl (undL p LU)) (λρ=>∃x,ρ=[some (webD w),some (tupI (both a b)),x]) rfl rfl ⟨none,rfl⟩ (by simp[PySem.sizeLine]) (by
   rintro p z ρ m ⟨x,rfl⟩
   exact⟨_,rfl,⟨_,rfl⟩,rfl,λ_=>⟨qi (qf rfl (qf (qi rfl (R _)) rfl)) (qfJ (d:=d+11) (Ff p z) Q),rfl⟩⟩)
  rw[qE]at q1
  have q2:=zC (g:=lwD) (F:=G (d+12)) (fr:=[0,3]) (nt:=1) (elt:=.call 22 (.cons (.call 17 (.cons (.var 0) (.cons (.var 1) .nil))) (.cons (.var 2) .nil))) (tg:=.var 2) (it:=.seq (.var 12)) (ifs:=.nil) (ρ:=rE w a b (some (tupI (both a b))) x4 x5 (some (.int (mass w a+mass w b))) (some (.int (jnS a b w.ties))) C E j i (some (.lst ([La,Lb].map lwD)))) (S:=T) (S1:=T) (ds:=[La,Lb].map lwD) [La,Lb] (λ_=>true) (λp=>.bl (undL LU p)) (λρ=>∃x,ρ=[some (webD w),some (tupI (both a b)),x]) rfl rfl ⟨none,rfl⟩ (by simp[PySem.sizeLine]) (by
   rintro p z ρ m ⟨x,rfl⟩
   exact⟨_,rfl,⟨_,rfl⟩,rfl,λ_=>⟨qi (qf (qi rfl (R _)) (qf rfl rfl)) (qfJ (d:=d+11) Q (Ff p z)),rfl⟩⟩)
  rw[qE]at q2
  have K:=qc1 ([La,Lb].map λp=>undL p LU) T
  rw[wq]at K
  have L:=qc1 ([La,Lb].map λp=>undL LU p) T
  rw[wq]at L
  refine o_no (Ok.of (qcN (x:=jnS a b w.ties == 0) (t_of (qI rfl rfl (qiH _ _ _))) (λ_=>t_of (qB (qf q1 rfl) K))) ⟨?_,qft (Ok.of (qiI (qB (qf q2 rfl) L)) ?_)⟩)
  .simp only[w4,u0,qaN,u1,u2]
   by_cases hz:jnS a b w.ties=0
   .rw [hz,Int.add_zero,qfF,xc]
   .rw [wt.mpr hz,Bool.false_and]
  .simp only[w4,u0,qaN,u3,u4,qfG jn A.1 B.1]
   exact done rfl
theorem qaO{d:Nat}{w:Wb}{a b:List Int}{S:Sr}(c:WbOk w)(ha:PlOk w.costs.length a)(f:PlOk w.costs.length b):G (d+13) 27 [webD w,tupI a,tupI b] S=.ok (.bl true) S:=by
 obtain⟨y,h,e,rfl,rfl⟩:=(qfL (d:=d) (S:=S) c ha f).ex
 exact e
end RP
namespace RP
open R
noncomputable abbrev lE(ns:List Int)(a b c d e f g h:Option D):En:=[some (.lst (ns.map .int)),a,b,c,d,e,f,g,h]
theorem qfM{F:Fs}{ρ:En}{T:Sr}{i:Nat}{w:Wb}(h:ρ[i]?=some (some (webD w))):ev F (.blt .len (.cons (.idx (.var i) (.cst (.int 0))) .nil)) ρ T=.ok (.int w.costs.length) T:=by
 have a:ev F (.var i) ρ T=.ok (webD w) T:=by simp only[ev,varE,h]
 exact qB (qf (zr a rfl rfl) rfl) (yK _ _)
theorem qgY(x:Int)(p:List Int)(S:Sr):cmpD .nin (.int x) (tupI p) S=some (!(p.contains x)):=by
 show(inD (.int x) (p.map .int)).map (!·)=_
 rw[zO];rfl
noncomputable def rest(n:Nat)(p:List Int):List Int:=(rI n).filter λx=>!(p.contains x)
theorem qgZ{n:Nat}{p:List Int}(h:rest n p≠[]):PlOk n (rest n p):=⟨h,λx hx=>zN.mp (v9.mp hx).1,(qfi n).filter _⟩
set_option maxHeartbeats 4000000 in
theorem qiK{d:Nat}{ns:List Int}(A:ns.length<=63):Ok (G (d+14) 28 [.lst (ns.map .int)] []) λy _=>y=.bl true:=by
 rw[G_at (c:=qcH) rfl]
 refine qcX (f:=qcH) rfl rfl ?_
 obtain⟨nn,a6,er⟩:=qjO (F:=G (d+13)) (ρ:=lE ns none none none none none none none none) (S:=[]) (ns:=ns) (c:=12) rfl (by decide) (by decide)
 refine qfu (g:=λ(k:Nat)=>D.int (0+2*k)) (λpre ρ U=>∃a b c d e f g h,ρ=lE ns a b c d e f g h) (List.range nn) (Ok.of er ⟨rfl,_,_,_,_,_,_,_,_,rfl⟩) ?_ ?_
 .rintro pre q Y ρ U l ⟨a0,b0,Z,P,B,C,E,H,rfl⟩
  have hq:q∈List.range nn:=by rw[l];simp
  have a7:=wi.mp hq
  refine Ok.of (a:=lE ns (some (.int (0+2*q))) b0 Z P B C E H) rfl ?_
  obtain⟨v,hv,ep⟩:=qfA (d:=d+11) A (k:=0+2*(q:Int)) (S:=U) (by lia) (by lia)
  refine zE (Ok.of (qi rfl ep) (Ok.of (a:=lE ns (some (.int (0+2*q))) (some (.ref U.length)) Z P B C E H) rfl ?_))
  have o:pk (U++[.lst [.int v]]) U.length v=U++[.lst [.int v]]:=qcS (by simp)
  obtain⟨w,u,I,a8,a9,hu,Q⟩:=qjR (d:=d+10) (n:=U.length) (v:=v) (mo:=8) (tn:=12) (S:=U++[.lst [.int v]]) (by simp) hv (by decide) (by decide) (by decide) (by decide)
  rw[o]at Q
  generalize pk (U++[.lst [.int v]]) U.length u=U1 at Q
  generalize U++[.lst [.int v]]=U0 at Q
  refine zE (Ok.of (qi rfl Q) (Ok.of (a:=lE ns (some (.int (0+2*q))) (some (.ref U.length)) (some (webD w)) P B C E H) rfl ?_))
  obtain⟨J,a1,a2⟩:=qfA (d:=d+11) A (k:=0+2*(q:Int)+3) (S:=U1) (by lia) (by lia)
  refine zE (Ok.of (qi (qf rfl (qf (qv (S1:=U1) rfl rfl badd) rfl)) a2) (Ok.of (a:=lE ns (some (.int (0+2*q))) (some (.ref U.length)) (some (webD w)) (some (.ref U1.length)) B C E H) rfl ?_))
  have j:pk (U1++[.lst [.int J]]) U1.length J=U1++[.lst [.int J]]:=qcS (by simp)
  have i:U1.length<(U1++[SO.lst [.int J]]).length:=by simp
  rw[<-j]
  generalize U1++[SO.lst [.int J]]=U2 at i ⊢
  generalize U1.length=n at i ⊢
  generalize U.length=n0
  have K:=I.c1
  have L:=I.c2
  refine qfu (g:=.int) (λpre ρ U=>∃e f g h u,ρ=lE ns (some (.int (0+2*q))) (some (.ref n0)) (some (webD w)) (some (.ref n)) e f g h/\U=pk U2 n u/\0<=u) (rI 5) (Ok.of (i_rng (n:=5) rfl (by decide)) ⟨rfl,_,_,_,_,_,rfl,rfl,a1⟩) ?_ ?_
  .rintro pre z Y ρ U l ⟨e1,f1,g1,R,u1,rfl,rfl,M⟩
   refine Ok.of (a:=lE ns (some (.int (0+2*q))) (some (.ref n0)) (some (webD w)) (some (.ref n)) (some (.int z)) f1 g1 R) rfl ?_
   obtain⟨p,u2,W,a3,a4⟩:=qfC (d:=d+11) (n:=n) (many:=w.costs.length) (v:=u1) (S:=U2) i M K L
   obtain⟨X,s,a5,N,O⟩:=qfC (d:=d+11) (n:=n) (many:=w.costs.length) (v:=u2) (S:=U2) i a3 K L
   refine zE (Ok.of (ja (qf (qi (qf rfl (qf (qfM (w:=w) rfl) rfl)) a4) (qf (qi (qf rfl (qf (qfM (w:=w) rfl) rfl)) O) rfl)) (by simp[PySem.sizeLine])) (Ok.of (a:=lE ns (some (.int (0+2*q))) (some (.ref n0)) (some (webD w)) (some (.ref n)) (some (.int z)) (some (tupI p)) (some (tupI X)) R) rfl ?_))
   have el:=zC (g:=.int) (F:=G (d+13)) (fr:=[6]) (nt:=1) (elt:=.var 1) (tg:=.var 1) (it:=.rng (.cons (.blt .len (.cons (.idx (.var 3) (.cst (.int 0))) .nil)) .nil)) (ifs:=.cons (.val (.cmp .nin (.var 1) (.var 0))) .nil) (ρ:=lE ns (some (.int (0+2*q))) (some (.ref n0)) (some (webD w)) (some (.ref n)) (some (.int z)) (some (tupI p)) (some (tupI X)) R) (S:=pk U2 n s) (S1:=pk U2 n s) (rI w.costs.length) (λx=>!(p.contains x)) .int (λρ=>∃x,ρ=[some (tupI p),x]) (i_rng (qf (qfM (w:=w) rfl) rfl) (by lia)) rfl ⟨none,rfl⟩ (by rw[zh];unfold PySem.sizeLine;lia) (by
    rintro y hy ρ m ⟨x,rfl⟩
    exact⟨_,rfl,⟨_,rfl⟩,jK (t_of (qI rfl rfl (qgY y p _))),λ_=>⟨rfl,rfl⟩⟩)
   refine zE (Ok.of (qB (qf el rfl) rfl) (Ok.of (a:=lE ns (some (.int (0+2*q))) (some (.ref n0)) (some (webD w)) (some (.ref n)) (some (.int z)) (some (tupI p)) (some (tupI X)) (some (tupI (rest w.costs.length p)))) rfl ?_))
   have r1:=qaO (d:=d) (S:=pk U2 n s) I W a5
   have r2:=qaO (d:=d) (S:=pk U2 n s) I W W
   refine o_no (Ok.of (t_or (x:=false) (y:=false) (t_no (x:=true) (t_of (qi rfl r1))) (t_no (x:=true) (t_of (qi rfl r2)))) ⟨rfl,?_⟩)
   have z1:ev (G (d+13)) (.tup .nil) (lE ns (some (.int (0+2*q))) (some (.ref n0)) (some (webD w)) (some (.ref n)) (some (.int z)) (some (tupI p)) (some (tupI X)) (some (tupI (rest w.costs.length p)))) (pk U2 n s)=.ok (.tup []) (pk U2 n s):=ja rfl (by simp)
   by_cases hz:rest w.costs.length p=[]
   .refine o_no (Ok.of (qcN (x:=false) (y:=false) (t_of (qI rfl z1 ?_)) (λz=>by cases z)) ⟨rfl,qfs ⟨_,_,_,_,_,rfl,rfl,N⟩⟩)
    rw[hz];rfl
   .have r3:=qaO (d:=d) (S:=pk U2 n s) I W (qgZ hz)
    refine o_no (Ok.of (qcN (x:=true) (y:=false) (t_of (qI rfl z1 ?_)) (λ_=>t_no (x:=true) (t_of (qi rfl r3)))) ⟨rfl,qfs ⟨_,_,_,_,_,rfl,rfl,N⟩⟩)
    cases hc:rest w.costs.length p with
    |nil=>exact absurd hc hz
    |cons a r=>rfl
  .rintro ρ U ⟨e1,f1,g1,R,u1,rfl,rfl,M⟩
   exact qfs ⟨_,_,_,_,_,_,_,_,rfl⟩
 .rintro ρ U ⟨a0,b0,Z,P,B,C,E,H,rfl⟩
  exact qft (Ok.of rfl ⟨by simp,rfl,rfl⟩)
theorem pure_law:∀ns:List Int,ns.length<=63->∃b,run prg NW 15 28 [.lst (ns.map .int)] []=.ok (.bl true) b:=λns h=>by
 obtain⟨a,S,e,rfl⟩:=(qiK (d:=1) h).ex
 exact⟨S,by rw[<-qfw];exact e⟩
end RP
section
def PySem.W.Fast.tw17702412869041757865:Nat:=0
noncomputable def PySem.W.Fast.tw5858230857442660798:Nat:=0
noncomputable def PySem.W.Fast.tw1872112720863688196:Nat:=0
noncomputable def PySem.W.Fast.tw4160128690184414536:Nat:=0
noncomputable def PySem.W.Fast.tw1314809809191911675:Nat:=0
noncomputable def PySem.W.Fast.tw15592344004870320741:Nat:=0
noncomputable def PySem.W.Fast.tw13402805324352245203:Nat:=0
noncomputable def PySem.W.Fast.tw13252337954007916921:Nat:=0
noncomputable def PySem.W.Fast.tw11907560467219056026:Nat:=0
noncomputable def PySem.W.Fast.tw701175575122589001:Nat:=0
noncomputable def PySem.W.Fast.tw14553970221267105784:Nat:=0
noncomputable def PySem.W.Fast.tw824678299471113190:Nat:=0
noncomputable def PySem.W.Fast.tw14835080240257573733:Nat:=0
noncomputable def PySem.W.Fast.tw17866799225913816300:Nat:=0
noncomputable def PySem.W.Fast.tw3869648879212015587:Nat:=0
noncomputable def PySem.W.Fast.tw2825394355762514903:Nat:=0
noncomputable def PySem.W.Fast.tw9893955937623953106:Nat:=0
noncomputable def PySem.W.Fast.tw2716744712990896219:Nat:=0
noncomputable def PySem.W.Fast.tw299154061613838944:Nat:=0
noncomputable def PySem.W.Fast.tw13552675486476020817:Nat:=0
noncomputable def PySem.W.Fast.tw14089343925672444572:Nat:=0
noncomputable def PySem.W.Fast.tw6115064623414072314:Nat:=0
noncomputable def PySem.W.Fast.tw13596599854591526528:Nat:=0
noncomputable def PySem.W.Fast.tw15666177684139739445:Nat:=0
noncomputable def PySem.W.Fast.tw14380075565608652769:Nat:=0
noncomputable def PySem.W.Fast.tw3899441941044843071:Nat:=0
noncomputable def PySem.W.Fast.tw16628462341796239757:Nat:=0
noncomputable def PySem.W.Fast.tw16482670857589726735:Nat:=0
noncomputable def PySem.W.Fast.tw4212430877775737537:Nat:=0
noncomputable def PySem.W.Fast.tw11171413573612006763:Nat:=0
noncomputable def PySem.W.Fast.tw1624213815504504217:Nat:=0
noncomputable def PySem.W.Fast.tw11104242565509077910:Nat:=0
noncomputable def PySem.W.Fast.tw5499503969813648372:Nat:=0
noncomputable def PySem.W.Fast.tw6079819361949097021:Nat:=0
noncomputable def PySem.W.Fast.tw11484187679611095936:Nat:=0
noncomputable def PySem.W.Fast.tw8103143230103669918:Nat:=0
noncomputable def PySem.W.Fast.tw5588903820610016916:Nat:=0
noncomputable def PySem.W.Fast.tw15536110777403271899:Nat:=0
noncomputable def PySem.W.Fast.tw10459800827159238282:Nat:=0
noncomputable def PySem.W.Fast.tw698769598567769868:Nat:=0
noncomputable def PySem.W.Fast.tw3439711334744275529:Nat:=0
noncomputable def PySem.W.Fast.tw262021875137179258:Nat:=0
noncomputable def PySem.W.Fast.tw2773574393222085739:Nat:=0
noncomputable def PySem.W.Fast.tw15645743542564225312:PySem.Program:=PySem.Challenge.pw_weblayers_k06_whole_two_parts
theorem PySem.W.Fast.te15645743542564225312:PySem.Challenge.pw_weblayers_k06_whole_two_parts=PySem.W.Fast.tw15645743542564225312:=rfl
namespace RP
open PySem PySem.W PyProof.Rows R
noncomputable abbrev KOf2{K:PySem.W.Frag}{h:Heap}(_:K.In h):PySem.W.Frag:=K
end RP
open PySem PySem.W PyProof.Rows R
set_option maxRecDepth 100000 in
set_option maxHeartbeats 0 in
theorem PySem.Challenge.cw_weblayers_k06_whole_two_parts_holds : PySem.Challenge.rw_weblayers_k06_whole_two_parts.Holds := by
 w_on;o_law;k_head;(case hw=>w_witness2)
 k_fill
 refine R.qig (l:=PySem.Challenge.rw_weblayers_k06_whole_two_parts) (n:=63) (k:=45) (x:="_law_script") (g:=R.run RP.prg RP.NW 15 28) rfl (by decide) rfl ⟨rfl,by decide,by decide⟩ (λw h Y=>PySem.W.kIn_of Y) ?zp ?zc ?zF RP.pure_law
 case zp=>intro P;rfl
 case zc=>intro P;rfl
 case zF =>
  intro w mg fa h KX G hmg
  have p:RP.Pre (RP.KOf2 KX) mg:=by
   dsimp only[RP.KOf2]
   refine⟨?gb,?c_MOST_COST,?c_MOST_PLACES,?c_MOST_PLACES_OF_TIE,?c_MOST_TIES,?c_MOST_WEIGHT,?u_0,?u_1,?u_2,?u_3,?u_4,?u_5,?u_6,?u_7,?u_8,?u_9,?u_10,?u_11,?u_12,?u_13,?u_14,?u_15,?u_16,?u_17,?u_18,?u_19,?u_20,?u_21,?u_22,?u_23,?u_24,?u_25,?u_26,?u_27,?u_28⟩
   case gb =>
    refine⟨mg_none_of KX G ?x0,mg_none_of KX G ?x1,mg_none_of KX G ?x2,mg_none_of KX G ?x3,mg_none_of KX G ?x4,mg_none_of KX G ?x5,mg_none_of KX G ?x6,mg_none_of KX G ?x7,mg_none_of KX G ?x8,mg_none_of KX G ?x9,mg_none_of KX G ?x10,mg_none_of KX G ?x11,mg_none_of KX G ?x12,mg_none_of KX G ?x13,mg_none_of KX G ?x14,mg_none_of KX G ?x15,mg_none_of KX G ?x16,mg_none_of KX G ?x17,mg_none_of KX G ?x18⟩
    (case x0=>k_is);(case x1=>k_is);(case x2=>k_is);(case x3=>k_is);(case x4=>k_is);(case x5=>k_is);(case x6=>k_is);(case x7=>k_is);(case x8=>k_is);(case x9=>k_is);(case x10=>k_is);(case x11=>k_is);(case x12=>k_is);(case x13=>k_is);(case x14=>k_is);(case x15=>k_is);(case x16=>k_is);(case x17=>k_is);(case x18=>k_is)
   case c_MOST_COST=>refine' jI KX G ?a ?b;(case a=>k_is);(case b=>exact rfl)
   case c_MOST_PLACES=>refine' jI KX G ?a ?b;(case a=>k_is);(case b=>exact rfl)
   case c_MOST_PLACES_OF_TIE=>refine' jI KX G ?a ?b;(case a=>k_is);(case b=>exact rfl)
   case c_MOST_TIES=>refine' jI KX G ?a ?b;(case a=>k_is);(case b=>exact rfl)
   case c_MOST_WEIGHT=>refine' jI KX G ?a ?b;(case a=>k_is);(case b=>exact rfl)
   case u_0 =>
    refine' qu KX G (ps:=["thing"]) ?a ?l ?c ?d ?h ?t ?k ?b
    (case a=>k_is);(case l=>k_is);(case c=>k_is);(case d=>k_is);(case h=>rfl);(case t=>rfl);(case k=>k_is)
    (case b=>intro _ _ _ _ _ _ _ q;obtain⟨_,rfl⟩:=len1 q;rfl)
   case u_1 =>
    refine' qu KX G (ps:=["thing","least","most"]) ?a ?l ?c ?d ?h ?t ?k ?b
    (case a=>k_is);(case l=>k_is);(case c=>k_is);(case d=>k_is);(case h=>rfl);(case t=>rfl);(case k=>k_is)
    (case b=>intro _ _ _ _ _ _ _ q;obtain⟨_,_,_,rfl⟩:=len3 q;rfl)
   case u_2 =>
    refine' qu KX G (ps:=["one","other"]) ?a ?l ?c ?d ?h ?t ?k ?b
    (case a=>k_is);(case l=>k_is);(case c=>k_is);(case d=>k_is);(case h=>rfl);(case t=>rfl);(case k=>k_is)
    (case b=>intro _ _ _ _ _ _ _ q;obtain⟨_,_,rfl⟩:=len2 q;rfl)
   case u_3 =>
    refine' qu KX G (ps:=["top","bottom"]) ?a ?l ?c ?d ?h ?t ?k ?b
    (case a=>k_is);(case l=>k_is);(case c=>k_is);(case d=>k_is);(case h=>rfl);(case t=>rfl);(case k=>k_is)
    (case b=>intro _ _ _ _ _ _ _ q;obtain⟨_,_,rfl⟩:=len2 q;rfl)
   case u_4 =>
    refine' qu KX G (ps:=["thing"]) ?a ?l ?c ?d ?h ?t ?k ?b
    (case a=>k_is);(case l=>k_is);(case c=>k_is);(case d=>k_is);(case h=>rfl);(case t=>rfl);(case k=>k_is)
    (case b=>intro _ _ _ _ _ _ _ q;obtain⟨_,rfl⟩:=len1 q;rfl)
   case u_5 =>
    refine' qu KX G (ps:=["thing"]) ?a ?l ?c ?d ?h ?t ?k ?b
    (case a=>k_is);(case l=>k_is);(case c=>k_is);(case d=>k_is);(case h=>rfl);(case t=>rfl);(case k=>k_is)
    (case b=>intro _ _ _ _ _ _ _ q;obtain⟨_,rfl⟩:=len1 q;rfl)
   case u_6 =>
    refine' qu KX G (ps:=["thing","many"]) ?a ?l ?c ?d ?h ?t ?k ?b
    (case a=>k_is);(case l=>k_is);(case c=>k_is);(case d=>k_is);(case h=>rfl);(case t=>rfl);(case k=>k_is)
    (case b=>intro _ _ _ _ _ _ _ q;obtain⟨_,_,rfl⟩:=len2 q;rfl)
   case u_7 =>
    refine' qu KX G (ps:=["thing","many"]) ?a ?l ?c ?d ?h ?t ?k ?b
    (case a=>k_is);(case l=>k_is);(case c=>k_is);(case d=>k_is);(case h=>rfl);(case t=>rfl);(case k=>k_is)
    (case b=>intro _ _ _ _ _ _ _ q;obtain⟨_,_,rfl⟩:=len2 q;rfl)
   case u_8 =>
    refine' qu KX G (ps:=["thing","many"]) ?a ?l ?c ?d ?h ?t ?k ?b
    (case a=>k_is);(case l=>k_is);(case c=>k_is);(case d=>k_is);(case h=>rfl);(case t=>rfl);(case k=>k_is)
    (case b=>intro _ _ _ _ _ _ _ q;obtain⟨_,_,rfl⟩:=len2 q;rfl)
   case u_9 =>
    refine' qu KX G (ps:=["thing","many"]) ?a ?l ?c ?d ?h ?t ?k ?b
    (case a=>k_is);(case l=>k_is);(case c=>k_is);(case d=>k_is);(case h=>rfl);(case t=>rfl);(case k=>k_is)
    (case b=>intro _ _ _ _ _ _ _ q;obtain⟨_,_,rfl⟩:=len2 q;rfl)
   case u_10 =>
    refine' qu KX G (ps:=["things"]) ?a ?l ?c ?d ?h ?t ?k ?b
    (case a=>k_is);(case l=>k_is);(case c=>k_is);(case d=>k_is);(case h=>rfl);(case t=>rfl);(case k=>k_is)
    (case b=>intro _ _ _ _ _ _ _ q;obtain⟨_,rfl⟩:=len1 q;rfl)
   case u_11 =>
    refine' qu KX G (ps:=["thing"]) ?a ?l ?c ?d ?h ?t ?k ?b
    (case a=>k_is);(case l=>k_is);(case c=>k_is);(case d=>k_is);(case h=>rfl);(case t=>rfl);(case k=>k_is)
    (case b=>intro _ _ _ _ _ _ _ q;obtain⟨_,rfl⟩:=len1 q;rfl)
   case u_12 =>
    refine' qu KX G (ps:=["web","thing"]) ?a ?l ?c ?d ?h ?t ?k ?b
    (case a=>k_is);(case l=>k_is);(case c=>k_is);(case d=>k_is);(case h=>rfl);(case t=>rfl);(case k=>k_is)
    (case b=>intro _ _ _ _ _ _ _ q;obtain⟨_,_,rfl⟩:=len2 q;rfl)
   case u_13 =>
    refine' qu KX G (ps:=["web","thing"]) ?a ?l ?c ?d ?h ?t ?k ?b
    (case a=>k_is);(case l=>k_is);(case c=>k_is);(case d=>k_is);(case h=>rfl);(case t=>rfl);(case k=>k_is)
    (case b=>intro _ _ _ _ _ _ _ q;obtain⟨_,_,rfl⟩:=len2 q;rfl)
   case u_14 =>
    refine' qu KX G (ps:=["web","part"]) ?a ?l ?c ?d ?h ?t ?k ?b
    (case a=>k_is);(case l=>k_is);(case c=>k_is);(case d=>k_is);(case h=>rfl);(case t=>rfl);(case k=>k_is)
    (case b=>intro _ _ _ _ _ _ _ q;obtain⟨_,_,rfl⟩:=len2 q;rfl)
   case u_15 =>
    refine' qu KX G (ps:=["web","part"]) ?a ?l ?c ?d ?h ?t ?k ?b
    (case a=>k_is);(case l=>k_is);(case c=>k_is);(case d=>k_is);(case h=>rfl);(case t=>rfl);(case k=>k_is)
    (case b=>intro _ _ _ _ _ _ _ q;obtain⟨_,_,rfl⟩:=len2 q;rfl)
   case u_16 =>
    refine' qu KX G (ps:=["web","part"]) ?a ?l ?c ?d ?h ?t ?k ?b
    (case a=>k_is);(case l=>k_is);(case c=>k_is);(case d=>k_is);(case h=>rfl);(case t=>rfl);(case k=>k_is)
    (case b=>intro _ _ _ _ _ _ _ q;obtain⟨_,_,rfl⟩:=len2 q;rfl)
   case u_17 =>
    refine' qu KX G (ps:=["web","part"]) ?a ?l ?c ?d ?h ?t ?k ?b
    (case a=>k_is);(case l=>k_is);(case c=>k_is);(case d=>k_is);(case h=>rfl);(case t=>rfl);(case k=>k_is)
    (case b=>intro _ _ _ _ _ _ _ q;obtain⟨_,_,rfl⟩:=len2 q;rfl)
   case u_18 =>
    refine' qu KX G (ps:=["web","part","place"]) ?a ?l ?c ?d ?h ?t ?k ?b
    (case a=>k_is);(case l=>k_is);(case c=>k_is);(case d=>k_is);(case h=>rfl);(case t=>rfl);(case k=>k_is)
    (case b=>intro _ _ _ _ _ _ _ q;obtain⟨_,_,_,rfl⟩:=len3 q;rfl)
   case u_19 =>
    refine' qu KX G (ps:=["_law_cell"]) ?a ?l ?c ?d ?h ?t ?k ?b
    (case a=>k_is);(case l=>k_is);(case c=>k_is);(case d=>k_is);(case h=>rfl);(case t=>rfl);(case k=>k_is)
    (case b=>intro _ _ _ _ _ _ _ q;obtain⟨_,rfl⟩:=len1 q;rfl)
   case u_20 =>
    refine' qu KX G (ps:=["_law_script","_law_k"]) ?a ?l ?c ?d ?h ?t ?k ?b
    (case a=>k_is);(case l=>k_is);(case c=>k_is);(case d=>k_is);(case h=>rfl);(case t=>rfl);(case k=>k_is)
    (case b=>intro _ _ _ _ _ _ _ q;obtain⟨_,_,rfl⟩:=len2 q;rfl)
   case u_21 =>
    refine' qu KX G (ps:=["_law_pack_here","_law_size"]) ?a ?l ?c ?d ?h ?t ?k ?b
    (case a=>k_is);(case l=>k_is);(case c=>k_is);(case d=>k_is);(case h=>rfl);(case t=>rfl);(case k=>k_is)
    (case b=>intro _ _ _ _ _ _ _ q;obtain⟨_,_,rfl⟩:=len2 q;rfl)
   case u_22 =>
    refine' qu KX G (ps:=["_law_one","_law_other"]) ?a ?l ?c ?d ?h ?t ?k ?b
    (case a=>k_is);(case l=>k_is);(case c=>k_is);(case d=>k_is);(case h=>rfl);(case t=>rfl);(case k=>k_is)
    (case b=>intro _ _ _ _ _ _ _ q;obtain⟨_,_,rfl⟩:=len2 q;rfl)
   case u_23 =>
    refine' qu KX G (ps:=["_law_pack_here","_law_many"]) ?a ?l ?c ?d ?h ?t ?k ?b
    (case a=>k_is);(case l=>k_is);(case c=>k_is);(case d=>k_is);(case h=>rfl);(case t=>rfl);(case k=>k_is)
    (case b=>intro _ _ _ _ _ _ _ q;obtain⟨_,_,rfl⟩:=len2 q;rfl)
   case u_24 =>
    refine' qu KX G (ps:=["_law_pack_here","_law_most","_law_ties"]) ?a ?l ?c ?d ?h ?t ?k ?b
    (case a=>k_is);(case l=>k_is);(case c=>k_is);(case d=>k_is);(case h=>rfl);(case t=>rfl);(case k=>k_is)
    (case b=>intro _ _ _ _ _ _ _ q;obtain⟨_,_,_,rfl⟩:=len3 q;rfl)
   case u_25 =>
    refine' qu KX G (ps:=["_law_pack_here","_law_many"]) ?a ?l ?c ?d ?h ?t ?k ?b
    (case a=>k_is);(case l=>k_is);(case c=>k_is);(case d=>k_is);(case h=>rfl);(case t=>rfl);(case k=>k_is)
    (case b=>intro _ _ _ _ _ _ _ q;obtain⟨_,_,rfl⟩:=len2 q;rfl)
   case u_26 =>
    refine' qu KX G (ps:=["_law_web_here","_law_part_here"]) ?a ?l ?c ?d ?h ?t ?k ?b
    (case a=>k_is);(case l=>k_is);(case c=>k_is);(case d=>k_is);(case h=>rfl);(case t=>rfl);(case k=>k_is)
    (case b=>intro _ _ _ _ _ _ _ q;obtain⟨_,_,rfl⟩:=len2 q;rfl)
   case u_27 =>
    refine' qu KX G (ps:=["_law_web_here","_law_one","_law_other"]) ?a ?l ?c ?d ?h ?t ?k ?b
    (case a=>k_is);(case l=>k_is);(case c=>k_is);(case d=>k_is);(case h=>rfl);(case t=>rfl);(case k=>k_is)
    (case b=>intro _ _ _ _ _ _ _ q;obtain⟨_,_,_,rfl⟩:=len3 q;rfl)
   case u_28 =>
    refine' qu KX G (ps:=["_law_script"]) ?a ?l ?c ?d ?h ?t ?k ?b
    (case a=>k_is);(case l=>k_is);(case c=>k_is);(case d=>k_is);(case h=>rfl);(case t=>rfl);(case k=>k_is)
    (case b=>intro _ _ _ _ _ _ _ q;obtain⟨_,rfl⟩:=len1 q;rfl)
  obtain⟨f,fd,c,t,hm,U,hb⟩:=p.u_28
  have e0:=hmg.symm.trans hm
  cases e0
  obtain⟨oc,od,kV,doc,pm,an,ct,osl,rfl,lk,hcd⟩:=U.ex
  exact⟨_,λs u=>.of_eq rfl,λbase _ _=>RP.o_28 p (RP.qfa p 14) U⟩
end
