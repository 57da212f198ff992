import PyProof.Rows.All
import Wide.All
import OpenK.AllK
import Wide.FinOn
import Lean
import PyProof.EqAt
import PyProof.EqKinds
import PyProof.TupleCall
import PyProof.DictTruth
import PyProof.Conv_int_bool
import PyProof.SumAnyB
import PySem.Challenge.RW_weblayers_k10_webs_and_layings_refused
noncomputable section
set_option autoImplicit true
set_option relaxedAutoImplicit true
set_option Elab.async false
set_option linter.all false
set_option maxRecDepth 100000
set_option maxHeartbeats 4000000
set_option genSizeOf false
set_option genSizeOfSpec false
section
open PySem PySem.Spec PyProof.Rows Spec
def w1:=@Obj.data_mapFields
def wh:=@Nat.lt_irrefl
def wi:=@Bool.false_eq_true
def wr:=@List.mem_of_mem_drop
def ws:=@List.mem_append_left
def vR:=@Nat.ne_of_gt
def vS:=@List.getElem?_set_self
def vT:=@sizeLine_eq
def vU:=@PySem.mem_of_lookup
def vV:=@List.nodup_append
def vW:=@Heap.size_push
def vX:=@Bool.and_false
def vY:=@List.append_nil
def vZ:=@List.lookup_cons
def v0:=@Heap.size_update
def v4:=@wpAny_standAt
def v5:=@or_false
def v6:=@F.slot_dict_keyiterator_next
def v7:=@wpAny_truthy_bool
def v8:=@beq_iff_eq
def v9:=@if_true
def va:=@PyProof.Rows.callWith_type1
def vb:=@List.length_nil
def vc:=@Array.length_toList
def vd:=@List.zip_cons_cons
def ve:=@List.set_append_right
def vf:=@List.all_cons
def vg:=@Calls.spliced_cons
def vh:=@Bool.true_and
def vi:=@wpAny_setField
def vj:=@List.getElem?_set_ne
def vk:=@List.flatten_cons
def vl:=@List.all_append
def vm:=@plainId_quiet
def vn:=@List.filterMap_cons
def vo:=@List.any_cons
def vp:=@wpAny_typeNameOfWhole_keyiter
def vq:=@List.length_drop
def vr:=@wpAny_seqItems
def vt:=@call_meets
def vu:=@List.mem_range
def vw:=@Bool.false_and
def vx:=@List.drop_of_length_le
def vy:=@wpAny_setField_rec
def vz:=@List.mem_replicate
def uA:=@wpAny_passesOwn
def uB:=@Obj.isFreed_of_fields
def uC:=@List.nodup_cons
def uD:=@Bool.eq_iff_iff
def uE:=@Array.getElem?_toList
def uF:=@Nat.lt_succ_of_lt
def uG:=@F.plain_list_iadd
def uH:=@Bool.not_eq_true'
def uI:=@PySem.F.excBase_ValueError
def uJ:=@Int.fdiv_eq_ediv_of_nonneg
def uK:=@Int.eq_of_mul_eq_mul_right
def uL:=@F.slot_tuple_iterator_next
def uM:=@List.getElem?_zip_eq_some
def uN:=@Array.getElem?_eq_getElem
def uO:=@if_false
def uP:=@List.drop_succ_cons
def uQ:=@wpAny_typeNameOf_keyiter
def uR:=@List.getElem?_take_of_lt
def uS:=@wpAny_attempt
def uT:=@wpAny_Call_Name_kw
def uU:=@List.of_mem_zip
def uV:=@List.getElem?_cons_zero
def uW:=@List.forIn_cons
def uX:=@List.find?_cons
def uY:=@Int.fmod_lt_of_pos
def uZ:=@PySem.F.sub_tuple_dict
def u0:=@PySem.F.sub_dict_tuple
def u4:=@wpAny_rule
def u5:=@Int.toNat_natCast
def u6:=@Calls.spliced_nil
def u7:=@List.drop_zero
def u8:=@F.called_tuple
def u9:=@List.all_map
def ua:=@List.prefix_refl
def ub:=@Int.mul_le_mul_of_nonneg_left
def uc:=@Array.toArray_toList
def ud:=@List.sum_cons
def ue:=@wpAny_execs_nil
def uf:=@Nat.mul_le_mul_left
def ug:=@Nat.min_eq_left
def uh:=@List.getElem_of_mem
def ui:=@Array.getElem_setIfInBounds
def uj:=@wpAny_typeOf
def uk:=@Nat.lt_of_lt_of_eq
def ul:=@Nat.le_of_eq
def um:=@List.map_replicate
def uo:=@List.map_nil
def uq:=@Int.mul_comm
def ur:=@List.mem_or_eq_of_mem_set
def ut:=@List.drop_eq_getElem_cons
def uu:=@wpAny_dictEntries
def uv:=@PySem.F.args_tuple_add_2
def uw:=@List.foldl_append
def ux:=@F.plain_tuple_new
def uy:=@PySem.F.entry_tuple_add
def uz:=@List.map_take
def xA:=@List.map_drop
def xB:=@Option.bind_none
def xC:=@Nat.lt_succ_self
def xD:=@Nat.le_add_right
def xE:=@List.getElem_inj
def xF:=@PySem.F.slot_tuple_add
def xG:=@Option.map_eq_some_iff
def xH:=@Array.getElem?_eq_none
def xI:=@get?_update_seq
def xJ:=@List.length_replicate
def xK:=@List.getElem?_eq_none
def xL:=@List.foldl_cons
def xM:=@List.eq_nil_or_concat
def xN:=@List.concat_eq_append
def xO:=@F.slot_zip_next
def xP:=@F.slot_int_rmul
def xQ:=@F.plain_proto_collect
def xR:=@F.entry_proto_collect
def xS:=@Bool.and_eq_false_iff
def xT:=@wpAny_updateSeq_pair
def xU:=@wpAny_fieldsOf
def xV:=@Int.mul_le_mul
end
section
open PySem PySem.Spec PyProof.Rows Spec
def wA:=@wpAny_bind
def wB:=@Heap.get?_push_of_some
def wC:=@wpAny_pure
def wD:=@List.getElem?_eq_getElem
def wE:=@List.length_map
def wF:=@List.getElem?_eq_some_iff
def wG:=@Heap.lt_size
def wH:=@Heap.get?_push_size
def wI:=@List.length_append
def wJ:=@Nat.le_refl
def wK:=@List.size_toArray
def wL:=@List.getElem?_append_left
def wM:=@List.getElem?_append_right
def wN:=@if_pos
def wO:=@List.mem_cons_of_mem
def wP:=@Bool.and_eq_true
def wQ:=@List.mem_cons_self
def wR:=@List.mem_cons
def wS:=@decide_eq_true
def wT:=@if_neg
def wU:=@List.mem_append_right
def wV:=@List.mem_singleton
def wW:=@Heap.get?_update_other
def wX:=@Nat.lt_of_lt_of_le
def wY:=@decide_eq_false
def wZ:=@List.length_singleton
def w4:=@List.length_cons
def w5:=@Bool.false_ne_true
def w6:=@wpAny_newObj_type
def w8:=@List.getElem?_map
def w9:=@List.mem_of_getElem?
def wa:=@Nat.ne_of_lt
def wb:=@List.mem_append
def wc:=@List.not_mem_nil
def wd:=@List.map_cons
def we:=@List.getD_eq_getElem?_getD
def wf:=@Option.bind_some
def wg:=@List.length_take
def wj:=@List.map_map
def wk:=@List.append_assoc
def wm:=@List.mem_of_mem_take
def wn:=@List.all_eq_true
def wo:=@wpAny_mono
def wp:=@List.mem_map
def wq:=@decide_eq_true_eq
def wt:=@wpAny_callSpecial?_slot
def wu:=@Option.map_some
def wv:=@Int.fdiv_nonneg
def ww:=@beq_eq_false_iff_ne
def wx:=@wpAny_field
def wy:=@List.length_eq_zero_iff
def wz:=@wpAny_call_entry
def vA:=@Nat.le_trans
def vB:=@Around.under_plainId
def vC:=@List.replicate_succ
def vD:=@Heap.get?_update_self
def vE:=@wpAny_holding
def vF:=@of_decide_eq_true
def vG:=@PyProof.Rows.slot_tuple_getitem
def vH:=@List.getElem?_replicate
def vI:=@Array.getElem?_eq_some_iff
def vJ:=@List.pairwise_cons
def vK:=@Int.fmod_nonneg_of_pos
def vL:=@PySem.W.kia_one
def vM:=@List.map_append
def vN:=@Nat.zero_le
def vO:=@List.map_congr_left
def vP:=@decide_eq_false_iff_not
def vQ:=@codeAny_builtin
end
namespace L2
open PySem PySem.Spec PyProof.Rows
abbrev Key:=Sum Int Str
def keyIs:Key->Value->Bool
 | .inl k,v=>Value.isInt k v
 | .inr x,v=>Value.isStrOf x v
def keyH(w:World):Key->Int
 | .inl k=>hashInt k
 | .inr x=>hashStr w x
def keyIs_shape:∀{k:Key} {v:Value},keyIs k v=true->(∃i t,k=Sum.inl i/\v=Value.int i t)\/(∃x t,k=Sum.inr x/\v=Value.str x t)
 | .inl i,v,h=>by
  obtain⟨t,e⟩:=Value.isInt_shape (k:=i) (v:=v) h;exact .inl ⟨i,t,rfl,e⟩
 | .inr x,v,h=>by
  obtain⟨t,e⟩:=Value.isStrOf_shape (x:=x) (v:=v) h;exact .inr ⟨x,t,rfl,e⟩
def qeA(i:Int)(t:Tok):keyIs (.inl i) (.int i t)=true:=by simp[keyIs,Value.isInt]
def qeB(x:Str)(t:Tok):keyIs (.inr x) (.str x t)=true:=by simp[keyIs,Value.isStrOf]
def qjr(a b:Int):decide ((Sum.inl a:Key)=Sum.inl b)=(a == b):=by
 by_cases e:a=b
 .subst e;simp
 .have h:¬(Sum.inl a:Key)=Sum.inl b:=λq=>e (Sum.inl.inj q)
  rw[wY h];exact(ww.mpr e).symm
def qjs(a b:Str):decide ((Sum.inr a:Key)=Sum.inr b)=decide (a=b):=by
 by_cases e:a=b
 .subst e;simp
 .have h:¬(Sum.inr a:Key)=Sum.inr b:=λq=>e (Sum.inr.inj q)
  rw[wY h,wY e]
def qjt(a:Int)(b:Str):decide ((Sum.inl a:Key)=Sum.inr b)=false:=wY (λq=>nomatch q)
def qju(a:Str)(b:Int):decide ((Sum.inr a:Key)=Sum.inl b)=false:=wY (λq=>nomatch q)
def mixKind(prog:Program)(w:World):PySem.KeyKind prog w Key where
 is:=keyIs
 hash:=keyH w
 inj:=λv a b ha d=>by
  rcases keyIs_shape ha with ⟨i,t,rfl,rfl⟩|⟨x,t,rfl,rfl⟩
  .rcases keyIs_shape d with ⟨j,u,rfl,e⟩|⟨y,u,rfl,e⟩
   .injection e with e1 _;rw[e1]
   .exact nomatch e
  .rcases keyIs_shape d with ⟨j,u,rfl,e⟩|⟨y,u,rfl,e⟩
   .exact nomatch e
   .injection e with e1 _;rw[e1]
 byValue:=λk v h=>by
  rcases keyIs_shape h with ⟨i,t,rfl,rfl⟩|⟨x,t,rfl,rfl⟩ <;> rfl
 pyHash:=λc h=>by
  rcases keyIs_shape c with ⟨i,t,rfl,rfl⟩|⟨x,t,rfl,rfl⟩
  .exact wpAny_pyHash_int h
  .exact wpAny_pyHash_str h
 eqBool:=λf c h=>by
  rcases keyIs_shape f with ⟨i,t,rfl,rfl⟩|⟨x,t,rfl,rfl⟩
  .rcases keyIs_shape c with ⟨j,u,rfl,rfl⟩|⟨y,u,rfl,rfl⟩
   .rw [qjr]at h;exact wpAny_eqBool_int h
   .rw [qjt]at h;exact SeqAt.EqAt.int_str i t y u _ _ _ _ h
  .rcases keyIs_shape c with ⟨j,u,rfl,rfl⟩|⟨y,u,rfl,rfl⟩
   .rw [qju]at h;exact SeqAt.EqAt.str_int x t j u _ _ _ _ h
   .rw [qjs]at h;exact wpAny_eqBool_str h
 «strs»:=λk x t v h=>by
  rcases keyIs_shape h with ⟨i,u,rfl,e⟩|⟨y,u,rfl,e⟩
  .exact nomatch e
  .injection e with e1 _
   subst e1;cases v <;> rfl
def qbQ(prog:Program)(w:World)(i:Int)(t:Tok):(mixKind prog w).is (.inl i) (.int i t)=true:=qeA i t
def qbR(prog:Program)(w:World)(x:Str)(t:Tok):(mixKind prog w).is (.inr x) (.str x t)=true:=qeB x t
inductive V where
 |non|bl (b:Bool)|int (i:Int)|str (x:Str)|byt (b:Array UInt8)|flt (b:UInt64)|ref (a:Addr)|ty (n:String)
 deriving DecidableEq
def RelV:V->Value->Prop
 | .non,u=>u=Value.none
 | .bl b,u=>u=Value.bool b
 | .int i,u=>∃t,u=Value.int i t
 | .str x,u=>∃t,u=Value.str x t
 | .byt b,u=>∃t,u=Value.bytes b t
 | .flt b,u=>∃t,u=Value.float b t
 | .ref a,u=>u=Value.ref a
 | .ty n,u=>u=Value.type n
abbrev Vals:List V->List Value->Prop:=Paired RelV
def Vals.length(r:Vals xs us):xs.length=us.length:=Paired.length r
def Vals.get:∀{xs:List V} {us:List Value} {i:Nat} {x:V},Vals xs us->xs[i]?=some x->∃u,us[i]?=some u/\RelV x u
 |_,_,_,_,.nil,e=>by simp at e
 |_,_,0,_,.cons r _,e=>by simp at e;subst e;exact⟨_,rfl,r⟩
 |_,_,i+1,x,.cons _ t,e=>by
  obtain⟨u,a,b⟩:=Vals.get (i:=i) (x:=x) t (by simpa using e);exact⟨u,by simpa using a,b⟩
def Vals.set(r:RelV x u):∀{xs:List V} {us:List Value} (i:Nat),Vals xs us->Vals (xs.set i x) (us.set i u)
 |_,_,_,.nil=>.nil
 |_,_,0,.cons _ t=>.cons r t
 |_,_,i+1,.cons q t=>.cons q (Vals.set r i t)
def Vals.append:∀{xs ys:List V} {us a:List Value},Vals xs us->Vals ys a->Vals (xs++ys) (us++a)
 |_,_,_,_,.nil,s=>s
 |_,_,_,_,.cons r t,s=>.cons r (Vals.append t s)
def Vals.take:∀{xs:List V} {us:List Value} (n:Nat),Vals xs us->Vals (xs.take n) (us.take n)
 |_,_,0,_=>.nil
 |_,_,_+1,.nil=>.nil
 |_,_,n+1,.cons r t=>.cons r (Vals.take n t)
def Vals.drop:∀{xs:List V} {us:List Value} (n:Nat),Vals xs us->Vals (xs.drop n) (us.drop n)
 |_,_,0,r=>r
 |_,_,_+1,.nil=>.nil
 |_,_,n+1,.cons _ t=>Vals.drop n t
def RelO:Option V->Option Value->Prop
 |some v,some u=>RelV v u
 |none,none=>True
 |_,_=>False
def KV{κ:Type}:List (κ×V)->List (κ×Value)->Prop:=Paired λ(p:κ×V) (q:κ×Value)=>p.1=q.1/\RelV p.2 q.2
def kV:Key->V
 | .inl i=>.int i
 | .inr x=>.str x
inductive HO where
 |lst (xs:List V)
 |tup (xs:List V)
 |dK (kvs:List (Key×V))|dT (kvs:List (List Key×V))
 |set (S:Int->Bool) (n:Nat)
 |ins (C dx:Addr) (fs:List (Str×V))
 |own (x:Addr)
 |xd (fs:List (Str×V))
 |met (f x:Addr)
 |rng (lo hi:Int)
 |frz (o:Obj) (u:HO)
 |tbl (ps:Array Value)
 |ext (φ:Heap->Prop)
abbrev Hp:=Addr->Option HO
def upd(H:Hp)(a:Addr)(o:HO):Hp:=λb=>if b=a then some o else H b
def qH:upd H a o a=some o:=by unfold upd;rw[wN rfl]
def qp(h:b≠a):upd H a o b=H b:=by unfold upd;rw[wT h]
def qlh{H:Hp}{a b:Addr}{o u:HO}(h:H a=some o)(h':H b=some u)(d:o≠u):a≠b:=by
 intro e;subst e;rw[h]at h';exact d (Option.some.inj h')
def zE{H:Hp}{a b:Addr}{o:HO}(h:H a=some o)(h':H b=none):a≠b:=by
 intro e;subst e;rw[h]at h';cases h'
def yS(h:Heap)(a:Array Value):∀o,(h.push {cls:=.type "tuple",data:=.seq a}).get? h.objs.size=some o->o.dict=none:=λo q=>by
 rw[wH _ rfl]at q;cases q;rfl
section
variable(P:Program)(w:World)
def ObjOk(H:Hp)(h:Heap)(a:Addr):HO->Prop
 | .lst xs=>xs.length<=sizeLine/\∃(b:List Value) (n:Nat),Vals xs b/\h.get? a=some {cls:=.type "list",data:=.seq b.toArray n}
 | .tup xs=>xs.length<=sizeLine/\∃b:List Value,Vals xs b/\IsTup h a b.toArray/\∀o,h.get? a=some o->o.dict=none
 | .dK kvs=>kvs.length<=sizeLine/\(a == sysModules)=false/\∃vs,KV kvs vs/\h.DictOf (mixKind P w) a vs
 | .dT kvs=>kvs.length<=sizeLine/\(a == sysModules)=false/\∃xs:List (List Key×Addr×Value),
   Paired (λ(p:List Key×V) (q:List Key×Addr×Value)=>p.1=q.1/\H q.2.1=some (.tup (p.1.map kV))/\RelV p.2 q.2.2) kvs xs /\
   ∃o es j,h.get? a=some o/\o.ExactDict/\o.data=.dict es j/\es.toList=xs.map (entryOfKey (tupleKind (mixKind P w)))/\(xs.map (·.1)).Nodup
 | .set S n=>h.SetOf (intKind P w) a S n
 | .ins C dx fs=>H dx=some (.own a)/\fs.length<=1000/\dx≠a/\h.get? a=some (PySem.W.instObj C dx) /\
   ∃mA,h.Ns1 dx mA/\(∀f,RelO (fs.lookup f) (mA f))/\PySem.Within mA (fs.map (·.1))
 | .own _=>∃o,h.get? a=some o
 | .xd fs=>∃mA,h.Ns1 a mA/\∀f,RelO (fs.lookup f) (mA f)
 | .rng lo hi=>∃t u v,h.get? a=some {cls:=.type "range",data:=.fields #[.int lo t,.int hi u,.int 1 v]}
 | .frz o u=>h.get? a=some o/\ObjOk H h a u
 | .tbl ps=>h.get? a=some {cls:=.none,data:=.fields ps}/\TriplesOk ps.toList
 | .met f x=>h.get? a=some (PySem.W.methodObj (.ref f) (.ref x))
 | .ext c=>c h/\(∃o,h.get? a=some o)/\∀d i:Heap,c d->(∀o,d.get? a=some o->i.get? a=some o)->c i
def HOk(H:Hp)(h:Heap):Prop:=∀a o,H a=some o->ObjOk P w H h a o
end
section
variable{P:Program}{w:World}{H H':Hp}{h h':Heap}{a:Addr}{o:HO}
theorem ObjOk.lt(x:ObjOk P w H h a o):a<h.objs.size:=by
 cases o with
 |lst xs=>obtain⟨_,_,_,_,e⟩:=x;exact wG e
 |tup xs=>obtain⟨_,_,_,p,_⟩:=x;exact p.lt
 |dK kvs=>obtain⟨_,_,_,_,o,_,_,e,_⟩:=x;exact wG e
 |dT kvs=>obtain⟨_,_,_,_,o,_,_,e,_⟩:=x;exact wG e
 |set S n=>obtain⟨o,_,_,_,e,_⟩:=x;exact wG e
 |ins C dx fs=>obtain⟨_,_,_,e,_⟩:=x;exact wG e
 |own y=>obtain⟨_,e⟩:=x;exact wG e
 |xd fs=>obtain⟨_,⟨_,_,_,e,_⟩,_⟩:=x;exact wG e
 |rng lo hi=>obtain⟨_,_,_,e⟩:=x;exact wG e
 |frz ob u=>obtain⟨e,_⟩:=x;exact wG e
 |tbl ps=>exact wG (show h.get? a=some _ from x.1)
 |met f y=>exact wG (show h.get? a=some _ from x)
 |ext b=>obtain⟨_,⟨_,e⟩,_⟩:=x;exact wG e
theorem Paired.mapP{i j:Type}{F G:i->j->Prop}:∀{c:List i} {d:List j},Paired F c d->(∀a b,F a b->G a b)->Paired G c d
 |_,_,.nil,_=>.nil
 |_,_,.cons r t,f=>.cons (f _ _ r) (Paired.mapP t f)
theorem ObjOk.stay(x:ObjOk P w H h a o)(k:∀b u,(b=a\/H b=some (.own a))->h.get? b=some u->h'.get? b=some u)(l:∀b,H b=some (.own a)->H' b=some (.own a))(m:∀b xs,H b=some (.tup xs)->H' b=some (.tup xs)):ObjOk P w H' h' a o:=by
 induction o with
 |lst xs=>obtain⟨z,j,n,r,e⟩:=x;exact⟨z,j,n,r,k _ _ (.inl rfl) e⟩
 |tup xs=>obtain⟨z,j,r,⟨ob,e,c⟩,nd⟩:=x;exact⟨z,j,r,⟨ob,k _ _ (.inl rfl) e,c⟩,λo q=>by rw[k _ _ (.inl rfl) e]at q;cases q;exact nd _ e⟩
 |dK kvs=>obtain⟨z,y,vs,r,ob,es,i,e,c⟩:=x;exact⟨z,y,vs,r,ob,es,i,k _ _ (.inl rfl) e,c⟩
 |dT kvs =>
  obtain⟨z,y,xs,r,ob,es,i,e,c⟩:=x;exact⟨z,y,xs,Paired.mapP r λp q z=>⟨z.1,m _ _ z.2.1,z.2.2⟩,ob,es,i,k _ _ (.inl rfl) e,c⟩
 |set S n=>obtain⟨ob,es,i,t,e,c⟩:=x;exact⟨ob,es,i,t,k _ _ (.inl rfl) e,c⟩
 |ins C dx fs =>
  obtain⟨d,z,ne,e,mA,⟨od,es,i,s,c⟩,r⟩:=x;exact⟨l _ d,z,ne,k _ _ (.inl rfl) e,mA,⟨od,es,i,k _ _ (.inr d) s,c⟩,r⟩
 |own y=>obtain⟨ob,e⟩:=x;exact⟨ob,k _ _ (.inl rfl) e⟩
 |xd fs=>obtain⟨mA,⟨od,es,i,e,c⟩,r⟩:=x;exact⟨mA,⟨od,es,i,k _ _ (.inl rfl) e,c⟩,r⟩
 |rng lo hi=>obtain⟨t,u,v,e⟩:=x;exact⟨t,u,v,k _ _ (.inl rfl) e⟩
 |frz ob u A=>obtain⟨e,q⟩:=x;exact⟨k _ _ (.inl rfl) e,A q⟩
 |tbl ps =>
  obtain⟨e,z⟩:=x;exact⟨k a _ (.inl rfl) e,z⟩
 |met f y =>
  have e:h.get? a=some (PySem.W.methodObj (.ref f) (.ref y)):=x;show h'.get? a=some (PySem.W.methodObj (.ref f) (.ref y));exact k a _ (.inl rfl) e
 |ext B=>obtain⟨p,⟨o,e⟩,st⟩:=x;exact⟨st _ _ p λo q=>k _ _ (.inl rfl) q,⟨o,k _ _ (.inl rfl) e⟩,st⟩
theorem HOk.lt(x:HOk P w H h)(e:H a=some o):a<h.objs.size:=(x a o e).lt
theorem HOk.fresh(x:HOk P w H h)(e:h.objs.size<=a):H a=none:=by
 cases q:H a with
 |none=>rfl
 |some u=>exact absurd (wX (x.lt q) e) (wh _)
theorem HOk.kept(x:HOk P w H h)(k:∀b u,h.get? b=some u->h'.get? b=some u):HOk P w H h':=λa o e =>
 (x a o e).stay (λb u _ q=>k b u q) (λ_ q=>q) λ_ _ q=>q
theorem HOk.laid(x:HOk P w H h)(k:∀b u,h.get? b=some u->h'.get? b=some u)(f:h.objs.size<=a)(new:ObjOk P w (upd H a o) h' a o):HOk P w (upd H a o) h':=λb u e=>by
 have hn:=x.fresh f;by_cases d:b=a
 .subst d;rw[qH]at e;cases e;exact new
 .rw [qp d]at e
  exact(x b u e).stay (λc v _ q=>k c v q) (λc q=>by rw[qp (zE q hn)];exact q) λc xs q=>by rw[qp (zE q hn)];exact q
end
def Rd(H:Hp)(a:Addr)(u:HO):Prop:=H a=some u\/∃o,H a=some (.frz o u)
def Rd.ok(r:Rd H a u)(x:HOk P w H h):ObjOk P w H h a u:=by
 rcases r with r|⟨o,r⟩
 .exact x a u r
 .obtain ⟨_,q⟩:=x a _ r
  exact q
def Mut:Option HO->Prop
 |some (.lst _)=>True
 |some (.dK _)=>True
 |some (.dT _)=>True
 |some (.set _ _)=>True
 |some (.ins _ _ _)=>True
 |some (.ext _)=>True
 |_=>False
section
variable{P:Program}{w:World}{H:Hp}{h h':Heap}{x e:Addr}{o':HO}
theorem HOk.write(ok:HOk P w H h)(i:Mut (H x))(n:e=x\/H e=some (.own x))(k:∀b u,b≠e->h.get? b=some u->h'.get? b=some u)(m:∃u,h'.get? e=some u)(new:ObjOk P w (upd H x o') h' x o'):HOk P w (upd H x o') h':=λb u q=>by
 have d:∀c y,H c=some (.own y)->c≠x:=λc y r z=>by subst z;rw[r]at i;exact i
 have f:∀c xs,H c=some (.tup xs)->c≠x:=λc xs r z=>by subst z;rw[r]at i;exact i
 by_cases j:b=x
 .subst j;rw[qH]at q;cases q;exact new
 .rw [qp j]at q
  by_cases a:b=e
  .have o:H b=some (.own x):=by
    rcases n with z|z
    .exact absurd (a.trans z) j
    .rw [a];exact z
   rw[q]at o;cases o;obtain⟨v,p⟩:=m;exact⟨v,by rw[a];exact p⟩
  .refine (ok b u q).stay (λc v l r=>k c v ?_ r) (λc r=>by rw[qp (d c b r)];exact r) λc xs r=>by rw[qp (f c xs r)];exact r
   rcases l with rfl|l
   .exact a
   .rintro rfl
    rcases n with z|z
    .exact d c b l z
    .rw [l]at z;cases z;exact j rfl
end
structure Un (fs ex:List Addr) (H H':Hp) (h h':Heap):Prop where
 keep:∀b o,h.get? b=some o->H b=none->b∉fs->b∉ex->h'.get? b=some o
 slot:∀b o,h.get? b=some o->H b=none->b∈fs->b∉ex->∃sl,h'.get? b=some {o with slots:=sl}
 free:∀b o,h.get? b=some o->H b=none->b∉ex->H' b=none
 there:∀b o,h.get? b=some o->b∉ex->∃o',h'.get? b=some o'
 tups:∀b xs,H b=some (.tup xs)->H' b=some (.tup xs)
 frzs:∀b o u,H b=some (.frz o u)->H' b=some (.frz o u)
 tbls:∀b ps,H b=some (.tbl ps)->∃more,H' b=some (.tbl (ps++more))
section
variable{fs fs' ex ex':List Addr}{H H1 H2:Hp}{h h1 h2 h':Heap}{a x e:Addr}{o:HO}
theorem Un.any(u:Un fs ex H H1 h h1)(q:h.get? b=some ob)(n:H b=none)(c:b∉ex):∃sl,h1.get? b=some {ob with slots:=sl}:=by
 by_cases d:b∈fs
 .exact u.slot b ob q n d c
 .exact ⟨ob.slots,u.keep b ob q n d c⟩
theorem Un.kept(k:∀b u,h.get? b=some u->h'.get? b=some u):Un fs ex H H h h' :=
 ⟨λb ob q _ _ _=>k b ob q,λb ob q _ _ _=>⟨ob.slots,k b ob q⟩,λ_ _ _ n _=>n,λb ob q _=>⟨ob,k b ob q⟩,λ_ _ q=>q,λ_ _ _ q=>q,λ_ ps q=>⟨#[],by rw[q];simp⟩⟩
theorem Un.refl:Un fs ex H H h h:=Un.kept λ_ _ q=>q
theorem Un.laid(k:∀b u,h.get? b=some u->h'.get? b=some u)(c:h.objs.size<=a)(hn:H a=none):Un fs ex H (upd H a o) h h' where
 keep:=λb u q _ _ _=>k b u q
 slot:=λb u q _ _ _=>⟨u.slots,k b u q⟩
 free:=λb u q n _=>by rw[qp (wa (wX (wG q) c))];exact n
 there:=λb u q _=>⟨u,k b u q⟩
 tups:=λb xs q=>by rw[qp (zE q hn)];exact q
 frzs:=λb u xs q=>by rw[qp (zE q hn)];exact q
 tbls:=λb ps q=>⟨#[],by rw[qp (zE q hn),q];simp⟩
theorem Un.write(d:Mut (H x))(l:e=x\/H e=some (.own x))(k:∀b u,b≠e->h.get? b=some u->h'.get? b=some u)(f:∃u,h'.get? e=some u):Un fs ex H (upd H x o) h h':=by
 have i:∀b,H b=none->b≠x:=λb n z=>by subst z;rw[n]at d;exact d
 have j:∀b,H b=none->b≠e:=λb n z=>by
  subst z;rcases l with r|r
  .exact i b n r
  .rw [n]at r;cases r
 have hm:∀b u,H b=some u->¬Mut (some u)->b≠x:=λb u q nm z=>by subst z;rw[q]at d;exact nm d
 refine⟨λb u q n _ _=>k b u (j b n) q,λb u q n _ _=>⟨u.slots,k b u (j b n) q⟩,λb u q n _=>by rw[qp (i b n)];exact n,λb u q _=>?_,
  λb xs q=>by rw[qp (hm b _ q λz=>z)];exact q,λb u xs q=>by rw[qp (hm b _ q λz=>z)];exact q,λb ps q=>⟨#[],by rw[qp (hm b _ q λz=>z),q];simp⟩⟩
 by_cases c:b=e
 .subst c;exact f
 .exact ⟨u,k b u c q⟩
end
structure GK (g g':Array GenState):Prop where
 bare:AllBare g'
 sz:g.size<=g'.size
 old:∀i,i<g.size->g'[i]?=g[i]?
def GK.refl(b:AllBare g):GK g g:=⟨b,wJ _,λ_ _=>rfl⟩
def GK.self(x:GK g g'):GK g' g':=GK.refl x.bare
def GK.trans(a:GK g c)(b:GK c d):GK g d:=⟨b.bare,vA a.sz b.sz,λi hi=>(b.old i (wX hi a.sz)).trans (a.old i hi)⟩
def sameName(vs:Array Value):Bool:=match(vs[0]?:Option Value),(vs[1]?:Option Value)with
 |some (.str a _),some (.str b _)=>a == b
 |_,_=>false
def codeTab(K:PySem.W.Frag)(c T:Addr):Bool:=match K.lookup c with
 |some ⟨cls,_,.fields vs,_⟩=>(cls == .type "code"&&sameName vs)&&(match(vs.getD 11 Value.none:Value),(vs[11]?:Option Value),(vs.getD 18 Value.none:Value),(vs.getD 7 Value.none:Value),(vs.getD 9 Value.none:Value),(vs.getD 10 Value.none:Value)with
  | .ref a,some (.ref b),.str _ _,.int _ _,.bool _,.int _ _=>a == T&&b == T&&c != T
  |_,_,_,_,_,_=>false)
 |_=>false
def trk(h:Heap)(H:Hp):List Addr:=(List.range h.objs.size).filter λa=>(H a).isSome
def hidT(h:Heap)(H:Hp):Heap:=PySem.W.hideAll h (trk h H)
def qeC(h:Heap)(H:Hp):(hidT h H).objs.size=h.objs.size:=PySem.W.hideAll_size _ _
def qfk{h:Heap}(e:h.get? b=some o)(n:H b=none):(hidT h H).get? b=some o :=
 PySem.W.hideAll_get _ e λhm=>by
  have q:(H b).isSome=true:=(List.mem_filter.mp hm).2;rw[n]at q;simp at q
def qhD(e:(hidT h H).get? b=some o):h.get? b=some o/\H b=none:=by
 have e':h.get? b=some o:=PySem.W.of_hideAll (trk h H) e;refine⟨e',?_⟩;cases q:H b with
 |none=>rfl
 |some x =>
  have hm:b∈trk h H:=List.mem_filter.mpr ⟨vu.mpr (wG e'),by simp[q]⟩;have z:(hidT h H).get? b=none:=PySem.W.hideAll_none (trk h H) hm;rw[z]at e;cases e
def allNews(g h:Heap)(L:Addr):List (Addr×Obj):=(List.range h.objs.size).filterMap λa=>if a=L\/(g.get? a).isSome=true then none else(h.get? a).map λo=>(a,o)
def rest(g h:Heap)(L d:Addr):List (Addr×Obj):=(allNews g h L).filter λp=>decide (p.1≠d)
structure Mod (K:PySem.W.Frag) (mg:Str->Option Value) (base:Heap):Prop where
 kin:K.In base
 glob:base.Ns mainGlobals mg
 blt:∃mb,base.Ns builtinsNs mb/\∀x:Str,x≠"__name__"->mb x=bootBuiltins x
 nolimit:base.NoLimit
 bmod:∃bm ob,mg "__builtins__"=some (.ref bm)/\bm≠builtinsNs/\base.get? bm=some ob/\ob.cls=.type "module"/\ob.dict=some builtinsNs/\ob.data=.plain
structure Cx where
 prog:Program
 w:World
 K:PySem.W.Frag
 mg:Str->Option Value
 base:Heap
 A:Around
 N:List Str
 s₀:Shared
 H₀:Hp
 env:Env
 outer:List Env
 stack:List Env
 ex:List Addr
 fn:Str->Bool
 calm:Bool
 pn:List (Addr×Obj)
 xe:Value->Shared->Prop
def frs(l:List Env):List Addr:=l.filterMap (·.frame)
abbrev Cx.fs(X:Cx):List Addr:=frs X.outer
def Vis(sc:Scope)(x:Str):Prop:=sc.names.lookup x=some .local\/sc.names.lookup x=some .cell\/sc.names.lookup x=some .free
def Loc(sc:Scope)(x:Str):Prop:=sc.names.lookup x=some .local\/sc.names.lookup x=some .cell
def Look(env:Env)(h:Heap)(m:Str->Option Value)(x:Str)(u:Value):Prop :=
 (env.kindOf x=some .local/\m x=some u)\/((env.kindOf x=some .cell\/env.kindOf x=some .free)/\∃c,env.cells.lookup x=some c/\h.IsCell c (some u))
structure Cx.Ok (X:Cx):Prop where
 mod:Mod X.K X.mg X.base
 kind:X.env.scope.kind=.function
 glob:X.env.globals=mainGlobals
 blt:X.env.builtins=builtinsNs
 above:X.s₀.heap.objs.size<=X.env.locals
 inj:∀x y c,X.env.cells.lookup x=some c->X.env.cells.lookup y=some c->x=y
 has:∀x,(X.env.kindOf x=some .cell\/X.env.kindOf x=some .free)->∃c,X.env.cells.lookup x=some c
 cab:∀x c,X.fn x=true->X.env.cells.lookup x=some c->X.s₀.heap.objs.size<=c
 hd:X.calm=true->X.A.handled=none
 frames:X.A.frames=some X.stack
 stk:X.stack=X.outer\/(X.stack=X.env::X.outer/\X.env.frame=some X.env.locals)
 exf:∀b∈X.ex,b≠X.env.locals/\∀x c,X.env.cells.lookup x=some c->c≠b
 bs:∀b o,X.base.get? b=some o->X.s₀.heap.get? b=some o/\X.H₀ b=none
 bsz:X.base.objs.size<=X.s₀.heap.objs.size
 noex:∀b o,X.base.get? b=some o->b∉X.ex
 exfs:∀b∈X.ex,b∉X.fs
 funs:X.s₀.heap.FunFrames X.base X.outer
 frf:∀b∈X.fs,X.H₀ b=none
 tab:∀c T,codeTab X.K c T=true->∃ps,X.H₀ T=some (.tbl ps)
structure Inv (X:Cx) (pins:List (Addr×Obj)) (σ:List (Option V)) (H:Hp) (s:Shared):Prop where
 ok:X.Ok
 os:s.os=X.s₀.os
 bare:GK X.s₀.gens s.gens
 base:Un X.fs X.ex X.H₀ H X.s₀.heap s.heap
 loc:∃m,s.heap.Ns X.env.locals m/\∀(i:Nat) (x:Str) (v:V),X.N[i]?=some x->σ[i]?=some (some v)->Vis X.env.scope x->∃u,RelV v u/\Look X.env s.heap m x u
 cell:∀x c,X.env.cells.lookup x=some c->∃v,s.heap.IsCell c v
 free:H X.env.locals=none
 freeC:∀x c,X.env.cells.lookup x=some c->H c=none
 pin:∀p∈X.pn++pins,s.heap.get? p.1=some p.2/\H p.1=none/\p.1≠X.env.locals/\p.1∉X.fs/\∀v,p.2.data≠.cell v
 hok:HOk X.prog X.w H s.heap
 len:σ.length=X.N.length
section
variable{X:Cx}{pins:List (Addr×Obj)}{σ:List (Option V)}{H H':Hp}{s:Shared}{h':Heap}
theorem Cx.Ok.nofr(ok:X.Ok)(e:X.base.get? b=some o):b∉X.fs:=λa=>by
 have:=(ok.funs.mem a).1;rw[e]at this;cases this
theorem Inv.bs(I:Inv X pins σ H s):∀b o,X.base.get? b=some o->s.heap.get? b=some o/\H b=none:=λb o e =>
 ⟨I.base.keep b o (I.ok.bs b o e).1 (I.ok.bs b o e).2 (I.ok.nofr e) (I.ok.noex b o e),I.base.free b o (I.ok.bs b o e).1 (I.ok.bs b o e).2 (I.ok.noex b o e)⟩
theorem Inv.bk(I:Inv X pins σ H s):∀b o,X.base.get? b=some o->s.heap.get? b=some o:=λb o e=>(I.bs b o e).1
theorem Inv.mod(I:Inv X pins σ H s):Mod X.K X.mg X.base:=I.ok.mod
theorem Inv.kIn(I:Inv X pins σ H s):X.K.In s.heap:=I.ok.mod.kin.keeps I.bk
theorem Inv.nolimit(I:Inv X pins σ H s):s.heap.NoLimit:=I.ok.mod.nolimit.keeps I.bk
theorem Inv.lt(I:Inv X pins σ H s):X.env.locals<s.heap.objs.size:=let ⟨_,hn,_⟩:=I.loc;hn.lt
theorem Inv.sz(I:Inv X pins σ H s):X.s₀.heap.objs.size<=s.heap.objs.size:=vA I.ok.above (Nat.le_of_lt I.lt)
theorem Inv.nofs(I:Inv X pins σ H s)(h:s.heap.objs.size<=a):a∉X.fs:=λb=>by
 obtain⟨_,o,c,_⟩:=I.ok.funs.mem b;exact absurd (wX (wG c) (vA I.sz h)) (wh _)
theorem Inv.cne(I:Inv X pins σ H s):∀x c,X.env.cells.lookup x=some c->c≠X.env.locals:=λx c e z=>by
 obtain⟨v,o,d,hd⟩:=I.cell x c e;obtain⟨m,⟨o',es,f,a,b,_⟩,_⟩:=I.loc;rw[z,a]at d;cases d;rw[b]at hd;cases hd
theorem Inv.funs(I:Inv X pins σ H s):s.heap.FunFrames X.base X.outer:=by
 have all:∀(l:List Env),(∀b∈frs l,b∈X.fs)->X.s₀.heap.FunFrames X.base l->s.heap.FunFrames X.base l:=by
  intro l;induction l with
  |nil=>intro _ _;trivial
  |cons env r h =>
   intro f i;obtain⟨j,⟨L,o,a,hn,m,hd⟩,n⟩:=i;have c:L∈X.fs:=f L (by unfold frs;rw[vn,a];exact wQ);obtain⟨sl,e⟩:=I.base.slot L o m (I.ok.frf L c) c λz=>I.ok.exfs L z c
   exact⟨j,⟨L,_,a,hn,e,hd⟩,h (λb d=>f b (by unfold frs;rw[vn,a];exact wO _ d)) n⟩
 exact all X.outer (λ_ d=>d) I.ok.funs
theorem Inv.stack(I:Inv X pins σ H s):s.heap.FunFrames X.base X.stack:=by
 rcases I.ok.stk with e|⟨e,hf⟩
 .rw [e];exact I.funs
 .rw [e]
  obtain⟨m,hn,_⟩:=I.loc;refine .cons (by rw[I.ok.kind];decide) hf hn ?_ I.funs;exact Heap.get?_none_of_le (vA I.ok.bsz I.ok.above)
theorem Inv.stkSub(I:Inv X pins σ H s):∀b∈frs X.stack,b∈X.env.locals::X.fs:=λb a=>by
 rcases I.ok.stk with e|⟨e,hf⟩
 .rw [e]at a;exact wO _ a
 .rw [e]at a
  unfold frs at a;rw[vn,hf]at a;exact a
theorem Inv.stkFree(I:Inv X pins σ H s):∀b∈frs X.stack,H b=none:=λb a=>by
 rcases wR.mp (I.stkSub b a)with e|a
 .rw [e];exact I.free
 .obtain ⟨_,o,c,_⟩:=I.ok.funs.mem a
  exact I.base.free b o c (I.ok.frf b a) λz=>I.ok.exfs b z a
theorem Inv.step{t':Nat}{d':Drawn}{ch:List Addr}(I:Inv X pins σ H s)(f:∀b∈ch,(b∈X.ex\/X.s₀.heap.objs.size<=b)/\b≠X.env.locals/\(∀x c,X.env.cells.lookup x=some c->c≠b)/\∀p∈X.pn++pins,p.1≠b)(keep:∀b o,b≠X.env.locals->b∉X.fs->b∉ch->s.heap.get? b=some o->H b=none->h'.get? b=some o)(slot:∀b o,b≠X.env.locals->b∈X.fs->b∉ch->s.heap.get? b=some o->H b=none->∃sl,h'.get? b=some {o with slots:=sl})(free:∀b o,b∉ch->s.heap.get? b=some o->H b=none->H' b=none)(there:∀b o,b∉ch->s.heap.get? b=some o->∃o',h'.get? b=some o')(tups:∀b xs,H b=some (.tup xs)->H' b=some (.tup xs))(frzs:∀b o u,H b=some (.frz o u)->H' b=some (.frz o u))(tbls:∀b ps,H b=some (.tbl ps)->∃more,H' b=some (.tbl (ps++more)))(ns:∀m,s.heap.Ns X.env.locals m->h'.Ns X.env.locals m)(hok:HOk X.prog X.w H' h')(M:GK s.gens g'):
  Inv X pins σ H' {s with heap:=h',gens:=g',drawn:=d',toks:=t' }:=by
 have C:∀b o,X.s₀.heap.get? b=some o->b≠X.env.locals:=λb o e=>wa (wX (wG e) I.ok.above)
 have y:∀b o,X.s₀.heap.get? b=some o->b∉X.ex->b∉ch:=λb o e a A=>by
  rcases(f b A).1 with z|z
  .exact a z
  .exact absurd (wX (wG e) z) (wh _)
 have h:∀x c,X.env.cells.lookup x=some c->∀v,s.heap.IsCell c v->h'.IsCell c v:=λx c e v ⟨o,B,hd⟩=>by
  have j:c∉ch:=λz=>(f c z).2.2.1 x c e rfl
  by_cases J:c∈X.fs
  .obtain ⟨sl,q⟩:=slot c o (I.cne x c e) J j B (I.freeC x c e)
   exact⟨_,q,hd⟩
  .exact ⟨o,keep c o (I.cne x c e) J j B (I.freeC x c e),hd⟩
 refine⟨I.ok,I.os,I.bare.trans M,⟨λb o e n A a=>?_,λb o e n A a=>?_,λb o e n a=>?_,λb o e a=>?_,λb xs e=>tups b xs (I.base.tups b xs e),λb o xs e=>frzs b o xs (I.base.frzs b o xs e),λb ps e=>?_⟩,?_,λx c e=>?_,?_,λx c e=>?_,λp K=>?_,hok,I.len⟩
 .exact keep b o (C b o e) A (y b o e a) (I.base.keep b o e n A a) (I.base.free b o e n a)
 .obtain ⟨sl,e1⟩:=I.base.slot b o e n A a
  obtain⟨F,E⟩:=slot b _ (C b o e) A (y b o e a) e1 (I.base.free b o e n a);exact⟨F,E⟩
 .obtain ⟨o',e1⟩:=I.base.there b o e a
  exact free b o' (y b o e a) e1 (I.base.free b o e n a)
 .obtain ⟨o',e1⟩:=I.base.there b o e a
  exact there b o' (y b o e a) e1
 .obtain ⟨m1,e1⟩:=I.base.tbls b ps e
  obtain⟨m2,E⟩:=tbls b _ e1;exact⟨m1++m2,by rw[E,Array.append_assoc]⟩
 .obtain ⟨m,hn,N⟩:=I.loc
  refine⟨m,ns m hn,λi x v e1 E O=>?_⟩;obtain⟨u,r,l⟩:=N i x v e1 E O;refine⟨u,r,?_⟩;rcases l with l|⟨k,c,e,z⟩
  .exact .inl l
  .exact .inr ⟨k,c,e,h x c e _ z⟩
 .obtain ⟨v,z⟩:=I.cell x c e
  exact⟨v,h x c e v z⟩
 .obtain ⟨m,⟨o,_,_,B,_⟩,_⟩:=I.loc
  exact free _ o (λz=>(f _ z).2.1 rfl) B I.free
 .obtain ⟨v,o,B,hd⟩:=I.cell x c e
  exact free c o (λz=>(f c z).2.2.1 x c e rfl) B (I.freeC x c e)
 .obtain ⟨e,n,ne,L,d⟩:=I.pin p K
  have j:p.1∉ch:=λz=>(f p.1 z).2.2.2 p K rfl
  exact⟨keep p.1 p.2 ne L j e n,free p.1 p.2 j e n,ne,L,d⟩
theorem Inv.un{t':Nat}(I:Inv X pins σ H s)(u:Un X.fs [] H H' s.heap h')(hok:HOk X.prog X.w H' h'):Inv X pins σ H' {s with heap:=h',toks:=t' }:=by
 obtain⟨m,⟨o,es,l,h,r⟩,_⟩:=id I.loc;obtain⟨sl,i⟩:=u.any h I.free (by simp);exact I.step (g':=s.gens) (d':=s.drawn) (ch:=[]) (λ_ z=>nomatch z) (λb o _ c _ e n=>u.keep b o e n c (by simp)) (λb o _ c _ e n=>u.slot b o e n c (by simp)) (λb o _ e n=>u.free b o e n (by simp)) (λb o _ e=>u.there b o e (by simp)) u.tups u.frzs u.tbls (λp hm=>by
  obtain⟨o',d,f,a,j⟩:=hm;rw[h]at a;cases a;exact⟨_,d,f,i,j⟩) hok I.bare.self
theorem Inv.call{t':Nat}{d':Drawn}(I:Inv X pins σ H s)(u:Un (frs X.stack) ch H H' s.heap h')(hok:HOk X.prog X.w H' h')(q:GK s.gens g')(d:∀b∈ch,(b∈X.ex\/X.s₀.heap.objs.size<=b)/\b≠X.env.locals/\(∀x c,X.env.cells.lookup x=some c->c≠b)/\∀p∈X.pn++pins,p.1≠b):
  Inv X pins σ H' {s with heap:=h',gens:=g',drawn:=d',toks:=t' }:=by
 obtain⟨m,⟨o,es,A,l,r⟩,_⟩:=id I.loc;obtain⟨sl,h⟩:=u.any l I.free λz=>(d _ z).2.1 rfl
 exact I.step (ch:=ch) d (λb o h v a e n=>u.keep b o e n (λz=>(wR.mp (I.stkSub b z)).elim h v) a) (λb o _ _ a e n=>u.any e n a) (λb o a e n=>u.free b o e n a) (λb o a e=>u.there b o e a) u.tups u.frzs u.tbls (λB hm=>by
  obtain⟨o',i,j,f,y⟩:=hm;rw[l]at f;cases f;exact⟨_,i,j,h,y⟩) hok q
theorem Inv.turned{t':Nat}(I:Inv X pins σ H s)(k:∀b o,b≠it->s.heap.get? b=some o->h'.get? b=some o)(hn:H it=none)(f:it≠X.env.locals)(h:it∈X.ex\/X.s₀.heap.objs.size<=it)(i:∀x c,X.env.cells.lookup x=some c->c≠it)(j:∀p∈X.pn++pins,p.1≠it):Inv X pins σ H {s with heap:=h',toks:=t' }:=by
 have d:∀b u,H b=some u->b≠it:=λb u e z=>by rw[z,hn]at e;cases e
 refine I.step (g':=s.gens) (d':=s.drawn) (ch:=[it]) (λb l=>?_) (λb o _ _ a e _=>k b o (λz=>a (by simp[z])) e) (λb o _ _ a e _=>⟨o.slots,k b o (λz=>a (by simp[z])) e⟩) (λ_ _ _ _ n=>n)
  (λb o a e=>⟨o,k b o (λz=>a (by simp[z])) e⟩) (λ_ _ e=>e) (λ_ _ _ e=>e) (λb ps e=>⟨#[],by rw[e];simp⟩) (λm hm=>?_) (λb u e=>?_) I.bare.self
 .have e:b=it:=by simpa using l
  subst e;exact⟨h,f,i,j⟩
 .obtain ⟨o,es,w,y,r⟩:=hm
  exact⟨o,es,w,k _ o (Ne.symm f) y,r⟩
 .refine (I.hok b u e).stay (λc v a q=>k c v ?_ q) (λ_ q=>q) λ_ _ q=>q
  rcases a with z|z
  .rw [z];exact d b u e
  .exact d c _ z
theorem Inv.tok(I:Inv X pins σ H s)(t:Nat):Inv X pins σ H {s with toks:=t}:=I.un (h':=s.heap) (t':=t) Un.refl I.hok
theorem Inv.kept{t':Nat}(I:Inv X pins σ H s)(k:∀b u,s.heap.get? b=some u->h'.get? b=some u):Inv X pins σ H {s with heap:=h',toks:=t' }:=I.un (Un.kept k) (I.hok.kept k)
theorem Inv.laid{t':Nat}(I:Inv X pins σ H s)(k:∀b u,s.heap.get? b=some u->h'.get? b=some u)(c:s.heap.objs.size<=a)(new:ObjOk X.prog X.w (upd H a o) h' a o):
  Inv X pins σ (upd H a o) {s with heap:=h',toks:=t' }:=I.un (Un.laid k c (I.hok.fresh c)) (I.hok.laid k c new)
theorem Inv.write{t':Nat}(I:Inv X pins σ H s)(c:Mut (H x))(d:e=x\/H e=some (.own x))(k:∀b u,b≠e->s.heap.get? b=some u->h'.get? b=some u)(a:∃u,h'.get? e=some u)(new:ObjOk X.prog X.w (upd H x o) h' x o):Inv X pins σ (upd H x o) {s with heap:=h',toks:=t' }:=I.un (Un.write c d k a) (I.hok.write c d k a new)
theorem Inv.pins_of{a:List (Addr×Obj)}(I:Inv X pins σ H s)(h:∀p∈a,s.heap.get? p.1=some p.2/\H p.1=none/\p.1≠X.env.locals/\p.1∉X.fs/\∀v,p.2.data≠.cell v):Inv X a σ H s :=
 ⟨I.ok,I.os,I.bare,I.base,I.loc,I.cell,I.free,I.freeC,λp b=>(wb.mp b).elim (λz=>I.pin p (ws _ z)) (h p),I.hok,I.len⟩
theorem j5{N:List Str}(c:N.Nodup){i j:Nat}(a:N[i]?=some x)(b:N[j]?=some x):i=j:=by
 obtain⟨f,e1⟩:=wF.mp a;obtain⟨h,d⟩:=wF.mp b;exact(xE c).mp (e1.trans d.symm)
theorem jB{i:Nat}(I:Inv X pins σ H s)(hN:X.N.Nodup)(hi:X.N[i]?=some x)(C:Loc X.env.scope x)(r:RelV v u)(h:∀s',Inv X pins (σ.set i (some v)) H s'->(∃a,Heap.SameBut a s.heap s'.heap/\(a=X.env.locals\/X.env.cells.lookup x=some a))->Q () s')(hf:X.fn x=true\/X.env.scope.names.lookup x=some .local:=by first|exact .inl rfl|exact .inr rfl|assumption):wpAny M A (storeName X.env x u) Q E s:=by
 obtain⟨m,hn,hl⟩:=id I.loc;have U:(X.env.scope.kind == .class || (X.env.scope.kind == .module&&X.env.locals != X.env.globals))=false:=by rw[I.ok.kind];rfl
 have K:i<σ.length:=by rw[I.len];exact(wF.mp hi).1
 have cne:=I.cne;have l:∀{a:Addr} {h':Heap},(∃o,s.heap.get? a=some o/\H a=none)->Heap.SameBut a s.heap h'->HOk X.prog X.w H h':=λ{a h'} ha f b ob e=>by
  obtain⟨_,_,F⟩:=ha;refine(I.hok b ob e).stay (λc w' B q=>(f.2 c ?_).trans q) (λ_ q=>q) λ_ _ q=>q
  rintro rfl;rcases B with rfl|B
  .rw [F]at e;cases e
  .rw [F]at B;cases B
 rcases C with L|L
 .refine wpAny_storeName_local L hn (λh' a1 f=>?_) U
  obtain⟨oL,_,_,a2,_⟩:=id hn;refine h _ ⟨I.ok,I.os,I.bare,⟨λb o e n O C=>?_,λb o e n O C=>?_,I.base.free,λb o e C=>?_,I.base.tups,I.base.frzs,I.base.tbls⟩,⟨_,a1,λj y v' e1 J e3=>?_⟩,λy c e=>?_,I.free,I.freeC,λp hp=>?_,l ⟨oL,a2,I.free⟩ f,by simpa using I.len⟩ ⟨_,f,.inl rfl⟩
  .exact (f.2 b (wa (wX (wG e) I.ok.above))).trans (I.base.keep b o e n O C)
  .obtain ⟨sl,e1⟩:=I.base.slot b o e n O C
   exact⟨sl,(f.2 b (wa (wX (wG e) I.ok.above))).trans e1⟩
  .obtain ⟨o',e1⟩:=I.base.there b o e C
   exact⟨o',(f.2 b (wa (wX (wG e) I.ok.above))).trans e1⟩
  .by_cases P:j=i
   .subst P
    rw[hi]at e1;cases e1;rw[vS K]at J;cases J;exact⟨u,r,.inl ⟨L,by simp⟩⟩
   .rw [vj (Ne.symm P)]at J
    obtain⟨u',r',q⟩:=hl j y v' e1 J e3;refine⟨u',r',?_⟩;rcases q with ⟨k,e⟩|⟨k,c,e,z⟩
    .refine .inl ⟨k,?_⟩
     have:y≠x:=λe=>P (j5 hN e1 (e ▸ hi))
     simp[this,e]
    .exact .inr ⟨k,c,e,z.sameBut f (cne y c e)⟩
  .obtain ⟨w',z⟩:=I.cell y c e
   exact⟨w',z.sameBut f (cne y c e)⟩
  .obtain ⟨e,n,ne,nf,d⟩:=I.pin p hp
   exact⟨(f.2 p.1 ne).trans e,n,ne,nf,d⟩
 .have S:X.fn x=true:=by
   rcases hf with z|z
   .exact z
   .rw [z]at L;cases L
  obtain⟨c,B⟩:=I.ok.has x (.inl L);obtain⟨w',z⟩:=I.cell x c B;refine wpAny_storeName_cell I.ok.kind L B z (λh' W f=>?_);obtain⟨oc,Y,Z⟩:=id z;refine h {s with heap:=h' } ⟨I.ok,I.os,I.bare,⟨λb o e n O C=>?_,λb o e n O C=>?_,I.base.free,λb o e C=>?_,I.base.tups,I.base.frzs,I.base.tbls⟩,⟨m,hn.sameBut f (Ne.symm (cne x c B)),λj y v' e1 J e3=>?_⟩,λy c' e=>?_,I.free,I.freeC,λp hp=>?_,l ⟨oc,Y,I.freeC x c B⟩ f,by simpa using I.len⟩ ⟨c,f,.inr B⟩
  .exact (f.2 b (wa (wX (wG e) (I.ok.cab x c S B)))).trans (I.base.keep b o e n O C)
  .obtain ⟨sl,e1⟩:=I.base.slot b o e n O C
   exact⟨sl,(f.2 b (wa (wX (wG e) (I.ok.cab x c S B)))).trans e1⟩
  .obtain ⟨o',e1⟩:=I.base.there b o e C
   exact⟨o',(f.2 b (wa (wX (wG e) (I.ok.cab x c S B)))).trans e1⟩
  .by_cases P:j=i
   .subst P
    rw[hi]at e1;cases e1;rw[vS K]at J;cases J;exact⟨u,r,.inr ⟨.inl L,c,B,W⟩⟩
   .rw [vj (Ne.symm P)]at J
    obtain⟨u',r',q⟩:=hl j y v' e1 J e3;refine⟨u',r',?_⟩;rcases q with q|⟨k,c',e,z'⟩
    .exact .inl q
    .refine .inr ⟨k,c',e,z'.sameBut f ?_⟩
     rintro rfl;exact P (j5 hN e1 (I.ok.inj _ _ _ e B ▸ hi))
  .by_cases a0:c'=c
   .subst a0;exact⟨_,W⟩
   .obtain ⟨w2,z2⟩:=I.cell y c' e
    exact⟨w2,z2.sameBut f a0⟩
  .obtain ⟨e,n,ne,nf,d⟩:=I.pin p hp
   refine⟨(f.2 p.1 ?_).trans e,n,ne,nf,d⟩;intro q;rw[q,Y]at e;have q':oc=p.2:=Option.some.inj e;exact d w' (by rw[<-q'];exact Z)
theorem yA{i:Nat}(I:Inv X pins σ H s)(a:X.N.Nodup)(hi:X.N[i]?=some x)(b:Loc X.env.scope x)(r:RelV v u)(h:∀s',Inv X pins (σ.set i (some v)) H s'->Q () s')(c:X.fn x=true\/X.env.scope.names.lookup x=some .local:=by first|exact .inl rfl|exact .inr rfl|assumption):wpAny M A (storeName X.env x u) Q E s :=
 jB I a hi b r (λs' d _=>h s' d) c
theorem Inv.call'{s':Shared}(I:Inv X pins σ H s)(d:s'.os=s.os)(u:Un (frs X.stack) ch H H' s.heap s'.heap)(hok:HOk X.prog X.w H' s'.heap)(f:GK s.gens s'.gens)(a:∀b∈ch,(b∈X.ex\/X.s₀.heap.objs.size<=b)/\b≠X.env.locals/\(∀x c,X.env.cells.lookup x=some c->c≠b)/\∀p∈X.pn++pins,p.1≠b):Inv X pins σ H' s':=by
 obtain⟨h',g',d',t',o'⟩:=s';have e:o'=s.os:=d;subst e;exact I.call (g':=g') (t':=t') (d':=d') u hok f a
end
abbrev XK:=Value->Option Addr->Hp->Prop
abbrev St:=List (Option V)
abbrev VK:=V->Hp->Prop
abbrev TE:=St->Hp->VK->Prop
abbrev TT:=St->Hp->(Bool->Hp->Prop)->Prop
abbrev TA:=St->Hp->(List V->Hp->Prop)->Prop
structure Ends where
 nx:St->Hp->Prop
 rt:VK
 bk:St->Hp->Prop:=λ_ _=>False
 ct:St->Hp->Prop:=λ_ _=>False
abbrev TS:=Ends->St->Hp->Prop
def EP(X:Cx)(pins:List (Addr×Obj))(a:St)(Q:VK)(u:Value)(s':Shared):Prop:=∃v H',Inv X pins a H' s'/\RelV v u/\Q v H'
def TP(X:Cx)(pins:List (Addr×Obj))(a:St)(Q:Bool->Hp->Prop)(b:Bool)(s':Shared):Prop:=∃H',Inv X pins a H' s'/\Q b H'
def AP(X:Cx)(pins:List (Addr×Obj))(a:St)(Q:List V->Hp->Prop)(us:List Value)(s':Shared):Prop:=∃vs H',Inv X pins a H' s'/\Vals vs us/\Q vs H'
def SP(X:Cx)(pins:List (Addr×Obj))(D:Ends)(f:Flow)(s':Shared):Prop :=
 match f with
 | .next=>∃a H',Inv X pins a H' s'/\D.nx a H'
 | .brk=>∃a H',Inv X pins a H' s'/\D.bk a H'
 | .cont=>∃a H',Inv X pins a H' s'/\D.ct a H'
 | .ret u=>∃v a H',Inv X pins a H' s'/\RelV v u/\D.rt v H'
def PE(X:Cx)(e:Expr)(t:TE):Prop :=
 ∀(pins:List (Addr×Obj)) (s:Shared) (a:St) (H:Hp) (Q:VK),Inv X pins a H s->t a H Q->wpAny (model X.prog X.w) X.A (eval e X.env) (EP X pins a Q) X.xe s
def PT(X:Cx)(e:Expr)(t:TT):Prop :=
 ∀(pins:List (Addr×Obj)) (s:Shared) (a:St) (H:Hp) (Q:Bool->Hp->Prop),Inv X pins a H s->t a H Q->wpAny (model X.prog X.w) X.A (isTrue e X.env (eval e X.env)) (TP X pins a Q) X.xe s
def PW(X:Cx)(e:Expr)(t:TT):Prop :=
 ∀(a:Sem Value) (pins:List (Addr×Obj)) (s:Shared) (b:St) (H:Hp) (Q:Bool->Hp->Prop),Inv X pins b H s->t b H Q->wpAny (model X.prog X.w) X.A (isTrue e X.env a) (TP X pins b Q) X.xe s
def PW.pt(h:PW X e t):PT X e t:=h _
def PA(X:Cx)(es:List Expr)(t:TA):Prop :=
 ∀(pos:Pos) (pins:List (Addr×Obj)) (s:Shared) (a:St) (H:Hp) (Q:List V->Hp->Prop),Inv X pins a H s->t a H Q->wpAny (model X.prog X.w) X.A (spliced (backTo pos (starEach es X.env))) (AP X pins a Q) X.xe s
def PS(X:Cx)(st:Stmt)(t:TS):Prop :=
 ∀(pins:List (Addr×Obj)) (s:Shared) (a:St) (H:Hp) (D:Ends),Inv X pins a H s->t D a H->wpAny (model X.prog X.w) X.A (exec st X.env) (SP X pins D) X.xe s
def PSs(X:Cx)(st:List Stmt)(t:TS):Prop :=
 ∀(pins:List (Addr×Obj)) (s:Shared) (a:St) (H:Hp) (D:Ends),Inv X pins a H s->t D a H->wpAny (model X.prog X.w) X.A (execs st X.env) (SP X pins D) X.xe s
def thn(h:wpAny M A t Q E s)(c:∀a s,Q a s->Q' a s):wpAny M A t Q' E s:=wo h c λ_ _ x=>x
section
variable{X:Cx}
theorem bin{a b:Expr}{l m:TE}(ha:PE X a l)(o:PE X b m){pins:List (Addr×Obj)}{s:Shared}{c:St}{H:Hp}{R:V->V->Hp->Prop}(I:Inv X pins c H s)(h:l c H λx j=>m c j λy H2=>R x y H2){n:Type}{Q:n->Shared->Prop}{f:Value->Value->Sem n}(p:∀v u s2 x y H2,Inv X pins c H2 s2->RelV x v->RelV y u->R x y H2->wpAny (model X.prog X.w) X.A (f v u) Q X.xe s2):
  wpAny (model X.prog X.w) X.A (eval a X.env) (λv d=>wpAny (model X.prog X.w) X.A (eval b X.env) (λu i=>wpAny (model X.prog X.w) X.A (f v u) Q X.xe i) X.xe d) X.xe s:=by
 refine thn (ha pins s c H _ I h) λv s1 ⟨x,j,q,r,q1⟩=>?_
 refine thn (o pins s1 c j _ q q1) λu s2 ⟨y,H2,B,C,q2⟩=>?_
 exact p v u s2 x y H2 B r C q2
def tVar(i:Nat):TE:=λa H Q=>∃v,a[i]?=some (some v)/\Q v H
def tC(v:V):TE:=λ_ H Q=>Q v H
abbrev _root_.sE(X:Cx)(e:Expr)(es:List Expr):Prop:=starEach (e::es) X.env=(false,eval e X.env)::starEach es X.env
abbrev _root_.bT(X:Cx)(es:List Expr)(pos:Pos):Prop:=(backTo pos (starEach es X.env)).any (·.1)=false
abbrev _root_.dB(x:Str):Prop:=(x == ("__debug__":Str))=false
theorem qjv{i:Nat}(d:X.N[i]?=some x)(f:Vis X.env.scope x)(hd:dB x:=by decide)(b:(x == ("__classdict__":Str))=false:=by decide):PE X (.Name x pos) (tVar i):=by
 intro pins s j H Q I h;obtain⟨v,e,h⟩:=h;obtain⟨m,hn,n⟩:=I.loc;obtain⟨u,r,l⟩:=n i x v d e f;have fin:EP X pins j Q u s:=⟨v,H,I,r,h⟩;rcases l with ⟨a,hm⟩|⟨a,c,hc,hcell⟩
 .exact wpAny_Name (wpAny_loadName_local I.ok.kind a hn hm fin) hd
 .rcases a with a|a
  .exact wpAny_Name (wpAny_loadName_cell I.ok.kind a hc hcell fin) hd
  .exact wpAny_Name (wpAny_loadName_free I.ok.kind a hc hcell fin b) hd
theorem qjw{i j pos}:PE X (.Constant (.int i) j pos) (tC (.int i)):=λ_ _ _ H _ I h=>wpAny_Constant_int ⟨.int i,H,I.tok _,⟨_,rfl⟩,h⟩
theorem qli{b j pos}:PE X (.Constant (.bool b) j pos) (tC (.bl b)):=λ_ _ _ H _ I h=>Constant_bool ⟨.bl b,H,I,rfl,h⟩
theorem qjx{j pos}:PE X (.Constant .none j pos) (tC .non):=λ_ _ _ H _ I h=>Constant_none ⟨.non,H,I,rfl,h⟩
theorem qjy{x j pos}:PE X (.Constant (.str x) j pos) (tC (.str x)):=λ_ _ _ H _ I h=>Calls.Constant_str ⟨.str x,H,I.tok _,⟨_,rfl⟩,h⟩
def Gl(X:Cx)(x:Str):Prop:=X.env.kindOf x=some .globalImplicit
theorem jk(I:Inv X pins a H s)(b:Gl X x)(hm:X.mg x=some u)(h:Q u s)(hd:dB x:=by decide):wpAny (model X.prog X.w) X.A (eval (.Name x pos) X.env) Q E s :=
 Calls.Name_function_global I.ok.kind b (Calls.loadGlobal_global (by rw[I.ok.glob];exact I.mod.glob.keeps I.bk) hm h) hd
theorem yB(I:Inv X pins a H s)(b:Gl X x)(hm:X.mg x=none)(c:bootBuiltins x=some u)(h:Q u s)(hn:x≠"__name__":=by decide)(hd:dB x:=by decide):wpAny (model X.prog X.w) X.A (eval (.Name x pos) X.env) Q E s:=by
 obtain⟨mb,d,f⟩:=I.mod.blt;exact Calls.Name_function_global I.ok.kind b (Calls.loadGlobal_builtin (by rw[I.ok.glob];exact I.mod.glob.keeps I.bk) hm (by rw[I.ok.blt];exact d.keeps I.bk) ((f x hn).trans c) h) hd
theorem qdt(a:Gl X x)(hm:X.mg x=some u)(r:RelV v u)(hd:dB x:=by decide):PE X (.Name x pos) (tC v) :=
 λ_ _ _ H _ I h=>jk I a hm ⟨v,H,I,r,h⟩ hd
theorem qdu(a:Gl X x)(hm:X.mg x=none)(b:bootBuiltins x=some u)(r:RelV v u)(hn:x≠"__name__":=by decide)(hd:dB x:=by decide):PE X (.Name x pos) (tC v) :=
 λ_ _ _ H _ I h=>yB I a hm b ⟨v,H,I,r,h⟩ hn hd
variable{a b:Expr}{ta tb:TE}{pos:Pos}
variable{tA tB':TT}{rest:List Expr}
def tAnd(t u:TT):TT:=λd H Q=>t d H λc f=>if c=true then u d f Q else Q false f
def tOr(t u:TT):TT:=λd H Q=>t d H λc f=>if c=true then Q true f else u d f Q
def tNot(t:TT):TT:=λd H Q=>t d H λc f=>Q (!c) f
theorem qhE(ha:PT X a tA):PW X (.BoolOp .And [a] pos) tA:=by
 intro f pins s d H Q I h;refine isTrue_and (thn (ha pins s d H Q I h) λc s1 e=>?_);cases c with
 |true=>exact isTrue_and_nil e
 |false=>exact e
theorem qjz(ha:PT X a tA):PW X (.BoolOp .Or [a] pos) tA:=by
 intro f pins s d H Q I h;refine isTrue_or (thn (ha pins s d H Q I h) λc s1 e=>?_);cases c with
 |false=>exact isTrue_or_nil e
 |true=>exact e
theorem qjA(ha:PT X a tA)(j:PW X (.BoolOp .And (b::rest) pos) tB'):PW X (.BoolOp .And (a::b::rest) pos) (tAnd tA tB'):=by
 intro l pins s d H Q I h;refine isTrue_and (thn (ha pins s d H _ I h) λc s1 ⟨f,i,q1⟩=>?_);cases c with
 |true=>exact j l pins s1 d f Q i q1
 |false=>exact⟨f,i,q1⟩
theorem qlj(ha:PT X a tA)(j:PW X (.BoolOp .Or (b::rest) pos) tB'):PW X (.BoolOp .Or (a::b::rest) pos) (tOr tA tB'):=by
 intro l pins s d H Q I h;refine isTrue_or (thn (ha pins s d H _ I h) λc s1 ⟨f,i,q1⟩=>?_);cases c with
 |true=>exact⟨f,i,q1⟩
 |false=>exact j l pins s1 d f Q i q1
theorem qfl(ha:PT X a tA):PT X (.UnaryOp .Not a pos) (tNot tA):=by
 intro pins s d H Q I h;exact isTrue_not (ha pins s d H (λc f=>Q (!c) f) I h)
def tAndV(ta tb:TE):TE:=λd H Q=>ta d H λx f=>∃c,x=.bl c/\if c=true then tb d f Q else Q (.bl false) f
def tNotV(ta:TE):TE:=λd H Q=>ta d H λx f=>∃c,x=.bl c/\Q (.bl (!c)) f
theorem qjB{op}(h:PE X a t):PE X (.BoolOp op [a] pos) t:=λpins s c H Q I d=>BoolOp_one (h pins s c H Q I d)
theorem qjC(ha:PE X a ta)(j:PE X (.BoolOp .And (b::rest) pos) tb):PE X (.BoolOp .And (a::b::rest) pos) (tAndV ta tb):=by
 intro pins s d H Q I h;refine BoolOp_and (thn (ha pins s d H _ I h) λv s1 ⟨x,f,i,l,q1⟩=>?_);obtain⟨c,rfl,q1⟩:=q1;cases l;refine v7 ?_;cases c with
 |true=>exact j pins s1 d f Q i q1
 |false=>exact⟨.bl false,f,i,rfl,q1⟩
theorem qjD(ha:PE X a ta):PE X (.UnaryOp .Not a pos) (tNotV ta):=by
 intro pins s d H Q I h;refine UnaryOp_ (thn (ha pins s d H _ I h) λv s1 ⟨x,f,i,j,q1⟩=>?_);obtain⟨c,rfl,q1⟩:=q1;cases j;exact not_of (v7 ⟨.bl (!c),f,i,rfl,q1⟩)
end
def SqL(K:PySem.W.Frag)(H:Hp)(a:Addr)(xs:List V):Prop :=
 Rd H a (.lst xs) \/
  ∃(o:Obj) (b:Array Value) (n:Nat),K.lookup a=some o/\o.cls=.type "list"/\o.dict=none/\o.data=.seq b n/\b.size<=sizeLine/\Vals xs b.toList
def SqT(K:PySem.W.Frag)(H:Hp)(a:Addr)(xs:List V):Prop :=
 Rd H a (.tup xs) \/
  ∃(o:Obj) (b:Array Value) (n:Nat),K.lookup a=some o/\o.cls=.type "tuple"/\o.data=.seq b n/\b.size<=sizeLine/\Vals xs b.toList
def absV:Value->Option V
 | .none=>some .non
 | .bool b=>some (.bl b)
 | .int i _=>some (.int i)
 | .str x _=>some (.str x)
 | .bytes b _=>some (.byt b)
 | .float b _=>some (.flt b)
 | .ref a=>some (.ref a)
 | .type n=>some (.ty n)
 |_=>none
def RelV.abs(r:RelV x u):absV u=some x:=by
 cases x with
 |non=>cases r;rfl
 |bl _=>cases r;rfl
 |int _=>obtain⟨t,rfl⟩:=r;rfl
 |str _=>obtain⟨t,rfl⟩:=r;rfl
 |byt _=>obtain⟨t,rfl⟩:=r;rfl
 |flt _=>obtain⟨t,rfl⟩:=r;rfl
 |ref _=>cases r;rfl
 |ty _=>cases r;rfl
def RelV.inj(r:RelV x u)(q:RelV y u):x=y:=Option.some.inj (r.abs.symm.trans q.abs)
def Vals.inj:∀{xs ys:List V} {us:List Value},Vals xs us->Vals ys us->xs=ys
 |_,_,_,.nil,.nil=>rfl
 |_,_,_,.cons r t,.cons r' t'=>by rw[r.inj r',Vals.inj t t']
section
variable{X:Cx}{pins:List (Addr×Obj)}{σ:St}{H:Hp}{s:Shared}{a:Addr}{xs ys:List V}
theorem Inv.list(I:Inv X pins σ H s)(h:SqL X.K H a xs):∃b:List Value,Vals xs b/\PlainL s.heap a b.toArray/\xs.length<=sizeLine:=by
 rcases h with h|⟨o,b,n,hk,hc,hd,hs,hz,r⟩
 .obtain ⟨z,b,n,r,e⟩:=h.ok I.hok
  exact⟨b,r,⟨_,n,e,rfl,rfl,rfl⟩,z⟩
 .refine ⟨b.toList,r,⟨o,n,I.kIn a o hk,hc,hd,by simpa using hs⟩,?_⟩
  have e:=r.length;simp only[vc]at e;lia
theorem Inv.tuple(I:Inv X pins σ H s)(h:SqT X.K H a xs):∃b:List Value,Vals xs b/\IsTup s.heap a b.toArray/\xs.length<=sizeLine:=by
 rcases h with h|⟨o,b,n,hk,hc,hs,hz,r⟩
 .obtain ⟨z,b,r,p,_⟩:=h.ok I.hok
  exact⟨b,r,p,z⟩
 .refine ⟨b.toList,r,⟨o,I.kIn a o hk,hc,n,by simpa using hs⟩,?_⟩
  have e:=r.length;simp only[vc]at e;lia
theorem Inv.list_inj(I:Inv X pins σ H s)(h:SqL X.K H a xs)(h':SqL X.K H a ys):xs=ys:=by
 obtain⟨b,r,⟨o,n,e,_,_,d⟩,_⟩:=I.list h;obtain⟨its',c,⟨o',f,e',_,_,d'⟩,_⟩:=I.list h';rw[e]at e';cases e';rw[d]at d';injection d' with d1 _;have:b=its':=by simpa using congrArg Array.toList d1
 subst this;exact r.inj c
theorem Inv.tuple_inj(I:Inv X pins σ H s)(h:SqT X.K H a xs)(h':SqT X.K H a ys):xs=ys:=by
 obtain⟨b,r,⟨o,e,_,n,d⟩,_⟩:=I.tuple h;obtain⟨its',c,⟨o',e',_,f,d'⟩,_⟩:=I.tuple h';rw[e]at e';cases e';rw[d]at d';injection d' with d1 _;have:b=its':=by simpa using congrArg Array.toList d1
 subst this;exact r.inj c
end
abbrev Cx.wish(X:Cx)(E:Value->Shared->Prop):Cx:={X with xe:=E}
abbrev Cx.nox(X:Cx):Cx:=X.wish λ_ _=>False
def Cx.Ok.wish{X:Cx}(ok:X.Ok)(E:Value->Shared->Prop):(X.wish E).Ok :=
 ⟨ok.mod,ok.kind,ok.glob,ok.blt,ok.above,ok.inj,ok.has,ok.cab,ok.hd,ok.frames,ok.stk,ok.exf,ok.bs,ok.bsz,ok.noex,ok.exfs,ok.funs,ok.frf,ok.tab⟩
def Cx.Ok.unwish{X:Cx}(ok:(X.wish E).Ok):X.Ok :=
 ⟨ok.mod,ok.kind,ok.glob,ok.blt,ok.above,ok.inj,ok.has,ok.cab,ok.hd,ok.frames,ok.stk,ok.exf,ok.bs,ok.bsz,ok.noex,ok.exfs,ok.funs,ok.frf,ok.tab⟩
section
variable{X:Cx}{pins:List (Addr×Obj)}{σ:St}{H:Hp}{s:Shared}{E:Value->Shared->Prop}
theorem Inv.wish(I:Inv X pins σ H s)(E:Value->Shared->Prop):Inv (X.wish E) pins σ H s:=⟨I.ok.wish E,I.os,I.bare,I.base,I.loc,I.cell,I.free,I.freeC,I.pin,I.hok,I.len⟩
theorem Inv.unwish(I:Inv (X.wish E) pins σ H s):Inv X pins σ H s:=⟨I.ok.unwish,I.os,I.bare,I.base,I.loc,I.cell,I.free,I.freeC,I.pin,I.hok,I.len⟩
theorem SP.unwish(h:SP (X.wish E) pins D f s'):SP X pins D f s':=by
 cases f with
 |next=>obtain⟨a,H',I,q⟩:=h;exact⟨a,H',I.unwish,q⟩
 |brk=>obtain⟨a,H',I,q⟩:=h;exact⟨a,H',I.unwish,q⟩
 |cont=>obtain⟨a,H',I,q⟩:=h;exact⟨a,H',I.unwish,q⟩
 |ret u=>obtain⟨v,a,H',I,r,q⟩:=h;exact⟨v,a,H',I.unwish,r,q⟩
theorem PT.nox(h:PT X.nox e t):PT X e t:=λpins s σ H Q I a =>
 wo (h pins s σ H Q (I.wish _) a) (λ_ _ ⟨H',b,q⟩=>⟨H',b.unwish,q⟩) λ_ _ z=>False.elim z
theorem PSs.nox{st:List Stmt}{t:TS}(h:PSs X.nox st t):PSs X st t:=λpins s σ H D I a =>
 wo (h pins s σ H D (I.wish _) a) (λ_ _ q=>q.unwish) λ_ _ z=>False.elim z
end
section
variable{X:Cx}{st:Stmt}{rest:List Stmt}{t u:TS}{e:Expr}{te:TE}{pos:Pos}
def tNext:TS:=λD a H=>D.nx a H
def tSeq(t u:TS):TS:=λD a H=>t {D with nx:=u D} a H
theorem qdv:PSs X [] tNext:=λ_ _ a H _ I h=>ue ⟨a,H,I,h⟩
theorem qbS(b:PS X st t)(c:PSs X rest u):PSs X (st::rest) (tSeq t u):=by
 intro pins s d H D I h;refine wpAny_execs_cons (thn (b pins s d H {D with nx:=u D} I h) λf s1 q=>?_);cases f with
 |next =>
  obtain⟨a,H',i,q⟩:=q;exact c pins s1 a H' D i q
 |ret v=>exact q
 |brk=>exact q
 |cont=>exact q
theorem Inv.quiet(I:Inv X pins a H s):interactive X.env=false:=by simp[interactive,I.ok.kind]
def tDrop(te:TE):TS:=λD a H=>te a H λ_ b=>D.nx a b
theorem qdw(b:PE X e te)(c:swapsWith e none pos.line X.env=pure false:=by rfl):PS X (.Expr e pos) (tDrop te):=by
 intro pins s a H D I h;exact wpAny_Expr_any (thn (b pins s a H _ I h) λv s1 ⟨x,d,f,i,q1⟩=>⟨a,d,f,q1⟩) I.quiet c
def tRet(te:TE):TS:=λD a H=>te a H D.rt
theorem qfm(b:PE X e te):PS X (.Return (some e) pos) (tRet te):=by
 intro pins s a H D I h;exact wpAny_Return_some (thn (b pins s a H _ I h) λv s1 ⟨x,c,d,f,q1⟩=>⟨x,a,c,d,f,q1⟩)
def tIfS(c:TT)(t u:TS):TS:=λD a H=>c a H λb d=>if b=true then t D a d else u D a d
theorem qi4(l:PT X c tc)(ha:PSs X a t)(m:PSs X b u):PS X (.If c a b pos) (tIfS tc t u):=by
 intro pins s f H D I h;refine wpAny_If (thn (l pins s f H _ I h) λd s1 ⟨i,j,q1⟩=>?_);cases d with
 |true=>exact ha pins s1 f i D j q1
 |false=>exact m pins s1 f i D j q1
def tNever:TS:=λ_ _ _=>False
theorem qbT:PS X st tNever:=λ_ _ _ _ _ _ h=>h.elim
end
abbrev TG:=V->St->Hp->(St->Hp->Prop)->Prop
abbrev TGs:=List V->St->Hp->(St->Hp->Prop)->Prop
def PG(X:Cx)(a:Expr)(t:TG):Prop :=
 ∀(pins:List (Addr×Obj)) (s:Shared) (c:St) (H:Hp) (v:V) (u:Value) (Q:St->Hp->Prop),Inv X pins c H s->RelV v u->t v c H Q ->
  wpAny (model X.prog X.w) X.A (assign a X.env u) (λ_ s'=>∃b H',Inv X pins b H' s'/\Q b H') X.xe s
def PGs(X:Cx)(ts:List Expr)(t:TGs):Prop :=
 ∀(pins:List (Addr×Obj)) (s:Shared) (b:St) (H:Hp) (vs:List V) (us:List Value) (Q:St->Hp->Prop),Inv X pins b H s->Vals vs us->t vs b H Q ->
  wpAny (model X.prog X.w) X.A (assignInOrder ((assignEach ts X.env).map (·.2)) us) (λ_ s'=>∃a H',Inv X pins a H' s'/\Q a H') X.xe s
abbrev TSet:=V->V->V->Hp->(Hp->Prop)->Prop
def PSet(X:Cx)(t:TSet):Prop :=
 ∀(pins:List (Addr×Obj)) (s:Shared) (a:St) (H:Hp) (o i v:V) (b c u:Value) (Q:Hp->Prop),Inv X pins a H s->RelV o b->RelV i c->RelV v u->t o i v H Q ->
  wpAny (model X.prog X.w) X.A (setItem b c u) (λ_ s'=>∃H',Inv X pins a H' s'/\Q H') X.xe s
section
variable{X:Cx}{pos:Pos}
def gName(i:Nat):TG:=λv a H Q=>Q (a.set i (some v)) H
theorem qdx{i:Nat}(a:X.N.Nodup)(hi:X.N[i]?=some x)(b:Loc X.env.scope x)(c:X.fn x=true\/X.env.scope.names.lookup x=some .local:=by first|exact .inl rfl|exact .inr rfl|assumption):PG X (.Name x pos) (gName i):=by
 intro pins s f H v u Q I r h;exact wpAny_assign_Name (yA I a hi b r (λs' d=>⟨_,H,d,h⟩) c)
def gNil:TGs:=λvs a H Q=>vs=[]/\Q a H
def gCons(t:TG)(u:TGs):TGs:=λvs b H Q=>∃v r,vs=v::r/\t v b H λa H'=>u r a H' Q
theorem qhF:PGs X [] gNil:=by
 intro pins s a H vs us Q I r h;obtain⟨e,h⟩:=h;subst e;cases r;exact assignInOrder_nil ⟨a,H,I,h⟩
theorem qfn(b:PG X e t)(c:PGs X es u)(d:(assignEach (e::es) X.env).map (·.2)=assign e X.env::(assignEach es X.env).map (·.2):=by rfl):PGs X (e::es) (gCons t u):=by
 intro pins s f H vs us Q I r h;obtain⟨v,m,e1,h⟩:=h;subst e1;cases r with
 |cons r i =>
  rw[d];refine assignInOrder_cons (thn (b pins s f H _ _ _ I r h) λ_ s1 ⟨a,j,l,q1⟩=>?_);exact c pins s1 a j _ _ Q l i q1
def gTup(K:PySem.W.Frag)(n:Nat)(t:TGs):TG:=λv b H Q=>∃a xs,v=.ref a/\SqT K H a xs/\xs.length=n/\t xs b H Q
theorem qjE{k:Nat}{n:Nat}(j:X.calm=true)(h:PGs X es t)(hn:(assignEach es X.env).length=n:=by rfl)(c:(assignEach es X.env).findIdx? (·.1)=none:=by rfl):PG X (.Tuple es k pos) (gTup X.K n t):=by
 intro pins s f H v u Q I r d;obtain⟨a,xs,e1,l,m,d⟩:=d;subst e1;cases r;obtain⟨p,i,q,y⟩:=I.tuple l;refine assign_Tuple_tuple (I.ok.hd j) q (by simp[hn,<-m,i.length]) c λh' w=>?_
 have x:Inv X pins f H {s with heap:=h' }:=I.kept (t':=s.toks) λb o e=>w b o (wa (wG e)) e
 exact h pins _ f H xs _ Q x (by simpa using i) d
def gSub(b ti:TE)(t:TSet):TG:=λv a H Q=>b a H λo c=>ti a c λi H2=>t o i v H2 λH3=>Q a H3
theorem qjF{o i:Expr}{d ti:TE}{t:TSet}(f:PE X o d)(hi:PE X i ti)(j:PSet X t)(ha:∀v,assign (.Subscript o i pos) X.env v=(do
   let a <-holding [v] (eval o X.env)
   let b <-holding [v,a] (eval i X.env)
   standAt pos
   holding [v,a,b] (setItem a b v)
   release [v,a,b] []):=by intro _;rfl):PG X (.Subscript o i pos) (gSub d ti t):=by
 intro pins s c H v u Q I r h;rw[ha];refine wA (vE (thn (f pins s c H _ I h) λa s1 ⟨x,l,m,n,q1⟩=>?_));refine wA (vE (thn (hi pins s1 c l _ m q1) λb s2 ⟨y,H2,p,q,q2⟩=>?_));refine wA (v4 (wA (vE (thn (j pins s2 c H2 x y v a b u _ p n q r q2) λ_ B ⟨H3,w,A⟩=>?_))));exact wpAny_release ⟨c,H3,w,A⟩
def tAsg(b:TE)(g:TG):TS:=λD a H=>b a H λx c=>g x a c D.nx
theorem qjG(c:PE X e a)(d:PG X tg g)(f:swapsWithSole [tg] e pos.line X.env=pure false:=by rfl)(i:swappedStores [tg] e X.env=pure none:=by rfl)(j:(assignEach [tg] X.env).map (·.2)=[assign tg X.env]:=by rfl):PS X (.Assign [tg] e pos) (tAsg a g):=by
 intro pins s b H D I h;refine wpAny_Assign_stores (thn (c pins s b H _ I h) λv s1 ⟨x,l,m,n,q1⟩=>?_) f i;rw[j];exact thn (d pins s1 b l x v _ m n q1) λ_ s2 q=>q
theorem qfo{i:Nat}(c:X.N.Nodup)(hi:X.N[i]?=some x)(d:Loc X.env.scope x)(f:PE X e b)(j:swapsWith e (some (.Name x a)) pos.line X.env=pure false:=by rfl)(l:X.fn x=true\/X.env.scope.names.lookup x=some .local:=by first|exact .inl rfl|exact .inr rfl|assumption):
  PS X (.Assign [.Name x a] e pos) (tAsg b (gName i)):=by
 intro pins s m H D I h;refine wpAny_Assign_Name (thn (f pins s m H _ I h) λv s1 ⟨y,n,o,p,q1⟩=>?_) j;exact yA o c hi d p (λs2 q=>⟨_,n,q,q1⟩) l
def tPar(i j:Nat)(b:TA):TS:=λD a H=>b a H λvs c=>∃v w,vs=[v,w]/\D.nx ((a.set i (some v)).set j (some w)) c
theorem qjH{i j:Nat}{kt k2 pt2}(L:X.calm=true)(B:X.N.Nodup)(hi:X.N[i]?=some x)(M:X.N[j]?=some y)(m:i≠j)(C:X.env.scope.names.lookup x=some .local)(E:X.env.scope.names.lookup y=some .local)(ha:PA X [a,b] u)(O:swappedStores [.Tuple [.Name x f,.Name y l] kt pt] (.Tuple [a,b] k2 pt2) X.env=pure (some [x,y]))(P:swapsWithSole [.Tuple [.Name x f,.Name y l] kt pt] (.Tuple [a,b] k2 pt2) pos.line X.env=pure false:=by rfl):
  PS X (.Assign [.Tuple [.Name x f,.Name y l] kt pt] (.Tuple [a,b] k2 pt2) pos) (tPar i j u):=by
 intro pins s F H D I h;rw[exec_Assign_arm];refine wA (v4 ?_);rw[P];refine wA (wC ?_);rw[wT (by decide)];refine wA (Tuple_ (thn (ha _ pins s F H _ I h) λus s1 ⟨vs,J,Q,S,q1⟩=>?_));obtain⟨v,w,e1,q1⟩:=q1;subst e1;obtain⟨c,d,rfl,U,n⟩:∃c d,us=[c,d]/\RelV v c/\RelV w d:=by
  cases S with
  |cons p q =>
   cases q with
   |cons W Y =>
    cases Y;exact⟨_,_,rfl,p,W⟩
 refine w6 ?_ (by show 2<=sizeLine;decide);have Z:Inv X pins F J {s1 with heap:=s1.heap.push {cls:=.type "tuple",data:=.seq [c,d].toArray}}:=Q.kept (t':=s1.toks) λb o e=>wB _ e
 rw[O];refine wA (wC ?_);show wpAny (model X.prog X.w) X.A (do rule "assign.swapped-stores";let items <-unpackItems (.ref s1.heap.objs.size) 2 none;assignInOrder [λv=>bindName X.env y v,λv=>bindName X.env x v] items.reverse;pure Flow.next) _ _ _;refine wA (u4 (wA (unpackItems_tuple (items:=#[c,d]) (I.ok.hd L) (IsTup.new s1.heap _) λh' r=>?_)));have I3:=Z.kept (h':=h') (t':=s1.toks) λb o e=>r b o (wa (wG e)) e
 show wpAny _ _ (assignInOrder [λv=>bindName X.env y v,λv=>bindName X.env x v] [d,c] >>= λ_=>pure Flow.next) _ _ _;refine wA (assignInOrder_cons (wpAny_bindName (yA I3 B M (.inl E) n (λs2 I4=>?_) (.inr E))));refine assignInOrder_cons (wpAny_bindName (yA I4 B hi (.inl C) U (λs3 K=>assignInOrder_nil (wC ?_)) (.inr C)));rw[List.set_comm _ _ (Ne.symm m)]at K;exact⟨_,J,K,q1⟩
end
section
variable{X:Cx}{pos:Pos}
def tWhile(c:TT)(i:TS):TS:=λD a H=>∃W:Nat->St->Hp->Prop,(∃m,W m a H)/\∀m a H,W m a H ->
 c a H λb f=>if b=true then ∃N:St->Hp->Prop,(∀d H',N d H'->∃h,h<m/\W h d H')/\i {D with nx:=N,ct:=N,bk:=D.nx} a f else D.nx a f
theorem qfp(r:PassesOwn (model X.prog X.w) X.A X.env X.xe)(B:PT X c tc)(C:PSs X body q):PS X (.While c body [] pos) (tWhile tc q):=by
 intro pins s E H D I h;obtain⟨W,⟨F,J⟩,turn⟩:=h;refine wpAny_While (codeAny_whileLoop (λn s'=>∃i H',Inv X pins i H' s'/\W n i H') ?_ F ⟨E,H,I,J⟩);rintro n s1 ⟨d,u,K,L⟩;refine uA r (thn (B pins s1 d u _ K (turn n d u L)) λb s2 ⟨H2,x,q2⟩=>?_);cases b with
 |true =>
  obtain⟨N,y,q2⟩:=q2;rw[wN rfl];refine uA r (thn (C pins s2 d H2 _ x q2) λf M j=>?_);cases f with
  |next =>
   obtain⟨a,H3,l,m⟩:=j;obtain⟨o,hm,p⟩:=y a H3 m;exact⟨o,hm,a,H3,l,p⟩
  |cont =>
   obtain⟨a,H3,l,m⟩:=j;obtain⟨o,hm,p⟩:=y a H3 m;exact⟨o,hm,a,H3,l,p⟩
  |brk=>exact j
  |ret v=>exact j
 |false =>
  rw[wT w5];exact ue ⟨d,H2,x,q2⟩
end
structure It where
 go:Nat->Hp->Prop
 yld:Nat->Hp->V->Hp->Prop
 stop:Nat->Hp->Prop
def FpOk(X:Cx)(pins:List (Addr×Obj))(H:Hp)(b:Addr):Prop :=
 H b=none/\b≠X.env.locals/\b∉X.fs/\(b∈X.ex\/X.s₀.heap.objs.size<=b)/\(∀x c,X.env.cells.lookup x=some c->c≠b)/\∀p∈X.pn++pins,p.1≠b
def Inv.fpOk(I:Inv X pins d H s)(a:s.heap.objs.size<=b)(hn:H' b=none):FpOk X pins H' b:=by
 refine⟨hn,vR (wX I.lt a),I.nofs a,.inr (vA I.sz a),λx c e z=>?_,λp f z=>?_⟩
 .obtain ⟨v,q⟩:=I.cell x c e
  exact absurd (wX q.lt (by rw[z];exact a)) (wh _)
 .exact absurd (wX (wG (I.pin p f).1) (by rw[z];exact a)) (wh _)
structure Turn (P:Program) (w:World) (K:PySem.W.Frag) (tg:Expr) (J:It) (fp:List Addr) (it:Addr) (tn:Nat->Heap->Prop):Prop where
 mem:it∈fp
 obj:∀i h,tn i h->∀b∈fp,∃o,h.get? b=some o/\∀v,o.data≠.cell v
 keep:∀i h h',tn i h->(∀b∈fp,∀o,h.get? b=some o->h'.get? b=some o)->tn i h'
 item:∀(X:Cx),X.prog=P->X.w=w->X.K=K->X.calm=true->∀(i:Nat) (pins:List (Addr×Obj)) (s:Shared) (σ:St) (H:Hp) (E:Value->Shared->Prop),Inv X pins σ H s->(∀b∈fp,FpOk X pins H b)->tn i s.heap->J.go i H ->
  wpAny (model P w) X.A (pyNext (.ref it)) (λr s1=>∃u,r=some u /\
   wpAny (model P w) X.A (letOwnedTupleGo tg (.ref it) u) (λ_ s2=>∃x H',Inv X pins σ H' s2/\RelV x u/\J.yld i H x H'/\tn (i+1) s2.heap/\∀b∈fp,H' b=none) E s1) E s
 done:∀(X:Cx),X.prog=P->X.w=w->X.K=K->X.calm=true->∀(i:Nat) (pins:List (Addr×Obj)) (s:Shared) (σ:St) (H:Hp) (E:Value->Shared->Prop),Inv X pins σ H s->(∀b∈fp,FpOk X pins H b)->tn i s.heap->J.stop i H ->
  wpAny (model P w) X.A (pyNext (.ref it)) (λr s1=>r=none/\Inv X pins σ H s1) E s
 self:∀(A:Around) (i:Nat) (s:Shared) (Q:Value->Shared->Prop) (E:Value->Shared->Prop),tn i s.heap->Q (.ref it) s->wpAny (model P w) A (pyIter (.ref it)) Q E s
abbrev TI:=St->Hp->(It->Hp->Prop)->Prop
def PIE(X:Cx)(pins:List (Addr×Obj))(c:St)(tg:Expr)(R:It->Hp->Prop)(a:Value)(s2:Shared):Prop :=
 ∃(it:Addr) (fp:List Addr) (tn:Nat->Heap->Prop) (J:It) (H':Hp),a=.ref it/\Inv X pins c H' s2/\Turn X.prog X.w X.K tg J fp it tn/\tn 0 s2.heap/\(∀b∈fp,FpOk X pins H' b)/\R J H'
def PI(X:Cx)(tg iter:Expr)(b:TI):Prop :=
 ∀(pins:List (Addr×Obj)) (s:Shared) (a:St) (H:Hp) (R:It->Hp->Prop),Inv X pins a H s->b a H R ->
  wpAny (model X.prog X.w) X.A (eval iter X.env) (λv s1=>wpAny (model X.prog X.w) X.A (pyIter v) (PIE X pins a tg R) X.xe s1) X.xe s
def qfq{s:Shared}(b:s.heap.get? it=some o)(c:o.cls=.type n)(hd:o.data=.fields vs)(hn:["enumerate","zip","dict_itemiterator","dict_reverseitemiterator","odict_iterator","itertools.zip_longest","itertools.pairwise"].contains n=false)(a:Q () s):wpAny M A (letOwnedTupleGo tg (.ref it) u) Q E s:=by
 unfold letOwnedTupleGo;cases tg <;> first
  |exact wC a
  | (cases u <;> first
    |exact wC a
    | (refine wA (wpAny_load b ?_)
       rw[c,hd];show wpAny M A (if(["enumerate","zip","dict_itemiterator","dict_reverseitemiterator","odict_iterator","itertools.zip_longest","itertools.pairwise"].contains n&&vs[0]? == some (rawInt _))=true then _ else _) Q E s;rw[wT (by intro h;rw[hn,vw]at h;cases h)];exact wC a))
def Itl(K:PySem.W.Frag)(a:Addr):It :=
 ⟨λi H=>∃xs x,SqL K H a xs/\xs[i]?=some x,λi H x H'=>H'=H/\∀xs,SqL K H a xs->xs[i]?=some x,λi H=>∃xs,SqL K H a xs/\xs.length<=i⟩
def Itt(K:PySem.W.Frag)(a:Addr):It :=
 ⟨λi H=>∃xs x,SqT K H a xs/\xs[i]?=some x,λi H x H'=>H'=H/\∀xs,SqT K H a xs->xs[i]?=some x,λi H=>∃xs,SqT K H a xs/\xs.length<=i⟩
def qeD{P:Program}{w:World}{K:PySem.W.Frag}{tg:Expr}(a it:Addr):Turn P w K tg (Itl K a) [it] it (λi h=>h.IsListIter it a i) where
 mem:=by simp
 obj:=λi h st b f=>by
  have e:b=it:=by simpa using f
  subst e;obtain⟨o,e,c,d⟩:=st;exact⟨o,e,λv z=>by rw[d]at z;cases z⟩
 keep:=λi h h' st k=>st.at λo e=>k it (by simp) o e
 item:=by
  intro X n q r O i pins s Q H E I l st y;subst n q r;obtain⟨xs,x,m,A⟩:=y;obtain⟨B,C,p,S⟩:=I.list m;obtain⟨u,U,Y⟩:=C.get A;obtain⟨F,J,Z,L,M,N⟩:=l it (by simp);refine wpAny_pyNext_list_item st p.isList (x:=u) (by simpa using U) λh' j sb=>?_
  have I1:Inv X pins Q H {s with heap:=h' }:=I.turned (t':=s.toks) (λb o f e=>(sb.2 b f).trans e) F J L M N;obtain⟨o,e,c,d⟩:=id j;exact⟨u,rfl,qfq (s:={s with heap:=h' }) e c d (by decide) ⟨x,H,I1,Y,⟨rfl,λys hy=>by rw[I.list_inj hy m];exact A⟩,j,λb f=>(l b f).1⟩⟩
 done:=by
  intro X n q r O i pins s Q H E I l st y;subst n q r;obtain⟨xs,m,A⟩:=y;obtain⟨B,C,p,S⟩:=I.list m;obtain⟨F,J,Z,L,M,N⟩:=l it (by simp);have hl:=C.length;exact wpAny_pyNext_list_end (I.ok.hd O) st p.isList (by simp;lia) λh' eb=>⟨rfl,I.turned (t':=s.toks) (λb o f e=>eb b o f e) F J L M N⟩
 self:=λ_ _ _ _ _ st h=>wpAny_pyIter_listiter st h
def qcQ{P:Program}{w:World}{K:PySem.W.Frag}{tg:Expr}(a it:Addr):Turn P w K tg (Itt K a) [it] it (λi h=>h.IsTupleIter it a i) where
 mem:=by simp
 obj:=λi h st b f=>by
  have e:b=it:=by simpa using f
  subst e;obtain⟨o,e,c,d⟩:=st;exact⟨o,e,λv z=>by rw[d]at z;cases z⟩
 keep:=λi h h' st k=>st.at λo e=>k it (by simp) o e
 item:=by
  intro X q r y O i pins s Q H E I m st A;subst q r y;obtain⟨xs,x,n,B⟩:=A;obtain⟨j,C,p,S⟩:=I.tuple n;obtain⟨u,U,Y⟩:=C.get B;obtain⟨F,J,Z,L,M,N⟩:=m it (by simp);refine wpAny_pyNext_tuple_item st (show s.heap.IsTuple a j.toArray from p) (x:=u) (by simpa using U) λh' l sb=>?_
  have I1:Inv X pins Q H {s with heap:=h' }:=I.turned (t':=s.toks) (λb o f e=>(sb.2 b f).trans e) F J L M N;obtain⟨o,e,c,d⟩:=id l;exact⟨u,rfl,qfq (s:={s with heap:=h' }) e c d (by decide) ⟨x,H,I1,Y,⟨rfl,λys hy=>by rw[I.tuple_inj hy n];exact B⟩,l,λb f=>(m b f).1⟩⟩
 done:=by
  intro X q r y O i pins s Q H E I m st A;subst q r y;obtain⟨xs,n,B⟩:=A;obtain⟨j,C,p,S⟩:=I.tuple n;obtain⟨F,J,Z,L,M,N⟩:=m it (by simp);have hl:=C.length;exact wpAny_pyNext_tuple_end (I.ok.hd O) st (show s.heap.IsTuple a j.toArray from p) (by simp;lia) λh' eb=>⟨rfl,I.turned (t':=s.toks) (λb o f e=>eb b o f e) F J L M N⟩
 self:=λ_ _ _ _ _ st h=>wpAny_pyIter_tupleiter st h
section
variable{X:Cx}{tg:Expr}
def tFor(f:TI)(g:TG)(h:TS):TS:=λD a H=>f a H λJ j=>∃W:Nat->Nat->St->Hp->Prop,(∃m,W 0 m a j)/\∀i m a H,W i m a H ->
 (J.stop i H/\D.nx a H)\/(J.go i H/\∃N:St->Hp->Prop,(∀b H',N b H'->∃d,d<m/\W (i+1) d b H')/\∀x H',J.yld i H x H'->g x a H' λc H2=>h {D with nx:=N,ct:=N,bk:=D.nx} c H2)
def pinsAt(fp:List Addr)(h:Heap):List (Addr×Obj):=fp.filterMap λb=>(h.get? b).map λo=>(b,o)
theorem q9{h:Heap}(a:b∈fp)(e:h.get? b=some o):(b,o)∈pinsAt fp h:=List.mem_filterMap.mpr ⟨b,a,by rw[e];rfl⟩
theorem qeE(a:p∈pinsAt fp h):p.1∈fp/\h.get? p.1=some p.2:=by
 obtain⟨b,c,e⟩:=List.mem_filterMap.mp a;cases q:h.get? b with
 |none=>rw[q]at e;cases e
 |some o =>
  rw[q]at e;have e':(b,o)=p:=Option.some.inj e;subst e';exact⟨c,q⟩
theorem Inv.pinned{fp:List Addr}(I:Inv X pins a H s)(f:∀b∈fp,FpOk X pins H b)(h:∀b∈fp,∃o,s.heap.get? b=some o/\∀v,o.data≠.cell v):Inv X (pins++pinsAt fp s.heap) a H s :=
 I.pins_of λp i=>(wb.mp i).elim (λz=>I.pin p (wU _ z)) λz=>by
  obtain⟨c,e⟩:=qeE z;obtain⟨j,l,m,_⟩:=f p.1 c;obtain⟨o,e',d⟩:=h p.1 c;rw[e]at e';cases e';exact⟨e,j,l,m,d⟩
theorem Inv.unpinned(I:Inv X (pins++pl) a H s):Inv X pins a H s:=I.pins_of λp b=>I.pin p (wU _ (ws _ b))
theorem qjI(F:PassesOwn (model X.prog X.w) X.A X.env X.xe)(hc:X.calm=true)(hi:PI X tg iter Z)(hg:PG X tg g)(c:PSs X body tb)(hs:∀x,foldedSetIterable iter X.env x=pure x:=by intro _;rfl):PS X (.For tg iter body [] pos) (tFor Z g tb):=by
 intro pins s σ H D I h;refine wpAny_For (thn (hi pins s σ H _ I h) λv s1 h1=>thn h1 λa0 s2 h2=>?_) hs;obtain⟨it,fp,tn,J,H2,e,I2,T,O,f2,W,⟨m0,w0⟩,turn⟩:=h2;subst e;have j:∀{H':Hp},(∀b∈fp,H' b=none)->∀b∈fp,FpOk X pins H' b:=λhn b c=>⟨hn b c,(f2 b c).2⟩
 refine codeAny_forLoop_any (λn s'=>∃i l H',Inv X pins l H' s'/\tn i s'.heap/\(∀b∈fp,H' b=none)/\W i n l H') ?_ m0 ⟨0,σ,H2,I2,O,λb c=>(f2 b c).1,w0⟩;rintro n s3 ⟨i,p,H3,I3,K,L,w3⟩;rcases turn i n p H3 w3 with ⟨stop,qn⟩|⟨go,N,hN,step⟩
 .refine uA F (thn (T.done X rfl rfl rfl hc i pins s3 p H3 X.xe I3 (j L) K stop) λr s4 ⟨P,I4⟩=>?_)
  subst P;exact ue ⟨p,H3,I4,qn⟩
 .refine uA F (thn (T.item X rfl rfl rfl hc i pins s3 p H3 X.xe I3 (j L) K go) λr s4 ⟨u,P,h4⟩=>?_)
  subst P;refine uA F (thn h4 λ_ s5 ⟨x,H5,I5,r5,y5,E,Q⟩=>?_);have S:=I5.pinned (j Q) (T.obj _ _ E);refine uA F (thn (hg _ s5 p H5 x u _ S r5 (step x H5 y5)) λ_ s6 ⟨U,H6,I6,q6⟩=>?_);refine uA F (thn (c _ s6 U H6 _ I6 q6) λf Y C=>?_);have q:∀{a:St} {y:Hp},Inv X (pins++pinsAt fp s5.heap) a y Y->N a y->∃m,m<n/\∃i l H',Inv X pins l H' Y/\tn i Y.heap/\(∀b∈fp,H' b=none)/\W i m l H':=λ{a y} B M=>by
   obtain⟨m',hm,w7⟩:=hN a y M;refine⟨m',hm,i+1,a,y,B.unpinned,T.keep _ _ _ E λb c o e=>(B.pin (b,o) (wU _ (wU _ (q9 c e)))).1,λb c=>?_,w7⟩;obtain⟨o,e,d⟩:=T.obj _ _ E b c;exact(B.pin (b,o) (wU _ (wU _ (q9 c e)))).2.1
  cases f with
  |next=>obtain⟨a,y,B,M⟩:=C;exact q B M
  |cont=>obtain⟨a,y,B,M⟩:=C;exact q B M
  |brk=>obtain⟨a,y,B,C⟩:=C;exact⟨a,y,B.unpinned,C⟩
  |ret v=>obtain⟨x7,a,y,B,r7,C⟩:=C;exact⟨x7,a,y,B.unpinned,r7,C⟩
end
abbrev R2:=V->V->Hp->VK->Prop
def OpR(X:Cx)(f:Value->Value->Sem Value)(r:R2):Prop :=
 ∀(pins:List (Addr×Obj)) (s:Shared) (a:St) (H:Hp) (x y:V) (v u:Value) (Q:VK),Inv X pins a H s->RelV x v->RelV y u->r x y H Q ->
  wpAny (model X.prog X.w) X.A (f v u) (EP X pins a Q) X.xe s
def UnR(X:Cx)(f:Value->Sem Value)(r:V->Hp->VK->Prop):Prop :=
 ∀(pins:List (Addr×Obj)) (s:Shared) (a:St) (H:Hp) (x:V) (v:Value) (Q:VK),Inv X pins a H s->RelV x v->r x H Q ->
  wpAny (model X.prog X.w) X.A (f v) (EP X pins a Q) X.xe s
def CallR(X:Cx)(f:Value)(r:List V->Hp->VK->Prop):Prop :=
 ∀(pins:List (Addr×Obj)) (s:Shared) (a:St) (H:Hp) (xs:List V) (us:List Value) (Q:VK),Inv X pins a H s->Vals xs us->r xs H Q ->
  wpAny (model X.prog X.w) X.A (call f us) (EP X pins a Q) X.xe s
def TruR(X:Cx)(r:V->Hp->(Bool->Hp->Prop)->Prop):Prop :=
 ∀(pins:List (Addr×Obj)) (s:Shared) (a:St) (H:Hp) (x:V) (v:Value) (Q:Bool->Hp->Prop),Inv X pins a H s->RelV x v->r x H Q ->
  wpAny (model X.prog X.w) X.A (truthy v) (TP X pins a Q) X.xe s
def tOp(r:R2)(b c:TE):TE:=λa H Q=>b a H λx d=>c a d λy H2=>r x y H2 Q
def tUn(r:V->Hp->VK->Prop)(a:TE):TE:=λb H Q=>a b H λx c=>r x c Q
def rI(C:Int->Int->Prop)(g:Int->Int->V):R2:=λx y H Q=>∃i j,x=.int i/\y=.int j/\C i j/\Q (g i j) H
def rI0(g:Int->Int->V):R2:=λx y H Q=>∃i j,x=.int i/\y=.int j/\Q (g i j) H
def rU(g:Int->V):V->Hp->VK->Prop:=λx H Q=>∃i,x=.int i/\Q (g i) H
section
variable{X:Cx}{a b c:Expr}{ta tb tc:TE}{pos:Pos}
theorem binT(ha:PE X a ta)(m:PE X b tb){pins:List (Addr×Obj)}{s:Shared}{d:St}{H:Hp}{R:V->V->Hp->Prop}(I:Inv X pins d H s)(h:ta d H λx l=>tb d l λy H2=>R x y H2){Q:Value->Shared->Prop}{f:Value->Value->Sem Value}(n:∀v u s2 x y H2,Inv X pins d H2 s2->RelV x v->RelV y u->R x y H2->wpAny (model X.prog X.w) X.A (f v u) Q X.xe s2):
  wpAny (model X.prog X.w) X.A (eval a X.env) (λv i=>wpAny (model X.prog X.w) X.A (eval b X.env) (λu j=>wpAny (model X.prog X.w) X.A (f v u) Q X.xe j) X.xe i) X.xe s:=by
 refine thn (ha pins s d H _ I h) λv s1 ⟨x,l,o,p,q1⟩=>?_
 refine thn (m pins s1 d l _ o q1) λu s2 ⟨y,H2,q,r,q2⟩=>?_
 exact n v u s2 x y H2 q p r q2
theorem qlk(d:OpR X (binaryOp op) r)(ha:PE X a ta)(f:PE X b tb):PE X (.BinOp a op b pos) (tOp r ta tb):=by
 intro pins s i H Q I h;exact wpAny_BinOp (binT ha f I h λv u s2 x y H2 j l m q=>d pins s2 i H2 x y v u Q j l m q)
theorem qll(f:UnR X (unaryOp op) r)(ha:PE X a ta):PE X (.UnaryOp op a pos) (tUn r ta):=by
 intro pins s d H Q I h;exact UnaryOp_ (thn (ha pins s d H _ I h) λv s1 ⟨x,i,j,l,q1⟩=>f pins s1 d i x v Q j l q1)
theorem opI{f:Value->Value->Sem Value}{C:Int->Int->Prop}{g:Int->Int->Int}(d:∀(i j:Int) (t u:Tok) (s:Shared) (Q:Value->Shared->Prop) (E:Value->Shared->Prop),C i j->Q (.int (g i j) s.toks) {s with toks:=s.toks+1}->wpAny (model X.prog X.w) X.A (f (.int i t) (.int j u)) Q E s):
  OpR X f (rI C λi j=>.int (g i j)):=by
 intro pins s o H x y v u Q I l m h;obtain⟨i,j,rfl,rfl,n,q⟩:=h;obtain⟨t,rfl⟩:=l;obtain⟨t',rfl⟩:=m;exact d i j t t' s _ _ n ⟨.int (g i j),H,I.tok _,⟨_,rfl⟩,q⟩
theorem opB0{f:Value->Value->Sem Value}{g:Int->Int->Bool}(d:∀(i j:Int) (t u:Tok) (s:Shared) (Q:Value->Shared->Prop) (E:Value->Shared->Prop),Q (.bool (g i j)) s->wpAny (model X.prog X.w) X.A (f (.int i t) (.int j u)) Q E s):
  OpR X f (rI0 λi j=>.bl (g i j)):=by
 intro pins s n H x y v u Q I l m h;obtain⟨i,j,rfl,rfl,q⟩:=h;obtain⟨t,rfl⟩:=l;obtain⟨t',rfl⟩:=m;exact d i j t t' s _ _ ⟨.bl (g i j),H,I,rfl,q⟩
theorem qcR(k:Nat):(0:Int)<=2^k:=by
 rw[two_pow_cast];exact Int.natCast_nonneg _
theorem qjJ:OpR X (binaryOp .RShift) (rI (λ_ j=>0<=j) λi j=>.int (i / 2^j.toNat)):=opI λi j _ _ _ _ _ d q =>
 rshift_int d (by rw[uJ i (qcR _)];exact q)
theorem unI{f:Value->Sem Value}{g:Int->Int}(d:∀(i:Int) (t:Tok) (s:Shared) (Q:Value->Shared->Prop) (E:Value->Shared->Prop),Q (.int (g i) s.toks) {s with toks:=s.toks+1}->wpAny (model X.prog X.w) X.A (f (.int i t)) Q E s):
  UnR X f (rU λi=>.int (g i)):=by
 intro pins s l H x v Q I j h;obtain⟨i,rfl,q⟩:=h;obtain⟨t,rfl⟩:=j;exact d i t s _ _ ⟨.int (g i),H,I.tok _,⟨_,rfl⟩,q⟩
theorem qjK:UnR X (unaryOp .USub) (rU λi=>.int (-i)):=unI λ_ _ _ _ _ q=>neg_int q
end
section
variable{X:Cx}{a b c:Expr}{ta tb tc:TE}{pos:Pos}
theorem qfr(I:Inv X pins d H s)(q:Q (.bl k) H)(e:k=f):EP X pins d Q (.bool f) s:=by
 subst e;exact⟨.bl k,H,I,rfl,q⟩
theorem qlm:OpR X (compareOp .Lt) (rI0 λi j=>.bl (decide (i<j))):=opB0 λ_ _ _ _ _ _ _ q=>lt_int q
theorem qln:OpR X (compareOp .LtE) (rI0 λi j=>.bl (decide (i<=j))):=opB0 λ_ _ _ _ _ _ _ q=>le_int q
theorem qlo:OpR X (compareOp .Gt) (rI0 λi j=>.bl (decide (j<i))):=opB0 λ_ _ _ _ _ _ _ q=>gt_int q
theorem qlp:OpR X (compareOp .GtE) (rI0 λi j=>.bl (decide (j<=i))):=opB0 λ_ _ _ _ _ _ _ q=>ge_int q
theorem qjL:OpR X (compareOp .Is) (λx y H Q=>y=.non/\Q (.bl (decide (x=.non))) H):=by
 intro pins s i H x y v u Q I d f h;obtain⟨rfl,q⟩:=h;cases f;refine is_none_gen (qfr I q ?_);cases x <;> first
  | (cases d;rfl)
  | (obtain⟨t,rfl⟩:=d;rfl)
theorem qhG:OpR X (compareOp .IsNot) (λx y H Q=>y=.non/\Q (.bl (!decide (x=.non))) H):=by
 intro pins s i H x y v u Q I d f h;obtain⟨rfl,q⟩:=h;cases f;refine isnot_none_gen (qfr I q ?_);cases x <;> first
  | (cases d;rfl)
  | (obtain⟨t,rfl⟩:=d;rfl)
theorem qhH(d:OpR X (compareOp op) r)(ha:PE X a ta)(f:PE X b tb)(hm:behindInMarks op b=false):PE X (.Compare a [op] [b] pos) (tOp r ta tb):=by
 intro pins s i H Q I h;exact wpAny_Compare1 (binT ha f I h λv u s2 x y H2 j l m q=>d pins s2 i H2 x y v u Q j l m q) hm
def tTest(t:TE):TT:=λd H Q=>t d H λx H'=>∃k,x=.bl k/\Q k H'
theorem qhI(f:OpR X (compareOp op) r)(ha:PE X a ta)(i:PE X b tb)(hm:behindInMarks op b=false):PT X (.Compare a [op] [b] pos) (tTest (tOp r ta tb)):=by
 intro pins s d H Q I h;refine wpAny_isTrue_Compare1 (thn (ha pins s d H _ I h) λv s1 ⟨x,j,l,m,q1⟩=>thn (i pins s1 d j _ l q1) λu s2 ⟨y,H2,n,o,q2⟩ =>
  thn (f pins s2 d H2 x y v u _ n m o q2) λc A ⟨z,H3,p,q,k,e,w⟩=>?_) hm
 subst e;cases q;exact v7 ⟨H3,p,w⟩
def tChain(r f:R2)(ta tb tc:TE):TE:=λd H Q=>ta d H λx h=>tb d h λy H2=>r x y H2 λz H3=>∃k,z=.bl k /\
 (if k=true then tc d H3 λi j=>f y i j Q else Q (.bl false) H3)
theorem qfs(p:OpR X (compareOp op) r)(j:OpR X (compareOp f) l)(ha:PE X a ta)(q:PE X b tb)(w:PE X c tc)(hm:lastMarks [op,f] [b,c]=false:=by with_unfolding_all rfl):PE X (.Compare a [op,f] [b,c] pos) (tChain r l ta tb tc):=by
 intro pins s i H Q I h;refine Compare_chain (thn (ha pins s i H _ I h) λv s1 ⟨x,A,B,C,q1⟩=>chain_link (thn (q pins s1 i A _ B q1) λu s2 ⟨y,H2,E,m,q2⟩ =>
  thn (p pins s2 i H2 x y v u _ E C m q2) λd F ⟨z,H3,n,J,k,e,o⟩=>?_)) hm
 subst e;cases J;refine v7 ?_;cases k with
 |false=>exact ite_ff ⟨.bl false,H3,n,rfl,o⟩
 |true=>exact ite_tt (chain_last (thn (w pins F i H3 _ n o) λK L ⟨M,N,O,P,S⟩=>j pins L i N y M u K Q O m P S))
theorem qft(p:OpR X (compareOp op) r)(j:OpR X (compareOp f) l)(ha:PE X a ta)(q:PE X b tb)(w:PE X c tc)(hm:lastMarks [op,f] [b,c]=false:=by with_unfolding_all rfl):PT X (.Compare a [op,f] [b,c] pos) (tTest (tChain r l ta tb tc)):=by
 intro pins s i H Q I h;refine isTrue_chain (thn (ha pins s i H _ I h) λv s1 ⟨x,A,B,C,q1⟩=>test_link (thn (q pins s1 i A _ B q1) λu s2 ⟨y,H2,E,m,q2⟩ =>
  thn (p pins s2 i H2 x y v u _ E C m q2) λd F ⟨z,H3,n,J,k,e,o⟩=>?_)) hm
 subst e;cases J;refine v7 ?_;cases k with
 |false =>
  obtain⟨k',e',K⟩:=o;cases e';exact ite_ff ⟨H3,n,K⟩
 |true =>
  refine ite_tt (test_last (thn (w pins F i H3 _ n o) λL M ⟨N,O,P,S,U⟩=>thn (j pins M i O y N u L _ P m S U) λd' s5 ⟨z2,W,Y,Z,k2,e2,q5⟩=>?_));subst e2;cases Z;exact v7 ⟨W,Y,q5⟩
def TruV(K:PySem.W.Frag)(x:V)(H:Hp)(k:Bool):Prop :=
 match x with
 | .non=>k=false
 | .bl b=>k=b
 | .int i=>k=(i != 0)
 | .str y=>y.length<=sizeLine/\k=((y.length:Int) != 0)
 | .byt y=>y.size<=sizeLine/\k=((y.size:Int) != 0)
 | .ref p=>(∃xs,SqL K H p xs/\k=!xs.isEmpty)\/(∃xs,SqT K H p xs/\k=!xs.isEmpty)\/∃kvs,H p=some (.dK kvs)/\k=!kvs.isEmpty
 |_=>False
theorem qcS(r:KV kvs vs):(!vs.isEmpty)=!kvs.isEmpty:=by
 cases r <;> rfl
theorem j6(r:Vals xs d):(!d.toArray.isEmpty)=!xs.isEmpty:=by
 cases r <;> simp
theorem line63:(sizeLine:Nat)<2^63:=by rw[vT];decide
theorem qjM:TruR X (λx H Q=>∃k,TruV X.K x H k/\Q k H):=by
 intro pins s A H x v Q I f h;obtain⟨k,e,q⟩:=h;have B:=line63;have C:sizeLine=16777216:=vT;cases x with
 |non =>
  cases f;have e':k=false:=e;subst e';exact truthy_none ⟨H,I,q⟩
 |bl b =>
  cases f;have e':k=b:=e;subst e';exact v7 ⟨H,I,q⟩
 |int i =>
  obtain⟨t,rfl⟩:=f;have e':k=(i != 0):=e;subst e';exact PySem.P.truthy_int ⟨H,I,q⟩
 |str y =>
  obtain⟨t,rfl⟩:=f;obtain⟨o,e'⟩:y.length<=sizeLine/\k=((y.length:Int) != 0):=e;subst e';exact PySem.P.truthy_str (by lia) ⟨H,I.tok _,q⟩
 |byt y =>
  obtain⟨t,rfl⟩:=f;obtain⟨o,e'⟩:y.size<=sizeLine/\k=((y.size:Int) != 0):=e;subst e';exact PySem.W.truthy_bytes (by lia) ⟨H,I.tok _,q⟩
 |ref p =>
  cases f;have e':(∃xs,SqL X.K H p xs/\k=!xs.isEmpty)\/(∃xs,SqT X.K H p xs/\k=!xs.isEmpty)\/∃kvs,H p=some (.dK kvs)/\k=!kvs.isEmpty:=e;rcases e' with ⟨xs,j,e'⟩|⟨xs,j,e'⟩|⟨kvs,j,e'⟩
  .subst e'
   obtain⟨l,r,pl,n⟩:=I.list j;have d:=r.length;exact wpAny_truthy_list pl.isList (by simp only[wK];lia) ⟨H,I.tok _,by rw[j6 r];exact q⟩
  .subst e'
   obtain⟨l,r,pl,n⟩:=I.tuple j;have d:=r.length;exact truthy_tuple pl (by simp only[wK];lia) ⟨H,I.tok _,by rw[j6 r];exact q⟩
  .subst e'
   obtain⟨n,u,vs,r,m⟩:kvs.length<=sizeLine/\(p == sysModules)=false/\∃vs,KV kvs vs/\s.heap.DictOf (mixKind X.prog X.w) p vs:=I.hok p _ j;have d:kvs.length=vs.length:=Paired.length r;exact wpAny_truthy_dict u m (by lia) ⟨H,I.tok _,by rw[qcS r];exact q⟩
 |_=>exact(show False from e).elim
theorem qbU(ha:PE X a ta)(i:∀d,isTrue a X.env d=(do let v <-d;standAt a.pos;holding [v] (truthy v))):
  PT X a (λf H Q=>ta f H λx H'=>∃k,TruV X.K x H' k/\Q k H'):=by
 intro pins s f H Q I h;exact isTrue_plain (thn (ha pins s f H _ I h) λv s1 ⟨x,j,l,m,q1⟩=>qjM pins s1 f j x v Q l m q1) (i _)
theorem qcT:OpR X (binaryOp .Add) (λx y H Q=>∃i j,x=.str i/\y=.str j/\i.length+j.length<=sizeLine/\Q (.str (i++j)) H):=by
 intro pins s m H x y v u Q I d f h;obtain⟨i,j,rfl,rfl,l,q⟩:=h;obtain⟨t,rfl⟩:=d;obtain⟨t',rfl⟩:=f;exact add_str (λt' tk=>⟨.str (i++j),H,I.tok _,⟨_,rfl⟩,q⟩) l
theorem vals1(r:Vals [x] us):∃u,us=[u]/\RelV x u:=by
 cases r with
 |cons d f=>cases f;exact⟨_,rfl,d⟩
theorem vals2(r:Vals [x,y] us):∃u d,us=[u,d]/\RelV x u/\RelV y d:=by
 cases r with
 |cons f h =>
  cases h with
  |cons i j=>cases j;exact⟨_,_,rfl,f,i⟩
theorem qfu:CallR X (.builtin "abs") (λxs H Q=>∃i,xs=[.int i]/\Q (.int (if i<0 then -i else i)) H):=by
 intro pins s d H xs us Q I r h;obtain⟨i,rfl,q⟩:=h;obtain⟨u,rfl,t,rfl⟩:=vals1 r;exact call_abs_int λu tk=>⟨.int (if i<0 then -i else i),H,I.tok _,⟨_,rfl⟩,q⟩
theorem qeF(f:X.calm=true):CallR X (.builtin "max") (λxs H Q=>∃i j,xs=[.int i,.int j]/\Q (.int (if j>i then j else i)) H):=by
 intro pins s l H xs us Q I r h;obtain⟨i,j,rfl,q⟩:=h;obtain⟨u,m,rfl,⟨t,rfl⟩,⟨t',rfl⟩⟩:=vals2 r;refine max_two_ints (I.ok.hd f) λh' tk k=>⟨_,H,I.kept k,?_,q⟩
 by_cases d:j>i
 .rw [wN d,wN d];exact⟨_,rfl⟩
 .rw [wT d,wT d];exact⟨_,rfl⟩
theorem qeG(f:X.calm=true):CallR X (.builtin "min") (λxs H Q=>∃i j,xs=[.int i,.int j]/\Q (.int (if j<i then j else i)) H):=by
 intro pins s l H xs us Q I r h;obtain⟨i,j,rfl,q⟩:=h;obtain⟨u,m,rfl,⟨t,rfl⟩,⟨t',rfl⟩⟩:=vals2 r;refine min_two_ints (I.ok.hd f) λh' tk k=>⟨_,H,I.kept k,?_,q⟩
 by_cases d:j<i
 .rw [wN d,wN d];exact⟨_,rfl⟩
 .rw [wT d,wT d];exact⟨_,rfl⟩
theorem qbi:CallR X (.type "str") (λxs H Q=>∃i,xs=[.int i]/\i.natAbs.log2<1920/\Q (.str (toString i)) H):=by
 intro pins s f H xs us Q I r h;obtain⟨i,rfl,d,q⟩:=h;obtain⟨u,rfl,t,rfl⟩:=vals1 r;exact PySem.P.str_of_int d ⟨.str _,H,I.tok _,⟨_,rfl⟩,q⟩
def LenV(K:PySem.W.Frag)(x:V)(H:Hp)(n:Nat):Prop :=
 match x with
 | .str y=>y.length<=sizeLine/\n=y.length
 | .byt y=>y.size<=sizeLine/\n=y.size
 | .ref p=>(∃xs,SqL K H p xs/\n=xs.length)\/∃xs,SqT K H p xs/\n=xs.length
 |_=>False
theorem qfv:CallR X (.builtin "len") (λxs H Q=>∃x n,xs=[x]/\LenV X.K x H n/\Q (.int n) H):=by
 intro pins s v H xs us Q I r h;obtain⟨x,n,rfl,e,q⟩:=h;obtain⟨u,rfl,f⟩:=vals1 r;have w:=line63;have A:sizeLine=16777216:=vT;cases x with
 |str y =>
  obtain⟨t,rfl⟩:=f;obtain⟨m,e'⟩:y.length<=sizeLine/\n=y.length:=e;subst e';exact len_str (by lia) ⟨.int _,H,I.tok _,⟨_,rfl⟩,q⟩
 |byt y =>
  obtain⟨t,rfl⟩:=f;obtain⟨m,e'⟩:y.size<=sizeLine/\n=y.size:=e;subst e';exact PySem.W.len_bytes (by lia) ⟨.int _,H,I.tok _,⟨_,rfl⟩,q⟩
 |ref p =>
  cases f;have e':(∃xs,SqL X.K H p xs/\n=xs.length)\/∃xs,SqT X.K H p xs/\n=xs.length:=e;rcases e' with ⟨xs,i,e'⟩|⟨xs,i,e'⟩
  .subst e'
   obtain⟨j,l,pl,o⟩:=I.list i;have d:=l.length;exact Calls.call_len_list pl.isList (by simp only[wK];lia) ⟨.int xs.length,H,I.tok _,⟨_,by simp only[wK];rw[d]⟩,q⟩
  .subst e'
   obtain⟨j,l,pl,o⟩:=I.tuple i;have d:=l.length;exact len_tuple pl (by simp only[wK];lia) ⟨.int xs.length,H,I.tok _,⟨_,by simp only[wK];rw[d]⟩,q⟩
 |_=>exact(show False from e).elim
end
structure ObjM (h:Heap) (x dx C:Addr) (mA:Str->Option Value):Prop where
 obj:h.get? x=some (PySem.W.instObj C dx)
 ns:h.Ns1 dx mA
 ne:dx≠x
def qeH{h:Heap}(n:h.Ns1 dx mA):∃od,h.get? dx=some od/\∀name,PySem.W.lookIn name od=some (mA name):=by
 obtain⟨o,es,j,c,hd,d,_,hm⟩:=n;refine⟨o,c,λname=>?_⟩;have e:=hm name;unfold nsFind findBy at e;rw[<-Array.find?_toList]at e;unfold PySem.W.lookIn;rw[hd];dsimp only;split
 .rename_i y q
  rw[q]at e;exact congrArg some e
 .rename_i q
  rw[q]at e;have a:es.toList.any (·.refKey)=false:=by
   rw[List.any_eq_false];intro y f;obtain⟨z,t,b⟩:=d y (Array.mem_toList_iff.mp f);simp[DictEntry.refKey,b]
  have i:¬es.toList.any (·.refKey)=true:=by rw[a];exact w5
  rw[wT i];exact congrArg some e
def ObjM.look(I:ObjM h x dx C mA):∃od,PySem.W.InstAt h x (PySem.W.instObj C dx) C (some od)/\∀name,PySem.W.lookIn name od=some (mA name) :=
 let ⟨od,a,b⟩:=qeH I.ns
 ⟨od,⟨I.obj,rfl,rfl,a⟩,b⟩
def RelO.some_of(r:RelO (some v) o):∃u,o=some u/\RelV v u:=by
 cases o with
 |none=>exact(show False from r).elim
 |some u=>exact⟨u,rfl,r⟩
section
variable{P:Program}{w:World}{H H':Hp}{h h':Heap}{a C dx:Addr}{fs fs':List (Str×V)}
theorem qhJ(hok:HOk P w H h)(e:H a=some (.ins C dx fs)):∃mA,ObjM h a dx C mA/\(∀f,RelO (fs.lookup f) (mA f))/\PySem.Within mA (fs.map (·.1))/\fs.length<=1000/\H dx=some (.own a):=by
 obtain⟨d,z,ne,ob,mA,n,r,q⟩:=(show ObjOk P w H h a (.ins C dx fs)from hok a _ e);exact⟨mA,⟨ob,n,ne⟩,r,q,z,d⟩
end
structure Cls (K:PySem.W.Frag) (C:Addr):Prop where
 pg:PySem.W.plainGet K C Str.empty=true
 hd:PySem.W.hasDictIn K C=true
 po:PySem.W.plainOver K C=true
 sa:PySem.W.findIn K (.ref C) "__setattr__"=some (some (.builtin "object.__setattr__"))
def Cls.get{K:PySem.W.Frag}{C:Addr}(c:Cls K C)(f:Str):PySem.W.plainGet K C f=true:=c.pg
section
variable{X:Cx}{pins:List (Addr×Obj)}{σ:St}{H:Hp}{s:Shared}{A:Around}{E:Value->Shared->Prop}{Q:Value->Shared->Prop}{c:Value}{b:Bool}
inductive TyOf (K:PySem.W.Frag) (H:Hp):V->Value->Prop where
 |non:TyOf K H .non (.type "NoneType")
 |bl (x:Bool):TyOf K H (.bl x) (.type "bool")
 |int (i:Int):TyOf K H (.int i) (.type "int")
 |str (x:Str):TyOf K H (.str x) (.type "str")
 |flt (x:UInt64):TyOf K H (.flt x) (.type "float")
 |lst {a:Addr} {xs:List V} (e:H a=some (.lst xs)):TyOf K H (.ref a) (.type "list")
 |frz {a:Addr} {o:Obj} {xs:List V} (e:H a=some (.frz o (.lst xs))):TyOf K H (.ref a) (.type "list")
 |tup {a:Addr} {xs:List V} (e:H a=some (.tup xs)):TyOf K H (.ref a) (.type "tuple")
 |dK {a:Addr} {kvs:List (Key×V)} (e:H a=some (.dK kvs)):TyOf K H (.ref a) (.type "dict")
 |dT {a:Addr} {kvs:List (List Key×V)} (e:H a=some (.dT kvs)):TyOf K H (.ref a) (.type "dict")
 |ins {a C dx:Addr} {fs:List (Str×V)} (e:H a=some (.ins C dx fs)) (cl:Cls K C) (ha:PySem.W.findIn K (.ref C) "__class__"=some (some (.builtin "object.__class__")))
   (hn:PySem.W.specialIn K (.builtin "object.__class__") "__get__"=some (some (.builtin "getset_descriptor.__get__"))) (htk:PySem.W.takesIn K (.builtin "object.__class__")=some true)
   (hm:PySem.W.mroIn K C (.type "object")=some true):TyOf K H (.ref a) (.ref C)
theorem qeI(I:Inv X pins σ H s)(d:RelV x u)(ty:TyOf X.K H x t)(e:PySem.W.kitOne X.K t c=some b)(h:∀tk,Q (.bool b) {s with toks:=tk}):
  wpAny (model X.prog X.w) A (call (.builtin "isinstance") [u,c]) Q E s:=by
 cases ty with
 |non=>cases (show u=Value.none from d);exact vL PySem.W.kitx_none I.kIn True.intro e (λz=>nomatch z) h
 |bl y=>cases (show u=Value.bool y from d);exact vL PySem.W.kitx_bool I.kIn True.intro e (λz=>nomatch z) h
 |int i=>obtain⟨t,q⟩:=(show ∃t,u=Value.int i t from d);cases q;exact vL PySem.W.kitx_int I.kIn True.intro e (λz=>nomatch z) h
 |str y=>obtain⟨t,q⟩:=(show ∃t,u=Value.str y t from d);cases q;exact vL PySem.W.kitx_str I.kIn True.intro e (λz=>nomatch z) h
 |flt y=>obtain⟨t,q⟩:=(show ∃t,u=Value.float y t from d);cases q;exact vL PySem.W.kitx_float I.kIn True.intro e (λz=>nomatch z) h
 | @lst a xs f =>
  cases (show u=Value.ref a from d);obtain⟨_,_,n,_,j⟩:=(show ObjOk X.prog X.w H s.heap a (.lst xs)from I.hok a _ f);exact vL PySem.W.kitx_list I.kIn ⟨_,j,rfl⟩ e (λz=>nomatch z) h
 | @frz a ob xs f =>
  cases (show u=Value.ref a from d);obtain⟨_,_,_,n,_,j⟩:=(show ObjOk X.prog X.w H s.heap a (.frz ob (.lst xs))from I.hok a _ f);exact vL PySem.W.kitx_list I.kIn ⟨_,j,rfl⟩ e (λz=>nomatch z) h
 | @tup a xs f =>
  cases (show u=Value.ref a from d);obtain⟨_,_,_,p,_⟩:=(show ObjOk X.prog X.w H s.heap a (.tup xs)from I.hok a _ f);obtain⟨o,j,l,_⟩:=p;exact vL PySem.W.kitx_tuple I.kIn ⟨o,j,l⟩ e (λz=>nomatch z) h
 | @dK a kvs f =>
  cases (show u=Value.ref a from d);obtain⟨_,_,vs,_,p⟩:=(show ObjOk X.prog X.w H s.heap a (.dK kvs)from I.hok a _ f);obtain⟨o,es,m,j,l,_⟩:=p;exact vL PySem.W.kitx_dict I.kIn ⟨o,j,l.1⟩ e (λz=>nomatch z) h
 | @dT a kvs f =>
  cases (show u=Value.ref a from d);obtain⟨_,_,xs,_,o,es,m,j,l,_⟩:=(show ObjOk X.prog X.w H s.heap a (.dT kvs)from I.hok a _ f);exact vL PySem.W.kitx_dict I.kIn ⟨o,j,l.1⟩ e (λz=>nomatch z) h
 | @ins a C dx fs f cl ha hn htk hm =>
  cases (show u=Value.ref a from d);obtain⟨mA,O,_⟩:=qhJ I.hok f;obtain⟨od,J,_⟩:=O.look;exact vL (PySem.W.kitx_own (cl.get _) cl.hd ha hn htk hm) I.kIn J e (λz=>nomatch z) h
end
structure Room (k:Nat) (A:Around):Prop where
 hd:A.handled=none
 dp:A.depth+3*k+5<recursionLimit
 un:A.units+16*k+200<cLine
def Room.mono{j k:Nat}(r:Room k A)(h:j<=k):Room j A:=⟨r.hd,by have:=r.dp;lia,by have:=r.un;lia⟩
def Room.deeper{k:Nat}(r:Room (k+1) A)(env:Env):Room k (A.deeper env) :=
 ⟨r.hd,by have:=r.dp;show A.depth+1+3*k+5<_;lia,by have:=r.un;show A.units+3+16*k+200<_;lia⟩
def Room.depth{k:Nat}(r:Room k A):A.depth<recursionLimit:=by have:=r.dp;lia
def Room.units{k:Nat}(r:Room k A):A.units+64<cLine:=by have:=r.un;lia
def tNil:TA:=λ_ H Q=>Q [] H
def tCons(b:TE)(tr:TA):TA:=λa H Q=>b a H λx c=>tr a c λxs H2=>Q (x::xs) H2
section
variable{X:Cx}{e:Expr}{es:List Expr}{te:TE}{t:TA}{pos:Pos}
theorem j7:PA X [] tNil:=λ_ _ _ _ H Q I h=>u6 ⟨[],H,I,.nil,h⟩
theorem yT(ha:PE X e te)(b:PA X es t)(c:sE X e es:=by rfl):PA X (e::es) (tCons te t):=by
 intro pos pins s a H Q I h;rw[c];show wpAny _ _ (spliced ((false,eval e X.env)::backTo pos (starEach es X.env))) _ _ s;refine vg (thn (ha pins s a H _ I h) λu s1 ⟨x,d,f,i,q1⟩=>?_);exact thn (b pos pins s1 a d _ f q1) λus s2 ⟨xs,H2,j,l,q2⟩=>⟨x::xs,H2,j,.cons i l,q2⟩
def tTup(t:TA):TE:=λb H Q=>t b H λxs a=>xs.length<=sizeLine/\∀p,a p=none->Q (.ref p) (upd a p (.tup xs))
def tLst(t:TA):TE:=λb H Q=>t b H λxs a=>xs.length<=sizeLine/\∀p,a p=none->Q (.ref p) (upd a p (.lst xs))
theorem qjN{x1}(h:PA X es t):PE X (.Tuple es x1 pos) (tTup t):=by
 intro pins s d H Q I f;refine wpAny_Tuple_spliced (thn (h pos pins s d H _ I f) λus s1 ⟨xs,a,c,r,z,q⟩=>⟨by rw[<-r.length];exact z,?_⟩);have i:a s1.heap.objs.size=none:=c.hok.fresh (wJ _);refine⟨.ref s1.heap.objs.size,upd a s1.heap.objs.size (.tup xs),c.laid (t':=s1.toks) (λb u e=>wB _ e) (wJ _) ?_,rfl,q _ i⟩;exact⟨z,us,r,⟨_,wH _ rfl,rfl,_,rfl⟩,yS _ _⟩
theorem qfw(h:PA X es t):PE X (.List es pos) (tLst t):=by
 intro pins s d H Q I f;refine wpAny_List_spliced (thn (h pos pins s d H _ I f) λus s1 ⟨xs,a,c,r,z,q⟩=>⟨by rw[<-r.length];exact z,?_⟩);have i:a s1.heap.objs.size=none:=c.hok.fresh (wJ _);refine⟨.ref s1.heap.objs.size,upd a s1.heap.objs.size (.lst xs),c.laid (t':=s1.toks) (λb u e=>wB _ e) (wJ _) ?_,rfl,q _ i⟩;exact⟨z,us,0,r,wH _ rfl⟩
end
abbrev Sp:=List V->Hp->VK->XK->Prop
abbrev CXT:=List Env->Hp->Shared->XK->Value->Shared->Prop
structure Env0 (P:Program) (w:World) (K:PySem.W.Frag) (mg:Str->Option Value) (base:Heap) (A:Around) (outer:List Env) (s:Shared) (H:Hp):Prop where
 frames:A.frames=some outer
 mod:Mod K mg base
 bs:∀b o,base.get? b=some o->s.heap.get? b=some o/\H b=none
 bsz:base.objs.size<=s.heap.objs.size
 funs:s.heap.FunFrames base outer
 frf:∀b∈frs outer,H b=none
 hok:HOk P w H s.heap
 bare:AllBare s.gens
 tab:∀c T,codeTab K c T=true->∃ps,H T=some (.tbl ps)
def CE(outer:List Env)(P:Program)(w:World)(H:Hp)(s:Shared)(Q:VK)(u:Value)(s':Shared):Prop :=
 ∃v H',s'.os=s.os/\GK s.gens s'.gens/\Un (frs outer) [] H H' s.heap s'.heap/\HOk P w H' s'.heap/\RelV v u/\Q v H'
def CR(CX:CXT)(outer:List Env)(P:Program)(w:World)(H:Hp)(s:Shared)(Q:VK)(E:XK)(r:Result)(s':Shared):Prop :=
 match r with
 | .ok (.ret u)=>CE outer P w H s Q u s'
 | .ok _=>False
 | .error e=>CX outer H s E e s'
structure FnOk (P:Program) (w:World) (K:PySem.W.Frag) (mg:Str->Option Value) (base:Heap) (CX:CXT) (k:Nat) (f:Addr) (fd:FuncData) (ps:List Str) (sp:Sp):Prop where
 len:∀vs H Q E,sp vs H Q E->vs.length=ps.length
 run:∀(A:Around) (outer:List Env) (s:Shared) (H:Hp) (args:Args) (us:List Value) (vs:List V) (Q:VK) (E:XK),Room k A->Env0 P w K mg base A outer s H->BindsTo s fd args (ps.zip us)->Vals vs us->sp vs H Q E ->
  codeAny (model P w) A (.call (.ref f) args) (CR CX outer P w H s Q E) s
section
variable{X:Cx}{pins:List (Addr×Obj)}{σ:St}{H:Hp}{s s':Shared}
theorem Inv.env0(I:Inv X pins σ H s):Env0 X.prog X.w X.K X.mg X.base X.A X.stack s H :=
 ⟨I.ok.frames,I.ok.mod,I.bs,vA I.ok.bsz I.sz,I.stack,I.stkFree,I.hok,I.bare.bare,λc T z=>let ⟨ps,e⟩:=I.ok.tab c T z;let ⟨m,e'⟩:=I.base.tbls _ _ e;⟨_,e'⟩⟩
theorem Inv.after(I:Inv X pins σ H s)(h:CE X.stack X.prog X.w H s Q u s'):EP X pins σ Q u s':=by
 obtain⟨v,H',os,bare,un,hok,r,q⟩:=h;obtain⟨c,g,d,t,a⟩:=s';obtain rfl:a=s.os:=os;exact⟨v,H',I.call (h':=c) (g':=g) (d':=d) (t':=t) (ch:=[]) un hok bare (λb z=>absurd z (by simp)),r,q⟩
end
def tCall(sp:Sp)(dvs:List V)(E:XK)(t:TA):TE:=λa H Q=>t a H λvs b=>sp (vs++dvs) b Q E
def Binds(K:PySem.W.Frag)(fd:FuncData)(ps:List Str)(ds:List Value):Prop :=
 ∀(s:Shared) (us:List Value),K.In s.heap->(us++ds).length=ps.length->BindsTo s fd ⟨us,[]⟩ (ps.zip (us++ds))
def Binds.all{K:PySem.W.Frag}{fd:FuncData}{ps:List Str}(h:∀us:List Value,us.length=ps.length->bindArgs fd ⟨us,[]⟩=pure (ps.zip us)):Binds K fd ps []:=λs us _ a=>by
 rw[vY]at a ⊢;exact .of_eq (h us a)
def Passes(CX:CXT)(X:Cx)(E:XK):Prop:=∀(pins:List (Addr×Obj)) (a:St) (H:Hp) (s:Shared) (e:Value) (s':Shared),Inv X pins a H s->CX X.stack H s E e s'->X.xe e s'
section
variable{X:Cx}{CX:CXT}{k:Nat}{f C:Addr}{fd:FuncData}{ps:List Str}{sp:Sp}{dvs:List V}{ds:List Value}{E:XK}{x m:Str}{p pos apos:Pos}{e o:Expr}{es:List Expr}{ta:TE}{t:TA}
theorem qjO(F:FnOk X.prog X.w X.K X.mg X.base CX k f fd ps sp)(d:Room k X.A)(i:Binds X.K fd ps ds)(hd:Vals dvs ds)(j:Passes CX X E)(I:Inv X pins b H s)(r:Vals vs us)(h:sp (vs++dvs) H Q E):wpAny (model X.prog X.w) X.A (call (.ref f) us) (EP X pins b Q) X.xe s:=by
 have c:Vals (vs++dvs) (us++ds):=r.append hd;have l:(us++ds).length=ps.length:=by rw[<-c.length];exact F.len _ _ _ _ h
 refine wpAny_call (codeAny_mono (F.run X.A X.stack s H ⟨us,[]⟩ (us++ds) (vs++dvs) Q E d I.env0 (i s us I.kIn l) c h) λr s' a=>?_);cases r with
 |error e=>exact j pins b H s e s' I a
 |ok n =>
  cases n with
  |ret u=>exact I.after a
  |next=>exact False.elim a
  |brk=>exact False.elim a
  |cont=>exact False.elim a
theorem qdy(F:FnOk X.prog X.w X.K X.mg X.base CX k f fd ps sp)(d:Room k X.A)(i:Gl X x)(hm:X.mg x=some (.ref f))(j:PySem.W.keepIn X.K (.ref f)=true)(l:Binds X.K fd ps ds)(hd:Vals dvs ds)(n:Passes CX X E)(ha:PA X (e::es) t)(a:dB x:=by decide)(u:sE X e es:=by rfl)(b:bT X es pos:=by rfl):
  PE X (.Call (.Name x p) (e::es) [] pos) (tCall sp dvs E t):=by
 intro pins s v H Q I h;refine uT (jk I i hm ?_ a);refine PySem.W.callWith_K (h₀:=X.base) I.ok.mod.kin j (thn (ha pos pins s v H _ I h) λus s1 ⟨vs,y,c,r,q⟩=>⟨c.kIn,?_⟩) u b;exact qjO F d l hd n c r q
end
structure FnScope (N P:List Str) (sc:Scope):Prop where
 kind:sc.kind=.function
 co:sc.isCoroutine=false
 gen:sc.isGenerator=false
 nd:N.Nodup
 pre:N.take P.length=P
 par:∀x∈P,sc.names.lookup x=some .local\/sc.names.lookup x=some .cell
 nofree:∀y∈sc.names,y.2≠.free
def qaU{kindOf:Str->Option NameKind}{x:Str}:∀{a:List (Str×Value)} {m:Str->Option Value},(∀v,(x,v)∉a)->bindL kindOf a m x=m x
 |[],_,_=>rfl
 | (n,v)::r,m,h=>by
  unfold bindL;rw[qaU λw b=>h w (wO _ b)];split
  .have:x≠n:=by rintro rfl;exact h v wQ
   simp[this]
  .rfl
def qaV{kindOf:Str->Option NameKind}{x:Str}:∀{a:List (Str×Value)} {m:Str->Option Value},(∀v,(x,v)∉a)->bindC kindOf a m x=m x
 |[],_,_=>rfl
 | (n,v)::r,m,h=>by
  unfold bindC;rw[qaV λw b=>h w (wO _ b)];split
  .rfl
  .have:x≠n:=by rintro rfl;exact h v wQ
   simp[this]
def qaW{kindOf:Str->Option NameKind}{x:Str}{v:Value}:∀{P:List Str} {vs:List Value} {i:Nat} {m:Str->Option Value},P.Nodup->P[i]?=some x->vs[i]?=some v->kindOf x=some .local ->
  bindL kindOf (P.zip vs) m x=some v
 |[],_,_,_,_,h,_,_=>by simp at h
 |_::_,[],_,_,_,_,h,_=>by simp at h
 |p::P,w::vs,0,m,nd,h1,h2,hk=>by
  simp at h1 h2;subst h1;subst h2;show bindL kindOf ((p,w)::P.zip vs) m p=_;unfold bindL;rw[qaU λv a=>(uC.mp nd).1 (uU a).1,wN hk];simp
 |p::P,w::vs,i+1,m,nd,h1,h2,hk=>by
  show bindL kindOf ((p,w)::P.zip vs) m x=_;unfold bindL;exact qaW (i:=i) (uC.mp nd).2 (by simpa using h1) (by simpa using h2) hk
def qaX{kindOf:Str->Option NameKind}{x:Str}{v:Value}:∀{P:List Str} {vs:List Value} {i:Nat} {m:Str->Option Value},P.Nodup->P[i]?=some x->vs[i]?=some v->kindOf x≠some .local ->
  bindC kindOf (P.zip vs) m x=some v
 |[],_,_,_,_,h,_,_=>by simp at h
 |_::_,[],_,_,_,_,h,_=>by simp at h
 |p::P,w::vs,0,m,nd,h1,h2,hk=>by
  simp at h1 h2;subst h1;subst h2;show bindC kindOf ((p,w)::P.zip vs) m p=_;unfold bindC;rw[qaV λv a=>(uC.mp nd).1 (uU a).1,wT hk];simp
 |p::P,w::vs,i+1,m,nd,h1,h2,hk=>by
  show bindC kindOf ((p,w)::P.zip vs) m x=_;unfold bindC;exact qaX (i:=i) (uC.mp nd).2 (by simpa using h1) (by simpa using h2) hk
def start(N:List Str)(vs:List V):St:=vs.map some++List.replicate (N.length-vs.length) none
def cxOf(CX:CXT)(P:Program)(w:World)(K:PySem.W.Frag)(mg:Str->Option Value)(base:Heap)(N:List Str)(a:Str)(scope:Scope)(f:Addr)(b:Value)(A:Around)(outer:List Env)(s:Shared)(H:Hp)(E:XK):Cx where
 prog:=P
 w:=w
 K:=K
 mg:=mg
 base:=base
 A:=A.deeper (envOfC a scope s.heap.objs.size f b)
 N:=N
 s₀:=s
 H₀:=H
 env:=envOfC a scope s.heap.objs.size f b
 outer:=outer
 stack:=envOfC a scope s.heap.objs.size f b::outer
 ex:=[]
 calm:=true
 fn:=λ_=>true
 pn:=[]
 xe:=λe s'=>wpAny (model P w) (A.deeper (envOfC a scope s.heap.objs.size f b)) (leaving (envOfC a scope s.heap.objs.size f b) e) (λ_ s''=>CX outer H s E e s'') (λe' s''=>CX outer H s E e' s'') s'
def qbV{sc:Scope}{n:Nat}(h:sc.names.lookup x=some .cell):∃c,(cellsFrom n sc.names []).lookup x=some c:=by
 have q:=PySem.W.cellsFrom_some sc.names n [] (.inl h);exact Option.isSome_iff_exists.mp q
def qeJ{CX:CXT}{P:Program}{w:World}{K:PySem.W.Frag}{mg:Str->Option Value}{base:Heap}{N ps:List Str}{d:Str}{scope:Scope}{f:Addr}{F:Value}{A:Around}{outer:List Env}{s s1:Shared}{H:Hp}{E:XK}{us:List Value}{vs:List V}(S:FnScope N ps scope)(hd:A.handled=none)(l:Env0 P w K mg base A outer s H)(Q:vs.length=ps.length)(r:Vals vs us)(x:InCallC s s.heap.objs.size (bindL (envOfC d scope s.heap.objs.size f F).kindOf (ps.zip us) λ_=>none) (cellsFrom (s.heap.objs.size+1) scope.names []) (bindC (envOfC d scope s.heap.objs.size f F).kindOf (ps.zip us) λ_=>none) s1):
  Inv (cxOf CX P w K mg base N d scope f F A outer s H E) [] (start N vs) H s1:=by
 have M:ps.length<=N.length:=by have:=congrArg List.length S.pre;rw[wg]at this;lia
 obtain⟨I,tk,rfl,J⟩:=x.done;have m:∀b:Addr,b∉(cxOf CX P w K mg base N d scope f F A outer s H E).ex:=λb z=>absurd (show b∈([]:List Addr)from z) (by simp)
 refine⟨⟨l.mod,S.kind,rfl,rfl,wJ _,λy z c I j=>?_,λy o=>?_,λy c _ h=>?_,λ_=>hd,Around.frames_deeper l.frames,.inr ⟨rfl,rfl⟩,λb z=>absurd z (m b),l.bs,l.bsz,λb _ _=>m b,λb z=>absurd z (m b),l.funs,l.frf,l.tab⟩,
  rfl,GK.refl l.bare,Un.kept J,⟨_,x.toInCall.ns,λi y v I j U=>?_⟩,λy c h=>⟨_,x.cell y c h⟩,l.hok.fresh (wJ _),λy c h=>?_,λp B=>absurd (show p∈([]:List (Addr×Obj))from B) (by simp),l.hok.kept J,?_⟩
 .exact name_of_addr x.apart (vU I) (vU j)
 .have o:scope.names.lookup y=some .cell\/scope.names.lookup y=some .free:=o
  rcases o with o|o
  .exact qbV o
  .exact absurd rfl (S.nofree _ (vU o))
 .exact Nat.le_of_lt (x.above y c (vU h))
 .have hi:i<vs.length:=by
   unfold start at j;by_cases hi:i<vs.length
   .exact hi
   .rw [wM (by simpa using hi)]at j
    rw[vH]at j;split at j <;> cases j
  have ha:vs[i]?=some v:=by
   unfold start at j;rw[wL (by simpa using hi),w8]at j;cases e:vs[i]? with
   |none=>rw[e]at j;cases j
   |some a=>rw[e]at j;cases j;rfl
  obtain⟨u,L,O⟩:=r.get ha;have B:ps[i]?=some y:=by
   rw[<-S.pre,uR (by lia)];exact I
  have C:ps.Nodup:=by rw[<-S.pre];exact S.nd.sublist (List.take_sublist _ _)
  refine⟨u,O,?_⟩;rcases S.par y (w9 B)with k|k
  .exact .inl ⟨k,qaW C B L k⟩
  .obtain ⟨c,e⟩:=qbV (n:=s.heap.objs.size+1) k
   refine .inr ⟨.inl k,c,e,?_⟩;have q:=x.cell y c e;rw[qaX C B L (by show scope.names.lookup y≠_;rw[k];decide)]at q;exact q
 .exact l.hok.fresh (Nat.le_of_lt (x.above y c (vU h)))
 .unfold start
  show _=N.length;rw[wI,wE,xJ];lia
def qi5{CX:CXT}{P:Program}{w:World}{K:PySem.W.Frag}{mg:Str->Option Value}{base:Heap}{k:Nat}{f:Addr}{name a:Str}{d:Arguments}{body:List Stmt}{scope:Scope}{M kV doc pm c ct oc:Value}{an od:Option Addr}{osl:Array (Option Value)}{N ps:List Str}{sp:Sp}(U:K.lookup f=some ⟨oc,od,.func (PySem.W.fnOf name a d body scope M kV doc pm an c ct),osl⟩)(B:PySem.W.codeIn K c a=true)(S:FnScope N ps scope)(len:∀vs H Q E,sp vs H Q E->vs.length=ps.length)(i:∀(A:Around) (outer:List Env) (s:Shared) (H:Hp) (vs:List V) (Q:VK) (E:XK),Room k (A.deeper (envOfC a scope s.heap.objs.size f c))->sp vs H Q E ->
   ∃t,PSs (cxOf CX P w K mg base N a scope f c A outer s H E) body t/\t {nx:=λ_ H'=>Q .non H',rt:=Q} (start N vs) H):
  FnOk P w K mg base CX (k+1) f (PySem.W.fnOf name a d body scope M kV doc pm an c ct) ps sp:=by
 refine⟨len,λA outer s H args us vs Q E C m X r p=>?_⟩;have Y:=len _ _ _ _ p;have O:K.In s.heap:=m.mod.kin.keeps λb o e=>(m.bs b o e).1
 have F:s.heap.NoLimit:=m.mod.nolimit.keeps λb o e=>(m.bs b o e).1
 have j:∀y∈ps.zip us,scope.names.lookup y.1=some .local\/(scope.names.lookup y.1=some .cell/\((cellsFrom (s.heap.objs.size+1) scope.names []).lookup y.1).isSome=true):=λ⟨n,v⟩ Z=>by
  rcases S.par n (uU Z).1 with q|q
  .exact .inl q
  .exact .inr ⟨q,PySem.W.cellsFrom_some _ _ _ (.inl q)⟩
 refine codeAny_call_function C.depth (O _ _ U) rfl S.co S.gen rfl (PySem.W.codeRec_of O B) (X _ _ _ _ ?_);refine wpAny_newFunctionEnv_cells S.kind j λenv he s1 x=>?_
 subst he;refine⟨F.keeps x.toInCall.keep,codeAny_func ?_⟩;obtain⟨t,ht,hq⟩:=i A outer s H vs Q E (C.deeper _) p;have I:Inv (cxOf CX P w K mg base N a scope f c A outer s H E) [] (start N vs) H s1:=qeJ S C.hd m Y r x;refine wo (ht [] s1 (start N vs) H _ I hq) (λfl s' l=>?_) λe s' l=>l
 have fin:∀{h:St} {H':Hp} {v:V} {u:Value},Inv (cxOf CX P w K mg base N a scope f c A outer s H E) [] h H' s'->RelV v u->Q v H'->CE outer P w H s Q u s' :=
  λ{h H' v u} J L q=>⟨v,H',J.os,J.bare,J.base,J.hok,L,q⟩
 cases fl with
 |ret u =>
  obtain⟨v,h,H',J,L,q⟩:=l;exact fin J L q
 |next =>
  obtain⟨h,H',J,q⟩:=l;exact fin (v:=V.non) (u:=Value.none) J rfl q
 |brk =>
  obtain⟨_,_,_,q⟩:=l;exact False.elim q
 |cont =>
  obtain⟨_,_,_,q⟩:=l;exact False.elim q
section
variable{X:Cx}{x:Str}{p pos:Pos}{e:Expr}{es:List Expr}{t:TA}{id T:String}{r:List V->Hp->VK->Prop}
def tCB(r:List V->Hp->VK->Prop)(t:TA):TE:=λa H Q=>t a H λvs b=>r vs b Q
theorem j8(d:CallR X (.builtin id) r)(f:Gl X x)(hm:X.mg x=none)(i:bootBuiltins x=some (.builtin id))(ha:PA X (e::es) t)(hn:x≠"__name__":=by decide)(a:dB x:=by decide)(j:sE X e es:=by rfl)(b:bT X es pos:=by rfl):PE X (.Call (.Name x p) (e::es) [] pos) (tCB r t):=by
 intro pins s c H Q I h;refine uT (yB I f hm i ?_ hn a);exact PyProof.Rows.callWith_builtin1 (thn (ha pos pins s c H _ I h) λus s1 ⟨vs,l,m,n,q1⟩=>d pins s1 c l vs us Q m n q1) j b
theorem qaY(d:CallR X (.type T) r)(f:Gl X x)(hm:X.mg x=none)(i:bootBuiltins x=some (.type T))(ha:PA X (e::es) t)(hn:x≠"__name__":=by decide)(a:dB x:=by decide)(j:sE X e es:=by rfl)(b:bT X es pos:=by rfl):PE X (.Call (.Name x p) (e::es) [] pos) (tCB r t):=by
 intro pins s c H Q I h;refine uT (yB I f hm i ?_ hn a);exact va (thn (ha pos pins s c H _ I h) λus s1 ⟨vs,l,m,n,q1⟩=>d pins s1 c l vs us Q m n q1) j b
end
end L2
namespace HT
open PySem PyProof.Rows
def lexLt:List Int->List Int->Bool
 |[],[]=>false
 |[],_::_=>true
 |_::_,[]=>false
 |x::xs,y::ys=>if x=y then lexLt xs ys else decide (x<y)
def zx(x y:Int)(xs ys:List Int):lexLt (x::xs) (y::ys)=if x=y then lexLt xs ys else decide (x<y):=rfl
def jf:lexLt [] []=false:=rfl
def yC(y:Int)(ys:List Int):lexLt [] (y::ys)=true:=rfl
def yD(x:Int)(xs:List Int):lexLt (x::xs) []=false:=rfl
def qbW(A:Around)(s:Shared)(a:Int)(t:Tok)(c:Int)(u:Tok):∃e,SeqAt.EqAt A s (.int a t) (.int c u) e/\(e=true ↔ a=c) :=
 ⟨(a == c),SeqAt.EqAt.int_int a t c u,by simp⟩
def qfx(A:Around)(s:Shared)(a:Int)(t:Tok)(c:Int)(u:Tok)(prog:Program)(w:World)(E:Value->Shared->Prop)(Q:Value->Shared->Prop)(h:Q (.bool (decide (a<c))) s):
  wpAny (model prog w) A (richCompare .Lt (.int a t) (.int c u)) Q E s :=
 (PyProof.Rows.lt_int h:wpAny (model prog w) A (compareOp .Lt (.int a t) (.int c u)) Q E s)
section
open PySem.SeqAt
open PySem.AutoSeq1 (wpAny_loadPart')
open PySem.MeetsSeq PySem.MeetsSeq2 PySem.MeetsSeq3
def qaM(l b:Addr)(items f:Array Value)(n Q:Nat)(dd K:Option Addr)(sl L:Array (Option Value))(ns H:List Int)(hi:IntsAre items.toList ns)(O:IntsAre f.toList H):
  Meets (Builtin.«tuple.__lt__» ⟨[.ref l,.ref b],[]⟩)
   (λ_ R s=>s.heap.get? l=some {cls:=.type "tuple",dict:=dd,data:=.seq items n,slots:=sl}/\s.heap.get? b=some {cls:=.type "tuple",dict:=K,data:=.seq f Q,slots:=L} /\
    R (.ok (.ret (.bool (lexLt ns H)))) s) :=
 .of_wp λprog w A R s h=>by
  obtain⟨I,g,d,tk,os⟩:=s;obtain⟨S,U,h⟩:=h;have Z:=AutoSeq1.sub_tuple_tuple;have z1:items.size=ns.length:=by rw[<-hi.length];simp
  have z2:f.size=H.length:=by rw[<-O.length];simp
  wp_walk using wpAny_loadPart' S,wpAny_loadPart' U,wpAny_forIn_list _ (λrest b s'=>b.1=none/\s'=⟨I,g,d,tk,os⟩/\∃(vs J:List Value) (j m:List Int),rest=vs.zip J /\
   IntsAre vs j/\IntsAre J m/\j.length+f.size=m.length+items.size/\R (.ok (.ret (.bool (lexLt j m)))) ⟨I,g,d,tk,os⟩) _
  case turn =>
   rintro⟨y,x⟩ rest b s' ⟨B,rfl,vs,J,j,m,o,C,p,i,r⟩;cases C with
   |nil=>rw[List.zip_nil_left]at o;cases o
   |cons a t E =>
    cases p with
    |nil=>rw[List.zip_nil_right]at o;cases o
    |cons c u F =>
     rw[vd]at o;injection o with M hrest;injection M with W hx;subst W hx;rw[zx]at r;simp only[w4]at i;obtain⟨e,X,v⟩:=qbW A.in1 ⟨I,g,d,tk,os⟩ a t c u;refine wA (X prog w _ _ ?_);cases e with
     |true =>
      rw[wN (v.mp rfl)]at r;wp_walk;exact⟨rfl,rfl,_,_,_,_,hrest,E,F,by lia,r⟩
     |false =>
      rw[wT (λq=>absurd (v.mpr q) w5)]at r;have N:=qfx A.in1 ⟨I,g,d,tk,os⟩ a t c u prog w;wp_walk using N;exact⟨_,rfl,by simpa using r⟩
  case fin =>
   rintro⟨b1,b2⟩ s' ⟨B,rfl,vs,J,j,m,o,C,p,i,r⟩;simp only at B;subst B;have P:lexLt j m=decide (items.size<f.size):=by
    cases C with
    |nil =>
     cases p with
     |nil =>
      simp only[vb]at i;rw[jf];exact(wY (by lia)).symm
     |cons c u Y =>
      simp only[vb,w4]at i;rw[yC];exact(wS (by lia)).symm
    |cons a t P =>
     cases p with
     |nil =>
      simp only[vb,w4]at i;rw[yD];exact(wY (by lia)).symm
     |cons c u Y =>
      rw[vd]at o;cases o
   rw[P]at r;wp_walk;exact⟨_,rfl,by simpa[Builtin.Tuple.tupleCompareSizes]using r⟩
  case h =>
   exact⟨rfl,rfl,items.toList,f.toList,ns,H,rfl,hi,O,by lia,h⟩
end
section
variable{prog:Program}{w:World}{A:Around}{E:Value->Shared->Prop}{s:Shared}
theorem qcU(u:IsTup s.heap l items)(v:IsTup s.heap b a)(hi:IntsAre items.toList ns)(y:IntsAre a.toList c)(B:A.units<cLine)(h:Q (.bool (lexLt ns c)) s):wpAny (model prog w) A (compareOp .Lt (.ref l) (.ref b)) Q E s:=by
 obtain⟨⟨cls,dd,data,sl⟩,p,q,n,hd⟩:=id u;obtain⟨⟨r,j,m,o⟩,d,f,C,i⟩:=id v;simp only at q hd f i;subst q hd f i;exact richCompare_meets_room (op:=.Lt) ⟨_,p,rfl⟩ ⟨_,d,rfl⟩ PySem.F.slot_tuple_lt PySem.F.entry_tuple_lt (PySem.F.args_tuple_lt_2 _ _) (qaM l b items a n C dd j sl o ns c hi y)
  ⟨p,d,show Value.bool (lexLt ns c)≠Value.notImplemented/\Q (.bool (lexLt ns c)) s from⟨(λx=>nomatch x),h⟩⟩ B
theorem qhK{vs a:List Value}(u:IsTup s.heap t vs.toArray)(v:IsTup s.heap b a.toArray)(o:vs≠[])(x:a=[]->Q (.ref t) s)(y:a≠[]->Q (.ref s.heap.objs.size) {s with heap:=s.heap.push {cls:=.type "tuple",data:=.seq (vs++a).toArray}})(hsz:vs.length+a.length<=sizeLine):wpAny (model prog w) A (binaryOp .Add (.ref t) (.ref b)) Q E s:=by
 obtain⟨⟨cls,dd,data,sl⟩,j,p,n,hd⟩:=id u;obtain⟨⟨q,d,m,f⟩,c,h,r,i⟩:=id v;simp only at p hd h i;subst p hd h i;have e:vs.toArray++a.toArray=(vs++a).toArray:=by simp
 by_cases l:a=[]
 .exact concat_meets ⟨_,j,rfl⟩ ⟨_,c,rfl⟩ noFill_tuple_add seq_tuple_add xF uy (uv _ _)
   (tuple_addW1 t b vs.toArray a.toArray n r dd d sl f (by simpa using o) (by simp[l])) ⟨j,c,x l⟩
 .refine concat_meets ⟨_,j,rfl⟩ ⟨_,c,rfl⟩ noFill_tuple_add seq_tuple_add xF uy (uv _ _)
   (tuple_addW2 t b vs.toArray a.toArray n r dd d sl f (by simpa using o) (by simpa using l) (by rw[wK,wK];exact hsz)) ⟨j,c,?_⟩
  rw[e];exact y l
def sIx(n d:Nat):Option Int->Nat
 |none=>d
 |some v=>if v<0 then(v+(n:Int)).toNat else min v.toNat n
theorem j9(n d:Nat):sIx n d none=d:=rfl
theorem jY(n d k:Nat):sIx n d (some (k:Int))=min k n:=by
 show(if(k:Int)<0 then((k:Int)+(n:Int)).toNat else min (k:Int).toNat n)=min k n;rw[wT (by lia),u5]
theorem qjP(n d:Nat)(hd:d<=n)(o:Option Int):sIx n d o<=n:=by
 cases o with
 |none=>exact hd
 |some v =>
  show(if v<0 then(v+(n:Int)).toNat else min v.toNat n)<=n;by_cases a:v<0
  .rw [wN a];lia
  .rw [wT a];exact Nat.min_le_right _ _
theorem qdz(v:Int)(n d:Nat):(if v<0 then max (v+(n:Int)) 0 else min v (n:Int))=((sIx n d (some v):Nat):Int):=by
 show(if v<0 then max (v+(n:Int)) 0 else min v (n:Int))=(((if v<0 then(v+(n:Int)).toNat else min v.toNat n):Nat):Int);by_cases a:v<0
 .simp only[wN a];lia
 .simp only[wT a];lia
theorem qcV(lo hi:Option Int)(n:Nat):Builtin.Slice.sliceAdjust lo hi 1 (n:Int)=(((sIx n 0 lo:Nat):Int),((sIx n n hi:Nat):Int)):=by
 have a:¬((1:Int)<0):=by lia
 unfold Builtin.Slice.sliceAdjust;simp only[a,uO];refine Prod.ext ?_ ?_
 .cases lo with
  |none=>rfl
  |some v=>exact qdz v n 0
 .cases hi with
  |none=>rfl
  |some v=>exact qdz v n n
theorem qcW(i j:Nat):Builtin.Slice.slicePlaces (i:Int) (j:Int) 1=j-i:=by
 unfold Builtin.Slice.slicePlaces;have a:(1:Int)>0:=by lia
 simp only[a,v9,Int.ediv_one];split <;> lia
theorem qaa(p:IsPart v o)(h:Q o s):wpAny (model prog w) A (Builtin.Slice.slicePartIndex v) Q E s:=by
 cases p with
 |none=>exact slicePart_none h
 |int i t=>exact slicePart_int h
theorem zZ{sl:Addr}{c d:Value}{lo hi:Option Int}{n:Nat}{Q:Int×Int×Nat->Shared->Prop}(f:s.heap.IsSliceOf sl c d .none)(pl:IsPart c lo)(i:IsPart d hi)(h:Q (((sIx n 0 lo:Nat):Int),1,sIx n n hi-sIx n 0 lo) s):wpAny (model prog w) A (Builtin.Slice.sliceApplied (.ref sl) (pure (n:Int))) Q E s:=by
 obtain⟨os,a,j,b⟩:=id f;unfold Builtin.Slice.sliceApplied Builtin.Slice.sliceFields;refine wA (wA (wx a b (x:=c) rfl (wA (wx a b (x:=d) rfl (wA (wx a b (x:=.none) rfl (wC ?_)))))));refine wA (slicePart_none ?_);show wpAny _ _ (if((1:Int) == 0)=true then _ else _) _ _ s;rw[wT (by decide)];refine wA (qaa pl (wA (qaa i (wA (wC ?_)))));show wpAny _ _ (match Builtin.Slice.sliceAdjust lo hi 1 (n:Int)with|(lo,hi)=>pure (lo,(1:Int),Builtin.Slice.slicePlaces lo hi 1)) _ _ s;rw[qcV lo hi n];show wpAny _ _ (pure (((sIx n 0 lo:Nat):Int),(1:Int),Builtin.Slice.slicePlaces ((sIx n 0 lo:Nat):Int) ((sIx n n hi:Nat):Int) 1)) _ _ s;rw[qcW];exact wC h
theorem qfy(xs:Array Value)(i k:Nat):((List.range k).filterMap λ(m:Nat)=>xs[((i:Int)+(m:Int)*1).toNat]?).toArray=((xs.toList.drop i).take k).toArray:=by
 have e:(λ(m:Nat)=>xs[((i:Int)+(m:Int)*1).toNat]?)=λm=>xs[i+m]?:=by
  funext m;have:((i:Int)+(m:Int)*1).toNat=i+m:=by lia
  rw[this]
 rw[e];have:=pick_run xs i k;rw[List.filterMap_map]at this;have a:((λx=>xs[x]?)∘λx=>i+x)=λm=>xs[i+m]?:=rfl
 rw[a]at this;rw[this]
theorem jl{t sl:Addr}{items:Array Value}{j l:Value}{lo hi:Option Int}{Q:Value->Shared->Prop}(b:IsTup s.heap t items)(n:s.heap.IsSliceOf sl j l .none)(pl:IsPart j lo)(o:IsPart l hi)(p:¬(sIx items.size 0 lo=0/\sIx items.size items.size hi=items.size))(h:Q (.ref s.heap.objs.size) {s with heap:=s.heap.push {cls:=.type "tuple",data:=.seq ((items.toList.drop (sIx items.size 0 lo)).take (sIx items.size items.size hi-sIx items.size 0 lo)).toArray}})(hsz:items.size<=sizeLine):wpAny (model prog w) A (getItem (.ref t) (.ref sl)) Q E s:=by
 have a:sizeOk (.seq ((items.toList.drop (sIx items.size 0 lo)).take (sIx items.size items.size hi-sIx items.size 0 lo)).toArray):=by
  show((items.toList.drop (sIx items.size 0 lo)).take (sIx items.size items.size hi-sIx items.size 0 lo)).toArray.size<=sizeLine;rw[wK,wg,vq,vc];lia
 have u:sIx items.size items.size hi<=items.size:=qjP _ _ (wJ _) hi;obtain⟨os,c,d,r⟩:=id n;have f:s.TypeIs (.ref sl) "slice":=⟨os,c,d⟩;unfold getItem
 try with_reducible refine vE ?_
 first|refine wA (wC ?_)|skip
 refine wA (wpAny_sequenceKey b.typeIs (by decide) ?_);refine wA (wt (name:=Str.ofString "__getitem__") b.typeIs vG
  (wz vG b.typeIs entry_tuple_getitem ?_ (args_tuple_getitem _ _)))
 show wpAny _ _ (Builtin.Tuple.tupleItemsOf (.ref t) >>= _) _ _ s;refine wA (tupleItemsOf_ b ?_);refine wA (uj f ?_);rw[wN (by decide)];refine wA (zZ n pl o ?_);have i:¬((((sIx items.size 0 lo:Nat):Int) == 0&&(1:Int) == 1&&(sIx items.size items.size hi-sIx items.size 0 lo) == items.size)=true):=by
  intro q;rw[wP,wP]at q;have q1:((sIx items.size 0 lo:Nat):Int)=0:=eq_of_beq q.1.1;have q2:sIx items.size items.size hi-sIx items.size 0 lo=items.size:=eq_of_beq q.2;exact p ⟨by lia,by lia⟩
 show wpAny _ _ (if(((sIx items.size 0 lo:Nat):Int) == 0&&(1:Int) == 1&&(sIx items.size items.size hi-sIx items.size 0 lo) == items.size)=true then _ else _) _ _ s;rw[wT i,qfy]
 first
  |exact wA (m:=Builtin.Tuple.tupleExact _) (w6 (wC ⟨_,rfl,wC h⟩) a)
  |exact wA (m:=Builtin.Tuple.tupleExact _) (w6 (wA (wC (wC ⟨_,rfl,wC h⟩))) a)
  |exact wA (wA (m:=Builtin.Tuple.tupleExact _) (w6 (wC (wC ⟨_,rfl,wC h⟩)) a))
  |exact wA (wA (m:=Builtin.Tuple.tupleExact _) (w6 (wC ⟨_,rfl,wC h⟩) a))
end
end HT
namespace L2
open PySem PySem.Spec PyProof.Rows
abbrev TO:=St->Hp->(Option Int->Hp->Prop)->Prop
def PO(X:Cx)(e:Option Expr)(t:TO):Prop :=
 ∀(pins:List (Addr×Obj)) (s:Shared) (a:St) (H:Hp) (Q:Option Int->Hp->Prop),Inv X pins a H s->t a H Q ->
  wpAny (model X.prog X.w) X.A (evalPart e X.env) (λu s'=>∃o H',Inv X pins a H' s'/\IsPart u o/\Q o H') X.xe s
def tNoPart:TO:=λ_ H Q=>Q none H
def tPart(t:TE):TO:=λa H Q=>t a H λx b=>∃i,x=.int i/\Q (some i) b
def zy{ns:List Int}:∀{us:List Value},Vals (ns.map V.int) us->IntsAre us ns:=by
 induction ns with
 |nil=>intro us r;rw[uo]at r;cases r;exact .nil
 |cons n ns a =>
  intro us r;rw[wd]at r;cases r with
  |cons b c =>
   obtain⟨t,e⟩:=b;subst e;exact .cons n t (a c)
section
variable{X:Cx}{e:Expr}{te:TE}{lo hi:Option Expr}{tl th:TO}{pos p2:Pos}
theorem qhL:PO X none tNoPart:=by
 intro pins s a H Q I h;rw[evalPart_none];exact wC ⟨none,H,I,.none,h⟩
theorem qhM(h:PE X e te):PO X (some e) (tPart te):=by
 intro pins s a H Q I b;rw[evalPart_some];refine thn (h pins s a H _ I b) λu s1 ⟨x,c,d,f,q1⟩=>?_
 obtain⟨i,rfl,q⟩:=q1;obtain⟨t,rfl⟩:=f;exact⟨some i,c,d,.int i t,q⟩
def SlR(X:Cx)(r:V->Option Int->Option Int->Hp->VK->Prop):Prop :=
 ∀(pins:List (Addr×Obj)) (s:Shared) (a:St) (H:Hp) (x:V) (v b c:Value) (lo hi:Option Int) (sl:Addr) (Q:VK),Inv X pins a H s->RelV x v->s.heap.IsSliceOf sl b c .none->IsPart b lo->IsPart c hi->r x lo hi H Q ->
  ∃T id,typeLookup (.type T) "__getitem__"=pure (some (.builtin id))/\s.TypeIs v T/\wpAny (model X.prog X.w) X.A (getItem v (.ref sl)) (EP X pins a Q) X.xe s
theorem SlR.or(h:SlR X r)(h':SlR X a):SlR X (λx lo hi H Q=>r x lo hi H Q\/a x lo hi H Q):=by
 intro pins s b H x v c d lo hi sl Q I f i pl j q;rcases q with q|q
 .exact h pins s b H x v c d lo hi sl Q I f i pl j q
 .exact h' pins s b H x v c d lo hi sl Q I f i pl j q
def tSl(r:V->Option Int->Option Int->Hp->VK->Prop)(te:TE)(tl th:TO):TE:=λa H Q=>te a H λx b=>tl a b λl H2=>th a H2 λu H3=>r x l u H3 Q
theorem qfz{r:V->Option Int->Option Int->Hp->VK->Prop}(i:SlR X r)(j:PE X e te)(m:PO X lo tl)(n:PO X hi th):PE X (.Subscript e (.Slice lo hi none p2) pos) (tSl r te tl th):=by
 intro pins s c H Q I h;refine Subscript_ (thn (j pins s c H _ I h) λv s1 ⟨x,o,p,y,q1⟩=>?_);refine wpAny_Slice (thn (m pins s1 c o _ p q1) λd s2 ⟨l,H2,B,pl,q2⟩=>thn (n pins s2 c H2 _ B q2) λf a ⟨u,H3,C,E,F⟩=>?_);rw[evalPart_none];refine wC ?_;have J:Inv X pins c H3 {a with heap:=a.heap.push {cls:=.type "slice",data:=.fields #[d,f,.none]}}:=C.kept (t':=a.toks) λb ob q=>wB _ q
 obtain⟨T,id,K,L,M⟩:=i pins {a with heap:=a.heap.push {cls:=.type "slice",data:=.fields #[d,f,.none]}} c H3 x v d f l u a.heap.objs.size Q J y (Heap.IsSliceOf.new ..) pl E F;show wpAny (model X.prog X.w) X.A (subscriptTail e (.Slice lo hi none p2) v (.ref a.heap.objs.size)) (EP X pins c Q) X.xe {a with heap:=a.heap.push {cls:=.type "slice",data:=.fields #[d,f,.none]}};exact tail_any (ops:=[.ref a.heap.objs.size,v]) L K M (by with_unfolding_all rfl)
def cutV(xs:List V)(lo hi:Option Int):List V:=(xs.drop (HT.sIx xs.length 0 lo)).take (HT.sIx xs.length xs.length hi-HT.sIx xs.length 0 lo)
theorem jS(xs:List V)(lo hi:Option Int):(cutV xs lo hi).length<=xs.length:=by
 unfold cutV;rw[wg,vq];lia
def rSlT(K:PySem.W.Frag):V->Option Int->Option Int->Hp->VK->Prop:=λx lo hi H Q=>∃a xs,x=.ref a/\SqT K H a xs /\
 ¬(HT.sIx xs.length 0 lo=0/\HT.sIx xs.length xs.length hi=xs.length)/\∀p,H p=none->Q (.ref p) (upd H p (.tup (cutV xs lo hi)))
theorem qjQ:SlR X (rSlT X.K):=by
 intro pins s u H x v w y lo hi sl Q I j l pl m h;obtain⟨a,xs,rfl,n,p,q⟩:=h;cases j;obtain⟨d,r,f,i⟩:=I.tuple n;have c:d.toArray.size=xs.length:=by rw[wK];exact r.length.symm
 refine⟨"tuple",_,vG.lookup,f.typeIs,?_⟩;refine HT.jl f l pl m (by rw[c];exact p) ?_ (by rw[c];exact i);rw[c];refine⟨.ref s.heap.objs.size,_,I.laid (t':=s.toks) (o:=.tup (cutV xs lo hi)) (λb ob q=>wB _ q) (wJ _) ?_,rfl,q _ (I.hok.fresh (wJ _))⟩;exact⟨vA (jS xs lo hi) i,_,(r.drop (HT.sIx xs.length 0 lo)).take (HT.sIx xs.length xs.length hi-HT.sIx xs.length 0 lo),IsTup.new _ _,yS _ _⟩
def rLtT(K:PySem.W.Frag):R2:=λx y H Q=>∃a b ns c,x=.ref a/\y=.ref b/\SqT K H a (ns.map V.int)/\SqT K H b (c.map V.int)/\Q (.bl (HT.lexLt ns c)) H
theorem qjR(i:X.A.units<cLine):OpR X (compareOp .Lt) (rLtT X.K):=by
 intro pins s r H x y v u Q I j l h;obtain⟨a,b,ns,f,rfl,rfl,ha,m,q⟩:=h;cases j;cases l;obtain⟨d,n,o,_⟩:=I.tuple ha;obtain⟨c,p,p2,_⟩:=I.tuple m;have i1:IntsAre d.toArray.toList ns:=zy n;have i2:IntsAre c.toArray.toList f:=zy p;exact HT.qcU o p2 i1 i2 i ⟨.bl (HT.lexLt ns f),H,I,rfl,q⟩
def rCatT(K:PySem.W.Frag):R2:=λx y H Q=>∃a b xs ys,x=.ref a/\y=.ref b/\SqT K H a xs/\SqT K H b ys/\xs≠[]/\xs.length+ys.length<=sizeLine /\
 (ys=[]->Q (.ref a) H)/\(ys≠[]->∀p,H p=none->Q (.ref p) (upd H p (.tup (xs++ys))))
theorem Vals.nil_iff(r:Vals xs us):us=[] ↔ xs=[]:=by
 cases r with
 |nil=>simp
 |cons _ _=>simp
theorem qhN:OpR X (binaryOp .Add) (rCatT X.K):=by
 intro pins s A H x y v u Q I j l h;obtain⟨a,b,xs,ys,rfl,rfl,ha,m,n,f,q1,q2⟩:=h;cases j;cases l;obtain⟨p,d,r,_⟩:=I.tuple ha;obtain⟨i,c,p2,_⟩:=I.tuple m;refine HT.qhK r p2 (λz=>n (d.nil_iff.mp z)) (λz=>⟨.ref a,H,I,rfl,q1 (c.nil_iff.mp z)⟩) (λz=>?_) (by rw[<-d.length,<-c.length];exact f);refine⟨.ref s.heap.objs.size,_,I.laid (t':=s.toks) (o:=.tup (xs++ys)) (λb ob q=>wB _ q) (wJ _) ?_,rfl,q2 (λw=>z (c.nil_iff.mpr w)) _ (I.hok.fresh (wJ _))⟩;exact⟨by rw[wI];exact f,_,d.append c,IsTup.new _ _,yS _ _⟩
end
def ixN(n:Nat)(i:Int):Option Nat:=if 0<=i then(if i<n then some i.toNat else none)else if -(n:Int)<=i then some (i+n).toNat else none
def atI{a:Type}(xs:List a)(i:Int):Option a:=(ixN xs.length i).bind λj=>xs[j]?
def qdA{n:Nat}{i:Int}{j:Nat}(h:ixN n i=some j):seqIndex? i n=some j/\j<n/\-(n:Int)<=i/\i<n:=by
 unfold ixN at h;by_cases b:0<=i
 .rw [wN b]at h
  by_cases a:i<n
  .rw [wN a]at h
   have e:i.toNat=j:=Option.some.inj h;exact⟨by rw[seqIndex_of b a,e],by lia,by lia,a⟩
  .rw [wT a]at h;cases h
 .rw [wT b]at h
  by_cases a:-(n:Int)<=i
  .rw [wN a]at h
   have e:(i+n).toNat=j:=Option.some.inj h;exact⟨by rw[seqIndex_neg (by lia) a,e],by lia,a,by lia⟩
  .rw [wT a]at h;cases h
def qdB{i:Int}(h:atI xs i=some v):∃j,seqIndex? i xs.length=some j/\xs[j]?=some v/\j<xs.length/\-(xs.length:Int)<=i/\i<xs.length:=by
 unfold atI at h;cases e:ixN xs.length i with
 |none=>rw[e]at h;cases h
 |some j =>
  rw[e]at h;obtain⟨b,c,d,f⟩:=qdA e;exact⟨j,b,h,c,d,f⟩
def PlainIx(b:Expr):Prop:=∀o i,subscripted b false o i=operate [o,i] (getItem o i)
def IxR(X:Cx)(r:R2):Prop :=
 ∀(b a:Expr) (pins:List (Addr×Obj)) (s:Shared) (c:St) (H:Hp) (x y:V) (v u:Value) (Q:VK),Inv X pins c H s->RelV x v->RelV y u->r x y H Q ->
  subscripted a false v u=operate [v,u] (getItem v u)->wpAny (model X.prog X.w) X.A (subscriptTail b a v u) (EP X pins c Q) X.xe s
def MtR(X:Cx)(id:String)(r:V->List V->Hp->VK->Prop):Prop :=
 ∀(pins:List (Addr×Obj)) (s:Shared) (a:St) (H:Hp) (x:V) (xs:List V) (v:Value) (us:List Value) (Q:VK),Inv X pins a H s->RelV x v->Vals xs us->r x xs H Q ->
  wpAny (model X.prog X.w) X.A (call (.builtin id) (v::us)) (EP X pins a Q) X.xe s
section
variable{X:Cx}{a b:Expr}{ta tb:TE}{pos:Pos}
theorem IxR.or(h:IxR X r)(h':IxR X f):IxR X (λx y H Q=>r x y H Q\/f x y H Q):=by
 intro c d pins s i H x y v u Q I j l q m;rcases q with q|q
 .exact h c d pins s i H x y v u Q I j l q m
 .exact h' c d pins s i H x y v u Q I j l q m
theorem qlq(c:IxR X r)(ha:PE X a ta)(d:PE X b tb)(f:PlainIx b):PE X (.Subscript a b pos) (tOp r ta tb):=by
 intro pins s i H Q I h;exact Subscript_ (binT ha d I h λv u s2 x y H2 j l m q=>c a b pins s2 i H2 x y v u Q j l m q (f _ _))
def rIxL(K:PySem.W.Frag):R2:=λx y H Q=>∃p xs i v,x=.ref p/\y=.int i/\SqL K H p xs/\atI xs i=some v/\Q v H
def rIxT(K:PySem.W.Frag):R2:=λx y H Q=>∃p xs i v,x=.ref p/\y=.int i/\SqT K H p xs/\atI xs i=some v/\Q v H
theorem qhO:IxR X (rIxL X.K):=by
 intro d f pins s o H x y v u Q I E F h A;obtain⟨p,xs,i,z,rfl,rfl,J,L,q⟩:=h;cases E;obtain⟨t,rfl⟩:=F;obtain⟨l,r,pl,S⟩:=I.list J;obtain⟨j,c,M,U,N,O⟩:=qdB L;obtain⟨w,B,m⟩:=r.get M;have P:=r.length;have hn:=line63;have fin:EP X pins o Q w s:=⟨z,H,I,m,q⟩;by_cases C:0<=i
 .have n:i.toNat=j:=by
   rw[seqIndex_of C O]at c;exact Option.some.inj c
  exact item_listR pl.isList C (by lia) (by rw[n];simpa using B) fin A
 .have n:(i+(l.toArray.size:Int)).toNat=j:=by
   rw[seqIndex_neg (by lia) N]at c;rw[wK,<-P];exact Option.some.inj c
  exact subscriptTail_builtinR (x:=w) pl.isList.typeIs slot_list_getitem.lookup
   (wpAny_getItem_list_neg (Q:=λr s'=>r=w/\EP X pins o Q r s') pl.isList (by lia) (by rw[wK] <;> lia) (by lia) (by rw[n];simpa using B) ⟨rfl,fin⟩) A
theorem qjS:IxR X (rIxT X.K):=by
 intro c d pins s l H x y v u Q I m n h o;obtain⟨p,xs,i,z,rfl,rfl,A,B,q⟩:=h;cases m;obtain⟨t,rfl⟩:=n;obtain⟨C,r,pl,M⟩:=I.tuple A;obtain⟨j,E,F,N,O,P⟩:=qdB B;obtain⟨w,J,f⟩:=r.get F;have L:=r.length;have hn:=line63;have fin:EP X pins l Q w s:=⟨z,H,I,f,q⟩;exact subscriptTail_builtinR (x:=w) pl.typeIs slot_tuple_getitem.lookup
  (getItem_tuple (j:=j) (Q:=λr s'=>r=w/\EP X pins l Q r s') pl (by lia) (by lia) (by rw[wK,<-L];exact E) (by simpa using J) ⟨rfl,fin⟩) o
theorem qcX(c:List Value)(n j:Nat)(u:Value):Obj.mapSeq (·.setIfInBounds j u) {cls:=.type "list",data:=.seq c.toArray n}={cls:=.type "list",data:=.seq (c.set j u).toArray n}:=by
 simp[Obj.mapSeq]
theorem Inv.lst(I:Inv X pins d H s)(h:H p=some (.lst xs)):
  ∃(c:List Value) (n:Nat),Vals xs c/\s.heap.get? p=some {cls:=.type "list",data:=.seq c.toArray n}/\xs.length<=sizeLine:=by
 obtain⟨z,c,n,r,e⟩:=I.hok p _ h;exact⟨c,n,r,e,z⟩
theorem Inv.lstUpd{c its':List Value}{n d:Nat}(I:Inv X pins i H s)(h:H p=some (.lst xs))(l:s.heap.get? p=some {cls:=.type "list",data:=.seq c.toArray n})(j:f {cls:=.type "list",data:=.seq c.toArray n}={cls:=.type "list",data:=.seq its'.toArray d})(r:Vals ys its')(m:ys.length<=sizeLine)(t:Nat):
  Inv X pins i (upd H p (.lst ys)) {s with heap:=s.heap.update p f,toks:=t}:=by
 have e:(s.heap.update p f).get? p=some {cls:=.type "list",data:=.seq its'.toArray d}:=by
  rw[vD f l (by rw[j] <;> rfl),j]
 refine I.write (x:=p) (e:=p) (by rw[h];trivial) (.inl rfl) (λb u o q=>(wW _ _ (Ne.symm o)).trans q) ⟨_,e⟩ ?_;exact⟨m,its',d,r,e⟩
def rSetL:V->V->V->Hp->(Hp->Prop)->Prop:=λo i v H Q=>∃p xs k j,o=.ref p/\i=.int k/\H p=some (.lst xs)/\ixN xs.length k=some j/\Q (upd H p (.lst (xs.set j v)))
theorem qfA:PSet X rSetL:=by
 intro pins s C H o i v L M u Q I E ri F h;obtain⟨p,xs,k,j,rfl,rfl,w,J,q⟩:=h;cases E;obtain⟨t,rfl⟩:=ri;obtain⟨c,n,r,f,K⟩:=I.lst w;obtain⟨d,N,x,y⟩:=qdA J;have l:=r.length;have hn:=line63;have A:Inv X pins C (upd H p (.lst (xs.set j v))) {s with heap:=s.heap.update p (Obj.mapSeq (·.setIfInBounds j u))} :=
  I.lstUpd w f (qcX c n j u) (r.set F j) (by rw[List.length_set];exact K) s.toks
 by_cases B:0<=k
 .have m:k.toNat=j:=by
   rw[seqIndex_of B y]at d;exact Option.some.inj d
  exact PySem.W.ki_setAt f B (by lia) (by rw[wK,<-l];exact y) (by rw[m];exact⟨_,A,q⟩)
 .have m:(k+(c.toArray.size:Int)).toNat=j:=by
   rw[seqIndex_neg (by lia) x]at d;rw[wK,<-l];exact Option.some.inj d
  exact PySem.W.ki_setBack f (by lia) (by rw[wK,<-l];exact x) (by lia) (by rw[m];exact⟨_,A,q⟩)
theorem qbj(lo hi:Option Int)(n:Nat):(sliceBounds lo hi none n).1=((HT.sIx n 0 lo:Nat):Int)/\(sliceBounds lo hi none n).2.1=((HT.sIx n n hi:Nat):Int)/\(sliceBounds lo hi none n).2.2=1:=by
 refine⟨?_,?_,rfl⟩
 .cases lo with
  |none=>simp[sliceBounds,HT.sIx]
  |some i =>
   simp only[sliceBounds,HT.sIx,Option.getD_none,show(1:Int)>0 by decide,v9];by_cases h:i<0
   .simp only[h,v9] <;> lia
   .simp only[h,uO] <;> lia
 .cases hi with
  |none=>simp[sliceBounds,HT.sIx]
  |some i =>
   simp only[sliceBounds,HT.sIx,Option.getD_none,show(1:Int)>0 by decide,v9];by_cases h:i<0
   .simp only[h,v9] <;> lia
   .simp only[h,uO] <;> lia
theorem qaN(c:List Value)(lo hi:Option Int):slicePick c.toArray lo hi none=((c.drop (HT.sIx c.length 0 lo)).take (HT.sIx c.length c.length hi-HT.sIx c.length 0 lo)).toArray:=by
 obtain⟨d,f,h⟩:=qbj lo hi c.toArray.size;unfold slicePick;rw[d,f,h];simp only[sliceRange_one,pick_run,wK] <;> rfl
def rSlL(K:PySem.W.Frag):V->Option Int->Option Int->Hp->VK->Prop:=λx lo hi H Q=>∃a xs,x=.ref a/\SqL K H a xs/\∀p,H p=none->Q (.ref p) (upd H p (.lst (cutV xs lo hi)))
theorem qhP:SlR X (rSlL X.K):=by
 intro pins s p H x v u w lo hi sl Q I f i pl j h;obtain⟨a,xs,rfl,l,q⟩:=h;cases f;obtain⟨m,r,d,n⟩:=I.list l;have c:=r.length;refine⟨"list",_,slot_list_getitem.lookup,d.isList.typeIs,?_⟩;refine wpAny_getItem_list_slice d.isList i pl j .none (by simp) ?_ (by rw[wK] <;> lia);rw[qaN,<-c];refine⟨.ref s.heap.objs.size,_,I.laid (t':=s.toks) (o:=.lst (cutV xs lo hi)) (λb ob q=>wB _ q) (wJ _) ?_,rfl,q _ (I.hok.fresh (wJ _))⟩;exact⟨vA (jS xs lo hi) n,_,0,(r.drop (HT.sIx xs.length 0 lo)).take (HT.sIx xs.length xs.length hi-HT.sIx xs.length 0 lo),wH _ rfl⟩
def flatV:V->Bool
 | .non=>true
 | .bl _=>true
 | .int _=>true
 | .str _=>true
 |_=>false
def eqV:V->V->Bool
 | .non,.non=>true
 | .bl a,.bl b=>a == b
 | .bl a,.int b=>(if a then 1 else 0) == b
 | .int a,.bl b=>a == (if b then 1 else 0)
 | .int a,.int b=>a == b
 | .str a,.str b=>a == b
 |_,_=>false
theorem qjT(d:RelV y u)(c:RelV x v)(h:flatV y=true)(f:flatV x=true):SeqAt.EqAt A s u v (eqV y x):=by
 cases y with
 |non =>
  cases d;cases x with
  |non=>cases c;exact SeqAt.EqAt.same _
  |bl b=>cases c;exact SeqAt.EqAt.none_bool b
  |int b=>obtain⟨t,rfl⟩:=c;exact SeqAt.EqAt.none_int b t
  |str b=>obtain⟨t,rfl⟩:=c;exact SeqAt.EqAt.none_str b t
  |_=>exact absurd (show false=true from f) w5
 |bl a =>
  cases d;cases x with
  |non=>cases c;exact SeqAt.EqAt.bool_none a
  |bl b=>cases c;exact SeqAt.EqAt.bool_bool a b
  |int b=>obtain⟨t,rfl⟩:=c;exact SeqAt.EqAt.bool_int a b t
  |str b=>obtain⟨t,rfl⟩:=c;exact SeqAt.EqAt.bool_str a b t
  |_=>exact absurd (show false=true from f) w5
 |int a =>
  obtain⟨t',rfl⟩:=d;cases x with
  |non=>cases c;exact SeqAt.EqAt.int_none a t'
  |bl b=>cases c;exact SeqAt.EqAt.int_bool a t' b
  |int b=>obtain⟨t,rfl⟩:=c;exact SeqAt.EqAt.int_int a t' b t
  |str b=>obtain⟨t,rfl⟩:=c;exact SeqAt.EqAt.int_str a t' b t
  |_=>exact absurd (show false=true from f) w5
 |str a =>
  obtain⟨t',rfl⟩:=d;cases x with
  |non=>cases c;exact SeqAt.EqAt.str_none a t'
  |bl b=>cases c;exact SeqAt.EqAt.str_bool a t' b
  |int b=>obtain⟨t,rfl⟩:=c;exact SeqAt.EqAt.str_int a t' b t
  |str b=>obtain⟨t,rfl⟩:=c;exact SeqAt.EqAt.str_str a t' b t
  |_=>exact absurd (show false=true from f) w5
 |_=>exact absurd (show false=true from h) w5
def eqU(x:V)(u:Value):Bool:=match u with
 | .none=>eqV .non x
 | .bool b=>eqV (.bl b) x
 | .int i _=>eqV (.int i) x
 | .str z _=>eqV (.str z) x
 |_=>false
theorem qfB(r:RelV y u)(f:flatV y=true):eqU x u=eqV y x:=by
 cases y with
 |non=>cases r;rfl
 |bl b=>cases r;rfl
 |int i=>obtain⟨t,rfl⟩:=r;rfl
 |str z=>obtain⟨t,rfl⟩:=r;rfl
 |_=>exact absurd (show false=true from f) w5
theorem jm:∀{xs:List V} {us:List Value},Vals xs us->xs.all flatV=true->us.any (eqU x)=xs.any λy=>eqV y x
 |_,_,.nil,_=>rfl
 |y::xs,u::us,.cons r t,f=>by
  rw[vf,wP]at f;rw[vo,vo,qfB r f.1,jm t f.2]
theorem yF(d:RelV x v)(h:flatV x=true):∀{xs:List V} {us:List Value},Vals xs us->xs.all flatV=true->∀u∈us,SeqAt.EqAt A s u v (eqU x u)
 |_,_,.nil,_=>λu c=>by cases c
 |y::xs,u::us,.cons r t,f=>λi c=>by
  rw[vf,wP]at f;rcases wR.mp c with rfl|c
  .rw [qfB r f.1];exact qjT r d f.1 h
  .exact yF d h t f.2 i c
def inV(x:V)(xs:List V):Bool:=xs.any λy=>eqV y x
def rIn(K:PySem.W.Frag)(c:Bool):R2:=λx y H Q=>∃p xs,y=.ref p/\(SqL K H p xs\/SqT K H p xs)/\flatV x=true/\xs.all flatV=true/\Q (.bl (if c then !inV x xs else inV x xs)) H
theorem qeK:OpR X (compareOp .In) (rIn X.K false):=by
 intro pins s n H x y v u Q I i l h;obtain⟨p,xs,rfl,d,j,fs,q⟩:=h;cases l;rcases d with d|d
 .obtain ⟨c,r,pl,m⟩:=I.list d
  refine SeqAt.in_listAt (eqU x) pl.isList (λw f=>yF i j r fs w (by simpa using f)) ⟨.bl _,H,I,rfl,?_⟩;rw[show c.toArray.any (eqU x)=c.any (eqU x) by simp,jm r fs];exact q
 .obtain ⟨c,r,pl,m⟩:=I.tuple d
  refine SeqAt.in_tupleAt (eqU x) pl (λw f=>yF i j r fs w (by simpa using f)) ⟨.bl _,H,I,rfl,?_⟩;rw[show c.toArray.any (eqU x)=c.any (eqU x) by simp,jm r fs];exact q
theorem qbk:OpR X (compareOp .NotIn) (rIn X.K true):=by
 intro pins s n H x y v u Q I i l h;obtain⟨p,xs,rfl,d,j,fs,q⟩:=h;cases l;rcases d with d|d
 .obtain ⟨c,r,pl,m⟩:=I.list d
  refine SeqAt.notIn_listAt (eqU x) pl.isList (λw f=>yF i j r fs w (by simpa using f)) ⟨.bl _,H,I,rfl,?_⟩;rw[show c.toArray.any (eqU x)=c.any (eqU x) by simp,jm r fs];exact q
 .obtain ⟨c,r,pl,m⟩:=I.tuple d
  refine SeqAt.notIn_tupleAt (eqU x) pl (λw f=>yF i j r fs w (by simpa using f)) ⟨.bl _,H,I,rfl,?_⟩;rw[show c.toArray.any (eqU x)=c.any (eqU x) by simp,jm r fs];exact q
theorem CallR.or(h:CallR X f r)(h':CallR X f c):CallR X f (λxs H Q=>r xs H Q\/c xs H Q):=by
 intro pins s d H xs us Q I i q;rcases q with q|q
 .exact h pins s d H xs us Q I i q
 .exact h' pins s d H xs us Q I i q
theorem qbl:CallR X (.type "list") (λxs H Q=>∃p ys,xs=[.ref p]/\(SqL X.K H p ys\/SqT X.K H p ys)/\∀l,H l=none->Q (.ref l) (upd H l (.lst ys))):=by
 intro pins s y H xs us Q I r h;obtain⟨p,ys,rfl,i,q⟩:=h;obtain⟨u,rfl,A⟩:=vals1 r;cases A;have fin:∀(c:List Value),Vals ys c->ys.length<=sizeLine->∀(h':Heap) (d:Nat),(∀b o',s.heap.get? b=some o'->h'.get? b=some o') ->
   h'.get? s.heap.objs.size=some {cls:=.type "list",dict:=none,data:=.seq c.toArray d,slots:=#[]}->EP X pins y Q (.ref s.heap.objs.size) {s with heap:=h' }:=λc f j h' d kp e =>
  ⟨.ref s.heap.objs.size,_,I.laid (t':=s.toks) kp (wJ _) (show ObjOk X.prog X.w _ h' _ (.lst ys)from⟨j,c,d,f,e⟩),rfl,q _ (I.hok.fresh (wJ _))⟩
 rcases i with i|i
 .obtain ⟨c,f,pl,j⟩:=I.list i
  have m:=f.length;obtain⟨o,v,x,n,hd⟩:=pl.isList;exact call_list_seq p (.inl rfl) v x hd (λh' d kp e=>fin c f j h' d kp e) (by simp only[wK] <;> lia)
 .obtain ⟨c,f,pl,j⟩:=I.tuple i
  have m:=f.length;obtain⟨o,v,x,n,hd⟩:=pl;exact call_list_seq p (.inr rfl) v x hd (λh' d kp e=>fin c f j h' d kp e) (by simp only[wK] <;> lia)
theorem qaO:CallR X (.type "tuple") (λxs H Q=>∃p ys,xs=[.ref p]/\((SqL X.K H p ys/\∀l,H l=none->Q (.ref l) (upd H l (.tup ys)))\/(SqT X.K H p ys/\Q (.ref p) H))):=by
 intro pins s i H xs us Q I r h;obtain⟨p,ys,rfl,h⟩:=h;obtain⟨u,rfl,v⟩:=vals1 r;cases v;rcases h with ⟨d,q⟩|⟨d,q⟩
 .obtain ⟨c,f,pl,j⟩:=I.list d
  have m:=f.length;refine call_tuple_list pl.isList (λh' kp=>?_) (by simp only[wK] <;> lia);have n:Inv X pins i H {s with heap:=h' }:=I.kept (t':=s.toks) kp;have x:Inv X pins i (upd H h'.objs.size (.tup ys)) {s with heap:=h'.push {cls:=.type "tuple",data:=.seq c.toArray}} :=
   n.laid (t':=s.toks) (λb o e=>wB _ e) (wJ _) (show ObjOk X.prog X.w _ _ _ (.tup ys)from⟨j,c,f,IsTup.new _ _,yS _ _⟩)
  exact⟨.ref h'.objs.size,_,x,rfl,q _ (n.hok.fresh (wJ _))⟩
 .obtain ⟨c,f,pl,j⟩:=I.tuple d
  exact call_tuple_same pl ⟨.ref p,H,I,rfl,q⟩
def tyV(K:PySem.W.Frag)(T:String)(x:V)(H:Hp):Prop:=match x with
 | .str _=>T="str"
 | .int _=>T="int"
 | .ref p=>(T="list"/\∃xs,SqL K H p xs)\/(T="tuple"/\∃o,K.lookup p=some o/\o.cls=.type "tuple"/\o.dict=none) \/
   (T="dict"/\((∃kvs,H p=some (.dK kvs))\/∃kvs,H p=some (.dT kvs)))\/(T="set"/\∃S n,H p=some (.set S n))
 |_=>False
theorem qjU(I:Inv X pins h H s)(r:RelV x v)(ty:tyV X.K T x H):
  s.TypeIs v T/\∀a,v=.ref a->∃ob,s.heap.get? a=some ob/\ob.dict=none:=by
 cases x with
 |str z =>
  obtain⟨t,rfl⟩:=r;cases (show T="str" from ty);exact⟨typeIs_str s z t,λ_ e=>nomatch e⟩
 |int i =>
  obtain⟨t,rfl⟩:=r;cases (show T="int" from ty);exact⟨typeIs_int s i t,λ_ e=>nomatch e⟩
 |ref p =>
  cases r;rcases ty with ⟨rfl,xs,j⟩|⟨rfl,o,d,hc,hd⟩|⟨rfl,d⟩|⟨rfl,S,n,d⟩
  .obtain ⟨l,_,pl,_⟩:=I.list j
   refine⟨pl.isList.typeIs,λa e=>?_⟩;cases e;obtain⟨o,n,e,c,hd,_⟩:=pl;exact⟨o,e,hd⟩
  .refine ⟨⟨o,I.kIn p o d,hc⟩,λa e=>?_⟩
   cases e;exact⟨o,I.kIn _ o d,hd⟩
  .have z:∃o,s.heap.get? p=some o/\o.ExactDict:=by
    rcases d with ⟨kvs,d⟩|⟨kvs,d⟩
    .obtain ⟨_,_,_,_,o,_,_,e,ex,_⟩:=I.hok p _ d
     exact⟨o,e,ex⟩
    .obtain ⟨_,_,_,_,o,_,_,e,ex,_⟩:=I.hok p _ d
     exact⟨o,e,ex⟩
   obtain⟨o,e,ex⟩:=z;refine⟨⟨o,e,ex.1⟩,λa f=>?_⟩;cases f;exact⟨o,e,ex.2.1⟩
  .obtain ⟨o,_,_,_,e,ex,_⟩:=I.hok p _ d
   refine⟨⟨o,e,ex.1⟩,λa f=>?_⟩;cases f;exact⟨o,e,ex.2.1⟩
 |_=>exact False.elim ty
def tBM(K:PySem.W.Frag)(T:String)(r:V->List V->Hp->VK->Prop)(f:TE)(t:TA):TE:=λc H Q=>f c H λx d=>tyV K T x d/\t c d λxs H2=>r x xs H2 Q
variable{o e:Expr}{es:List Expr}{to:TE}{t:TA}{name:Str}{apos cpos:Pos}{T id:String}{r:V->List V->Hp->VK->Prop}
theorem qlr(q:PlainAttrs T)(slot:Slot T name id)(j:typeOf (.builtin id)=pure (.type "method_descriptor"))(hm:MtR X id r)(u:PE X o to)(ha:PA X (e::es) t)(d:attributeBase o name X.env (eval o X.env)=eval o X.env:=by rfl)(i:((backTo cpos (starEach (e::es) X.env)).all (λx=>!x.1)&&(backToKw cpos (keywordEach [] X.env)).all (λx=>x.1.isSome)
   && decide ((e::es).length+([]:List Keyword).length+(if([]:List Keyword).isEmpty then 0 else 1)<30))=true:=by rfl)(f:(apos.endLine == cpos.line)=true:=by rfl)(w:starEach (e::es) X.env=(false,eval e X.env)::starEach es X.env:=by rfl)(c:(backTo cpos (starEach es X.env)).any (·.1)=false:=by rfl):
  PE X (.Call (.Attribute o name apos) (e::es) [] cpos) (tBM X.K T r to t):=by
 intro pins s l H Q I h;refine wpAny_Call_method_late d i f rfl (thn (u pins s l H _ I h) λv s1 ⟨x,y,m,n,ty,q1⟩=>?_);obtain⟨A,B⟩:=qjU m n ty;refine⟨T,id,q,slot,j,A,B,?_⟩;have p:=ha cpos pins s1 l y _ m q1;rw[w]at p ⊢;refine Calls.callWith_builtin (by show(false || (backTo cpos (starEach es X.env)).any (·.1))=false;rw[c] <;> rfl) (Calls.evalArgs_plain ?_);exact thn p λus s2 ⟨vs,H2,C,E,q2⟩=>hm pins s2 l H2 x vs v us Q C n E q2
/- xs.append(e),list.index on a module's tuple .. are MtR facts of 06m -/
end
def MtM(X:Cx)(id:String)(r:V->List V->Hp->VK->Prop):Prop :=
 ∀(pins:List (Addr×Obj)) (s:Shared) (a:St) (H:Hp) (x:V) (xs:List V) (v:Value) (us:List Value) (Q:VK),Inv X pins a H s->RelV x v->Vals xs us->r x xs H Q ->
  wpAny (model X.prog X.w) X.A (call (.builtin id) (v::us)) (EP X pins a Q) X.xe s
def Vals.one:∀{x:V} {us:List Value},Vals [x] us->∃u,us=[u]/\RelV x u
 |_,_,.cons r .nil=>⟨_,rfl,r⟩
def Vals.eraseIdx:∀{xs:List V} {us:List Value} (i:Nat),Vals xs us->Vals (xs.eraseIdx i) (us.eraseIdx i)
 |_,_,_,.nil=>.nil
 |_,_,0,.cons _ t=>t
 |_,_,i+1,.cons r t=>.cons r (Vals.eraseIdx i t)
def Vals.rep(h:Vals xs us):∀k:Nat,Vals (List.replicate k xs).flatten (List.replicate k us).flatten
 |0=>.nil
 |k+1=>by
  rw[vC,vC,vk,vk];exact Vals.append h (Vals.rep h k)
def qaZ{a:Type}:∀(l:List a) (i:Nat),(l.eraseIdx i).length<=l.length
 |[],_=>wJ _
 |_::_,0=>Nat.le_succ _
 |_::r,i+1=>Nat.succ_le_succ (qaZ r i)
def jC(a:List Value):∀(k:Nat) (b:List Value),
  List.foldl (λc d=>c++d) b.toArray (List.replicate k a.toArray)=(b++(List.replicate k a).flatten).toArray
 |0,b=>by simp
 |k+1,b=>by
  have e:b.toArray++a.toArray=(b++a).toArray:=by simp
  have f:(b++a)++(List.replicate k a).flatten=b++(List.replicate (k+1) a).flatten:=by
   rw[vC,vk,wk]
  rw[<-f,<-jC a k (b++a),<-e,vC,xL]
section
variable{X:Cx}{pins:List (Addr×Obj)}{σ:St}{H:Hp}{s:Shared}{l b:Addr}{xs ys zs:List V}
theorem Inv.lset{a its':List Value}{n:Nat}{t':Nat}(I:Inv X pins σ H s)(c:H l=some (.lst xs))(e:s.heap.get? l=some {cls:=.type "list",data:=.seq a.toArray n})(d:f a.toArray=its'.toArray)(h:Vals ys its')(i:ys.length<=sizeLine):
  Inv X pins σ (upd H l (.lst ys)) {s with heap:=s.heap.update l (Obj.mapSeq f),toks:=t' }:=by
 have q:=PySem.IsL.update e f;rw[d]at q;refine I.write (x:=l) (e:=l) (by rw[c];exact trivial) (.inl rfl) (λo u j m=>(wW s.heap (Obj.mapSeq f) (Ne.symm j)).trans m) ⟨_,q⟩ ?_;exact⟨i,its',_,h,q⟩
theorem Inv.lnew{t':Nat}(I:Inv X pins σ H s)(c:Vals ys a)(d:ys.length<=sizeLine):
  Inv X pins σ (upd H s.heap.objs.size (.lst ys)) {s with heap:=s.heap.push {cls:=.type "list",data:=.seq a.toArray},toks:=t' } :=
 I.laid (λ_ _ q=>wB _ q) (wJ _) ⟨d,a,0,c,wH _ rfl⟩
theorem Inv.fresh(I:Inv X pins σ H s):H s.heap.objs.size=none:=I.hok.fresh (wJ _)
theorem Inv.lstM(I:Inv X pins σ H s)(c:H l=some (.lst xs)):xs.length<=sizeLine/\∃(a:List Value) (n:Nat),Vals xs a/\xs.length=a.length/\s.heap.get? l=some {cls:=.type "list",data:=.seq a.toArray n}:=by
 obtain⟨z,a,n,r,e⟩:=I.hok l _ c;exact⟨z,a,n,r,r.length,e⟩
theorem notLongL{n:Nat}(h:n<=sizeLine):Builtin.List.listTooLong n=false:=by
 unfold Builtin.List.listTooLong;exact wY (by lia)
end
section
variable{X:Cx}
def rAppend:V->List V->Hp->VK->Prop:=λx vs H Q=>∃l xs y,x=.ref l/\vs=[y]/\H l=some (.lst xs)/\xs.length<sizeLine/\Q .non (upd H l (.lst (xs++[y])))
theorem jD:MtM X "list.append" rAppend:=by
 intro pins s i H x vs v us Q I c d h;obtain⟨l,xs,y,rfl,rfl,b,j,q⟩:=h;cases c;obtain⟨u,rfl,f⟩:=d.one;obtain⟨z,a,n,r,m,e⟩:=I.lstM b;refine vt F.slot_list_append ⟨_,e,rfl⟩ F.entry_list_append (F.args_list_append_2 _ _) (PySem.list_append l a.toArray n u (by rw[wK];lia)) ⟨e,?_⟩;refine⟨.non,_,I.lset (its':=a++[u]) b e (by simp) (r.append (.cons f .nil)) ?_,rfl,q⟩;rw[wI,wZ];lia
def rPopAt:V->List V->Hp->VK->Prop:=λx vs H Q=>∃l xs i k y,x=.ref l/\vs=[.int i]/\H l=some (.lst xs)/\-(2^63)<=i/\i<2^63/\seqIndex? i xs.length=some k/\xs[k]?=some y/\Q y (upd H l (.lst (xs.eraseIdx k)))
theorem qfC:MtM X "list.pop" rPopAt:=by
 intro pins s E H x vs v us Q I d f h;obtain⟨l,xs,i,k,y,rfl,rfl,c,j,m,o,p,q⟩:=h;cases d;obtain⟨u,rfl,A⟩:=f.one;obtain⟨t,rfl⟩:=A;obtain⟨z,a,n,r,B,e⟩:=I.lstM c;obtain⟨w,C,b⟩:=r.get p;refine vt F.slot_list_pop ⟨_,e,rfl⟩ F.entry_list_pop (F.args_list_pop_2 _ _)
  (MeetsSeq.list_pop_at l a.toArray n i t k w (fitsIndex_both j m) (by rw[wK,<-B];exact o) (by rw[<-uE];exact C) (by rw[wK];lia)) ⟨e,?_⟩
 refine⟨y,_,I.lset (its':=a.eraseIdx k) c e ?_ (r.eraseIdx k) ?_,b,q⟩
 .show a.toArray.eraseIdxIfInBounds k=(a.eraseIdx k).toArray
  rw[List.eraseIdxIfInBounds_toArray]
 .have:=qaZ xs k
  lia
theorem jZ{a:Type}(xs:List a)(k:Nat):(List.replicate k xs).flatten.length=k*xs.length:=by
 induction k with
 |zero=>simp
 |succ k b=>rw[vC,vk,wI,b,Nat.succ_mul,Nat.add_comm]
end
section
variable{prog:Program}{w:World}{A:Around}{E:Value->Shared->Prop}{s:Shared}
set_option maxRecDepth 100000 in
end
section
variable{κ:Type}[DecidableEq κ]
def valV(kvs:List (κ×V))(k:κ):Option V:=(kvs.find? λa=>decide (a.1=k)).map (·.2)
def putK(kvs:List (κ×V))(k:κ)(v:V):List (κ×V) :=
 if(kvs.any λa=>decide (a.1=k))=true then kvs.map (λa=>if a.1=k then(a.1,v)else a)else kvs++[(k,v)]
theorem jn{p:κ×V}(e:p.1=k):valV (p::r) k=some p.2:=by simp[valV,uX,e]
theorem jo{p:κ×V}(e:¬p.1=k):valV (p::r) k=valV r k:=by simp[valV,uX,e]
theorem qbX(k:κ):∀kvs:List (κ×V),(kvs.any λa=>decide (a.1=k))=(valV kvs k).isSome
 |[]=>rfl
 |p::r=>by
  rw[vo];by_cases e:p.1=k
  .simp only[jn e,wS e,Bool.true_or,Option.isSome_some]
  .rw [jo e,wY e,Bool.false_or];exact qbX k r
theorem jT(kvs:List (κ×V))(k:κ)(v:V):(putK kvs k v).length<=kvs.length+1:=by
 unfold putK;split
 .rw [wE];lia
 .rw [wI,w4,vb];lia
theorem RelO.isSome_eq(r:RelO o u):o.isSome=u.isSome:=by
 cases o with
 |none=>cases u with
  |none=>rfl
  |some _=>exact(show False from r).elim
 |some _=>cases u with
  |none=>exact(show False from r).elim
  |some _=>rfl
theorem KV.val(r:KV kvs vs)(k:κ):RelO (valV kvs k) (valueAt vs k):=by
 unfold KV at r;induction r with
 |nil=>exact True.intro
 | @cons p q ps qs h t c =>
  obtain⟨a,d⟩:=h;by_cases e:p.1=k
  .have e':q.1=k:=a.symm.trans e
   have b:valueAt (q::qs) k=some q.2:=by simp[valueAt,uX,e']
   rw[jn e,b];exact d
  .have e':¬q.1=k:=λz=>e (a.trans z)
   have b:valueAt (q::qs) k=valueAt qs k:=by simp[valueAt,uX,e']
   rw[jo e,b];exact c
theorem KV.any(r:KV kvs vs)(k:κ):(kvs.any λa=>decide (a.1=k))=vs.any λa=>decide (a.1=k):=by
 unfold KV at r;induction r with
 |nil=>rfl
 |cons h t b=>rw[vo,vo,b,h.1]
theorem KV.repl(r:KV kvs vs)(k:κ)(c:RelV y u):
  KV (kvs.map λa=>if a.1=k then(a.1,y)else a) (vs.map λa=>if a.1=k then(a.1,u)else a):=by
 unfold KV at r ⊢;induction r with
 |nil=>exact .nil
 | @cons p q ps qs h t d =>
  rw[wd,wd];refine .cons ?_ d;obtain⟨b,f⟩:=h;by_cases e:p.1=k
  .rw [wN e,wN (b.symm.trans e)];exact⟨b,c⟩
  .rw [wT e,wT (λz=>e (b.trans z))];exact⟨b,f⟩
theorem KV.put(r:KV kvs vs)(k:κ)(a:RelV y u):KV (putK kvs k y) (stored vs k u):=by
 unfold putK stored;rw[r.any k];by_cases e:(vs.any λb=>decide (b.1=k))=true
 .rw [wN e,wN e];exact r.repl k a
 .rw [wT e,wT e];exact Paired.snoc r ⟨rfl,a⟩
theorem KV.length(r:KV kvs vs):kvs.length=vs.length:=Paired.length r
end
def qfD(r:RelV (kV k) u):(mixKind P w).is k u=true:=by
 cases k with
 |inl i=>obtain⟨t,e⟩:=(show ∃t,u=Value.int i t from r);subst e;exact qbQ P w i t
 |inr x=>obtain⟨t,e⟩:=(show ∃t,u=Value.str x t from r);subst e;exact qbR P w x t
def qa0:∀{ks:List Key} {us:List Value},Vals (ks.map kV) us->ItemsAre (mixKind P w) ks us
 |[],_,r=>by rw[uo]at r;cases r;exact .nil
 |k::ks,_,r=>by
  rw[wd]at r;cases r with
  |cons h t=>exact .cons (qfD h) (qa0 t)
abbrev KT(H:Hp):List (List Key×V)->List (List Key×Addr×Value)->Prop:=Paired λp q=>p.1=q.1/\H q.2.1=some (.tup (p.1.map kV))/\RelV p.2 q.2.2
def KT.val(r:KT H kvs xs)(k:List Key):RelO (valV kvs k) ((atKey xs k).map (·.2)):=by
 induction r with
 |nil=>exact True.intro
 | @cons p q ps qs h t c =>
  obtain⟨a,_,d⟩:=h;by_cases e:p.1=k
  .have e':q.1=k:=a.symm.trans e
   have b:atKey (q::qs) k=some q.2:=by simp[atKey,uX,e']
   rw[jn e,b];exact d
  .have e':¬q.1=k:=λz=>e (a.trans z)
   have b:atKey (q::qs) k=atKey qs k:=by simp[atKey,uX,e']
   rw[jo e,b];exact c
def KT.repl(r:KT H kvs xs)(k:List Key)(d:RelV y u):
  KT H (kvs.map λb=>if b.1=k then(b.1,y)else b) (xs.map (putAt k u)):=by
 induction r with
 |nil=>exact .nil
 | @cons p q ps qs h t f =>
  rw[wd,wd];refine .cons ?_ f;obtain⟨a,c,i⟩:=h;unfold putAt;by_cases e:p.1=k
  .rw [wN e,wN (a.symm.trans e)];exact⟨a,c,d⟩
  .rw [wT e,wT (λz=>e (a.trans z))];exact⟨a,c,i⟩
def KT.put(r:KT H kvs xs)(k:List Key)(c:H b=some (.tup (k.map kV)))(a:RelV y u):
  KT H (putK kvs k y) (storedH xs k b u):=by
 have e:(kvs.any λd=>decide (d.1=k))=(atKey xs k).isSome:=by
  rw[qbX,(r.val k).isSome_eq,Option.isSome_map]
 unfold putK storedH;rw[e];by_cases q:(atKey xs k).isSome=true
 .rw [wN q,wN q];exact r.repl k a
 .rw [wT q,wT q];exact Paired.snoc r ⟨rfl,c,a⟩
def KT.keeps(r:KT H kvs xs)(a:∀b ys,H b=some (.tup ys)->H' b=some (.tup ys)):KT H' kvs xs :=
 Paired.mapP r λ_ _ z=>⟨z.1,a _ _ z.2.1,z.2.2⟩
section
variable{P:Program}{w:World}{H:Hp}{h:Heap}{a:Addr}
theorem qi6(ok:HOk P w H h)(e:Rd H a u):ObjOk P w H h a u:=e.ok ok
theorem qdC(ok:HOk P w H h)(e:Rd H a (.dK kvs)):kvs.length<=sizeLine/\(a == sysModules)=false/\∃vs,KV kvs vs/\h.DictOf (mixKind P w) a vs :=
 show ObjOk P w H h a (.dK kvs)from qi6 ok e
theorem qls(ok:HOk P w H h)(e:H a=some (.dK kvs)):kvs.length<=sizeLine/\(a == sysModules)=false/\∃vs,KV kvs vs/\h.DictOf (mixKind P w) a vs:=qdC ok (.inl e)
theorem qcY{ks:List Key}(ok:HOk P w H h)(e:H a=some (.tup (ks.map kV))):(tupleKind (mixKind P w)).is h ks a:=by
 obtain⟨_,b,r,⟨o,c,d,n,f⟩,_⟩:=(show ObjOk P w H h a (.tup (ks.map kV))from ok a _ e);exact⟨o,b.toArray,n,c,d,f,by simpa using qa0 r⟩
theorem qdD(ok:HOk P w H h)(e:Rd H a (.dT kvs)):kvs.length<=sizeLine/\(a == sysModules)=false /\
  ∃xs,KT H kvs xs/\h.DictOfH (tupleKind (mixKind P w)) a xs:=by
 obtain⟨z,y,xs,r,o,es,d,f,i,j,n,s⟩:=(show ObjOk P w H h a (.dT kvs)from qi6 ok e);refine⟨z,y,xs,r,o,es,d,f,i,j,n,λx b=>?_,s⟩;have all:∀{l:List (List Key×V)} {m:List (List Key×Addr×Value)},KT H l m->∀x∈m,(tupleKind (mixKind P w)).is h x.1 x.2.1:=by
  intro l m q;induction q with
  |nil=>intro x b;exact nomatch b
  | @cons p q ps qs c t u =>
   intro x b;rcases wR.mp b with e|b
   .subst e
    exact qcY ok (by rw[<-c.1];exact c.2.1)
   .exact u x b
 exact all r x b
theorem qlt(ok:HOk P w H h)(e:H a=some (.dT kvs)):kvs.length<=sizeLine/\(a == sysModules)=false /\
  ∃xs,KT H kvs xs/\h.DictOfH (tupleKind (mixKind P w)) a xs:=qdD ok (.inl e)
end
def DGet(H:Hp)(a:Addr)(y:V)(r:Option V):Prop :=
 (∃kvs k,Rd H a (.dK kvs)/\y=kV k/\r=valV kvs k)\/∃kvs k b,Rd H a (.dT kvs)/\y=.ref b/\H b=some (.tup (k.map kV))/\r=valV kvs k
def DPut(H:Hp)(a:Addr)(y v:V)(H':Hp):Prop :=
 (∃kvs k,H a=some (.dK kvs)/\y=kV k/\kvs.length<sizeLine/\H'=upd H a (.dK (putK kvs k v))) \/
 ∃kvs k b,H a=some (.dT kvs)/\y=.ref b/\H b=some (.tup (k.map kV))/\kvs.length<sizeLine/\H'=upd H a (.dT (putK kvs k v))
def DGet.t{k:List Key}(e:H a=some (.dT kvs))(c:H b=some (.tup (k.map kV))):DGet H a (.ref b) (valV kvs k):=.inr ⟨kvs,k,b,.inl e,rfl,c,rfl⟩
def DPut.k{H:Hp}{a:Addr}{kvs:List (Key×V)}{k:Key}{v:V}(e:H a=some (.dK kvs))(b:kvs.length<sizeLine):DPut H a (kV k) v (upd H a (.dK (putK kvs k v))):=.inl ⟨kvs,k,e,rfl,b,rfl⟩
def DPut.t{k:List Key}{v:V}(e:H a=some (.dT kvs))(c:H b=some (.tup (k.map kV)))(d:kvs.length<sizeLine):
  DPut H a (.ref b) v (upd H a (.dT (putK kvs k v))):=.inr ⟨kvs,k,b,e,rfl,c,d,rfl⟩
section
variable{X:Cx}{pins:List (Addr×Obj)}{σ:St}{H:Hp}{s:Shared}{a:Addr}{y v:V}{u r:Value}{o:Option V}{A:Around}{E:Value->Shared->Prop}
theorem Inv.big(I:Inv X pins σ H s):sysModules<s.heap.objs.size:=by
 have h:mainGlobals<s.heap.objs.size:=(I.mod.glob.keeps I.bk).lt;exact Nat.lt_trans (by decide) h
theorem qeL(q:A.units+1<cLine)(I:Inv X pins σ H s)(g:DGet H a y (some v))(n:RelV y u)(h:∀f s',Inv X pins σ H s'->RelV v f->Q f s'):
  wpAny (model X.prog X.w) A (getItem (.ref a) u) Q E s:=by
 rcases g with ⟨kvs,k,e,i,l⟩|⟨kvs,k,b,e,i,eb,l⟩
 .subst i
  obtain⟨z,hd,vs,c,dd⟩:=qdC I.hok e;obtain⟨f,j,d⟩:=RelO.some_of (v:=v) (o:=valueAt vs k) (by rw[l];exact c.val k);exact wpAny_getItem_of (qfD n) dd.mapOf j (h f _ (I.tok _) d)
 .subst i
  cases (show u=Value.ref b from n);obtain⟨z,hd,xs,c,dd⟩:=qdD I.hok e;obtain⟨f,j,d⟩:=RelO.some_of (v:=v) (o:=(atKey xs k).map (·.2)) (by rw[l];exact c.val k);obtain⟨p,x,m⟩:=xG.mp j;refine wpAny_getItem_heap (tupleKind_room_in1 q) (qcY I.hok eb) dd x ?_;rw[m];exact h f _ (I.tok _) d
theorem qdE{t':Nat}(I:Inv X pins σ H s)(c:Mut (H a))(d:Heap.SameBut a s.heap h')(f:∃q,h'.get? a=some q)(new:ObjOk X.prog X.w (upd H a ob) h' a ob):
  Inv X pins σ (upd H a ob) {s with heap:=h',toks:=t' } :=
 I.write (x:=a) (e:=a) c (.inl rfl) (λb q h z=>(d.2 b h).trans z) f new
theorem qjV{H':Hp}{h':Heap}{kvs:List (Key×V)}(z:kvs.length<=sizeLine)(hd:(a == sysModules)=false)(b:KV kvs vs)(dd:h'.DictOf (mixKind P w) a vs):
  ObjOk P w H' h' a (.dK kvs):=⟨z,hd,vs,b,dd⟩
theorem qeM(J:A.units+1<cLine)(I:Inv X pins σ H s)(g:DPut H a y v H')(B:RelV y u)(C:RelV v r)(h:∀s',Inv X pins σ H' s'->Q () s'):
  wpAny (model X.prog X.w) A (setItem (.ref a) u r) Q E s:=by
 rcases g with ⟨kvs,k,e,j,l,m⟩|⟨kvs,k,b,e,j,eb,l,m⟩
 .subst j m
  obtain⟨z,hd,vs,d,dd⟩:=qls I.hok e;have n:vs.length<=sizeLine:=by rw[<-d.length];exact z
  have p:(putK kvs k v).length<=sizeLine:=by have:=jT kvs k v;lia
  refine wpAny_setItem_pairs (hsz:=n) (qfD B) dd λh' f x=>h _ ?_
  have K:∃q,h'.get? a=some q:=let ⟨q,_,_,i,_⟩:=f;⟨q,i⟩;exact qdE I (by rw[e];exact True.intro) x K (qjV p hd (d.put k C) f)
 .subst j m
  cases (show u=Value.ref b from B);obtain⟨z,hd,xs,d,dd⟩:=qlt I.hok e;have n:xs.length<=sizeLine:=by rw[<-Paired.length d];exact z
  have p:(putK kvs k v).length<=sizeLine:=by have:=jT kvs k v;lia
  refine wpAny_setItem_heap (hsz:=n) (tupleKind_room_in1 J) (qcY I.hok eb) dd λh' f x=>h _ ?_
  obtain⟨q,es,L,i,M,N,O,_,P⟩:=f;refine qdE I (by rw[e];exact True.intro) x ⟨q,i⟩ ⟨p,hd,_,(d.put k eb C).keeps λc ys F=>?_,q,es,L,i,M,N,O,P⟩;rw[qp (qlh F e (λz=>nomatch z))];exact F
end
def qbY(I:Inv X pins c H s)(g:DGet H a y o):s.TypeIs (.ref a) "dict":=by
 rcases g with ⟨kvs,k,e,_,_⟩|⟨kvs,k,b,e,_,_,_⟩
 .obtain ⟨_,_,vs,_,dd⟩:=qdC I.hok e
  exact dd.typeIs
 .obtain ⟨_,_,xs,_,dd⟩:=qdD I.hok e
  exact dd.typeIs
def qfE(h:Heap)(a:sysModules<h.objs.size):ObjOk P w H (h.push {cls:=.type "dict",data:=.dict #[]}) h.objs.size (.dK []) :=
 ⟨vN _,ww.mpr (Ne.symm (wa a)),[],.nil,Heap.DictOf.new h⟩
def qfF(h:Heap)(a:sysModules<h.objs.size):ObjOk P w H (h.push {cls:=.type "dict",data:=.dict #[]}) h.objs.size (.dT []) :=
 ⟨vN _,ww.mpr (Ne.symm (wa a)),[],.nil,_,#[],0,wH _ rfl,⟨rfl,rfl,rfl⟩,rfl,rfl,List.nodup_nil⟩
def tDNewK:TE:=λ_ H Q=>∀p,H p=none->Q (.ref p) (upd H p (.dK []))
def tDNewT:TE:=λ_ H Q=>∀p,H p=none->Q (.ref p) (upd H p (.dT []))
section
variable{X:Cx}{pos:Pos}
theorem qfG:PE X (.Dict [] [] pos) tDNewK:=λpins s b H Q I h =>
 wpAny_Dict_empty ⟨.ref s.heap.objs.size,_,I.laid (a:=s.heap.objs.size) (o:=.dK []) (t':=s.toks) (λ_ _ q=>wB _ q) (wJ _) (qfE s.heap I.big),rfl,h _ (I.hok.fresh (wJ _))⟩
theorem qfH:PE X (.Dict [] [] pos) tDNewT:=λpins s b H Q I h =>
 wpAny_Dict_empty ⟨.ref s.heap.objs.size,_,I.laid (a:=s.heap.objs.size) (o:=.dT []) (t':=s.toks) (λ_ _ q=>wB _ q) (wJ _) (qfF s.heap I.big),rfl,h _ (I.hok.fresh (wJ _))⟩
end
def IsD(H:Hp)(a:Addr):Prop:=(∃kvs,Rd H a (.dK kvs))\/∃kvs,Rd H a (.dT kvs)
def qjW(I:Inv X pins h H s)(d:IsD H a):
  s.TypeIs (.ref a) "dict"/\(∀b,Value.ref a=.ref b->∃ob,s.heap.get? b=some ob/\ob.dict=none)/\(a == sysModules)=false:=by
 rcases d with ⟨kvs,e⟩|⟨kvs,e⟩
 .obtain ⟨_,hd,vs,_,dd⟩:=qdC I.hok e
  refine⟨dd.typeIs,λb q=>?_,hd⟩;cases q;obtain⟨ob,_,_,c,f,_⟩:=dd;exact⟨ob,c,f.2.1⟩
 .obtain ⟨_,hd,xs,_,dd⟩:=qdD I.hok e
  refine⟨dd.typeIs,λb q=>?_,hd⟩;cases q;obtain⟨ob,_,_,c,f,_⟩:=dd;exact⟨ob,c,f.2.1⟩
end L2
namespace Att
open PySem PySem.W PySem.Calls PyProof.Rows
def jX:∀(ns:List Int) (vs:List Value),WellAll P h vs (ns.map WData.int)->IntsAre vs ns:=by
 intro ns;induction ns with
 |nil =>
  intro vs w;rw[uo]at w;cases w;exact .nil
 |cons n ns c =>
  intro vs w;rw[wd]at w;cases w with
  |cons a b =>
   cases a;exact .cons _ _ (c _ b)
def qeN{l:OpenLaw}{n:Nat}(hn:l.most=some n)(c:l.row.toRowW.claim.pre args=true)(o:WellAll P h b args):
  ∃a vs ns,b=[Value.ref a]/\args=[WData.list (ns.map WData.int)]/\h.get? a=some {cls:=.type "list",data:=.seq vs.toArray}/\IntsAre vs ns/\ns.length<=n:=by
 have p:WShape.hasAll [] args [.list .int]=true:=(pre_splitW c).1;have s:l.pre.holds [] {args:=args}=true:=(pre_splitW c).2;obtain⟨d,r,rfl,u,v⟩:=hasAllW_cons p;obtain rfl:=hasAllW_nil v;obtain⟨xs,rfl,w⟩:=hasW_list u;obtain⟨ns,rfl⟩:=items_int w;have f:ns.length<=n:=by
  unfold OpenLaw.pre at s;have j:(WTm.not (.lt (.lit (.int (n:Int))) (.len (.arg 0)))).holds [] {args:=[.list (ns.map .int)]}=true:=by
   have j:=(holds_andW s).1;rw[hn]at j;exact j
  have m:=condW_of j (w_not (w_lt w_lit (w_len_list (w_arg rfl))));rw[wE]at m;refine Nat.le_of_not_lt λq=>?_
  have x:(n:Int)<((ns.length:Nat):Int):=by omega
  first
   | (rw[wS x]at m;exact absurd m (by decide))
   | (simp at m;omega)
 cases o with
 |cons y A =>
  cases A;cases y with
  |list B i=>exact⟨_,_,ns,rfl,rfl,B,jX ns _ i,f⟩
def qeO(l:OpenLaw)(args:List WData):l.row.toRowW.claim.post args (.bool true) args=true :=
 postW_of (r:=l.row.toRowW) (X:=(true == true))
  (show WShape.has [] (.bool true) .bool=true by first|rfl|decide|simp[WShape.has,WShape.arms,WShape.armsAll])
  (show(WTm.eq .res (.lit (.bool true))).value [] {args:=args,res:=some (.bool true),after:=args}=some (.bool (true == true))from w_eq_bool (w_res rfl) w_lit) rfl
def attach_call{l:OpenLaw}{n:Nat}{q:Program}{c:List Str}{XP:(Str->Option Value)->Heap->Prop}{A:World->Heap->Prop}{d:DefRec}(hn:l.most=some n)(u:d.params.defaults=[])(call:∀(w:World) (s₀ b:Shared) (mg mb:Str->Option Value) (i:Addr) (o:Obj) (pm s doc:Value) (a:Addr) (vs:List Value) (ns:List Int),
   Ground q c [] XP w s₀ mg mb b.heap->A w b.heap ->
   b.heap.get? i=some o->o.data=.func (docDef d.name d.params d.body d.scope pm s doc)->b.heap.CodeRec s d.name->mg d.name=some (.ref i) ->
   b.heap.get? a=some {cls:=.type "list",data:=.seq vs.toArray}->IntsAre vs ns->ns.length<=n->b.gens=#[] ->
   codeAny (model l.prog w) callerA (.call (.ref i) ⟨[.ref a],[]⟩) (λr s'=>r=.ok (.ret (.bool true))/\OldK b.heap s'.heap/\s'.os=b.os/\AllBare s'.gens) b):
  WalkO q c XP A l.row.toRowW d [] (λf vs=>PySem.call f vs):=by
 intro w s₀ b mg mb G Y i o pm s doc F kV H hd v B x I args C as j E J y K;obtain rfl:F=.none:=Dflts.none B u;obtain rfl:kV=.none:=Dflts.noKw B;obtain⟨a,vs,ns,rfl,rfl,m,h,p⟩:=qeN hn j y;refine enter_call (codeAny_mono (call w s₀ b mg mb i o pm s doc a vs ns G Y H (fd_plain hd) v x m h p I) λr s' L=>?_);obtain⟨rfl,M,N,O⟩:=L;exact⟨.inl ⟨.bool true,.bool true,[],rfl,λ_=>rfl,.bool true,qeO l _,λ_=>⟨List.Pairwise.nil,λ_ hm=>(nomatch hm)⟩⟩,M,N,O⟩
end Att
namespace L2
open PySem PySem.Spec PyProof.Rows
def qa1:∀{vs:List Value} {ns:List Int},IntsAre vs ns->Vals (ns.map V.int) vs
 |_,_,.nil=>.nil
 |_,_,.cons n t h=>.cons ⟨t,rfl⟩ (qa1 h)
def defArgs(s:Stmt):Arguments:=match s with
 | .FunctionDef _ a _ _ _ _ _ _ _ _=>a
 |_=>{posonlyargs:=[],args:=[],vararg:=none,kwonlyargs:=[],kw_defaults:=[],kwarg:=none,defaults:=[]}
def defBody(s:Stmt):List Stmt:=match s with
 | .FunctionDef _ _ b _ _ _ _ _ _ _=>b
 |_=>[]
def defScope(s:Stmt):Scope:=match s with
 | .FunctionDef _ _ _ _ _ _ sc _ _ _=>sc
 |_=>{kind:=.function,names:=[],isGenerator:=false,isCoroutine:=false}
abbrev CX0:CXT:=λ_ _ _ _ _ _=>False
abbrev E0:XK:=λ_ _ _=>False
def pass0:Passes CX0 X E0:=λ_ _ _ _ _ _ _ h=>h.elim
def qi7{k:Nat}(a:Room k A):A.units+1<cLine:=Nat.lt_of_le_of_lt (Nat.add_le_add_left (by decide:1<=64) _) a.units
end L2
namespace HT
open PySem PySem.Spec PyProof.Rows
section
variable{prog:Program}{w:World}{A:Around}{E:Value->Shared->Prop}{s:Shared}
theorem qaP(a:IsTup s.heap t items)(h:Q true s):wpAny (model prog w) A (Builtin.Tuple.tupleIsExact (.ref t)) Q E s:=by
 unfold Builtin.Tuple.tupleIsExact;refine wA (uj a.typeIs ?_);exact wC h
theorem je{t sl:Addr}{items:Array Value}{i j:Value}{lo hi:Option Int}{Q:Value->Shared->Prop}(a:IsTup s.heap t items)(l:s.heap.IsSliceOf sl i j .none)(pl:IsPart i lo)(n:IsPart j hi)(m:sIx items.size 0 lo=0/\sIx items.size items.size hi=items.size)(h:Q (.ref t) s):wpAny (model prog w) A (getItem (.ref t) (.ref sl)) Q E s:=by
 obtain⟨os,c,d,o⟩:=id l;have f:s.TypeIs (.ref sl) "slice":=⟨os,c,d⟩;unfold getItem
 try with_reducible refine vE ?_
 first|refine wA (wC ?_)|skip
 refine wA (wpAny_sequenceKey a.typeIs (by decide) ?_);refine wA (wt (name:=Str.ofString "__getitem__") a.typeIs vG
  (wz vG a.typeIs entry_tuple_getitem ?_ (args_tuple_getitem _ _)))
 show wpAny _ _ (Builtin.Tuple.tupleItemsOf (.ref t) >>= _) _ _ s;refine wA (tupleItemsOf_ a ?_);refine wA (uj f ?_);rw[wN (by decide)];refine wA (zZ l pl n ?_);have b:(((sIx items.size 0 lo:Nat):Int) == 0&&(1:Int) == 1&&(sIx items.size items.size hi-sIx items.size 0 lo) == items.size)=true:=by
  rw[m.1,m.2];simp
 show wpAny _ _ (if(((sIx items.size 0 lo:Nat):Int) == 0&&(1:Int) == 1&&(sIx items.size items.size hi-sIx items.size 0 lo) == items.size)=true then _ else _) _ _ s;rw[wN b];refine wA (qaP a ?_);rw[wN rfl];refine wA (u4 ?_);exact wA (wC (wC ⟨_,rfl,wC h⟩))
end
def jE:fillsNumberSlot (.type "tuple") "mul"=pure false :=
 PySem.fillsNumberSlot_seq (id:="tuple.__mul__") (r:=some (.builtin "tuple.__rmul__")) F.slot_tuple_mul.lookup (by decide +kernel) F.slot_tuple_rmul.lookup (by decide +kernel)
def qbm:seqRepeat? (.type "tuple")=pure (some (.builtin "tuple.__mul__")):=by
 unfold seqRepeat?;rw[PySem.seqSlot_of (T:="tuple") (name:="__mul__") (id:="tuple.__mul__") F.slot_tuple_mul.lookup (by decide +kernel),PySem.seqSlot_of (T:="tuple") (name:="__rmul__") (id:="tuple.__rmul__") F.slot_tuple_rmul.lookup (by decide +kernel)];rfl
section
variable{prog:Program}{w:World}{A:Around}{E:Value->Shared->Prop}{s:Shared}
theorem qfI{a:Int}(b:IsTup s.heap l items)(h:Q (.done (.ret Value.notImplemented)) s):wpAny (model prog w) A (Builtin.«int.__rmul__» ⟨[.int a t,.ref l],[]⟩) Q E s:=by
 obtain⟨o,i,f,n,hd⟩:=b;obtain⟨j,g,d,tk,os⟩:=s;obtain⟨c,dd,m,sl⟩:=o;cases f;cases hd;wp_walk;exact h
theorem qhQ{k:Int}{t:Tok}(j:IsTup s.heap l items)(F:-(2^63)<=k)(H:k<2^63)(p:items.size*k.toNat<=sizeLine)(r:(items=#[]\/k=1)->Q (.done (.ret (.ref l))) s)(hn:(¬(items=#[]\/k=1))->Q (.done (.ret (.ref s.heap.objs.size))) {s with heap:=s.heap.push {cls:=.type "tuple",data:=.seq ((List.replicate k.toNat items.toList).flatten).toArray}}):
  wpAny (model prog w) A (Builtin.«tuple.__mul__» ⟨[.ref l,.int k t],[]⟩) Q E s:=by
 obtain⟨o,I,u,n,hd⟩:=j;obtain⟨J,g,d,tk,os⟩:=s;obtain⟨c,dd,K,sl⟩:=o;cases u;cases hd;have b:(decide (k < -(2^63)) || decide (k>=2^63))=false:=by simp;lia
 by_cases z:items=#[]\/k=1
 .have f:(items.isEmpty || k == 1)=true:=by
   rcases z with z|z
   .rw [z];rfl
   .rw [z];simp
  wp_walk;rw[wT (by rw[b];exact w5)];wp_walk;exact r z
 .have f:(items.isEmpty || k == 1)=false:=by
   simp only[Bool.or_eq_false_iff,ww];exact⟨by rw[<-Bool.not_eq_true];intro q;exact z (.inl (by simpa using q)),λq=>z (.inr q)⟩
  wp_walk;rw[wT (by rw[b];exact w5)];wp_walk;have ne:items.isEmpty=false:=(Bool.or_eq_false_iff.mp f).1;by_cases k0:k<=0
  .have a:(decide (k<=0) || items.isEmpty)=true:=by rw[wS k0];rfl
   rw[wN a];wp_walk;have e:k.toNat=0:=by lia
   have:=hn z;rw[e]at this;exact this
  .have a:(decide (k<=0) || items.isEmpty)=false:=by rw[wY k0,ne];rfl
   rw[wT (by rw[a];exact w5)];have h:(items.size:Int)*k=((items.size*k.toNat:Nat):Int):=by
    rw[Int.natCast_mul];congr 1;lia
   have v:¬((items.size:Int)*k>(2^63-1) / 8):=by
    rw[h];have:((sizeLine:Nat):Int)<=(2^63-1) / 8:=by decide
    lia
   have x:Builtin.Tuple.tupleTooMany ((items.size:Int)*k)=false:=by
    unfold Builtin.Tuple.tupleTooMany;rw[h,wY];lia
   have y:List.foldl (λB C=>B++C) #[] (List.replicate k.toNat items)=(List.replicate k.toNat items.toList).flatten.toArray:=by
    have:=L2.jC items.toList k.toNat [];rw[List.nil_append]at this;simpa using this
   rw[wT v];wp_walk;rw[y];rw[wT (by rw[x];exact w5)];have i:sizeOk (.seq (List.replicate k.toNat items.toList).flatten.toArray):=by
    show(List.replicate k.toNat items.toList).flatten.toArray.size<=sizeLine;rw[wK,L2.jZ,vc,Nat.mul_comm];exact p
   show wpAny _ _ (Builtin.Tuple.tupleExact _ >>= _) _ _ _
   first
    |exact wA (m:=Builtin.Tuple.tupleExact _) (w6 (wC (hn z)) i)
    |exact wA (m:=Builtin.Tuple.tupleExact _) (w6 (hn z) i)
end
end HT
namespace L2
open PySem PySem.Spec PyProof.Rows
section
variable{X:Cx}
def rSlW(K:PySem.W.Frag):V->Option Int->Option Int->Hp->VK->Prop:=λx lo hi H Q=>∃a xs,x=.ref a/\SqT K H a xs /\
 (HT.sIx xs.length 0 lo=0/\HT.sIx xs.length xs.length hi=xs.length)/\Q x H
theorem qhR:SlR X (rSlW X.K):=by
 intro pins s n H x v o p lo hi sl Q I f i pl j h;obtain⟨a,xs,rfl,l,m,q⟩:=h;cases f;obtain⟨c,r,d,u⟩:=I.tuple l;have b:c.toArray.size=xs.length:=by rw[wK];exact r.length.symm
 refine⟨"tuple",_,vG.lookup,d.typeIs,?_⟩;exact HT.je d i pl j (by rw[b];exact m) ⟨.ref a,H,I,rfl,q⟩
def rRepT(K:PySem.W.Frag):R2:=λx y H Q=>∃a k xs,x=.ref a/\y=.int k/\SqT K H a xs/\-(2^63)<=k/\k<2^63/\xs.length*k.toNat<=sizeLine /\
 ((xs=[]\/k=1)->Q x H)/\((¬(xs=[]\/k=1))->∀p,H p=none->Q (.ref p) (upd H p (.tup (List.replicate k.toNat xs).flatten)))
theorem qhS:OpR X (binaryOp .Mult) (rRepT X.K):=by
 intro pins s B H x y v u Q I l m h;obtain⟨a,k,xs,rfl,rfl,n,p,w,j,q1,q2⟩:=h;cases l;obtain⟨t,rfl⟩:=m;obtain⟨d,r,i,A⟩:=I.tuple n;have c:d.length=xs.length:=r.length.symm;have f:(d.toArray=#[]\/k=1) ↔ (xs=[]\/k=1):=by
  constructor
  .rintro (z|z)
   .left
    have:d=[]:=by simpa using z
    rw[this]at c;exact wy.mp (by simpa using c.symm)
   .exact .inr z
  .rintro (z|z)
   .left
    rw[z]at c;have:d=[]:=wy.mp (by simpa using c);rw[this]
   .exact .inr z
 refine wpAny_binaryOp_repeat_ref (T:="tuple") (U:="int") (by decide) i.typeIs (λs'=>typeIs_int s' k t) HT.jE F.fills_int_mul xP HT.qbm F.slot_int_index.lookup ?_;refine wz xP (typeIs_int s k t) F.entry_int_rmul (HT.qfI i ⟨_,rfl,rfl,i.typeIs,?_⟩) (F.args_int_rmul_2 _ _);refine wz F.slot_tuple_mul i.typeIs F.entry_tuple_mul (HT.qhQ i p w (by rw[wK,c];exact j) (λz=>⟨_,rfl,.ref a,H,I,rfl,q1 (f.mp z)⟩) λz=>⟨_,rfl,?_⟩) (F.args_tuple_mul_2 _ _);refine⟨.ref s.heap.objs.size,_,I.laid (t':=s.toks) (o:=.tup (List.replicate k.toNat xs).flatten) (λb ob q=>wB _ q) (wJ _) ?_,rfl,q2 (λy=>z (f.mpr y)) _ (I.hok.fresh (wJ _))⟩;exact⟨by rw[jZ,Nat.mul_comm];exact j,_,r.rep k.toNat,IsTup.new _ _,yS _ _⟩
end
end L2
namespace HT
open PySem PyProof.Rows
def qfJ(A:Around)(s:Shared)(a:Int)(t:Tok)(c:Int)(u:Tok)(prog:Program)(w:World)(E:Value->Shared->Prop)(Q:Value->Shared->Prop)(h:Q (.bool (decide (c<=a))) s):
  wpAny (model prog w) A (richCompare .GtE (.int a t) (.int c u)) Q E s :=
 (PyProof.Rows.ge_int h:wpAny (model prog w) A (compareOp .GtE (.int a t) (.int c u)) Q E s)
def qfK(a c:Int):(!decide (a<c))=decide (c<=a):=by rw[uD];simp
def qfL(a c:Nat):(!decide (a<c))=decide (c<=a):=by rw[uD];simp
section
open PySem.SeqAt
open PySem.AutoSeq1 (wpAny_loadPart')
open PySem.MeetsSeq PySem.MeetsSeq2 PySem.MeetsSeq3
def qaQ(l b:Addr)(items f:Array Value)(n Q:Nat)(dd K:Option Addr)(sl L:Array (Option Value))(ns H:List Int)(hi:IntsAre items.toList ns)(O:IntsAre f.toList H):
  Meets (Builtin.«tuple.__ge__» ⟨[.ref l,.ref b],[]⟩)
   (λ_ R s=>s.heap.get? l=some {cls:=.type "tuple",dict:=dd,data:=.seq items n,slots:=sl}/\s.heap.get? b=some {cls:=.type "tuple",dict:=K,data:=.seq f Q,slots:=L} /\
    R (.ok (.ret (.bool (!lexLt ns H)))) s) :=
 .of_wp λprog w A R s h=>by
  obtain⟨I,g,d,tk,os⟩:=s;obtain⟨S,U,h⟩:=h;have Z:=AutoSeq1.sub_tuple_tuple;have z1:items.size=ns.length:=by rw[<-hi.length];simp
  have z2:f.size=H.length:=by rw[<-O.length];simp
  wp_walk using wpAny_loadPart' S,wpAny_loadPart' U,wpAny_forIn_list _ (λrest b s'=>b.1=none/\s'=⟨I,g,d,tk,os⟩/\∃(vs J:List Value) (j m:List Int),rest=vs.zip J /\
   IntsAre vs j/\IntsAre J m/\j.length+f.size=m.length+items.size/\R (.ok (.ret (.bool (!lexLt j m)))) ⟨I,g,d,tk,os⟩) _
  case turn =>
   rintro⟨y,x⟩ rest b s' ⟨B,rfl,vs,J,j,m,o,C,p,i,r⟩;cases C with
   |nil=>rw[List.zip_nil_left]at o;cases o
   |cons a t E =>
    cases p with
    |nil=>rw[List.zip_nil_right]at o;cases o
    |cons c u F =>
     rw[vd]at o;injection o with M hrest;injection M with W hx;subst W hx;rw[zx]at r;simp only[w4]at i;obtain⟨e,X,v⟩:=qbW A.in1 ⟨I,g,d,tk,os⟩ a t c u;refine wA (X prog w _ _ ?_);cases e with
     |true =>
      rw[wN (v.mp rfl)]at r;wp_walk;exact⟨rfl,rfl,_,_,_,_,hrest,E,F,by lia,r⟩
     |false =>
      rw[wT (λq=>absurd (v.mpr q) w5)]at r;have N:=qfJ A.in1 ⟨I,g,d,tk,os⟩ a t c u prog w;rw[qfK]at r;wp_walk using N;exact⟨_,rfl,by simpa using r⟩
  case fin =>
   rintro⟨b1,b2⟩ s' ⟨B,rfl,vs,J,j,m,o,C,p,i,r⟩;simp only at B;subst B;have P:lexLt j m=decide (items.size<f.size):=by
    cases C with
    |nil =>
     cases p with
     |nil =>
      simp only[vb]at i;rw[jf];exact(wY (by lia)).symm
     |cons c u Y =>
      simp only[vb,w4]at i;rw[yC];exact(wS (by lia)).symm
    |cons a t P =>
     cases p with
     |nil =>
      simp only[vb,w4]at i;rw[yD];exact(wY (by lia)).symm
     |cons c u Y =>
      rw[vd]at o;cases o
   rw[P,qfL]at r;wp_walk;exact⟨_,rfl,by simpa[Builtin.Tuple.tupleCompareSizes]using r⟩
  case h =>
   exact⟨rfl,rfl,items.toList,f.toList,ns,H,rfl,hi,O,by lia,h⟩
end
section
variable{prog:Program}{w:World}{A:Around}{E:Value->Shared->Prop}{s:Shared}
theorem qcZ(u:IsTup s.heap l items)(v:IsTup s.heap b a)(hi:IntsAre items.toList ns)(y:IntsAre a.toList c)(B:A.units<cLine)(h:Q (.bool (!lexLt ns c)) s):wpAny (model prog w) A (compareOp .GtE (.ref l) (.ref b)) Q E s:=by
 obtain⟨⟨cls,dd,data,sl⟩,p,q,n,hd⟩:=id u;obtain⟨⟨r,j,m,o⟩,d,f,C,i⟩:=id v;simp only at q hd f i;subst q hd f i;exact richCompare_meets_room (op:=.GtE) ⟨_,p,rfl⟩ ⟨_,d,rfl⟩ PySem.F.slot_tuple_ge PySem.F.entry_tuple_ge (PySem.F.args_tuple_ge_2 _ _) (qaQ l b items a n C dd j sl o ns c hi y)
  ⟨p,d,show Value.bool (!lexLt ns c)≠Value.notImplemented/\Q (.bool (!lexLt ns c)) s from⟨(λx=>nomatch x),h⟩⟩ B
end
end HT
namespace L2
open PySem PySem.Spec PyProof.Rows
section
variable{X:Cx}{e:Expr}{te:TE}{pos p2 p3 p4:Pos}
def rGeT(K:PySem.W.Frag):R2:=λx y H Q=>∃a b ns c,x=.ref a/\y=.ref b/\SqT K H a (ns.map V.int)/\SqT K H b (c.map V.int)/\Q (.bl (!HT.lexLt ns c)) H
theorem qjX(i:X.A.units<cLine):OpR X (compareOp .GtE) (rGeT X.K):=by
 intro pins s r H x y v u Q I j l h;obtain⟨a,b,ns,f,rfl,rfl,ha,m,q⟩:=h;cases j;cases l;obtain⟨d,n,o,_⟩:=I.tuple ha;obtain⟨c,p,p2,_⟩:=I.tuple m;have i1:IntsAre d.toArray.toList ns:=zy n;have i2:IntsAre c.toArray.toList f:=zy p;exact HT.qcZ o p2 i1 i2 i ⟨.bl (!HT.lexLt ns f),H,I,rfl,q⟩
end
end L2
namespace HT
open PySem PyProof.Rows
section
variable{prog:Program}{w:World}{A:Around}{E:Value->Shared->Prop}{s:Shared}
def Many(h:Heap)(d:Addr)(n:Nat):Prop:=∃o es a,h.get? d=some o/\o.data=.dict es a/\es.size=n
theorem qc0{n:Nat}(hd:(d == sysModules)=false):
  MeetsIn prog w (Builtin.«dict.__len__» ⟨[.ref d],[]⟩) (λ_ R s=>Many s.heap d n/\R (.ok (.ret (.int n s.toks))) {s with toks:=s.toks+1}):=by
 refine .of_wp λA R s b=>?_
 obtain⟨⟨o,es,i,c,a,rfl⟩,h⟩:=b;have size:∀{A:Around} {E:Value->Shared->Prop},wpAny (model prog w) A (dictSize d) (λk s'=>k=es.size/\s'=s) E s:=by
  intro A E;unfold dictSize;exact wA (uu c a (wC ⟨rfl,rfl⟩))
 refine wA (m:=dictSize d) (wo size (λk s' ks=>?_) λ_ _ z=>z);obtain⟨e1,f⟩:=ks;subst e1 f;exact wA (wpAny_pendingCount_other hd (wpAny_ret_mkInt h))
theorem qeP{n:Nat}(hd:(d == sysModules)=false)(hm:Many s.heap d n)(a:s.TypeIs (.ref d) "dict")(b:(n:Int)<2^63)(h:Q (.int n (s.toks+1)) {s with toks:=s.toks+1+1}):wpAny (model prog w) A (call (.builtin "len") [.ref d]) Q E s:=by
 have low:¬((n:Nat):Int)<0:=by lia
 have high:¬((n:Nat):Int)>=2^63:=by lia
 have slot:∀{A:Around} {Q:Value->Shared->Prop},Q (.int n s.toks) {s with toks:=s.toks+1}->wpAny (model prog w) A (call (.builtin "dict.__len__") [.ref d]) Q E s:=λq =>
  call_meetsIn F.slot_dict_len a F.entry_dict_len (F.args_dict_len_1 _) (qc0 (n:=n) hd) ⟨hm,q⟩
 refine Calls.call_function_entry kind_len plain_len entry_len (args_len1 _) ?_;unfold Builtin.«len»;refine wA (m:=oneArg "len" _) (wC (wA (wt (name:=Str.ofString "__len__") a F.slot_dict_len (slot ?_))));refine wA (vE (wC (wA (wpAny_letGo ?_))));show wpAny _ _ (if((n:Nat):Int)<0 then _ else if((n:Nat):Int)>=2^63 then _ else _) _ _ _;rw[wT low,wT high];exact wA (wpAny_mkInt (wC ⟨_,rfl,h⟩))
end
end HT
namespace L2
open PySem PySem.Spec PyProof.Rows
section
variable{X:Cx}
theorem qeQ:CallR X (.builtin "len") (λxs H Q=>∃a kvs,xs=[V.ref a]/\H a=some (.dT kvs)/\Q (.int kvs.length) H):=by
 intro pins s m H xs us Q I r h;obtain⟨a,kvs,rfl,ha,q⟩:=h;obtain⟨u,rfl,d⟩:=vals1 r;cases d;obtain⟨z,y,ys,c,o,es,f,i,n,j,l,p⟩:=(show ObjOk X.prog X.w H s.heap a (.dT kvs)from I.hok a _ ha);have hn:es.size=kvs.length:=by
  have e1:=congrArg List.length l;rw[wE,vc]at e1;rw[e1,c.length]
 have b:((kvs.length:Nat):Int)<2^63:=by rw[vT]at z;lia
 exact HT.qeP y ⟨o,es,f,i,j,hn⟩ (qjW I (.inr ⟨kvs,.inl ha⟩)).1 b ⟨.int kvs.length,H,I.tok _,⟨_,rfl⟩,q⟩
end
end L2
namespace R
open PySem PySem.Spec L2 SeqAt
open PyProof.Rows hiding St
section
variable{A:Around}{s:Shared}{l b:Addr}{es:Array DictEntry}{n n2:Nat}{items:Array Value}{dd dd2:Option Addr}{sl sl2:Array (Option Value)}
abbrev isDt(h:Heap)(l:Addr):Prop:=∃dd es n sl,h.get? l=some {cls:=.type "dict",dict:=dd,data:=.dict es n,slots:=sl}
theorem dq1:Meets (Builtin.«dict.__eq__» ⟨[.ref l,.ref b],[]⟩) (λ_ R s=>s.heap.get? l=some {cls:=.type "dict",dict:=dd,data:=.dict es n,slots:=sl}/\s.heap.get? b=some {cls:=.type "tuple",dict:=dd2,data:=.seq items n2,slots:=sl2}/\R (.ok (.ret .notImplemented)) s) :=
 .of_wp λprog w A R s h=>by
  obtain⟨f,g,d,tk,os⟩:=s;obtain⟨a,c,h⟩:=h;have i:=uZ;wp_walk using wpAny_loadPart' a,wpAny_loadPart' c;exact⟨_,rfl,h⟩
theorem dq2:Meets (Builtin.«tuple.__eq__» ⟨[.ref b,.ref l],[]⟩) (λ_ R s=>s.heap.get? l=some {cls:=.type "dict",dict:=dd,data:=.dict es n,slots:=sl}/\s.heap.get? b=some {cls:=.type "tuple",dict:=dd2,data:=.seq items n2,slots:=sl2}/\R (.ok (.ret .notImplemented)) s) :=
 .of_wp λprog w A R s h=>by
  obtain⟨f,g,d,tk,os⟩:=s;obtain⟨a,c,h⟩:=h;have i:=u0;wp_walk using wpAny_loadPart' a,wpAny_loadPart' c;exact⟨_,rfl,h⟩
theorem dq3:Meets (Builtin.«dict.__ne__» ⟨[.ref l,.ref b],[]⟩) (λ_ R s=>s.heap.get? l=some {cls:=.type "dict",dict:=dd,data:=.dict es n,slots:=sl}/\s.heap.get? b=some {cls:=.type "tuple",dict:=dd2,data:=.seq items n2,slots:=sl2}/\R (.ok (.ret .notImplemented)) s) :=
 .of_wp λprog w A R s h=>by
  obtain⟨f,g,d,tk,os⟩:=s;obtain⟨a,c,h⟩:=h;have i:=uZ;wp_walk using wpAny_loadPart' a,wpAny_loadPart' c;exact⟨_,rfl,h⟩
theorem dq4:Meets (Builtin.«tuple.__ne__» ⟨[.ref b,.ref l],[]⟩) (λ_ R s=>s.heap.get? l=some {cls:=.type "dict",dict:=dd,data:=.dict es n,slots:=sl}/\s.heap.get? b=some {cls:=.type "tuple",dict:=dd2,data:=.seq items n2,slots:=sl2}/\R (.ok (.ret .notImplemented)) s) :=
 .of_wp λprog w A R s h=>by
  obtain⟨f,g,d,tk,os⟩:=s;obtain⟨a,c,h⟩:=h;have i:=u0;wp_walk using wpAny_loadPart' a,wpAny_loadPart' c;exact⟨_,rfl,h⟩
variable(hl:isDt s.heap l)(hb:s.heap.IsTuple b items)(hu:A.units<cLine)
include hl hb
theorem qa2:l≠b:=λe=>by
 obtain⟨dd,es,n,sl,h⟩:=hl;obtain⟨o,a,c,_⟩:=hb;subst e;rw[h]at a;cases a;exact absurd (show Value.type "dict"=Value.type "tuple" from c) (by decide)
include hu
theorem qi8:RcAt A s (.ref l) (.ref b) false:=λprog w E Q h=>by
 have j:=qa2 hl hb;obtain⟨dd,es,n,sl,c⟩:=hl;obtain⟨⟨o,dd2,m,sl2⟩,a,d,n2,f⟩:=id hb;simp only at d f;subst d f;exact(rc_eq_decline_or (k:=false) ⟨_,c,rfl⟩ ⟨_,a,rfl⟩ (by decide) uZ PySem.F.slot_dict_eq PySem.F.slot_tuple_eq_refl
  (λ_ i=>vt PySem.F.slot_dict_eq ⟨_,c,rfl⟩ PySem.F.entry_dict_eq (PySem.F.args_dict_eq_2 _ _) dq1 ⟨c,a,i⟩)
  (λ_ i=>vt PySem.F.slot_tuple_eq_refl ⟨_,a,rfl⟩ PySem.F.entry_tuple_eq (PySem.F.args_tuple_eq_2 _ _) dq2 ⟨c,a,i⟩)
  (λ_ i=>wpAny_isSame_ref_other j c a (by simp) i) (.inr hu) h)
theorem qi9:RcAt A s (.ref b) (.ref l) false:=λprog w E Q h=>by
 have j:=(qa2 hl hb).symm;obtain⟨dd,es,n,sl,c⟩:=hl;obtain⟨⟨o,dd2,m,sl2⟩,a,d,n2,f⟩:=id hb;simp only at d f;subst d f;exact(rc_eq_decline_or (k:=false) ⟨_,a,rfl⟩ ⟨_,c,rfl⟩ (by decide) u0 PySem.F.slot_tuple_eq PySem.F.slot_dict_eq_refl
  (λ_ i=>vt PySem.F.slot_tuple_eq ⟨_,a,rfl⟩ PySem.F.entry_tuple_eq (PySem.F.args_tuple_eq_2 _ _) dq2 ⟨c,a,i⟩)
  (λ_ i=>vt PySem.F.slot_dict_eq_refl ⟨_,c,rfl⟩ PySem.F.entry_dict_eq (PySem.F.args_dict_eq_2 _ _) dq1 ⟨c,a,i⟩)
  (λ_ i=>wpAny_isSame_ref_other' j a c (by simp) i) (.inr hu) h)
theorem qlu:RcNeAt A s (.ref l) (.ref b) true:=λprog w E Q h=>by
 have j:=qa2 hl hb;obtain⟨dd,es,n,sl,c⟩:=hl;obtain⟨⟨o,dd2,m,sl2⟩,a,d,n2,f⟩:=id hb;simp only at d f;subst d f;exact(rc_ne_decline_or (k:=false) ⟨_,c,rfl⟩ ⟨_,a,rfl⟩ (by decide) uZ PySem.F.slot_dict_ne PySem.F.slot_tuple_ne_refl
  (λ_ i=>vt PySem.F.slot_dict_ne ⟨_,c,rfl⟩ PySem.F.entry_dict_ne (PySem.F.args_dict_ne_2 _ _) dq3 ⟨c,a,i⟩)
  (λ_ i=>vt PySem.F.slot_tuple_ne_refl ⟨_,a,rfl⟩ PySem.F.entry_tuple_ne (PySem.F.args_tuple_ne_2 _ _) dq4 ⟨c,a,i⟩)
  (λ_ i=>wpAny_isSame_ref_other j c a (by simp) i) (.inr hu) h)
theorem qlv:RcNeAt A s (.ref b) (.ref l) true:=λprog w E Q h=>by
 have j:=(qa2 hl hb).symm;obtain⟨dd,es,n,sl,c⟩:=hl;obtain⟨⟨o,dd2,m,sl2⟩,a,d,n2,f⟩:=id hb;simp only at d f;subst d f;exact(rc_ne_decline_or (k:=false) ⟨_,a,rfl⟩ ⟨_,c,rfl⟩ (by decide) u0 PySem.F.slot_tuple_ne PySem.F.slot_dict_ne_refl
  (λ_ i=>vt PySem.F.slot_tuple_ne ⟨_,a,rfl⟩ PySem.F.entry_tuple_ne (PySem.F.args_tuple_ne_2 _ _) dq4 ⟨c,a,i⟩)
  (λ_ i=>vt PySem.F.slot_dict_ne_refl ⟨_,c,rfl⟩ PySem.F.entry_dict_ne (PySem.F.args_dict_ne_2 _ _) dq3 ⟨c,a,i⟩)
  (λ_ i=>wpAny_isSame_ref_other' j a c (by simp) i) (.inr hu) h)
end
end R
section
set_option maxHeartbeats 400000
end
section
set_option maxHeartbeats 400000
end
section
set_option maxHeartbeats 400000
end
section
set_option maxHeartbeats 400000
end
namespace R
open PySem PySem.Spec PyProof.Rows L2
namespace EX
def Errs(a C:Addr)(h:Heap):Prop:=∃o vs,h.get? a=some o/\o.cls=.ref C/\o.data=.fields vs
end EX
inductive D where
 |non|bl (b:Bool)|int (i:Int)|str (x:Str)
 |tup (l:List D)|lst (l:List D)|emp
 |ref (n:Nat)
 |exc (C:Addr)
mutual
def Den(ι:List Addr)(H:Hp):D->V->Prop
 | .non,v=>v=.non
 | .bl b,v=>v=.bl b
 | .int i,v=>v=.int i
 | .str x,v=>v=.str x
 | .tup ds,v=>∃a xs,v=.ref a/\a∉ι/\H a=some (.tup xs)/\Dens ι H ds xs
 | .lst ds,v=>∃a xs,v=.ref a/\a∉ι/\Rd H a (.lst xs)/\Dens ι H ds xs
 | .emp,v=>∃a,v=.ref a/\a∉ι/\H a=some (.dK [])
 | .ref n,v=>∃a,v=.ref a/\ι[n]?=some a
 | .exc C,v=>∃a,v=.ref a/\a∉ι/\H a=some (.ext (EX.Errs a C))
def Dens(ι:List Addr)(H:Hp):List D->List V->Prop
 |[],xs=>xs=[]
 |d::ds,xs=>∃x r,xs=x::r/\Den ι H d x/\Dens ι H ds r
end
def NT:HO->Prop
 | .tbl _=>False
 |_=>True
structure Stp (ι:List Addr) (H:Hp) (ι':List Addr) (H':Hp):Prop where
 pre:ι <+: ι'
 new:∀a∈ι',a∈ι\/H a=none
 keep:∀a o,H a=some o->a∉ι->NT o->H' a=some o
 there:∀a,H a≠none->H' a≠none
def Stp.refl(ι:List Addr)(H:Hp):Stp ι H ι H:=⟨ua _,λ_ h=>.inl h,λ_ _ h _ _=>h,λ_ h=>h⟩
def Stp.notin(s:Stp ι H b H')(h:H a=some o)(n:a∉ι):a∉b:=λm=>by
 rcases s.new a m with z|z
 .exact n z
 .rw [h]at z;cases z
def Stp.trans(s:Stp ι H b d)(t:Stp b d c H2):Stp ι H c H2 where
 pre:=s.pre.trans t.pre
 new:=λa m=>by
  rcases t.new a m with z|z
  .exact s.new a z
  .cases q:H a with
   |none=>exact .inr rfl
   |some o=>exact absurd z (s.there a (by rw[q];simp))
 keep:=λa o h n z=>t.keep a o (s.keep a o h n z) (s.notin h n) z
 there:=λa h=>t.there a (s.there a h)
def Stp.get(s:Stp ι H b H'){n:Nat}(h:ι[n]?=some a):b[n]?=some a:=by
 obtain⟨t,rfl⟩:=s.pre;rw[wL (wF.mp h).1];exact h
def Stp.rd(s:Stp ι H b H')(h:Rd H a u)(n:a∉ι)(z:NT u:=by trivial):Rd H' a u/\a∉b:=by
 rcases h with h|⟨o,h⟩
 .exact ⟨.inl (s.keep _ _ h n z),s.notin h n⟩
 .exact ⟨.inr ⟨o,s.keep _ _ h n trivial⟩,s.notin h n⟩
mutual
def Den.mono(s:Stp ι H ι' H'):∀(d:D) {v:V},Den ι H d v->Den ι' H' d v
 | .non,_,h=>h
 | .bl _,_,h=>h
 | .int _,_,h=>h
 | .str _,_,h=>h
 | .tup ds,_,h=>by
  obtain⟨a,xs,e,n,ha,r⟩:=h;exact⟨a,xs,e,s.notin ha n,s.keep _ _ ha n trivial,Dens.mono s ds r⟩
 | .lst ds,_,h=>by
  obtain⟨a,xs,e,n,ha,r⟩:=h;exact⟨a,xs,e,(s.rd ha n).2,(s.rd ha n).1,Dens.mono s ds r⟩
 | .emp,_,h=>by
  obtain⟨a,e,n,ha⟩:=h;exact⟨a,e,s.notin ha n,s.keep _ _ ha n trivial⟩
 | .ref _,_,h=>by
  obtain⟨a,e,ha⟩:=h;exact⟨a,e,s.get ha⟩
 | .exc _,_,h=>by
  obtain⟨a,e,n,ha⟩:=h;exact⟨a,e,s.notin ha n,s.keep _ _ ha n trivial⟩
def Dens.mono(s:Stp ι H ι' H'):∀(ds:List D) {xs:List V},Dens ι H ds xs->Dens ι' H' ds xs
 |[],_,h=>h
 |d::ds,_,h=>by
  obtain⟨x,r,e,h1,h2⟩:=h;exact⟨x,r,e,Den.mono s d h1,Dens.mono s ds h2⟩
end
def Dens.length:∀{ds:List D} {xs:List V},Dens ι H ds xs->ds.length=xs.length
 |[],_,h=>by cases (show _=[]from h);rfl
 |d::ds,_,h=>by
  obtain⟨x,r,rfl,_,a⟩:=h;simp[Dens.length a]
def Dens.append:∀{ds es:List D} {xs ys:List V},Dens ι H ds xs->Dens ι H es ys->Dens ι H (ds++es) (xs++ys)
 |[],_,_,_,h,k=>by cases (show _=[]from h);exact k
 |d::ds,_,_,_,h,k=>by
  obtain⟨x,r,rfl,a,b⟩:=h;exact⟨x,_,rfl,a,Dens.append b k⟩
def Dens.get:∀{ds:List D} {xs:List V} {i:Nat} {d:D},Dens ι H ds xs->ds[i]?=some d->∃x,xs[i]?=some x/\Den ι H d x
 |[],_,_,_,_,e=>by simp at e
 |d::ds,_,0,_,h,e=>by
  obtain⟨x,r,rfl,a,b⟩:=h;simp at e;subst e;exact⟨x,rfl,a⟩
 |d::ds,_,i+1,_,h,e=>by
  obtain⟨x,r,rfl,a,b⟩:=h;obtain⟨y,e1,c⟩:=Dens.get (i:=i) b (by simpa using e);exact⟨y,by simpa using e1,c⟩
def Dens.take:∀{ds:List D} {xs:List V} (n:Nat),Dens ι H ds xs->Dens ι H (ds.take n) (xs.take n)
 |_,_,0,_=>by simp[Dens]
 |[],_,n+1,h=>by cases (show _=[]from h);simp[Dens]
 |d::ds,_,n+1,h=>by
  obtain⟨x,r,rfl,a,b⟩:=h;exact⟨x,_,rfl,a,Dens.take n b⟩
def Dens.drop:∀{ds:List D} {xs:List V} (n:Nat),Dens ι H ds xs->Dens ι H (ds.drop n) (xs.drop n)
 |_,_,0,h=>by simpa using h
 |[],_,n+1,h=>by cases (show _=[]from h);simp[Dens]
 |d::ds,_,n+1,h=>by
  obtain⟨x,r,rfl,b,a⟩:=h;exact Dens.drop n a
def Dens.set(hd:Den ι H d x):∀{ds:List D} {xs:List V} (i:Nat),Dens ι H ds xs->Dens ι H (ds.set i d) (xs.set i x)
 |[],_,_,h=>by cases (show _=[]from h);simp[Dens]
 |d::ds,_,0,h=>by
  obtain⟨x,r,rfl,b,a⟩:=h;exact⟨_,_,rfl,hd,a⟩
 |d::ds,_,i+1,h=>by
  obtain⟨x,r,rfl,b,a⟩:=h;exact⟨_,_,rfl,b,Dens.set hd i a⟩
def Dens.snoc(h:Dens ι H ds xs)(hd:Den ι H d x):Dens ι H (ds++[d]) (xs++[x]) :=
 h.append ⟨x,[],rfl,hd,rfl⟩
mutual
def refsLt(n:Nat):D->Bool
 | .ref k=>decide (k<n)
 | .tup l=>refsLts n l
 | .lst l=>refsLts n l
 | .exc _=>false
 |_=>true
def refsLts(n:Nat):List D->Bool
 |[]=>true
 |d::r=>refsLt n d&&refsLts n r
end
def qI(n:Nat):∀(a b:List D),refsLts n (a++b)=(refsLts n a&&refsLts n b)
 |[],b=>by simp[refsLts]
 |d::r,b=>by simp only[List.cons_append,refsLts,qI n r b,Bool.and_assoc]
def qu{n:Nat}:∀{l:List D} {d:D},refsLts n l=true->d∈l->refsLt n d=true
 |[],_,_,h=>by cases h
 |x::r,d,h,m=>by
  simp only[refsLts,wP]at h;rcases wR.mp m with z|z
  .rw [z];exact h.1
  .exact qu h.2 z
def qE{n:Nat}:∀{l:List D},(∀d∈l,refsLt n d=true)->refsLts n l=true
 |[],_=>rfl
 |x::r,h=>by
  simp only[refsLts,wP];exact⟨h x wQ,qE λd m=>h d (wO _ m)⟩
mutual
def Den.less{n:Nat}:∀(d:D) {v:V},refsLt n d=true->Den ι H d v->Den (ι.take n) H d v
 | .non,_,_,h=>h
 | .bl _,_,_,h=>h
 | .int _,_,_,h=>h
 | .str _,_,_,h=>h
 | .tup ds,_,r,h=>by
  obtain⟨a,xs,e,m,ha,q⟩:=h;exact⟨a,xs,e,λz=>m (wm z),ha,Dens.less ds r q⟩
 | .lst ds,_,r,h=>by
  obtain⟨a,xs,e,m,ha,q⟩:=h;exact⟨a,xs,e,λz=>m (wm z),ha,Dens.less ds r q⟩
 | .emp,_,_,h=>by
  obtain⟨a,e,m,ha⟩:=h;exact⟨a,e,λz=>m (wm z),ha⟩
 | .ref k,_,r,h=>by
  obtain⟨a,e,ha⟩:=h;exact⟨a,e,by rw[uR (vF r)];exact ha⟩
 | .exc _,_,r,_=>by cases r
def Dens.less{n:Nat}:∀(ds:List D) {xs:List V},refsLts n ds=true->Dens ι H ds xs->Dens (ι.take n) H ds xs
 |[],_,_,h=>h
 |d::ds,_,r,h=>by
  obtain⟨x,t,e,h1,h2⟩:=h;simp only[refsLts,wP]at r;exact⟨x,t,e,Den.less d r.1 h1,Dens.less ds r.2 h2⟩
end
mutual
def zA{n:Nat}:∀(d:D),refsLt 0 d=true->refsLt n d=true
 | .non,_=>rfl
 | .bl _,_=>rfl
 | .int _,_=>rfl
 | .str _,_=>rfl
 | .tup ds,h=>qX ds h
 | .lst ds,h=>qX ds h
 | .emp,_=>rfl
 | .ref k,h=>absurd (vF (show decide (k<0)=true from h)) (Nat.not_lt_zero _)
 | .exc _,h=>by cases h
def qX{n:Nat}:∀(ds:List D),refsLts 0 ds=true->refsLts n ds=true
 |[],_=>rfl
 |d::ds,h=>by
  simp only[refsLts,wP]at h ⊢;exact⟨zA d h.1,qX ds h.2⟩
end
mutual
def qeR{m n:Nat}(h:m<=n):∀(d:D),refsLt m d=true->refsLt n d=true
 | .non,_=>rfl
 | .bl _,_=>rfl
 | .int _,_=>rfl
 | .str _,_=>rfl
 | .tup ds,q=>yn h ds q
 | .lst ds,q=>yn h ds q
 | .emp,_=>rfl
 | .ref k,q=>wS (wX (vF (show decide (k<m)=true from q)) h)
 | .exc _,h=>by cases h
def yn{m n:Nat}(h:m<=n):∀(ds:List D),refsLts m ds=true->refsLts n ds=true
 |[],_=>rfl
 |d::ds,q=>by
  simp only[refsLts,wP]at q ⊢;exact⟨qeR h d q.1,yn h ds q.2⟩
end
inductive SO where
 |lst (l:List D)
 |dic (l:List (List Int×D))
 |dis (l:List (Key×D))
def keyT(k:List Int):List Key:=k.map Sum.inl
def DGs{κ K:Type}(f:κ->K)(ι:List Addr)(H:Hp):List (κ×D)->List (K×V)->Prop
 |[],kvs=>kvs=[]
 |p::l,kvs=>∃v r,kvs=(f p.1,v)::r/\Den ι H p.2 v/\DGs f ι H l r
def DGs.mono{κ K:Type}{f:κ->K}{ι a:List Addr}{H H':Hp}(s:Stp ι H a H'):∀{l:List (κ×D)} {kvs:List (K×V)},DGs f ι H l kvs->DGs f a H' l kvs
 |[],_,h=>h
 |_::_,_,h=>let ⟨v,r,e,b,c⟩:=h;⟨v,r,e,Den.mono s _ b,DGs.mono s c⟩
def DGs.length{κ K:Type}{f:κ->K}{ι:List Addr}{H:Hp}:∀{l:List (κ×D)} {kvs:List (K×V)},DGs f ι H l kvs->l.length=kvs.length
 |[],_,h=>by cases (show _=[]from h);rfl
 |_::_,_,h=>by obtain⟨v,r,rfl,_,a⟩:=h;simp[DGs.length a]
def DGs.less{κ K:Type}{f:κ->K}{ι:List Addr}{H:Hp}{n:Nat}:∀{l:List (κ×D)} {kvs:List (K×V)},refsLts n (l.map (·.2))=true->DGs f ι H l kvs->DGs f (ι.take n) H l kvs
 |[],_,_,h=>h
 |_::_,_,r,h=>by
  obtain⟨v,t,e,a,b⟩:=h;simp only[wd,refsLts,wP]at r;exact⟨v,t,e,Den.less _ r.1 a,DGs.less r.2 b⟩
def SOk(ι:List Addr)(H:Hp)(a:Addr):SO->Prop
 | .lst ds=>(∃j,ι[j]?=some a/\refsLts j ds=true)/\∃xs,H a=some (.lst xs)/\Dens ι H ds xs
 | .dic l=>refsLts 0 (l.map (·.2))=true/\∃kvs,H a=some (.dT kvs)/\DGs keyT ι H l kvs
 | .dis l=>refsLts 0 (l.map (·.2))=true/\∃kvs,H a=some (.dK kvs)/\DGs id ι H l kvs
structure Sto (ι:List Addr) (H:Hp) (S:List SO):Prop where
 len:ι.length=S.length
 nd:ι.Nodup
 obj:∀(n:Nat) (a:Addr) (so:SO),ι[n]?=some a->S[n]?=some so->SOk ι H a so
def SOk.some:∀{so:SO},SOk ι H a so->H a≠none
 | .lst _,⟨_,_,h,_⟩=>by rw[h];simp
 | .dic _,⟨_,_,h,_⟩=>by rw[h];simp
 | .dis _,⟨_,_,h,_⟩=>by rw[h];simp
def Sto.there(s:Sto ι H S)(m:a∈ι):H a≠none:=by
 obtain⟨n,hn,e⟩:=uh m;have b:n<S.length:=by rw[<-s.len];exact hn
 exact(s.obj n a S[n] (by rw[wD hn,e]) (wD b)).some
def Sto.fresh(s:Sto ι H S)(h:H a=none):a∉ι:=λm=>s.there m h
def SOk.mono{ι b:List Addr}{H H':Hp}(s:Stp ι H b H'){a:Addr}(c:H' a=H a):∀{so:SO},SOk ι H a so->SOk b H' a so
 | .lst ds,⟨⟨j,e,f⟩,xs,h,r⟩=>⟨⟨j,s.get e,f⟩,xs,by rw[c];exact h,Dens.mono s _ r⟩
 | .dic l,⟨f,vs,h,r⟩=>⟨f,vs,by rw[c];exact h,DGs.mono s r⟩
 | .dis l,⟨f,vs,h,r⟩=>⟨f,vs,by rw[c];exact h,DGs.mono s r⟩
def Stp.laid(h:H p=none)(o:HO):Stp ι H ι (upd H p o) where
 pre:=ua _
 new:=λ_ m=>.inl m
 keep:=λa u e _ _=>by rw[qp (zE e h)];exact e
 there:=λa e=>by
  by_cases z:a=p
  .subst z;rw[qH];simp
  .rw [qp z];exact e
def Sto.laid(s:Sto ι H S)(h:H p=none)(o:HO):Sto ι (upd H p o) S where
 len:=s.len
 nd:=s.nd
 obj:=λn a so e1 b=>(s.obj n a so e1 b).mono (Stp.laid h o) (by
  rw[qp];intro z;subst z;exact s.there (w9 e1) h)
def Stp.grow(h:H p=none)(o:HO):Stp ι H (ι++[p]) (upd H p o) where
 pre:=List.prefix_append _ _
 new:=λa m=>by
  rcases wb.mp m with z|z
  .exact .inl z
  .rw [wV.mp z];exact .inr h
 keep:=(Stp.laid (ι:=ι) h o).keep
 there:=(Stp.laid (ι:=ι) h o).there
def Sto.grow(s:Sto ι H S)(h:H p=none)(k:SOk (ι++[p]) (upd H p o) p so):Sto (ι++[p]) (upd H p o) (S++[so]) where
 len:=by simp[s.len]
 nd:=by
  rw[vV];refine⟨s.nd,by simp,λa ha b d e=>?_⟩;rw[wV.mp d]at e;subst e;exact s.fresh h ha
 obj:=λn a x e1 c=>by
  by_cases hn:n<ι.length
  .rw [wL hn]at e1
   rw[wL (by rw[<-s.len];exact hn)]at c;exact(s.obj n a x e1 c).mono (Stp.grow h o) (by
    rw[qp];intro z;subst z;exact s.there (w9 e1) h)
  .rw [wM (by lia)]at e1
   rw[wM (by rw[<-s.len];lia)]at c;have z:n-ι.length=0:=by
    have:=(wF.mp e1).1;simp at this;lia
   rw[z]at e1;rw[<-s.len,z]at c;simp at e1 c;subst e1 c;exact k
def Stp.put(m:p∈ι)(o:HO):Stp ι H ι (upd H p o) where
 pre:=ua _
 new:=λ_ m=>.inl m
 keep:=λa u e n _=>by rw[qp (λz=>n (by rw[z];exact m))];exact e
 there:=λa e=>by
  by_cases z:a=p
  .subst z;rw[qH];simp
  .rw [qp z];exact e
def zG{ι:List Addr}(c:ι.Nodup){i j:Nat}(a:ι[i]?=some x)(b:ι[j]?=some x):i=j:=by
 obtain⟨f,e1⟩:=wF.mp a;obtain⟨h,d⟩:=wF.mp b;exact(xE c).mp (e1.trans d.symm)
def Sto.put(s:Sto ι H S){n:Nat}(b:ι[n]?=some p)(k:SOk ι (upd H p o) p so):Sto ι (upd H p o) (S.set n so) where
 len:=by rw[List.length_set];exact s.len
 nd:=s.nd
 obj:=λj a x e1 c=>by
  by_cases d:j=n
  .subst d
   rw[b]at e1;obtain rfl:=Option.some.inj e1;have f:j<S.length:=by rw[<-s.len];exact(wF.mp b).1
   rw[vS f]at c;obtain rfl:=Option.some.inj c;exact k
  .rw [vj (Ne.symm d)]at c
   refine(s.obj j a x e1 c).mono (Stp.put (w9 b) o) ?_;rw[qp];intro z;subst z;exact d (zG s.nd e1 b)
def Sto.less(s:Sto ι H S)(n:Nat):Sto (ι.take n) H (S.take n) where
 len:=by rw[wg,wg,s.len]
 nd:=s.nd.sublist (List.take_sublist _ _)
 obj:=λj a so e1 b=>by
  have c:ι[j]?=some a:=by
   have:=(wF.mp e1).1;rw[wg]at this;rw[uR (by lia)]at e1;exact e1
  have d:S[j]?=some so:=by
   have:=(wF.mp b).1;rw[wg]at this;rw[uR (by lia)]at b;exact b
  have k:=s.obj j a so c d;cases so with
  |lst ds =>
   obtain⟨⟨i,m,f⟩,xs,h,r⟩:=k;have o:j<(ι.take n).length:=(wF.mp e1).1;rw[wg]at o;obtain rfl:i=j:=zG s.nd m c;exact⟨⟨i,e1,f⟩,xs,h,Dens.less ds (yn (by lia) ds f) r⟩
  |dic l =>
   obtain⟨f,kvs,h,r⟩:=k;exact⟨f,kvs,h,DGs.less (qX _ f) r⟩
  |dis l =>
   obtain⟨f,kvs,h,r⟩:=k;exact⟨f,kvs,h,DGs.less (qX _ f) r⟩
def Stp.less(s:Stp ι H a H'):Stp ι H (a.take ι.length) H':=by
 have e:a.take ι.length=ι:=by
  obtain⟨t,rfl⟩:=s.pre;simp
 rw[e];exact⟨ua _,λ_ m=>.inl m,s.keep,s.there⟩
def Stp.take_eq(s:Stp ι H a H'):a.take ι.length=ι:=by
 obtain⟨t,rfl⟩:=s.pre;simp
abbrev Sr:=List SO
abbrev En:=List (Option D)
inductive Res (α:Type) where
 |ok (a:α) (S:Sr)|err (x:D) (S:Sr)|no
@[reducible] def Res.bind{α β:Type}(r:Res α)(f:α->Sr->Res β):Res β:=match r with
 | .ok a S=>f a S
 | .err x S=>.err x S
 | .no=>.no
@[simp] theorem Res.bind_ok{α β:Type}(a:α)(S:Sr)(f:α->Sr->Res β):(Res.ok a S).bind f=f a S:=rfl
@[simp] theorem Res.bind_err{α β:Type}(x:D)(S:Sr)(f:α->Sr->Res β):(Res.err x S).bind f=.err x S:=rfl
@[simp] theorem Res.bind_no{α β:Type}(f:α->Sr->Res β):(Res.no:Res α).bind f=.no:=rfl
def ofO{b:Type}(o:Option b)(S:Sr):Res b:=match o with
 |some a=>.ok a S
 |none=>.no
@[simp] theorem qlw{α:Type}(a:α)(S:Sr):ofO (some a) S=.ok a S:=rfl
@[simp] theorem qlx{α:Type}(S:Sr):(ofO none S:Res α)=.no:=rfl
inductive BOp where|add|sub|mul|fdiv|mod|pow|shl|shr|band
inductive COp where|eq|ne|lt|le|gt|ge|is|isn|inn|nin
inductive Ty where|int|bool|tuple|list|str|dict
def Ty.nm:Ty->String
 | .int=>"int" | .bool=>"bool" | .tuple=>"tuple" | .list=>"list" | .str=>"str" | .dict=>"dict"
def mulOk(a b:Int):Bool:=!((decide (Builtin.Int.intBits a>shortFactorBits)&&decide (Builtin.Int.intBits b>shortFactorBits)&&Builtin.Int.intTooBig (Builtin.Int.intBits a+Builtin.Int.intBits b)))
def divOk(a b:Int):Bool:=!(b == 0)&&!(Builtin.divisionGoesByPylong a b)
def lstOf(S:Sr):D->Option (List D)
 | .lst l=>some l
 | .ref n=>match S[n]? with|some (.lst l)=>some l|_=>none
 |_=>none
def binI:BOp->Int->Int->Option Int
 | .add,i,j=>some (i+j)
 | .sub,i,j=>some (i-j)
 | .mul,i,j=>if mulOk i j then some (i*j)else none
 | .fdiv,i,j=>if divOk i j then some (i.fdiv j)else none
 | .mod,i,j=>if j=0 then none else some (i.fmod j)
 | .pow,i,j=>if 0<=j/\j<=1000000/\i.natAbs<2^64 then some (i^j.toNat)else none
 | .shl,i,j=>if 0<=j/\j<=1000000/\i.natAbs<2^64 then some (i*2^j.toNat)else none
 | .shr,i,j=>if 0<=j then some (i / 2^j.toNat)else none
 | .band,i,j=>some (Builtin.bitAnd i j)
def catOk{c:Type}(a b:List c):Bool:=decide (a.length+b.length<=sizeLine)
def repOk{b:Type}(a:List b)(k:Int):Bool:=decide (-(2^63)<=k/\k<2^63/\a.length*k.toNat<=sizeLine)
def rep{b:Type}(a:List b)(k:Int):List b:=(List.replicate k.toNat a).flatten
def binD(o:BOp)(x y:D)(S:Sr):Option D :=
 match x,y with
 | .int i,.int j=>(binI o i j).map .int
 | .str a,.str b=>match o with
  | .add=>if a.length+b.length<=sizeLine then some (.str (a++b))else none
  |_=>none
 | .tup a,.tup b=>match o with
  | .add=>if catOk a b then some (.tup (a++b))else none
  |_=>none
 | .tup a,.int k=>match o with
  | .mul=>if repOk a k then some (.tup (rep a k))else none
  |_=>none
 |x,.int k=>match o with
  | .mul=>match lstOf S x with
   |some a=>if repOk a k then some (.lst (rep a k))else none
   |none=>none
  |_=>none
 |x,y=>match o with
  | .add=>match lstOf S x,lstOf S y with
   |some a,some b=>if catOk a b then some (.lst (a++b))else none
   |_,_=>none
  |_=>none
def eqL(f:D->D->Option Bool):List D->List D->Option Bool
 |[],[]=>some true
 |[],_::_=>some false
 |_::_,[]=>some false
 |a::r,b::t=>match f a b,eqL f r t with
  |some x,some y=>some (x&&y)
  |_,_=>none
def eqD:Nat->D->D->Option Bool
 |0,_,_=>none
 |n+1,x,y=>match x,y with
  | .non,.non=>some true
  | .bl a,.bl b=>some (a == b)
  | .int a,.int b=>some (a == b)
  | .str a,.str b=>some (a == b)
  | .bl a,.int b=>some ((if a then 1 else 0) == b)
  | .int a,.bl b=>some (a == (if b then 1 else 0))
  | .tup a,.tup b=>eqL (eqD n) a b
  | .lst a,.lst b=>if a.length=b.length then eqL (eqD n) a b else some false
  | .emp,.tup _=>some false
  | .tup _,.emp=>some false
  | .emp,_=>none
  |_,.emp=>none
  | .ref _,_=>none
  |_,.ref _=>none
  | .exc _,_=>none
  |_,.exc _=>none
  |_,_=>some false
def intsOf:List D->Option (List Int)
 |[]=>some []
 | .int i::r=>(intsOf r).map (i::·)
 |_=>none
def flatD:D->Bool
 | .non|.bl _|.int _|.str _=>true
 |_=>false
def eqF:D->D->Bool
 | .non,.non=>true
 | .bl a,.bl b=>decide (a=b)
 | .int i,.int j=>decide (i=j)
 | .bl a,.int j=>decide ((if a then 1 else 0)=j)
 | .int i,.bl b=>decide (i=(if b then 1 else 0))
 | .str a,.str b=>decide (a=b)
 |_,_=>false
def inD(x:D)(l:List D):Option Bool:=if flatD x&&l.all flatD then some (l.any λy=>eqF y x)else none
def seqOf(S:Sr):D->Option (List D)
 | .tup l=>some l
 |d=>lstOf S d
def cmpD(o:COp)(x y:D)(S:Sr):Option Bool:=match o with
 | .eq=>eqD 20 x y
 | .ne=>(eqD 20 x y).map (!·)
 | .lt=>match x,y with
  | .int i,.int j=>some (decide (i<j))
  | .tup a,.tup b=>match intsOf a,intsOf b with
   |some m,some n=>some (HT.lexLt m n)
   |_,_=>none
  |_,_=>none
 | .le=>match x,y with|.int i,.int j=>some (decide (i<=j))|_,_=>none
 | .gt=>match x,y with|.int i,.int j=>some (decide (j<i))|_,_=>none
 | .ge=>match x,y with
  | .int i,.int j=>some (decide (j<=i))
  | .tup a,.tup b=>match intsOf a,intsOf b with
   |some m,some n=>some (!HT.lexLt m n)
   |_,_=>none
  |_,_=>none
 | .is=>match y with
  | .non=>some (match x with|.non=>true|_=>false)
  | .bl b=>match x with|.bl a=>some (a == b)|.non=>some false|_=>none
  |_=>none
 | .isn=>match y with
  | .non=>some (match x with|.non=>false|_=>true)
  | .bl b=>match x with|.bl a=>some (!(a == b))|.non=>some true|_=>none
  |_=>none
 | .inn=>(seqOf S y).bind (inD x)
 | .nin=>(seqOf S y).bind λl=>(inD x l).map (!·)
def truD(S:Sr):D->Option Bool
 | .non=>some false
 | .bl b=>some b
 | .int i=>some (i != 0)
 | .str x=>if x.length<=sizeLine then some ((x.length:Int) != 0)else none
 | .tup l=>some (!l.isEmpty)
 | .emp=>some false
 |d=>(lstOf S d).map λl=>!l.isEmpty
def isiD(S:Sr)(t:Ty):D->Option Bool
 | .non=>some false
 | .bl _=>some (match t with|.int=>true|.bool=>true|_=>false)
 | .int _=>some (match t with|.int=>true|_=>false)
 | .str _=>some (match t with|.str=>true|_=>false)
 | .tup _=>some (match t with|.tuple=>true|_=>false)
 | .lst _=>some (match t with|.list=>true|_=>false)
 | .emp=>some (match t with|.dict=>true|_=>false)
 | .ref n=>match S[n]? with
  |some (.lst _)=>some (match t with|.list=>true|_=>false)
  |some (.dic _)=>some (match t with|.dict=>true|_=>false)
  |some (.dis _)=>some (match t with|.dict=>true|_=>false)
  |none=>none
 | .exc _=>none
def lookA(C:Addr):List (Addr×Bool)->Option Bool
 |[]=>none
 | (c,b)::r=>if c=C then some b else lookA C r
def isxD(t:List (Addr×Bool)):D->Option Bool
 | .exc C=>lookA C t
 |_=>none
def keyD:D->Option Key
 | .int i=>some (.inl i)
 | .str x=>some (.inr x)
 |_=>none
def lookT{κ:Type}[DecidableEq κ](k:κ):List (κ×D)->Option D
 |[]=>none
 | (j,d)::r=>if j=k then some d else lookT k r
def putT{κ:Type}[DecidableEq κ](k:κ)(d:D)(l:List (κ×D)):List (κ×D) :=
 if l.any (λp=>decide (p.1=k))then l.map (λp=>if p.1=k then(p.1,d)else p)else l++[(k,d)]
def idxD(S:Sr)(x i:D):Option D:=match i with
 | .int k=>(seqOf S x).bind λl=>atI l k
 | .tup ks=>match x with
  | .ref n=>match S[n]? with
   |some (.dic l)=>(intsOf ks).bind λk=>lookT k l
   |_=>none
  |_=>none
 |_=>none
def cutD(l:List D)(lo hi:Option Int):List D:=(l.drop (HT.sIx l.length 0 lo)).take (HT.sIx l.length l.length hi-HT.sIx l.length 0 lo)
def slcD(S:Sr)(x:D)(lo hi:Option Int):Option D:=match x with
 | .tup l=>some (.tup (cutD l lo hi))
 |d=>(lstOf S d).map λl=>.lst (cutD l lo hi)
def rngL(a b s:Int):List D:=(List.range ((b-a+s-1) / s).toNat).map λ(k:Nat)=>D.int (a+s*k)
def insI(x:Int):List Int->List Int
 |[]=>[x]
 |y::r=>if x<=y then x::y::r else y::insI x r
def sortI(l:List Int):List Int:=l.foldr insI []
def insT(x:List Int):List (List Int)->List (List Int)
 |[]=>[x]
 |y::r=>if HT.lexLt y x then y::insT x r else x::y::r
def sortT(l:List (List Int)):List (List Int):=l.foldr insT []
def tupsOf:List D->Option (List (List Int))
 |[]=>some []
 | .tup a::r=>(intsOf a).bind λm=>(tupsOf r).map (m::·)
 |_=>none
def tupI(m:List Int):D:=.tup (m.map .int)
def sortL(l:List D):Option (List D) :=
 if l.length<64 then
  match intsOf l with
  |some ns=>some ((sortI ns).map .int)
  |none=>(tupsOf l).bind λts=>if ts.Nodup/\∀t∈ts,t≠[]then some ((sortT ts).map tupI)else none
 else none
def walkD(S:Sr):D->Option (List D)
 | .lst l=>some l
 | .emp=>some []
 | .ref n=>match S[n]? with
  |some (.lst l)=>some l
  |some (.dic l)=>some (l.map λp=>tupI p.1)
  |_=>none
 |_=>none
inductive Blt where|len|abs|min2|max2|divmod|list (m:Bool)|tuple|sorted (m:Bool)|all|any|sum|str|int|sortp (m:Bool)|dict|sset (m:Bool)|dictL|sumT|sumB
def newL(m:Bool)(l:List D)(S:Sr):Res D:=if m then(if refsLts 0 l then .ok (.ref S.length) (S++[.lst l])else .no)else .ok (.lst l) S
def binM(o:BOp)(x y:D)(S:Sr):Res D:=match o with
 | .add=>match lstOf S x,lstOf S y with
  |some a,some b=>if catOk a b then newL true (a++b) S else .no
  |_,_=>.no
 | .mul=>match lstOf S x,y with
  |some a,.int k=>if repOk a k then newL true (rep a k) S else .no
  |_,_=>.no
 |_=>.no
def lenD(S:Sr):D->Option Nat
 | .str x=>if x.length<=sizeLine then some x.length else none
 | .ref n=>match S[n]? with
  |some (.lst l)=>some l.length
  |some (.dic l)=>some l.length
  |some (.dis _)=>none
  |none=>none
 | .tup l=>some l.length
 | .lst l=>some l.length
 |_=>none
def boolsOf:List D->Option (List Bool)
 |[]=>some []
 | .bl b::r=>(boolsOf r).map (b::·)
 |_=>none
def one(f:D->Sr->Res D)(xs:List D)(S:Sr):Res D:=match xs with
 |[x]=>f x S
 |_=>.no
def two(f:D->D->Sr->Res D)(xs:List D)(S:Sr):Res D:=match xs with
 |[x,y]=>f x y S
 |_=>.no
def bLen(x:D)(S:Sr):Res D:=ofO ((lenD S x).map λn=>.int n) S
def bAbs(x:D)(S:Sr):Res D:=match x with
 | .int i=>.ok (.int (if i<0 then -i else i)) S
 |_=>.no
def bMin(x y:D)(S:Sr):Res D:=match x,y with
 | .int i,.int j=>.ok (.int (if j<i then j else i)) S
 |_,_=>.no
def bMax(x y:D)(S:Sr):Res D:=match x,y with
 | .int i,.int j=>.ok (.int (if j>i then j else i)) S
 |_,_=>.no
def bDivmod(x y:D)(S:Sr):Res D:=match x,y with
 | .int i,.int j=>if divOk i j then .ok (.tup [.int (i.fdiv j),.int (i.fmod j)]) S else .no
 |_,_=>.no
def bList(m:Bool)(x:D)(S:Sr):Res D:=match seqOf S x with
 |some l=>newL m l S
 |none=>.no
def bTuple(x:D)(S:Sr):Res D:=ofO ((seqOf S x).map .tup) S
def bSorted(m:Bool)(x:D)(S:Sr):Res D:=match(walkD S x).bind sortL with
 |some l=>newL m l S
 |none=>.no
def pairsD:List D->Option (List (List Int×Int))
 |[]=>some []
 | .tup [.tup a,.int i]::r=>(intsOf a).bind λm=>(pairsD r).map ((m,i)::·)
 |_=>none
def pairD(p:List Int×Int):D:=.tup [tupI p.1,.int p.2]
def atP(k:List Int):List (List Int×Int)->Int
 |[]=>0
 |p::r=>if p.1=k then p.2 else atP k r
def sortP(ps:List (List Int×Int)):List (List Int×Int):=(sortT (ps.map (·.1))).map λk=>(k,atP k ps)
def bSortp(m:Bool)(x:D)(S:Sr):Res D:=match(lstOf S x).bind pairsD with
 |some ps=>if ps.length<64/\(ps.map (·.1)).Nodup then newL m ((sortP ps).map pairD) S else .no
 |none=>.no
def bAll(x:D)(S:Sr):Res D:=ofO (((seqOf S x).bind boolsOf).map λl=>.bl (l.all id)) S
def bAny(x:D)(S:Sr):Res D:=ofO (((seqOf S x).bind boolsOf).map λl=>.bl (l.any id)) S
def bSum(x:D)(S:Sr):Res D:=ofO (((seqOf S x).bind intsOf).map λl=>.int l.sum) S
def bStr(x:D)(S:Sr):Res D:=match x with
 | .int i=>if i.natAbs.log2<1920 then .ok (.str (toString i)) S else .no
 |_=>.no
def joinD(x y z:D):Option D:=match x,y,z with
 | .str a,.str b,.str c=>if a.length+b.length+c.length<=sizeLine then some (.str (a++b++c))else none
 |_,_,_=>none
def bInt(x:D)(S:Sr):Res D:=match x with
 | .bl b=>.ok (.int (if b then 1 else 0)) S
 |_=>.no
def pairsV:List D->Option (List (List Int×D))
 |[]=>some []
 | .tup [.tup a,v]::r=>if refsLt 0 v then(intsOf a).bind λm=>(pairsV r).map ((m,v)::·)else none
 |_=>none
def dicL(ps:List (List Int×D)):List (List Int×D):=ps.foldl (λl p=>putT p.1 p.2 l) []
def bDict(x:D)(S:Sr):Res D:=match x with
 | .tup l=>match pairsV l with
  |some ps=>.ok (.ref S.length) (S++[.dic (dicL ps)])
  |none=>.no
 |_=>.no
def ddI(l:List Int):List Int:=l.foldl PyProof.Rows.step_dedup []
def bSset(m:Bool)(x:D)(S:Sr):Res D:=match x with
 | .tup l=>match intsOf l with
  |some ns=>if ns.length<4000/\(ddI ns).length<64 then newL m ((sortI (ddI ns)).map .int) S else .no
  |none=>.no
 |_=>.no
def bDictL(x:D)(S:Sr):Res D:=match x with
 | .lst l=>match pairsV l with
  |some ps=>.ok (.ref S.length) (S++[.dic (dicL ps)])
  |none=>.no
 |_=>.no
def tupLs:List D->Option (List (List D))
 |[]=>some []
 | .tup a::r=>(tupLs r).map (a::·)
 |_=>none
def bSumT(x y:D)(S:Sr):Res D:=match x,y with
 | .lst l,.tup []=>match tupLs l with
  |some ts=>if ts.flatten.length<=4000 then .ok (.tup ts.flatten) S else .no
  |none=>.no
 |_,_=>.no
def bSumB(x:D)(S:Sr):Res D:=ofO (((lstOf S x).bind boolsOf).map λl=>.int (l.count true)) S
def bltD:Blt->List D->Sr->Res D
 | .len=>one bLen|.abs=>one bAbs|.min2=>two bMin|.max2=>two bMax|.divmod=>two bDivmod|.list m=>one (bList m)|.tuple=>one bTuple
 | .sorted m=>one (bSorted m)|.all=>one bAll|.any=>one bAny|.sum=>one bSum|.str=>one bStr|.int=>one bInt|.sortp m=>one (bSortp m)|.dict=>one bDict|.sset m=>one (bSset m)|.dictL=>one bDictL|.sumT=>two bSumT|.sumB=>one bSumB
def walkF:D->Option (List D)
 | .tup l=>some l
 | .lst l=>some l
 |_=>none
inductive GW where|all|any|sum|tuple
mutual
inductive CE where
 |var (i:Nat)|cst (d:D)
 |bin (o:BOp) (a b:CE)|neg (a:CE)
 |cmp (o:COp) (a b:CE)|chain (o o':COp) (a b c:CE)
 |and (a b:CE)|or (a b:CE)|not (a:CE)|ife (c:CB) (a b:CE)
 |tup (es:CEs)|lst (m:Bool) (es:CEs)|dic (m:Bool)|dis|fmt (a:CE)|join3 (a b c:CE)
 |call (f:Nat) (es:CEs)|blt (b:Blt) (es:CEs)|isi (t:Ty) (a:CE)|isx (t:List (Addr×Bool)) (a:CE)|ixT (o:CE)
 |popAt (o i:CE)|neF (a b:CE)|rem (o e:CE)|dcK (d:Int) (e:CE)|idk (a i:CE)|lls (e:CE)|app (o e:CE)|ext (o e:CE)|binM (o:BOp) (a b:CE)|get (o k e:CE)
 |idx (a i:CE)|slc (a:CE) (lo hi:CO)|rev (a:CE)
 |rng (k:Option Bool) (es:CEs)
 |lc (m:Bool) (fr:List Nat) (nt:Nat) (elt:CE) (tg:CT) (it:CI) (ifs:CBs)
 |lcR (m:Bool) (fr:List Nat) (nt:Nat) (elt:CE) (tg:CT) (e:CE) (ifs:CBs)
 |gen (w:GW) (fr:List Nat) (nt:Nat) (elt:CE) (tg:CT) (it:CI) (ifs:CBs)
 |lcX (m:Bool) (fr:List Nat) (nt:Nat) (elt:CE) (tg:CT) (e:CE) (ifs:CBs)
 |genX (w:GW) (fr:List Nat) (nt:Nat) (elt:CE) (tg:CT) (e:CE) (ifs:CBs)
inductive CEs where|nil|cons (e:CE) (r:CEs)
inductive CB where|val (e:CE)|and (a b:CB)|or (a b:CB)|not (a:CB)|cal (a:CB)
inductive CBs where|nil|cons (e:CB) (r:CBs)
inductive CO where|none|some (e:CE)
inductive CI where|seq (e:CE)|rng (es:CEs)|zip (a b:CE)
inductive CT where|var (i:Nat)|tup (r:CTs)|sub (o i:CE)
inductive CTs where|nil|cons (t:CT) (r:CTs)
end
abbrev Fs:=Nat->List D->Sr->Res D
def noE{b:Type}:Res b->Res b
 | .ok a S=>.ok a S
 |_=>.no
@[simp] theorem qmL{α:Type}(a:α)(S:Sr):noE (.ok a S)=.ok a S:=rfl
def ixtD(S:Sr)(x:D):Option D:=(lstOf S x).bind λl=>(boolsOf l).bind λbs=>if true∈bs/\bs.length<4000 then some (.int (bs.idxOf true))else none
def varE(ρ:En)(i:Nat)(S:Sr):Res D:=match ρ[i]? with|some (some d)=>.ok d S|_=>.no
def putN(S:Sr)(n:Nat)(i v:D):Option Sr:=match S[n]? with
 |some (.lst l)=>match i with
  | .int k=>(ixN l.length k).map λj=>S.set n (.lst (l.set j v))
  |_=>none
 |some (.dic l)=>match i with
  | .tup ks=>(intsOf ks).bind λk=>if l.length<1000 then some (S.set n (.dic (putT k v l)))else none
  |_=>none
 |some (.dis l)=>(keyD i).bind λk=>if l.length<1000 then some (S.set n (.dis (putT k v l)))else none
 |none=>none
def putE(S:Sr)(o i v:D):Option Sr:=if refsLt 0 v then(match o with
 | .ref n=>putN S n i v
 |_=>none)else none
def isLst(S:Sr):D->Bool
 | .ref n=>match S[n]? with|some (.lst _)=>true|_=>false
 |_=>false
def isDic(S:Sr):D->Bool
 | .ref n=>match S[n]? with|some (.dic _)=>true|some (.dis _)=>true|_=>false
 |_=>false
def getD(S:Sr)(x y z:D):Option D:=match x,y with
 | .ref n,.tup ks=>match S[n]? with
  |some (.dic l)=>(intsOf ks).map λk=>(lookT k l).getD z
  |_=>none
 | .ref n,.str t=>match S[n]? with
  |some (.dis l)=>some ((lookT (.inr t) l).getD z)
  |_=>none
 |_,_=>none
def popD(S:Sr)(o i:D):Res D:=match o,i with
 | .ref n,.int k=>match S[n]? with
  |some (.lst l)=>if 0<=k/\k<2^62 then(match l[k.toNat]? with
   |some d=>.ok d (S.set n (.lst (l.eraseIdx k.toNat)))
   |none=>.no)else .no
  |_=>.no
 |_,_=>.no
def appD(S:Sr)(o e:D):Res D:=match o with
 | .ref n=>match S[n]? with
  |some (.lst l)=>if l.length<sizeLine/\refsLt 0 e=true then .ok .non (S.set n (.lst (l++[e])))else .no
  |_=>.no
 |_=>.no
def remD(S:Sr)(o i:D):Res D:=match o,i with
 | .ref n,.int k=>match S[n]? with
  |some (.lst l)=>match intsOf l with
   |some ns=>if k∈ns then .ok .non (S.set n (.lst ((ns.erase k).map .int)))else .no
   |none=>.no
  |_=>.no
 |_,_=>.no
def neFD(S:Sr)(x y:D):Option Bool:=match x with
 | .ref n=>match S[n]? with
  |some (.lst l)=>if refsLt n y then(eqD 20 (.lst l) y).map (!·)else none
  |_=>none
 |_=>none
def idkD(S:Sr)(x i:D):Option D:=match x with
 | .ref n=>match S[n]? with
  |some (.dis l)=>(keyD i).bind λk=>lookT k l
  |_=>none
 |_=>none
def dcKL(d:Int)(ns:List Int):List (Key×D):=ns.foldl (λl k=>putT (.inl k:Key) (.int d) l) []
def extD(S:Sr)(o e:D):Res D:=match o,e with
 | .ref n,.lst z=>match S[n]? with
  |some (.lst l)=>if l.length+z.length<=sizeLine/\refsLts 0 z=true then .ok .non (S.set n (.lst (l++z)))else .no
  |_=>.no
 |_,_=>.no
def rngD:List D->Option (List D)
 |[.int b]=>if -(2^62)<=b/\b<2^62 then some (rngL 0 b 1)else none
 |[.int a,.int b]=>if -(2^62)<=a/\a<2^62/\-(2^62)<=b/\b<2^62 then some (rngL a b 1)else none
 |[.int a,.int b,.int s]=>if -(2^62)<=a/\a<2^62/\-(2^62)<=b/\b<2^62/\0<s/\s<2^62 then some (rngL a b s)else none
 |_=>none
def frE(ρ:En)(fr:List Nat)(nt:Nat):En:=fr.map (λi=>(ρ[i]?).getD none)++List.replicate nt none
def lcLoop(n:Nat)(bind:D->En->Sr->Res En)(test:En->Sr->Res Bool)(elt:En->Sr->Res D):List D->En->Sr->Res En
 |[],ρ,S=>.ok ρ S
 |d::r,ρ,S=>(bind d ρ S).bind λρ1 S1=>(test ρ1 S1).bind λb S2 =>
   if b then(elt ρ1 S2).bind λv a=>(appD a (.ref n) v).bind λ_ c=>lcLoop n bind test elt r ρ1 c
   else lcLoop n bind test elt r ρ1 S2
def lcEnd(m:Bool)(n:Nat)(S:Sr):Res D :=
 if m then .ok (.ref n) S
 else if S.length=n+1 then(match S[n]? with
  |some (.lst l)=>.ok (.lst l) (S.take n)
  |_=>.no)else .no
def own(n:Nat)(l:List D)(S:Sr):Prop:=S[n]?=some (.lst l)
def grd{a:Type}(gd:Sr->Prop)(S:Sr)(r:Res a):Res a:=@ite _ (gd S) (Classical.propDecidable _) r .no
def zo{a:Type}(h:gd S)(r:Res a):grd gd S r=r:=wN h
def yG{a:Type}(h:¬gd S)(r:Res a):grd gd S r=.no:=wT h
def refX(x:D)(S:Sr):Option (List D×(Sr->Prop)):=match x with
 | .ref n=>match S[n]? with
  |some (.lst l)=>some (l,own n l)
  |_=>none
 | .tup l=>some (l,λ_=>True)
 | .lst l=>some (l,λ_=>True)
 |_=>none
def refL(x:D)(S:Sr):Option (Nat×List D):=match x with
 | .ref n=>match S[n]? with
  |some (.lst l)=>some (n,l)
  |_=>none
 |_=>none
def genLoop{a:Type}(bind:D->En->Sr->Res En)(test:En->Sr->Res Bool)(elt:En->Sr->Res D)(step:a->D->Option (a ⊕ D))(fin:a->Option D):List D->En->a->Sr->Res D
 |[],_,b,S=>ofO (fin b) S
 |d::r,ρ,b,S=>(bind d ρ S).bind λρ1 S1=>(test ρ1 S1).bind λt S2 =>
   if t then(elt ρ1 S2).bind λv c=>match step b v with
    |some (.inl b')=>genLoop bind test elt step fin r ρ1 b' c
    |some (.inr x)=>.ok x c
    |none=>.no
   else genLoop bind test elt step fin r ρ1 b S2
def genLoopG{a:Type}(gd:Sr->Prop)(bind:D->En->Sr->Res En)(test:En->Sr->Res Bool)(elt:En->Sr->Res D)(step:a->D->Option (a ⊕ D))(fin:a->Option D):List D->En->a->Sr->Res D
 |[],_,b,S=>grd gd S (ofO (fin b) S)
 |d::r,ρ,b,S=>grd gd S ((bind d ρ S).bind λρ1 S1=>(test ρ1 S1).bind λt S2 =>
   if t then(elt ρ1 S2).bind λv c=>match step b v with
    |some (.inl b')=>genLoopG gd bind test elt step fin r ρ1 b' c
    |some (.inr x)=>.ok x c
    |none=>.no
   else genLoopG gd bind test elt step fin r ρ1 b S2)
def yH{a:Type}{bind:D->En->Sr->Res En}{test:En->Sr->Res Bool}{elt:En->Sr->Res D}{step:a->D->Option (a ⊕ D)}{fin:a->Option D}:∀(l:List D) (ρ:En) (b:a) (S:Sr),genLoopG (λ_=>True) bind test elt step fin l ρ b S=genLoop bind test elt step fin l ρ b S
 |[],_,_,_=>zo trivial _
 |d::r,ρ,b,S=>by
  unfold genLoopG genLoop;rw[zo trivial];congr 1;funext ρ1 S1;congr 1;funext t S2;cases t
  .exact yH r ρ1 b S2
  .simp only[v9]
   congr 1;funext v S3;cases step b v with
   |none=>rfl
   |some x=>cases x with
    |inl c=>exact yH r ρ1 c S3
    |inr x=>rfl
def newLls(k:Nat)(S:Sr):Res D:=if k<=sizeLine then .ok (.ref (S.length+k)) (S++List.replicate k (.lst [])++[.lst ((List.range k).map λi=>.ref (S.length+i))])else .no
def stepG(w:GW)(b:D)(v:D):Option (D ⊕ D):=match w,b,v with
 | .all,_,.bl true=>some (.inl .non)
 | .all,_,.bl false=>some (.inr (.bl false))
 | .any,_,.bl false=>some (.inl .non)
 | .any,_,.bl true=>some (.inr (.bl true))
 | .sum,.int i,.int j=>some (.inl (.int (i+j)))
 | .tuple,.tup l,v=>if l.length<sizeLine then some (.inl (.tup (l++[v])))else none
 |_,_,_=>none
def startG:GW->D
 | .all=>.non|.any=>.non|.sum=>.int 0|.tuple=>.tup []
def finG(w:GW)(b:D):Option D:=match w with
 | .all=>some (.bl true)
 | .any=>some (.bl false)
 | .sum=>some b
 | .tuple=>some b
mutual
def ev(F:Fs):CE->En->Sr->Res D
 | .var i,ρ,S=>varE ρ i S
 | .cst d,_,S=>.ok d S
 | .bin o a b,ρ,S=>(ev F a ρ S).bind λx S1=>(ev F b ρ S1).bind λy S2=>ofO (binD o x y S2) S2
 | .neg a,ρ,S=>(ev F a ρ S).bind λx S1=>match x with|.int i=>.ok (.int (-i)) S1|_=>.no
 | .cmp o a b,ρ,S=>(ev F a ρ S).bind λx S1=>(ev F b ρ S1).bind λy S2=>ofO ((cmpD o x y S2).map .bl) S2
 | .chain o o' a b c,ρ,S=>(ev F a ρ S).bind λx S1=>(ev F b ρ S1).bind λy S2=>match cmpD o x y S2 with
  |some true=>(ev F c ρ S2).bind λz S3=>ofO ((cmpD o' y z S3).map .bl) S3
  |some false=>.ok (.bl false) S2
  |none=>.no
 | .and a b,ρ,S=>(ev F a ρ S).bind λx S1=>match x with
  | .bl true=>ev F b ρ S1
  | .bl false=>.ok (.bl false) S1
  |_=>.no
 | .or a b,ρ,S=>(ev F a ρ S).bind λx S1=>match x with
  | .bl true=>.ok (.bl true) S1
  | .bl false=>ev F b ρ S1
  |_=>.no
 | .not a,ρ,S=>(ev F a ρ S).bind λx S1=>match x with
  | .bl b=>.ok (.bl (!b)) S1
  |_=>.no
 | .ife c a b,ρ,S=>(tst F c ρ S).bind λt S1=>if t then ev F a ρ S1 else ev F b ρ S1
 | .tup es,ρ,S=>(evs F es ρ S).bind λl S1=>if l.length<=sizeLine then .ok (.tup l) S1 else .no
 | .lst m es,ρ,S=>(evs F es ρ S).bind λl S1=>if l.length<=sizeLine then newL m l S1 else .no
 | .dic m,_,S=>if m then .ok (.ref S.length) (S++[.dic []])else .ok .emp S
 | .dis,_,S=>.ok (.ref S.length) (S++[.dis []])
 | .fmt a,ρ,S=>(ev F a ρ S).bind λx S1=>bStr x S1
 | .join3 a b c,ρ,S=>(ev F a ρ S).bind λx S1=>(ev F b ρ S1).bind λy S2=>(ev F c ρ S2).bind λz S3=>ofO (joinD x y z) S3
 | .call f es,ρ,S=>(evs F es ρ S).bind λl S1=>F f l S1
 | .blt b es,ρ,S=>(evs F es ρ S).bind λl S1=>bltD b l S1
 | .isi t a,ρ,S=>(ev F a ρ S).bind λx S1=>ofO ((isiD S1 t x).map .bl) S1
 | .isx t a,ρ,S=>(ev F a ρ S).bind λx S1=>ofO ((isxD t x).map .bl) S1
 | .ixT a,ρ,S=>(ev F a ρ S).bind λx S1=>ofO (ixtD S1 x) S1
 | .binM o a b,ρ,S=>(ev F a ρ S).bind λx S1=>(ev F b ρ S1).bind λy S2=>R.binM o x y S2
 | .popAt o i,ρ,S=>(ev F o ρ S).bind λx S1=>if isLst S1 x then(ev F i ρ S1).bind λy S2=>popD S2 x y else .no
 | .app o e,ρ,S=>(ev F o ρ S).bind λx S1=>if isLst S1 x then(ev F e ρ S1).bind λy S2=>appD S2 x y else .no
 | .ext o e,ρ,S=>(ev F o ρ S).bind λx S1=>if isLst S1 x then(ev F e ρ S1).bind λy S2=>extD S2 x y else .no
 | .get o k e,ρ,S=>(ev F o ρ S).bind λx S1=>if isDic S1 x then(ev F k ρ S1).bind λy S2=>(ev F e ρ S2).bind λz S3=>ofO (getD S3 x y z) S3 else .no
 | .idx a i,ρ,S=>(ev F a ρ S).bind λx S1=>(ev F i ρ S1).bind λy S2=>ofO (idxD S2 x y) S2
 | .slc a lo hi,ρ,S=>(ev F a ρ S).bind λx S1=>(evO F lo ρ S1).bind λl S2=>(evO F hi ρ S2).bind λh S3=>ofO (slcD S3 x l h) S3
 | .rev a,ρ,S=>(ev F a ρ S).bind λx S1=>match x with
  | .tup l=>.ok (.tup l.reverse) S1
  |_=>.no
 | .rng k es,ρ,S=>(evs F es ρ S).bind λl S1=>match rngD l with
  |some ds=>if ds.length<=1000000 then(match k with
   |some m=>newL m ds S1
   |none=>.ok (.tup ds) S1)else .no
  |none=>.no
 | .lc m fr nt elt tg it ifs,ρ,S=>(evI F it ρ S).bind λds S1 =>
   (lcLoop S1.length (λd ρ S=>asg F tg d ρ S) (λρ S=>tsts F ifs ρ S) (λρ S=>ev F elt ρ S) ds (frE ρ fr nt) (S1++[.lst []])).bind λ_ S2=>lcEnd m S1.length S2
 | .lcR m fr nt elt tg e ifs,ρ,S=>(ev F e ρ S).bind λx S1=>match refL x S1 with
  |some p=>(lcLoop S1.length (λd ρ S=>grd (own p.1 p.2) S (asg F tg d ρ S)) (λρ S=>tsts F ifs ρ S) (λρ S=>ev F elt ρ S) p.2 (frE ρ fr nt) (S1++[.lst []])).bind λ_ S2=>grd (own p.1 p.2) S2 (lcEnd m S1.length S2)
  |none=>.no
 | .lcX m fr nt elt tg e ifs,ρ,S=>(ev F e ρ S).bind λx S1=>match refX x S1 with
  |some p=>(lcLoop S1.length (λd ρ S=>grd p.2 S (asg F tg d ρ S)) (λρ S=>tsts F ifs ρ S) (λρ S=>ev F elt ρ S) p.1 (frE ρ fr nt) (S1++[.lst []])).bind λ_ S2=>grd p.2 S2 (lcEnd m S1.length S2)
  |none=>.no
 | .genX w fr nt elt tg e ifs,ρ,S=>(ev F e ρ S).bind λx S1=>match refX x S1 with
  |some p=>genLoopG p.2 (λd ρ S=>asg F tg d ρ S) (λρ S=>tsts F ifs ρ S) (λρ S=>ev F elt ρ S) (stepG w) (finG w) p.1 (frE ρ fr nt) (startG w) S1
  |none=>.no
 | .neF a b,ρ,S=>(ev F a ρ S).bind λx S1=>(ev F b ρ S1).bind λy S2=>ofO ((neFD S2 x y).map .bl) S2
 | .rem o i,ρ,S=>(ev F o ρ S).bind λx S1=>if isLst S1 x then(ev F i ρ S1).bind λy S2=>remD S2 x y else .no
 | .idk a i,ρ,S=>(ev F a ρ S).bind λx S1=>(ev F i ρ S1).bind λy S2=>ofO (idkD S2 x y) S2
 | .dcK d e,ρ,S=>(ev F e ρ S).bind λx S1=>match refX x S1 with
  |some p=>match intsOf p.1 with
   |some ns=>if ns.length<1000 then .ok (.ref S1.length) (S1++[.dis (dcKL d ns)])else .no
   |none=>.no
  |none=>.no
 | .lls e,ρ,S=>(ev F e ρ S).bind λx S1=>match x with
  | .tup l=>newLls l.length S1
  |_=>.no
 | .gen w fr nt elt tg it ifs,ρ,S=>(evI F it ρ S).bind λds S1 =>
   genLoop (λd ρ S=>asg F tg d ρ S) (λρ S=>tsts F ifs ρ S) (λρ S=>ev F elt ρ S) (stepG w) (finG w) ds (frE ρ fr nt) (startG w) S1
def evs(F:Fs):CEs->En->Sr->Res (List D)
 | .nil,_,S=>.ok [] S
 | .cons e r,ρ,S=>(ev F e ρ S).bind λx S1=>(evs F r ρ S1).bind λl S2=>.ok (x::l) S2
def evO(F:Fs):CO->En->Sr->Res (Option Int)
 | .none,_,S=>.ok none S
 | .some e,ρ,S=>(ev F e ρ S).bind λx S1=>match x with|.int i=>.ok (some i) S1|_=>.no
def evI(F:Fs):CI->En->Sr->Res (List D)
 | .seq e,ρ,S=>(ev F e ρ S).bind λx S1=>match x with
  | .tup l=>.ok l S1
  | .lst l=>.ok l S1
  |_=>.no
 | .rng es,ρ,S=>(evs F es ρ S).bind λl S1=>ofO (rngD l) S1
 | .zip a b,ρ,S=>(ev F a ρ S).bind λx S1=>(ev F b ρ S1).bind λy S2=>match walkF x,walkF y with
  |some l,some m=>.ok ((l.zip m).map λp=>.tup [p.1,p.2]) S2
  |_,_=>.no
def asg(F:Fs):CT->D->En->Sr->Res En
 | .var i,d,ρ,S=>.ok (ρ.set i (some d)) S
 | .tup r,d,ρ,S=>match d with
  | .tup l=>asgs F r l ρ S
  |_=>.no
 | .sub o i,d,ρ,S=>(ev F o ρ S).bind λx S1=>(ev F i ρ S1).bind λy S2=>match putE S2 x y d with
  |some S3=>.ok ρ S3
  |none=>.no
def asgs(F:Fs):CTs->List D->En->Sr->Res En
 | .nil,l,ρ,S=>match l with|[]=>.ok ρ S|_=>.no
 | .cons t r,l,ρ,S=>match l with
  |d::m=>(asg F t d ρ S).bind λρ1 S1=>asgs F r m ρ1 S1
  |[]=>.no
def tst(F:Fs):CB->En->Sr->Res Bool
 | .val e,ρ,S=>(ev F e ρ S).bind λx S1=>ofO (truD S1 x) S1
 | .and a b,ρ,S=>(tst F a ρ S).bind λt S1=>if t then tst F b ρ S1 else .ok false S1
 | .or a b,ρ,S=>(tst F a ρ S).bind λt S1=>if t then .ok true S1 else tst F b ρ S1
 | .not a,ρ,S=>(tst F a ρ S).bind λt S1=>.ok (!t) S1
 | .cal a,ρ,S=>noE (tst F a ρ S)
def tsts(F:Fs):CBs->En->Sr->Res Bool
 | .nil,_,S=>.ok true S
 | .cons e r,ρ,S=>(tst F e ρ S).bind λt S1=>if t then tsts F r ρ S1 else .ok false S1
end
mutual
inductive CS where
 |expr (e:CE)|ret (e:CE)|retN|set (t:CT) (e:CE)|par (i j:Nat) (a b:CE)
 |aug (i:Nat) (o:BOp) (e:CE)|augK (o i e:CE)
 |ifs (c:CB) (a b:CSs)|forS (t:CT) (it:CI) (body:CSs)|forR (t:CT) (e:CE) (body:CSs)|forX (t:CT) (e:CE) (body:CSs)|whileS (c:CB) (body:CSs)
 |pass|brk|cont|never
 |cal (s:CS)|grd (e:CE) (s:CS)|raise (C:Addr)|tryX (t:List (Addr×Bool)) (i:Nat) (body suite:CSs)
inductive CSs where|nil|cons (s:CS) (r:CSs)
end
inductive Fl where|nx (ρ:En)|bk (ρ:En)|ct (ρ:En)|rt (d:D)
def forLoop(body:D->En->Sr->Res Fl):List D->En->Sr->Res Fl
 |[],ρ,S=>.ok (.nx ρ) S
 |d::r,ρ,S=>(body d ρ S).bind λf S1=>match f with
  | .nx ρ1=>forLoop body r ρ1 S1
  | .ct ρ1=>forLoop body r ρ1 S1
  | .bk ρ1=>.ok (.nx ρ1) S1
  | .rt d=>.ok (.rt d) S1
def endG(gd:Sr->Prop)(r:Res Fl):Res Fl:=r.bind λf S=>match f with
 | .rt d=>.ok (.rt d) S
 |f=>grd gd S (.ok f S)
def whileLoop(test:En->Sr->Res Bool)(body:En->Sr->Res Fl):Nat->En->Sr->Res Fl
 |0,_,_=>.no
 |n+1,ρ,S=>(test ρ S).bind λt S1=>if t then(body ρ S1).bind λf S2=>(match f with
   | .nx ρ1=>whileLoop test body n ρ1 S2
   | .ct ρ1=>whileLoop test body n ρ1 S2
   | .bk ρ1=>.ok (.nx ρ1) S2
   | .rt d=>.ok (.rt d) S2)
  else .ok (.nx ρ) S1
mutual
def ex(F:Fs)(N:Nat):CS->En->Sr->Res Fl
 | .expr e,ρ,S=>(ev F e ρ S).bind λ_ S1=>.ok (.nx ρ) S1
 | .ret e,ρ,S=>(ev F e ρ S).bind λd S1=>.ok (.rt d) S1
 | .retN,_,S=>.ok (.rt .non) S
 | .set t e,ρ,S=>(ev F e ρ S).bind λd S1=>(asg F t d ρ S1).bind λρ1 S2=>.ok (.nx ρ1) S2
 | .par i j a b,ρ,S=>(ev F a ρ S).bind λx S1=>(ev F b ρ S1).bind λy S2=>.ok (.nx ((ρ.set i (some x)).set j (some y))) S2
 | .aug i o e,ρ,S=>(varE ρ i S).bind λx S0=>(ev F e ρ S0).bind λy S1=>match x,y with
  | .int a,.int b=>match o with
   | .add=>.ok (.nx (ρ.set i (some (.int (a+b))))) S1
   | .sub=>.ok (.nx (ρ.set i (some (.int (a-b))))) S1
   |_=>.no
  |_,_=>.no
 | .augK o i e,ρ,S=>(ev F o ρ S).bind λx S1=>(ev F i ρ S1).bind λy S2=>match idkD S2 x y with
  |some (.int a)=>(ev F e ρ S2).bind λz S3=>match z with
   | .int b=>match putE S3 x y (.int (a+b))with
    |some S4=>.ok (.nx ρ) S4
    |none=>.no
   |_=>.no
  |_=>.no
 | .ifs c a b,ρ,S=>(tst F c ρ S).bind λt S1=>if t then exs F N a ρ S1 else exs F N b ρ S1
 | .forS t it body,ρ,S=>(evI F it ρ S).bind λds S1=>forLoop (λd ρ S=>(asg F t d ρ S).bind λρ1 S1=>exs F N body ρ1 S1) ds ρ S1
 | .forX t e body,ρ,S=>(ev F e ρ S).bind λx S1=>match refX x S1 with
  |some p=>endG p.2 (forLoop (λd ρ S=>(grd p.2 S (asg F t d ρ S)).bind λρ1 S1=>exs F N body ρ1 S1) p.1 ρ S1)
  |none=>.no
 | .forR t e body,ρ,S=>(ev F e ρ S).bind λx S1=>match refL x S1 with
  |some p=>endG (own p.1 p.2) (forLoop (λd ρ S=>(grd (own p.1 p.2) S (asg F t d ρ S)).bind λρ1 S1=>exs F N body ρ1 S1) p.2 ρ S1)
  |none=>.no
 | .whileS c body,ρ,S=>whileLoop (λρ S=>tst F c ρ S) (λρ S=>exs F N body ρ S) N ρ S
 | .pass,ρ,S=>.ok (.nx ρ) S
 | .brk,ρ,S=>.ok (.bk ρ) S
 | .cont,ρ,S=>.ok (.ct ρ) S
 | .never,_,_=>.no
 | .cal s,ρ,S=>noE (ex F N s ρ S)
 | .grd e s,ρ,S=>match ev F e ρ S with
  | .ok _ _=>noE (ex F N s ρ S)
  | .err x S1=>.err x S1
  | .no=>.no
 | .raise C,_,S=>.err (.exc C) S
 | .tryX t i body suite,ρ,S=>match exs F N body ρ S with
  | .ok f S1=>.ok f S1
  | .err (.exc C) S1=>match lookA C t with
   |some true=>(exs F N suite (ρ.set i (some (.exc C))) S1).bind λf S2=>match f with
    | .nx ρ'=>.ok (.nx (ρ'.set i none)) S2
    |_=>.no
   |_=>.no
  |_=>.no
def exs(F:Fs)(N:Nat):CSs->En->Sr->Res Fl
 | .nil,ρ,S=>.ok (.nx ρ) S
 | .cons s r,ρ,S=>(ex F N s ρ S).bind λf S1=>match f with
  | .nx ρ1=>exs F N r ρ1 S1
  |f=>.ok f S1
end
structure CF where
 np:Nat
 nn:Nat
 keeps:Bool
 body:CSs
mutual
def frz(S:Sr)(n:Nat):D->Option D
 | .tup l=>(frzs S n l).map .tup
 | .lst l=>(frzs S n l).map .lst
 | .ref m=>if m<n then some (.ref m)else match S[m]? with
  |some (.lst l)=>if refsLts n l then some (.lst l)else none
  |_=>none
 | .non=>some .non|.bl b=>some (.bl b)|.int i=>some (.int i)|.str x=>some (.str x)|.emp=>some .emp|.exc _=>none
def frzs(S:Sr)(n:Nat):List D->Option (List D)
 |[]=>some []
 |d::r=>match frz S n d,frzs S n r with
  |some d',some r'=>some (d'::r')
  |_,_=>none
end
def leave(keeps:Bool)(n:Nat)(d:D)(S:Sr):Res D :=
 if keeps then .ok d S
 else if S.length=n then .ok d S
 else if refsLt n d then .ok d (S.take n)else match frz S n d with
  |some d'=>.ok d' (S.take n)
  |none=>.no
def callC(F:Fs)(N:Nat)(c:CF)(l:List D)(S:Sr):Res D :=
 if l.length=c.np then
  (exs F N c.body (l.map some++List.replicate (c.nn-c.np) none) S).bind λf S1=>match f with
   | .nx _=>leave c.keeps S.length .non S1
   | .rt d=>leave c.keeps S.length d S1
   |_=>.no
 else .no
def run(P:List CF)(N:Nat):Nat->Fs
 |0,_,_,_=>.no
 |k+1,f,l,S=>match P[f]? with
  |some c=>callC (run P N k) N c l S
  |none=>.no
end R
namespace R
open PySem PySem.Spec L2
open PyProof.Rows hiding St
structure EnR (ι:List Addr) (H:Hp) (ρ:En) (σ:St):Prop where
 len:ρ.length=σ.length
 get:∀(i:Nat) (d:D),ρ[i]?=some (some d)->∃v,σ[i]?=some (some v)/\Den ι H d v
def EnR.mono(e:EnR ι H ρ f)(s:Stp ι H c H'):EnR c H' ρ f :=
 ⟨e.len,λi d h=>let ⟨v,a,b⟩:=e.get i d h;⟨v,a,Den.mono s d b⟩⟩
def EnR.set(e:EnR ι H ρ a){i:Nat}(h:Den ι H d v):EnR ι H (ρ.set i (some d)) (a.set i (some v)):=by
 refine⟨by simp[e.len],λj x q=>?_⟩;by_cases z:i=j
 .subst z
  have b:i<ρ.length:=by
   have:=(wF.mp q).1;simpa using this
  rw[vS b]at q;cases q;exact⟨v,vS (by rw[<-e.len];exact b),h⟩
 .rw [vj z]at q ⊢
  exact e.get j x q
def Pst{d f:Type}(R:List Addr->Hp->d->f->Prop)(r:Res d)(ι:List Addr)(H:Hp)(Q:f->Hp->Prop):Prop:=match r with
 | .ok a h=>∀b c H',Stp ι H c H'->Sto c H' h->R c H' a b->Q b H'
 | .err _ _=>False
 | .no=>False
def Pst.from{f i:Type}{R:List Addr->Hp->f->i->Prop}{r:Res f}{ι c:List Addr}{H H':Hp}{Q:i->Hp->Prop}(h:Pst R r ι H Q)(s:Stp ι H c H'):Pst R r c H' Q:=by
 cases r with
 |ok a S=>exact λb d H2 t st q=>h b d H2 (s.trans t) st q
 |err=>exact h
 |no=>exact h
def Pst.bind{d j l m:Type}{R:List Addr->Hp->d->j->Prop}{n:List Addr->Hp->l->m->Prop}{r:Res d}{f:d->Sr->Res l}{ι:List Addr}{H:Hp}{Q:m->Hp->Prop}{K:j->Hp->Prop}(h:Pst n (r.bind f) ι H Q)(k:∀a o c H' b,Stp ι H c H'->Sto c H' o->R c H' a b->Pst n (f a o) c H' Q->K b H'):Pst R r ι H K:=by
 cases r with
 |ok a S=>exact λb i H2 t st q=>k a S i H2 b t st q (Pst.from h t)
 |err=>exact h
 |no=>exact h
def Pst.ofO{d f:Type}{R:List Addr->Hp->d->f->Prop}{o:Option d}{S:Sr}{ι:List Addr}{H:Hp}{Q:f->Hp->Prop}(h:Pst R (ofO o S) ι H Q)(st:Sto ι H S):∃a,o=some a/\∀b c H',Stp ι H c H'->Sto c H' S->R c H' a b->Q b H':=by
 cases o with
 |none=>exact h.elim
 |some a=>exact⟨a,rfl,h⟩
def TG{a b:Type}(R:List Addr->Hp->a->b->Prop)(m:En->Sr->Res a):St->Hp->(b->Hp->Prop)->Prop:=λc H Q=>∃ι S ρ,EnR ι H ρ c/\Sto ι H S/\Pst R (m ρ S) ι H Q
abbrev T(m:En->Sr->Res D):TE:=TG Den m
abbrev TL(m:En->Sr->Res (List D)):TA:=TG Dens m
def EqR{c:Type}(_:List Addr)(_:Hp)(a b:c):Prop:=a=b
abbrev TB(m:En->Sr->Res Bool):TT:=TG EqR m
abbrev TOp(m:En->Sr->Res (Option Int)):TO:=TG EqR m
def TG.b1{d n o q:Type}{R:List Addr->Hp->d->n->Prop}{r:List Addr->Hp->o->q->Prop}{m:En->Sr->Res d}{f:En->d->Sr->Res o}{i:St}{H:Hp}{Q:q->Hp->Prop}{K:n->Hp->Prop}(h:TG r (λρ S=>(m ρ S).bind λa S1=>f ρ a S1) i H Q)(k:∀ι S ρ a b c,EnR ι c ρ i->Sto ι c S->R ι c a b->Pst r (f ρ a S) ι c Q->K b c):TG R m i H K:=by
 obtain⟨ι,S,ρ,u,st,h⟩:=h;exact⟨ι,S,ρ,u,st,Pst.bind h λa v j H' b s l w p=>k j v ρ a b H' (u.mono s) l w p⟩
def Pst.tg{i n o q:Type}{R:List Addr->Hp->i->n->Prop}{r:List Addr->Hp->o->q->Prop}{m:En->Sr->Res i}{ρ:En}{S:Sr}{f:i->Sr->Res o}{ι:List Addr}{j:St}{H:Hp}{Q:q->Hp->Prop}{K:n->Hp->Prop}(h:Pst r ((m ρ S).bind f) ι H Q)(u:EnR ι H ρ j)(st:Sto ι H S)(k:∀a d c H' b,Stp ι H c H'->EnR c H' ρ j->Sto c H' d->R c H' a b->Pst r (f a d) c H' Q->K b H'):TG R m j H K :=
 ⟨ι,S,ρ,u,st,Pst.bind h λa d c H' b s l v p=>k a d c H' b s (u.mono s) l v p⟩
def PEimp(h:PE X e t)(k:∀a H Q,t' a H Q->t a H Q):PE X e t':=λpins s a H Q I b=>h pins s a H Q I (k a H Q b)
def PTimp(h:PT X e t)(k:∀a H Q,t' a H Q->t a H Q):PT X e t':=λpins s a H Q I b=>h pins s a H Q I (k a H Q b)
def PAimp(h:PA X e t)(k:∀a H Q,t' a H Q->t a H Q):PA X e t':=λpos pins s a H Q I b=>h pos pins s a H Q I (k a H Q b)
section
variable{ι:List Addr}{H:Hp}{S:Sr}{v:V}
theorem qW(st:Sto ι H S):∀{d:D} {l:List D},lstOf S d=some l->Den ι H d v->∃a xs,v=.ref a/\Rd H a (.lst xs)/\Dens ι H l xs
 | .lst b,l,h,hd=>by
  cases h;obtain⟨a,xs,e,_,r,q⟩:=hd;exact⟨a,xs,e,r,q⟩
 | .ref n,l,h,hd=>by
  obtain⟨a,e,ha⟩:=hd;simp only[lstOf]at h;split at h
  .rename_i b c
   cases h;obtain⟨_,xs,f,i⟩:=st.obj n a _ ha c;exact⟨a,xs,e,.inl f,i⟩
  .cases h
 | .non,_,h,_=>by cases h
 | .bl _,_,h,_=>by cases h
 | .int _,_,h,_=>by cases h
 | .str _,_,h,_=>by cases h
 | .tup _,_,h,_=>by cases h
 | .emp,_,h,_=>by cases h
 | .exc _,_,h,_=>by cases h
theorem zr(st:Sto ι H S)(c:Dens ι H l xs)(h:Pst Den (newL m l S) ι H Q):∀p,H p=none->Q (.ref p) (upd H p (.lst xs)):=by
 intro p a;unfold newL at h;cases m with
 |true =>
  rw[wN rfl]at h;by_cases b:refsLts 0 l=true
  .rw [wN b]at h
   have g:=Stp.grow (ι:=ι) a (.lst xs);have d:(ι++[p])[ι.length]?=some p:=by simp
   refine h (.ref p) _ _ g (st.grow a ⟨⟨_,d,qX l b⟩,xs,qH,Dens.mono g l c⟩) ⟨p,rfl,?_⟩;rw[<-st.len];exact d
  .rw [wT b]at h;exact h.elim
 |false =>
  have g:=Stp.laid (ι:=ι) a (.lst xs);exact h (.ref p) _ _ g (st.laid a _) ⟨p,xs,rfl,st.fresh a,.inl qH,Dens.mono g l c⟩
theorem zC{l:List D}{xs:List V}{Q:V->Hp->Prop}(st:Sto ι H S)(c:Dens ι H l xs)(h:∀v a H',Stp ι H a H'->Sto a H' S->Den a H' (.tup l) v->Q v H'):∀p,H p=none->Q (.ref p) (upd H p (.tup xs)):=by
 intro p b;have g:=Stp.laid (ι:=ι) b (.tup xs);exact h (.ref p) _ _ g (st.laid b _) ⟨p,xs,rfl,st.fresh b,qH,Dens.mono g l c⟩
end
section
variable{X:Cx}
theorem qly{i:Nat}(h:PE X (.Name x pos) (tVar i)):PE X (.Name x pos) (T λρ S=>varE ρ i S):=PEimp h λj H Q a=>by
 obtain⟨ι,S,ρ,b,st,p⟩:=a;dsimp only[varE]at p;split at p
 .rename_i d hd
  obtain⟨v,c,f⟩:=b.get i d hd;exact⟨v,c,p v ι H (Stp.refl _ _) st f⟩
 .exact p.elim
theorem qbZ(h:PE X e (tC v))(hd:∀ι H,Den ι H d v):PE X e (T λ_ S=>.ok d S):=PEimp h λb H Q a=>by
 obtain⟨ι,S,ρ,c,st,p⟩:=a;exact p v ι H (Stp.refl _ _) st (hd ι H)
theorem qjY(h:PE X e (λ_ H Q=>Q v H))(hd:∀ι H,Den ι H d v):PE X e (T λ_ S=>.ok d S):=qbZ h hd
theorem qlz:PA X [] (TL λ_ S=>.ok [] S):=PAimp j7 λb H Q a=>by
 obtain⟨ι,S,ρ,c,st,p⟩:=a;exact p [] ι H (Stp.refl _ _) st rfl
theorem qjZ(h:PE X e (T m))(i:PA X es (TL f))(j:sE X e es):
  PA X (e::es) (TL λρ S=>(m ρ S).bind λx S1=>(f ρ S1).bind λl S2=>.ok (x::l) S2):=PAimp (yT h i j) λv H Q n=>by
 refine TG.b1 n λι S ρ a b w o st q p=>Pst.tg p o st λl S2 c H2 xs s2 r d s u=>?_
 exact u _ c H2 (Stp.refl _ _) d ⟨b,xs,rfl,Den.mono s2 a q,s⟩
def G2(g:D->D->Sr->Res D):R2:=λx y H Q=>∃ι S dx a,Sto ι H S/\Den ι H dx x/\Den ι H a y/\Pst Den (g dx a S) ι H Q
theorem T2(h:T (λρ S=>(i ρ S).bind λx S1=>(mb ρ S1).bind λy S2=>g x y S2) j H Q):tOp (G2 g) (T i) (T mb) j H Q :=
 TG.b1 h λι S ρ a b r l st m p=>Pst.tg p l st λn S2 c H2 b2 s2 o d f q=>⟨c,S2,a,n,d,Den.mono s2 a m,f,q⟩
theorem qja{pos:Pos}(d:OpR X (binaryOp op) (G2 g))(ha:PE X a (T c))(f:PE X b (T mb)):
  PE X (.BinOp a op b pos) (T λρ S=>(c ρ S).bind λx S1=>(mb ρ S1).bind λy S2=>g x y S2):=PEimp (qlk d ha f) λh H Q=>T2
theorem qlA{pos:Pos}(d:OpR X (compareOp op) (G2 g))(ha:PE X a (T c))(f:PE X b (T mb))(hm:behindInMarks op b=false):
  PE X (.Compare a [op] [b] pos) (T λρ S=>(c ρ S).bind λx S1=>(mb ρ S1).bind λy S2=>g x y S2):=PEimp (qhH d ha f hm) λh H Q=>T2
theorem qc1(I:Inv X pins b H s)(c:Rd H l (.lst xs)):xs.length<=sizeLine/\∃(a:List Value) (n:Nat),Vals xs a/\xs.length=a.length/\s.heap.get? l=some {cls:=.type "list",data:=.seq a.toArray n}:=by
 obtain⟨z,a,n,r,e⟩:=c.ok I.hok;exact⟨z,a,n,r,r.length,e⟩
theorem qdF:OpR X (binaryOp .Add) (λx y H Q=>∃l b xs d,x=.ref l/\y=.ref b/\Rd H l (.lst xs)/\Rd H b (.lst d)/\xs.length+d.length<=sizeLine/\∀p,H p=none->Q (.ref p) (upd H p (.lst (xs++d)))):=by
 intro pins s C H x y v u Q I f i h;obtain⟨l,b,xs,d,rfl,rfl,j,m,E,q⟩:=h;cases f;cases i;obtain⟨z,c,n,r,F,e⟩:=qc1 I j;obtain⟨J,a,K,o,w,A⟩:=qc1 I m;refine PySem.P.add_list e A ?_ (by rw[wK,wK];lia);have B:c.toArray++a.toArray=(c++a).toArray:=by simp
 rw[B];exact⟨.ref _,_,I.lnew (t':=s.toks) (r.append o) (by rw[wI];lia),rfl,q _ I.fresh⟩
theorem qdG:OpR X (binaryOp .Mult) (λx y H Q=>∃l k xs,x=.ref l/\y=.int k/\Rd H l (.lst xs)/\-(2^63)<=k/\k<2^63/\xs.length*k.toNat<=sizeLine /\
 ∀p,H p=none->Q (.ref p) (upd H p (.lst (List.replicate k.toNat xs).flatten))):=by
 intro pins s N H x y v u Q I B C h;obtain⟨l,k,xs,rfl,rfl,E,J,K,A,q⟩:=h;cases B;obtain⟨t,rfl⟩:=C;obtain⟨z,b,n,r,L,e⟩:=qc1 I E;have d:b.toArray.size*k.toNat<=sizeLine:=by rw[wK,<-L];exact A
 have f:¬b.toArray.size*k.toNat>(2^63-1) / 8:=by
  have:(sizeLine:Nat)<=(2^63-1) / 8:=by decide
  lia
 have i:¬(!Builtin.List.listFitsIndex k)=true:=by
  rw[fitsIndex_both J K];exact w5
 have c:¬Builtin.List.listTooLong (b.toArray.size*k.toNat)=true:=by
  rw[notLongL d];exact w5
 have j:List.foldl (λo w=>o++w) #[] (List.replicate (if b.toArray.isEmpty=true then 0 else k.toNat) b.toArray)=(List.replicate k.toNat b).flatten.toArray:=by
  have M:∀m:Nat,List.foldl (λo w=>o++w) #[] (List.replicate m b.toArray)=(List.replicate m b).flatten.toArray:=λm=>by
   have:=jC b m [];rw[List.nil_append]at this;exact this
  rw[M];cases b with
  |nil=>simp
  |cons a O=>rw[wT (by simp)]
 refine wpAny_binaryOp_repeat_ref (T:="list") (U:="int") (by decide) ⟨_,e,rfl⟩ (λs'=>typeIs_int s' k t) noFill_list_mul F.fills_int_mul xP repeat_list F.slot_int_index.lookup
  (vt xP (typeIs_int s k t) F.entry_int_rmul (F.args_int_rmul_2 _ _) (int___rmul___int_list k t l b.toArray n)
   ⟨e,rfl,⟨_,e,rfl⟩,vt F.slot_list_mul ⟨_,e,rfl⟩ F.entry_list_mul (F.args_list_mul_2 _ _) (AutoListH.list___mul___list_int_3 l b.toArray n k t i f c) ⟨e,?_⟩⟩)
 rw[j];exact⟨.ref _,_,I.lnew (t':=s.toks) (r.rep k.toNat) (by rw[jZ,Nat.mul_comm];exact A),rfl,q _ I.fresh⟩
def opOf:BOp->Operator
 | .add=>.Add|.sub=>.Sub|.mul=>.Mult|.fdiv=>.FloorDiv|.mod=>.Mod|.pow=>.Pow|.shl=>.LShift|.shr=>.RShift|.band=>.BitAnd
theorem qj0(o:BOp):OpR X (binaryOp (opOf o)) (λx y H Q=>∃i j r,x=.int i/\y=.int j/\binI o i j=some r/\Q (.int r) H):=by
 intro pins s b H x y v u Q I c d h;obtain⟨i,j,r,rfl,rfl,e,q⟩:=h;have fin:∀{a:Int} {t:Tok} {tk:Nat},r=a->EP X pins b Q (.int a t) {s with toks:=tk}:=λ{a t tk} z=>by subst z;exact⟨.int r,H,I.tok _,⟨_,rfl⟩,q⟩
 obtain⟨f,rfl⟩:=c;obtain⟨l,rfl⟩:=d;cases o with
 |add=>exact add_int (fin (by cases e;rfl))
 |sub=>exact sub_int (fin (by cases e;rfl))
 |mul =>
  simp only[binI]at e;split at e
  .rename_i hm
   exact mul_int (fin (by cases e;rfl)) (by unfold mulOk at hm;unfold IntMulOk;intro z;rw[z]at hm;exact absurd hm (by decide))
  .cases e
 |fdiv =>
  simp only[binI]at e;split at e
  .rename_i hm
   simp only[divOk,wP,uH,ww]at hm;exact floordiv_int hm.1 (fin (by cases e;rfl)) (.inl hm.2)
  .cases e
 |mod =>
  simp only[binI]at e;split at e
  .cases e
  .rename_i hm
   exact mod_int' hm (fin (by cases e;rfl))
 |pow =>
  simp only[binI]at e;split at e
  .rename_i hm
   exact pow_int_small hm.1 hm.2.1 hm.2.2 (fin (by cases e;rfl))
  .cases e
 |shl =>
  simp only[binI]at e;split at e
  .rename_i hm
   exact lshift_int_small hm.1 hm.2.1 hm.2.2 (fin (by cases e;rfl))
  .cases e
 |shr =>
  simp only[binI]at e;split at e
  .rename_i hm
   exact qjJ pins s b H (.int i) (.int j) _ _ Q I ⟨f,rfl⟩ ⟨l,rfl⟩ ⟨i,j,rfl,rfl,hm,by cases e;exact q⟩
  .cases e
 |band=>exact and_int (fin (by cases e;rfl))
end
end R
namespace R
open PySem PySem.Spec L2 SeqAt
open PyProof.Rows hiding St
def qb0:∀{a b:List D} {r:Bool},eqL f a b=some r ->
  (∀(j:Nat) (x y:D),a[j]?=some x->b[j]?=some y->∃c,f x y=some c) /\
  r=((List.range (min a.length b.length)).all (λj=>match a[j]?,b[j]? with|some x,some y=>(f x y).getD false|_,_=>false)&&a.length == b.length)
 |[],[],r,h=>by cases h;exact⟨λj x y h _=>by simp at h,by simp⟩
 |[],_::_,r,h=>by cases h;exact⟨λj x y h _=>by simp at h,by simp⟩
 |_::_,[],r,h=>by cases h;exact⟨λj x y _ h=>by simp at h,by simp⟩
 |a::p,b::q,r,h=>by
  simp only[eqL]at h;split at h
  .rename_i x y n o
   obtain⟨d,i⟩:=qb0 o;cases h;refine⟨λj z w l m=>?_,?_⟩
   .cases j with
    |zero=>simp at l m;subst l m;exact⟨x,n⟩
    |succ j=>exact d j z w (by simpa using l) (by simpa using m)
   .have e:min (a::p).length (b::q).length=min p.length q.length+1:=by simp only[w4];lia
    rw[e,List.range_succ_eq_map,vf,u9];simp only[uV,n,Option.getD_some];rw[i,Bool.and_assoc];congr 1;congr 1;simp only[w4];rw[uD,v8,v8];lia
  .cases h
section
variable{ι:List Addr}{H:Hp}
theorem qab(h:H a=some (.tup xs))(k:Rd H a (.lst ys)):False:=by
 rcases k with k|⟨o,k⟩ <;> (rw[h]at k;cases k)
theorem rd_inj(h:Rd H a (.lst xs))(k:Rd H a (.lst ys)):xs=ys:=by
 rcases h with h|⟨o,h⟩ <;> rcases k with k|⟨o',k⟩ <;> (rw[h]at k;first|(cases k;done)|(cases k;rfl))
theorem qac(c:∀x y v b,Den ι H x v->Den ι H y v->f x y=some b->b=true):∀{a b:List D} {xs:List V} {r:Bool},Dens ι H a xs->Dens ι H b xs->eqL f a b=some r->r=true
 |[],[],_,r,_,_,h=>by cases h;rfl
 |[],_::_,_,r,h1,h2,h=>by
  cases (show _=[]from h1);obtain⟨x,r,e,_⟩:=h2;cases e
 |_::_,[],_,r,h1,h2,h=>by
  cases (show _=[]from h2);obtain⟨x,r,e,_⟩:=h1;cases e
 |a::p,b::q,_,r,h1,h2,h=>by
  obtain⟨x,t,rfl,d1,e1⟩:=h1;obtain⟨l,t',e,d2,d⟩:=h2;cases e;simp only[eqL]at h;split at h
  .rename_i y z i j
   cases h;rw[c a b x y d1 d2 i,qac c e1 d j]
   all_goals rfl
  .cases h
theorem qad:∀(n:Nat) (x y:D) (v:V) (b:Bool),Den ι H x v->Den ι H y v->eqD n x y=some b->b=true
 |0,_,_,_,_,_,_,h=>by cases h
 |n+1,x,y,v,b,hx,hy,h=>by
  cases x <;> cases y <;> simp only[eqD,Den]at h hx hy <;> first
   | (cases h;rfl)
   | (cases h;subst hx;first|(cases hy;done)|(cases hy;simp;done))
   | (obtain⟨a,rfl,_,ha⟩:=hx;obtain⟨i,d,e,_,c,_⟩:=hy;cases e;rw[ha]at c;cases c;done)
   | (obtain⟨a,rfl,_,ha⟩:=hy;obtain⟨i,d,e,_,c,_⟩:=hx;cases e;rw[ha]at c;cases c;done)
   | (obtain⟨a,xs,rfl,_⟩:=hx;cases hy;done)
   | (obtain⟨a,xs,rfl,_⟩:=hy;cases hx;done)
   | (obtain⟨a,rfl,_⟩:=hx;cases h;done)
   | (obtain⟨a,rfl,_⟩:=hy;cases h;done)
   | (obtain⟨a,xs,rfl,_,ha,r⟩:=hx
      obtain⟨i,d,e,_,c,f⟩:=hy;cases e
      first
        | (rw[ha]at c;cases c;exact qac (λx y v b=>qad n x y v b) r f h)
        | (cases rd_inj ha c
           have j:_=_:=r.length.trans f.length.symm;rw[wN j]at h;exact qac (λx y v b=>qad n x y v b) r f h)
        |exact(qab ha c).elim
        |exact(qab c ha).elim)
end
section
variable{X:Cx}{pins:List (Addr×Obj)}{σ:St}{H:Hp}{s:Shared}{ι:List Addr}
theorem Vals.at(r:Vals xs us){j:Nat}(h:j<us.length):∃x,xs[j]?=some x/\RelV x us[j]:=by
 have c:=r.length;obtain⟨u,a,b⟩:=r.get (i:=j) (x:=xs[j]'(by lia)) (wD (by lia));rw[wD h]at a;cases a;exact⟨_,wD (by lia),b⟩
theorem Dens.at{j:Nat}(h:Dens ι H ds xs)(e:xs[j]?=some x):∃d,ds[j]?=some d/\Den ι H d x:=by
 have c:=h.length;have f:=(wF.mp e).1;obtain⟨y,a,b⟩:=h.get (i:=j) (d:=ds[j]'(by lia)) (wD (by lia));rw[e]at a;cases a;exact⟨_,wD (by lia),b⟩
theorem qae(I:Inv X pins σ H s)(h:H a=some (.tup xs)):∃b:List Value,Vals xs b/\IsTup s.heap a b.toArray/\xs.length<=sizeLine:=by
 obtain⟨z,b,r,p,_⟩:=I.hok a _ h;exact⟨b,r,p,z⟩
theorem qbn(I:Inv X pins σ H s)(h:Rd H a (.lst xs)):∃b:List Value,Vals xs b/\s.heap.IsList a b.toArray/\xs.length<=sizeLine:=by
 obtain⟨z,b,n,r,e⟩:=h.ok I.hok;exact⟨b,r,⟨_,e,rfl,n,rfl⟩,z⟩
theorem qjb(I:Inv X pins σ H s)(h:H a=some (.dK kvs)):isDt s.heap a:=by
 obtain⟨_,lo,ys,p,o,es,i,j,ex,l,_⟩:=I.hok a _ h;obtain⟨oc,od,m,osl⟩:=o;obtain⟨b,e1,c,d⟩:∃b,s.heap.get? a=some b/\b.cls=.type "dict"/\b.data=.dict es i:=⟨_,j,ex.1,l⟩;obtain⟨c2,d2,f,n⟩:=b;dsimp only at c d;subst c d;exact⟨_,_,_,_,e1⟩
def EqAll(A:Around)(s:Shared)(v u:Value)(b:Bool):Prop:=RcAt A s v u b/\RcNeAt A s v u (!b)/\EqAt A s v u b
theorem jh{i:Int}(h:Den ι H (.int i) v)(r:RelV v u):∃t,u=.int i t:=by cases (show v=_ from h);exact r
theorem ji(h:Den ι H (.str i) v)(r:RelV v u):∃t,u=.str i t:=by cases (show v=_ from h);exact r
theorem vs_bl(h:Den ι H (.bl i) v)(r:RelV v u):u=.bool i:=by cases (show v=_ from h);exact r
theorem vs_non(h:Den ι H .non v)(r:RelV v u):u=.none:=by cases (show v=_ from h);exact r
theorem yI(I:Inv X pins σ H s)(h:Den ι H (.tup l) v)(r:RelV v u):∃a b xs,v=.ref a/\u=.ref a/\Vals xs b/\Dens ι H l xs/\s.heap.IsTuple a b.toArray/\H a=some (.tup xs):=by
 obtain⟨a,xs,rfl,_,ha,d⟩:=h;cases r;obtain⟨b,c,p,_⟩:=qae I ha;exact⟨a,b,xs,rfl,rfl,c,d,p,ha⟩
theorem jj(I:Inv X pins σ H s)(h:Den ι H (.lst l) v)(r:RelV v u):∃a b xs,v=.ref a/\u=.ref a/\Vals xs b/\Dens ι H l xs/\s.heap.IsList a b.toArray/\Rd H a (.lst xs):=by
 obtain⟨a,xs,rfl,_,ha,d⟩:=h;cases r;obtain⟨b,c,p,_⟩:=qbn I ha;exact⟨a,b,xs,rfl,rfl,c,d,p,ha⟩
theorem qfM(M:∀x y c v u l m,f x y=some c->Den ι H x v->Den ι H y u->RelV v l->RelV u m->EqAt A s l m c)(h:eqL f a b=some r)(n:Dens ι H a xs)(o:Dens ι H b ys)(p:Vals xs i)(q:Vals ys d):
  ∃e:Nat->Bool,(∀j (w:j<i.toArray.size) (B:j<d.toArray.size),EqAt A s i.toArray[j] d.toArray[j] (e j))/\r=((List.range (min i.toArray.size d.toArray.size)).all e&&i.toArray.size == d.toArray.size) /\
   a.length=i.length/\b.length=d.length:=by
 obtain⟨w,B⟩:=qb0 h;have C:a.length=i.length:=n.length.trans p.length;have E:b.length=d.length:=o.length.trans q.length;refine⟨_,λj F I=>?_,by rw[wK,wK,<-C,<-E];exact B,C,E⟩;simp only[wK]at F I;obtain⟨x,e1,N⟩:=Vals.at p F;obtain⟨y,O,P⟩:=Vals.at q I;obtain⟨d1,J,k1⟩:=n.at e1;obtain⟨d2,K,k2⟩:=o.at O;obtain⟨c,L⟩:=w j d1 d2 J K;simp only[J,K,L,Option.getD_some,List.getElem_toArray];exact M d1 d2 c x y _ _ L k1 k2 N P
theorem qc2(I:Inv X pins σ H s):∀(n:Nat) (A:Around) (x y:D) (b:Bool) (v u:V) (q r:Value),eqD n x y=some b->Den ι H x v->Den ι H y u->RelV v q->RelV u r->A.units+n<cLine->EqAll A s q r b
 |0,_,_,_,_,_,_,_,_,h,_,_,_,_,_=>by cases h
 |n+1,A,x,y,b,v,u,q,r,h,hx,hy,rx,ry,hu=>by
  have f:A.units<cLine:=by lia
  have w:=qad (ι:=ι) (H:=H) (n+1) x y;have S:∀x y c v u q r,eqD n x y=some c->Den ι H x v->Den ι H y u->RelV v q->RelV u r->EqAt A.in1 s q r c:=λx y c v u q r Y Z h3 h4 h5 =>
   (qc2 I n A.in1 x y c v u q r Y Z h3 h4 h5 (by show A.units+1+n<cLine;lia)).2.2
  cases x with
  |exc k=>cases y <;> cases h
  |ref k=>cases y <;> cases h
  |emp =>
   cases y with
   |tup l =>
    obtain⟨m,rfl,_,M⟩:=hx;cases rx;obtain⟨a,j,xs,_,rfl,_,_,p,_⟩:=yI I hy ry;have o:=qjb I M;cases h;exact⟨qi8 o p f,qlu o p f,EqAt.of_refs (qa2 o p) (qi8 o p f)⟩
   |_=>cases h
  |non =>
   cases vs_non hx rx;cases y with
   |ref k=>cases h
   |emp=>cases h
   |exc _=>cases h
   |non=>cases vs_non hy ry;cases h;exact⟨RcAt.none_none,RcNeAt.none_none,EqAt.same _⟩
   |bl c=>cases vs_bl hy ry;cases h;exact⟨RcAt.none_bool _,RcNeAt.none_bool _,EqAt.none_bool _⟩
   |int c=>obtain⟨t,rfl⟩:=jh hy ry;cases h;exact⟨RcAt.none_int _ _,RcNeAt.none_int _ _,EqAt.none_int _ _⟩
   |str c=>obtain⟨t,rfl⟩:=ji hy ry;cases h;exact⟨RcAt.none_str _ _,RcNeAt.none_str _ _,EqAt.none_str _ _⟩
   |tup l=>obtain⟨a,j,xs,_,rfl,_,_,p,_⟩:=yI I hy ry;cases h;exact⟨RcAt.none_tuple p f,RcNeAt.none_tuple p f,EqAt.none_tuple p f⟩
   |lst l=>obtain⟨a,j,xs,_,rfl,_,_,p,_⟩:=jj I hy ry;cases h;exact⟨RcAt.none_list p f,RcNeAt.none_list p f,EqAt.none_list p f⟩
  |bl d =>
   cases vs_bl hx rx;cases y with
   |ref k=>cases h
   |emp=>cases h
   |exc _=>cases h
   |non=>cases vs_non hy ry;cases h;exact⟨RcAt.bool_none _,RcNeAt.bool_none _,EqAt.bool_none _⟩
   |bl c=>cases vs_bl hy ry;cases h;exact⟨RcAt.bool_bool _ _,RcNeAt.bool_bool _ _,EqAt.bool_bool _ _⟩
   |int c=>obtain⟨t,rfl⟩:=jh hy ry;cases h;exact⟨RcAt.bool_int _ _ _,RcNeAt.bool_int _ _ _,EqAt.bool_int _ _ _⟩
   |str c=>obtain⟨t,rfl⟩:=ji hy ry;cases h;exact⟨RcAt.bool_str _ _ _,RcNeAt.bool_str _ _ _,EqAt.bool_str _ _ _⟩
   |tup l=>obtain⟨a,j,xs,_,rfl,_,_,p,_⟩:=yI I hy ry;cases h;exact⟨RcAt.bool_tuple _ p f,RcNeAt.bool_tuple _ p f,EqAt.bool_tuple _ p f⟩
   |lst l=>obtain⟨a,j,xs,_,rfl,_,_,p,_⟩:=jj I hy ry;cases h;exact⟨RcAt.bool_list _ p f,RcNeAt.bool_list _ p f,EqAt.bool_list _ p f⟩
  |int d =>
   obtain⟨tt,rfl⟩:=jh hx rx;cases y with
   |ref k=>cases h
   |emp=>cases h
   |exc _=>cases h
   |non=>cases vs_non hy ry;cases h;exact⟨RcAt.int_none _ _,RcNeAt.int_none _ _,EqAt.int_none _ _⟩
   |bl c=>cases vs_bl hy ry;cases h;exact⟨RcAt.int_bool _ _ _,RcNeAt.int_bool _ _ _,EqAt.int_bool _ _ _⟩
   |int c=>obtain⟨t,rfl⟩:=jh hy ry;cases h;exact⟨RcAt.int_int _ _ _ _,RcNeAt.int_int _ _ _ _,EqAt.int_int _ _ _ _⟩
   |str c=>obtain⟨t,rfl⟩:=ji hy ry;cases h;exact⟨RcAt.int_str _ _ _ _,RcNeAt.int_str _ _ _ _,EqAt.int_str _ _ _ _⟩
   |tup l=>obtain⟨a,j,xs,_,rfl,_,_,p,_⟩:=yI I hy ry;cases h;exact⟨RcAt.int_tuple _ _ p f,RcNeAt.int_tuple _ _ p f,EqAt.int_tuple _ _ p f⟩
   |lst l=>obtain⟨a,j,xs,_,rfl,_,_,p,_⟩:=jj I hy ry;cases h;exact⟨RcAt.int_list _ _ p f,RcNeAt.int_list _ _ p f,EqAt.int_list _ _ p f⟩
  |str d =>
   obtain⟨tt,rfl⟩:=ji hx rx;cases y with
   |ref k=>cases h
   |emp=>cases h
   |exc _=>cases h
   |non=>cases vs_non hy ry;cases h;exact⟨RcAt.str_none _ _,RcNeAt.str_none _ _,EqAt.str_none _ _⟩
   |bl c=>cases vs_bl hy ry;cases h;exact⟨RcAt.str_bool _ _ _,RcNeAt.str_bool _ _ _,EqAt.str_bool _ _ _⟩
   |int c=>obtain⟨t,rfl⟩:=jh hy ry;cases h;exact⟨RcAt.str_int _ _ _ _,RcNeAt.str_int _ _ _ _,EqAt.str_int _ _ _ _⟩
   |str c=>obtain⟨t,rfl⟩:=ji hy ry;cases h;exact⟨RcAt.str_str _ _ _ _,RcNeAt.str_str _ _ _ _,EqAt.str_str _ _ _ _⟩
   |tup l=>obtain⟨a,j,xs,_,rfl,_,_,p,_⟩:=yI I hy ry;cases h;exact⟨RcAt.str_tuple _ _ p f,RcNeAt.str_tuple _ _ p f,EqAt.str_tuple _ _ p f⟩
   |lst l=>obtain⟨a,j,xs,_,rfl,_,_,p,_⟩:=jj I hy ry;cases h;exact⟨RcAt.str_list _ _ p f,RcNeAt.str_list _ _ p f,EqAt.str_list _ _ p f⟩
  |tup d =>
   obtain⟨m,its',N,e1,rfl,E,F,i,ha⟩:=yI I hx rx;cases y with
   |ref k=>cases h
   |emp =>
    obtain⟨a,rfl,_,O⟩:=hy;cases ry;have o:=qjb I O;cases h;exact⟨qi9 o i f,qlv o i f,EqAt.of_refs (qa2 o i).symm (qi9 o i f)⟩
   |exc _=>cases h
   |non=>cases vs_non hy ry;cases h;exact⟨RcAt.tuple_none i f,RcNeAt.tuple_none i f,EqAt.tuple_none i f⟩
   |bl c=>cases vs_bl hy ry;cases h;exact⟨RcAt.tuple_bool _ i f,RcNeAt.tuple_bool _ i f,EqAt.tuple_bool _ i f⟩
   |int c=>obtain⟨t,rfl⟩:=jh hy ry;cases h;exact⟨RcAt.tuple_int _ _ i f,RcNeAt.tuple_int _ _ i f,EqAt.tuple_int _ _ i f⟩
   |str c=>obtain⟨t,rfl⟩:=ji hy ry;cases h;exact⟨RcAt.tuple_str _ _ i f,RcNeAt.tuple_str _ _ i f,EqAt.tuple_str _ _ i f⟩
   |tup l =>
    obtain⟨a,j,xs,P,rfl,J,K,p,hb⟩:=yI I hy ry;have B:eqL (eqD n) d l=some b:=h;obtain⟨e,C,L,_⟩:=qfM S B F K E J;have U:RcAt A s (.ref m) (.ref a) b:=by rw[L];exact RcAt.tuples i p f C
    have R2:RcNeAt A s (.ref m) (.ref a) (!b):=by rw[L];exact RcNeAt.tuples i p f C
    refine⟨U,R2,?_⟩;by_cases z:m=a
    .subst z
     rw[w (.ref m) b (e1 ▸ hx) (P ▸ hy) h];exact EqAt.same _
    .exact EqAt.of_refs z U
   |lst l=>obtain⟨a,j,xs,_,rfl,_,_,p,_⟩:=jj I hy ry;cases h;exact⟨RcAt.tuple_list i p f,RcNeAt.tuple_list i p f,EqAt.tuple_list i p f⟩
  |lst d =>
   obtain⟨m,its',N,e1,rfl,E,F,i,ha⟩:=jj I hx rx;cases y with
   |ref k=>cases h
   |emp=>cases h
   |exc _=>cases h
   |non=>cases vs_non hy ry;cases h;exact⟨RcAt.list_none i f,RcNeAt.list_none i f,EqAt.list_none i f⟩
   |bl c=>cases vs_bl hy ry;cases h;exact⟨RcAt.list_bool _ i f,RcNeAt.list_bool _ i f,EqAt.list_bool _ i f⟩
   |int c=>obtain⟨t,rfl⟩:=jh hy ry;cases h;exact⟨RcAt.list_int _ _ i f,RcNeAt.list_int _ _ i f,EqAt.list_int _ _ i f⟩
   |str c=>obtain⟨t,rfl⟩:=ji hy ry;cases h;exact⟨RcAt.list_str _ _ i f,RcNeAt.list_str _ _ i f,EqAt.list_str _ _ i f⟩
   |tup l=>obtain⟨a,j,xs,_,rfl,_,_,p,_⟩:=yI I hy ry;cases h;exact⟨RcAt.list_tuple i p f,RcNeAt.list_tuple i p f,EqAt.list_tuple i p f⟩
   |lst l =>
    obtain⟨a,j,xs,P,rfl,J,K,p,hb⟩:=jj I hy ry;have B:(if d.length=l.length then eqL (eqD n) d l else some false)=some b:=h;have la:d.length=its'.length:=F.length.trans E.length;have lb:l.length=j.length:=K.length.trans J.length;have R:RcAt A s (.ref m) (.ref a) b/\RcNeAt A s (.ref m) (.ref a) (!b):=by
     by_cases W:d.length=l.length
     .rw [wN W]at B
      obtain⟨e,C,L,_⟩:=qfM S B F K E J;have hsz:its'.toArray.size=j.toArray.size:=by rw[wK,wK];lia
      have Q:b=(List.range its'.toArray.size).all e:=by
       rw[L,hsz];simp
      rw[Q];exact⟨RcAt.lists i p hsz f C,RcNeAt.lists i p hsz f C⟩
     .rw [wT W]at B
      cases B;have hsz:(its'.toArray.size != j.toArray.size)=true:=by
       rw[wK,wK];simp;lia
      exact⟨RcAt.lists_lengths i p hsz f,RcNeAt.lists_lengths i p hsz f⟩
    refine⟨R.1,R.2,?_⟩;by_cases z:m=a
    .subst z
     rw[w (.ref m) b (e1 ▸ hx) (P ▸ hy) h];exact EqAt.same _
    .exact EqAt.of_refs z R.1
end
section
variable{X:Cx}
theorem Dens.rep(h:Dens ι H ds xs):∀k:Nat,Dens ι H (List.replicate k ds).flatten (List.replicate k xs).flatten
 |0=>by simp[Dens]
 |k+1=>by
  simp only[vC,vk];exact h.append (Dens.rep h k)
theorem qfN:OpR X (binaryOp .Add) (λx y H Q=>∃a b xs ys,x=.ref a/\y=.ref b/\H a=some (.tup xs)/\H b=some (.tup ys)/\xs.length+ys.length<=sizeLine /\
  (xs=[]->Q (.ref b) H)/\(xs≠[]->ys=[]->Q (.ref a) H)/\(xs≠[]->ys≠[]->∀p,H p=none->Q (.ref p) (upd H p (.tup (xs++ys))))):=by
 intro pins s J H x y v u Q I r w h;obtain⟨a,b,xs,ys,rfl,rfl,ha,A,K,L,q1,q2⟩:=h;by_cases j:xs=[]
 .subst j
  cases r;cases w;obtain⟨l,M,N,_⟩:=qae I ha;obtain⟨c,U,O,_⟩:=qae I A;obtain⟨⟨cls,dd,data,sl⟩,B,C,n,hd⟩:=id N;obtain⟨⟨E,m,o,q⟩,d,f,P,i⟩:=id O;simp only at C hd f i;subst C hd f i;have S:l=[]:=M.nil_iff.mpr rfl;subst S;exact concat_meets ⟨_,B,rfl⟩ ⟨_,d,rfl⟩ noFill_tuple_add seq_tuple_add xF uy (uv _ _)
   (tuple_addW0 a b _ c.toArray n P dd m sl q (by simp)) ⟨B,d,⟨.ref b,H,I,rfl,L rfl⟩⟩
 .exact qhN pins s J H _ _ v u Q I r w ⟨a,b,xs,ys,rfl,rfl,.inl (.inl ha),.inl (.inl A),j,K,q1 j,q2 j⟩
theorem qhT(o:BOp):OpR X (binaryOp (opOf o)) (G2 λx y S=>ofO (binD o x y S) S):=by
 intro pins s n H x y v u Q I w A h;obtain⟨ι,S,dx,P,st,B,C,p⟩:=h;obtain⟨d,e,q⟩:=Pst.ofO p st;have E:∀v,Den ι H d v->Q v H:=λv M=>q v ι H (Stp.refl _ _) st M
 unfold binD at e;split at e
 .rename_i i j
  cases (show x=_ from B);cases (show y=_ from C);cases F:binI o i j with
  |none=>rw[F]at e;cases e
  |some r =>
   rw[F]at e;cases e;exact qj0 o pins s n H _ _ v u Q I w A ⟨i,j,r,rfl,rfl,F,E _ rfl⟩
 .rename_i a b
  cases o <;> try (cases e;done)
  dsimp only at e;split at e
  .rename_i c
   cases e;cases (show x=_ from B);cases (show y=_ from C);exact qcT pins s n H _ _ v u Q I w A ⟨a,b,rfl,rfl,c,E _ rfl⟩
  .cases e
 .rename_i a b
  cases o <;> try (cases e;done)
  dsimp only at e;split at e
  .rename_i c
   cases e;obtain⟨l,xs,rfl,K,f,d1⟩:=B;obtain⟨m,ys,rfl,N,J,d2⟩:=C;have L:xs.length+ys.length<=sizeLine:=by
    have:=vF c;rw[d1.length,d2.length]at this;exact this
   refine qfN pins s n H _ _ v u Q I w A ⟨l,m,xs,ys,rfl,rfl,f,J,L,λz=>?_,λ_ z=>?_,λ_ _=>zC st (d1.append d2) q⟩
   .subst z
    have:a=[]:=wy.mp (by rw[d1.length];rfl);subst this;exact E _ ⟨m,ys,rfl,N,J,by simpa using d2⟩
   .subst z
    have:b=[]:=wy.mp (by rw[d2.length];rfl);subst this;exact E _ ⟨l,xs,rfl,K,f,by simpa using d1⟩
  .cases e
 .rename_i a k
  cases o <;> try (cases e;done)
  dsimp only at e;split at e
  .rename_i c
   cases e;obtain⟨l,xs,rfl,K,f,d1⟩:=B;cases (show y=_ from C);obtain⟨c1,c2,c3⟩:=vF c;refine qhS pins s n H _ _ v u Q I w A ⟨l,k,xs,rfl,rfl,.inl (.inl f),c1,c2,by rw[<-d1.length];exact c3,λz=>?_,λ_=>zC st (d1.rep _) q⟩;have O:rep a k=a:=by
    unfold rep;rcases z with z|z
    .subst z
     have:a=[]:=wy.mp (by rw[d1.length];rfl);subst this;simp
    .subst z;simp
   rw[O]at E;exact E _ ⟨l,xs,rfl,K,f,d1⟩
  .cases e
 .rename_i k _ _
  cases o <;> try (cases e;done)
  dsimp only at e;split at e
  .rename_i a ha
   split at e
   .rename_i c
    cases e;obtain⟨l,xs,rfl,f,d1⟩:=qW st ha B;cases (show y=_ from C);obtain⟨c1,c2,c3⟩:=vF c;exact qdG pins s n H _ _ v u Q I w A ⟨l,k,xs,rfl,rfl,f,c1,c2,by rw[<-d1.length];exact c3,zr (m:=false) st (d1.rep _) q⟩
   .cases e
  .cases e
 .cases o <;> try (cases e;done)
  dsimp only at e;split at e
  .rename_i a b ha F
   split at e
   .rename_i c
    cases e;obtain⟨l,xs,rfl,f,d1⟩:=qW st ha B;obtain⟨m,ys,rfl,J,d2⟩:=qW st F C;have L:xs.length+ys.length<=sizeLine:=by
     have:=vF c;rw[d1.length,d2.length]at this;exact this
    exact qdF pins s n H _ _ v u Q I w A ⟨l,m,xs,ys,rfl,rfl,f,J,L,zr (m:=false) st (d1.append d2) q⟩
   .cases e
  .cases e
theorem qhU(o:BOp):OpR X (binaryOp (opOf o)) (G2 λx y S=>binM o x y S):=by
 intro pins s f H x y v u Q I i j h;obtain⟨ι,S,dx,B,st,n,p,q⟩:=h;dsimp only at q;unfold binM at q;split at q
 .split at q
  .rename_i a b ha r
   split at q
   .rename_i c
    obtain⟨l,xs,rfl,d,d1⟩:=qW st ha n;obtain⟨m,ys,rfl,w,d2⟩:=qW st r p;have A:xs.length+ys.length<=sizeLine:=by
     have:=vF c;rw[d1.length,d2.length]at this;exact this
    exact qdF pins s f H _ _ v u Q I i j ⟨l,m,xs,ys,rfl,rfl,d,w,A,zr (m:=true) st (d1.append d2) q⟩
   .exact q.elim
  .exact q.elim
 .split at q
  .rename_i a k ha
   split at q
   .rename_i c
    obtain⟨l,xs,rfl,d,d1⟩:=qW st ha n;cases (show y=_ from p);obtain⟨c1,c2,c3⟩:=vF c;exact qdG pins s f H _ _ v u Q I i j ⟨l,k,xs,rfl,rfl,d,c1,c2,by rw[<-d1.length];exact c3,zr (m:=true) st (d1.rep _) q⟩
   .exact q.elim
  .exact q.elim
 .exact q.elim
theorem intsOf_eq:∀{l:List D} {m:List Int},intsOf l=some m->l=m.map .int
 |[],m,h=>by cases h;rfl
 | .int i::r,m,h=>by
  simp only[intsOf]at h;cases e:intsOf r with
  |none=>rw[e]at h;cases h
  |some a=>rw[e]at h;cases h;rw[intsOf_eq e];rfl
 | .non::_,_,h=>by cases h
 | .bl _::_,_,h=>by cases h
 | .str _::_,_,h=>by cases h
 | .tup _::_,_,h=>by cases h
 | .lst _::_,_,h=>by cases h
 | .emp::_,_,h=>by cases h
 | .exc _::_,_,h=>by cases h
 | .ref _::_,_,h=>by cases h
theorem dens_ints:∀{m:List Int} {xs:List V},Dens ι H (m.map .int) xs->xs=m.map .int
 |[],xs,h=>h
 |i::m,xs,h=>by
  obtain⟨x,r,rfl,a,b⟩:=h;rw[dens_ints b,show x=_ from a];rfl
def cOf:COp->CmpOp
 | .eq=>.Eq|.ne=>.NotEq|.lt=>.Lt|.le=>.LtE|.gt=>.Gt|.ge=>.GtE|.is=>.Is|.isn=>.IsNot|.inn=>.In|.nin=>.NotIn
theorem qaf:∀{d:D} {v:V},flatD d=true->Den ι H d v->flatV v=true
 | .non,_,_,h=>by cases (show _=_ from h);rfl
 | .bl _,_,_,h=>by cases (show _=_ from h);rfl
 | .int _,_,_,h=>by cases (show _=_ from h);rfl
 | .str _,_,_,h=>by cases (show _=_ from h);rfl
 | .tup _,_,h,_=>by cases h
 | .lst _,_,h,_=>by cases h
 | .emp,_,h,_=>by cases h
 | .exc _,_,h,_=>by cases h
 | .ref _,_,h,_=>by cases h
theorem qhV(fd:flatD d=true)(a:flatD e=true)(h:Den ι H d v)(k:Den ι H e u):eqV v u=eqF d e:=by
 cases d <;> cases e <;> first
  | (cases fd;done)
  | (cases a;done)
  | (cases (show v=_ from h);cases (show u=_ from k);simp[eqV,eqF,Bool.beq_eq_decide_eq];done)
theorem qc3(a:flatD x=true)(b:Den ι H x v):∀{l:List D} {xs:List V},l.all flatD=true->Dens ι H l xs->xs.all flatV=true/\inV v xs=l.any λy=>eqF y x
 |[],xs,_,h=>by cases (show _=[]from h);exact⟨rfl,rfl⟩
 |d::l,xs,hf,h=>by
  obtain⟨y,r,rfl,c,f⟩:=h;simp only[vf,wP]at hf;obtain⟨i1,i2⟩:=qc3 a b hf.2 f;refine⟨by simp[qaf hf.1 c,i1],?_⟩;unfold inV at i2 ⊢;rw[vo,vo,qhV hf.1 a c b,i2]
theorem z9(st:Sto ι H S)(h:seqOf S d=some l)(hd:Den ι H d v):∃a xs,v=.ref a/\(Rd H a (.lst xs)\/H a=some (.tup xs))/\Dens ι H l xs:=by
 unfold seqOf at h;split at h
 .cases h
  obtain⟨a,xs,e,_,ha,r⟩:=hd;exact⟨a,xs,e,.inr ha,r⟩
 .obtain ⟨a,xs,e,ha,r⟩:=qW st h hd
  exact⟨a,xs,e,.inl ha,r⟩
theorem qhW(h:Q (.bool (a == b)) s):wpAny M A (compareOp .Is (.bool a) (.bool b)) Q E s :=
 wpAny_is_plain (by rfl) (by cases a <;> cases b <;> exact h)
theorem qfO(h:Q (.bool (!(a == b))) s):wpAny M A (compareOp .IsNot (.bool a) (.bool b)) Q E s :=
 wpAny_isNot_plain (by rfl) (by cases a <;> cases b <;> exact h)
theorem yU(o:COp)(P:X.A.units+30<cLine):OpR X (compareOp (cOf o)) (G2 λx y S=>ofO ((cmpD o x y S).map .bl) S):=by
 intro pins s B H x y v u Q I i j h;obtain⟨ι,S,dx,E,st,f,r,p⟩:=h;obtain⟨d,e,q⟩:=Pst.ofO p st;obtain⟨b,O,rfl⟩:∃b,cmpD o dx E S=some b/\d=.bl b:=by
  cases z:cmpD o dx E S with
  |none=>rw[z]at e;cases e
  |some b=>rw[z]at e;cases e;exact⟨b,rfl,rfl⟩
 clear e p;have e:=O;clear O;have w:Q (.bl b) H:=q (.bl b) ι H (Stp.refl _ _) st rfl;have fin:EP X pins B Q (.bool b) s:=⟨.bl b,H,I,rfl,w⟩;cases o with
 |eq=>exact(qc2 I 20 X.A dx E b x y v u e f r i j (by lia)).1 _ _ _ _ fin
 |ne =>
  cases z:eqD 20 dx E with
  |none=>simp only[cmpD,z]at e;cases e
  |some c =>
   simp only[cmpD,z]at e;cases e;exact(qc2 I 20 X.A dx E c x y v u z f r i j (by lia)).2.1 _ _ _ _ fin
 |lt =>
  simp only[cmpD]at e;split at e
  .cases (show x=_ from f);cases (show y=_ from r);cases e
   exact qlm pins s B H _ _ v u Q I i j ⟨_,_,rfl,rfl,w⟩
  .split at e
   .rename_i m n hm hn
    cases e;cases intsOf_eq hm;cases intsOf_eq hn;obtain⟨F,xs,rfl,_,J,d1⟩:=f;obtain⟨K,ys,rfl,_,L,d2⟩:=r;cases dens_ints d1;cases dens_ints d2;exact qjR (by lia) pins s B H _ _ v u Q I i j ⟨F,K,m,n,rfl,rfl,.inl (.inl J),.inl (.inl L),w⟩
   .cases e
  .cases e
 |le =>
  simp only[cmpD]at e;split at e
  .cases (show x=_ from f);cases (show y=_ from r);cases e
   exact qln pins s B H _ _ v u Q I i j ⟨_,_,rfl,rfl,w⟩
  .cases e
 |gt =>
  simp only[cmpD]at e;split at e
  .cases (show x=_ from f);cases (show y=_ from r);cases e
   exact qlo pins s B H _ _ v u Q I i j ⟨_,_,rfl,rfl,w⟩
  .cases e
 |ge =>
  simp only[cmpD]at e;split at e
  .cases (show x=_ from f);cases (show y=_ from r);cases e
   exact qlp pins s B H _ _ v u Q I i j ⟨_,_,rfl,rfl,w⟩
  .split at e
   .rename_i m n hm hn
    cases e;cases intsOf_eq hm;cases intsOf_eq hn;obtain⟨F,xs,rfl,_,J,d1⟩:=f;obtain⟨K,ys,rfl,_,L,d2⟩:=r;cases dens_ints d1;cases dens_ints d2;exact qjX (by lia) pins s B H _ _ v u Q I i j ⟨F,K,m,n,rfl,rfl,.inl (.inl J),.inl (.inl L),w⟩
   .cases e
  .cases e
 |is =>
  simp only[cmpD]at e;split at e
  .cases (show y=_ from r)
   refine qjL pins s B H _ _ v u Q I i j ⟨rfl,?_⟩;cases dx <;> simp only[Option.some.injEq]at e <;> subst e <;> first
    | (cases (show x=_ from f);exact w)
    | (obtain⟨a,_,rfl,_⟩:=f;exact w)
    | (obtain⟨a,rfl,_⟩:=f;exact w)
  .split at e
   .cases (show x=_ from f);cases (show y=_ from r);cases e
    cases i;cases j;exact qhW fin
   .cases (show x=_ from f);cases (show y=_ from r);cases e
    cases i;cases j;exact wpAny_is_other (by rfl) (by intro z;cases z) fin
   .cases e
  .cases e
 |isn =>
  simp only[cmpD]at e;split at e
  .cases (show y=_ from r)
   refine qhG pins s B H _ _ v u Q I i j ⟨rfl,?_⟩;cases dx <;> simp only[Option.some.injEq]at e <;> subst e <;> first
    | (cases (show x=_ from f);exact w)
    | (obtain⟨a,_,rfl,_⟩:=f;exact w)
    | (obtain⟨a,rfl,_⟩:=f;exact w)
  .split at e
   .cases (show x=_ from f);cases (show y=_ from r);cases e
    cases i;cases j;exact qfO fin
   .cases (show x=_ from f);cases (show y=_ from r);cases e
    cases i;cases j;exact wpAny_isNot_other (by rfl) (by intro z;cases z) fin
   .cases e
  .cases e
 |inn =>
  simp only[cmpD]at e;cases z:seqOf S E with
  |none=>rw[z]at e;cases e
  |some l =>
   rw[z]at e;have e:inD dx l=some b:=e;unfold inD at e;split at e
   .rename_i C
    simp only[wP]at C;cases e;obtain⟨a,xs,rfl,M,N⟩:=z9 st z r;obtain⟨i1,i2⟩:=qc3 C.1 f C.2 N;refine qeK pins s B H _ _ v u Q I i j ⟨a,xs,rfl,M.elim (λz=>.inl (.inl z)) (λz=>.inr (.inl (.inl z))),qaf C.1 f,i1,?_⟩;rw[wT (by decide),i2];exact w
   .cases e
 |nin =>
  simp only[cmpD]at e;cases z:seqOf S E with
  |none=>rw[z]at e;cases e
  |some l =>
   rw[z]at e;have e:(inD dx l).map (!·)=some b:=e;unfold inD at e;split at e
   .rename_i C
    simp only[wP]at C;cases e;obtain⟨a,xs,rfl,M,N⟩:=z9 st z r;obtain⟨i1,i2⟩:=qc3 C.1 f C.2 N;refine qbk pins s B H _ _ v u Q I i j ⟨a,xs,rfl,M.elim (λz=>.inl (.inl z)) (λz=>.inr (.inl (.inl z))),qaf C.1 f,i1,?_⟩;rw[wN (by decide),i2];exact w
   .cases e
end
section
variable{X:Cx}{pos:Pos}
theorem qdH{ι:List Addr}{H:Hp}{S:Sr}{K:PySem.W.Frag}(st:Sto ι H S){d:D}{v:V}{b:Bool}(h:truD S d=some b)(hd:Den ι H d v):TruV K v H b:=by
 have f:∀{l:List D},lstOf S d=some l->b=(!l.isEmpty)->TruV K v H b:=λ{l} hl hb=>by
  obtain⟨a,xs,rfl,m,j⟩:=qW st hl hd;refine .inl ⟨xs,.inl m,?_⟩;rw[hb];have:=j.length;cases l <;> cases xs <;> first|rfl|(simp at this;done)
 cases d with
 |non=>cases h;cases (show v=_ from hd);exact(rfl:false=false)
 |bl c=>cases h;cases (show v=_ from hd);exact(show b=b from rfl)
 |int i=>cases h;cases (show v=_ from hd);exact(rfl:(i != 0)=(i != 0))
 |str x =>
  cases (show v=_ from hd);simp only[truD]at h;split at h
  .cases h;exact⟨by assumption,rfl⟩
  .cases h
 |tup l =>
  cases h;obtain⟨a,xs,rfl,_,ha,j⟩:=hd;refine .inr (.inl ⟨xs,.inl (.inl ha),?_⟩);have:=j.length;cases l <;> cases xs <;> first|rfl|(simp at this;done)
 |emp =>
  cases h;obtain⟨a,rfl,_,ha⟩:=hd;exact .inr (.inr ⟨[],ha,rfl⟩)
 |lst l =>
  simp only[truD,lstOf,wu,Option.some.injEq]at h;exact f rfl h.symm
 |exc C=>simp[truD,lstOf]at h
 |ref n =>
  simp only[truD]at h;cases z:lstOf S (.ref n)with
  |none=>rw[z]at h;cases h
  |some l=>rw[z]at h;cases h;exact f z rfl
def mVal(m:En->Sr->Res D):En->Sr->Res Bool:=λρ S=>(m ρ S).bind λx S1=>ofO (truD S1 x) S1
theorem qj1(h:PE X e (T m))(d:∀c,isTrue e X.env c=(do let v <-c;standAt e.pos;holding [v] (truthy v))):PT X e (TB (mVal m)) :=
 PTimp (qbU h d) λl H Q f=>TG.b1 f λι S ρ a b i n st j p=>by
  obtain⟨k,e1,q⟩:=Pst.ofO p st;exact⟨k,qdH st e1 j,q k ι i (Stp.refl _ _) st rfl⟩
def IsB(m:En->Sr->Res D):Prop:=∀ρ S d a,m ρ S=.ok d a->∃c,d=.bl c
theorem toTest(l:IsB m)(n:TB (mVal m) i H Q):tTest (T m) i H Q:=by
 obtain⟨ι,S,ρ,o,st,p⟩:=n;refine⟨ι,S,ρ,o,st,?_⟩;dsimp only[mVal]at p ⊢;cases z:m ρ S with
 |no=>rw[z]at p;exact p
 |err x j=>rw[z]at p;exact p
 |ok d j =>
  rw[z]at p;obtain⟨c,rfl⟩:=l ρ S d j z;intro b a H' s' f h;cases (show b=_ from h);exact⟨c,rfl,p c a H' s' f rfl⟩
theorem qhX{a mb:En->Sr->Res D}{g:D->D->Sr->Option Bool}:IsB (λρ S=>(a ρ S).bind λx S1=>(mb ρ S1).bind λy S2=>ofO ((g x y S2).map D.bl) S2):=by
 intro ρ S d b z;dsimp only at z;cases z1:a ρ S with
 |no=>rw[z1]at z;cases z
 |err=>rw[z1]at z;cases z
 |ok x S1 =>
  rw[z1,Res.bind_ok]at z;cases z2:mb ρ S1 with
  |no=>rw[z2]at z;cases z
  |err=>rw[z2]at z;cases z
  |ok y S2 =>
   rw[z2,Res.bind_ok]at z;cases z3:g x y S2 with
   |none=>rw[z3]at z;cases z
   |some c=>rw[z3]at z;cases z;exact⟨c,rfl⟩
theorem qj2{a b:Expr}{op:CmpOp}{c mb:En->Sr->Res D}{g:D->D->Sr->Option Bool}(d:OpR X (compareOp op) (G2 λx y S=>ofO ((g x y S).map D.bl) S))(ha:PE X a (T c))(f:PE X b (T mb))(hm:behindInMarks op b=false):
  PT X (.Compare a [op] [b] pos) (TB (mVal λρ S=>(c ρ S).bind λx S1=>(mb ρ S1).bind λy S2=>ofO ((g x y S2).map D.bl) S2)) :=
 PTimp (qhI d ha f hm) λi H Q h=>T2 (toTest qhX h)
def mChain(g g':D->D->Sr->Option Bool)(b mb c:En->Sr->Res D):En->Sr->Res D:=λρ S=>(b ρ S).bind λx S1=>(mb ρ S1).bind λy S2=>match g x y S2 with
 |some true=>(c ρ S2).bind λz a=>ofO ((g' y z a).map D.bl) a
 |some false=>.ok (.bl false) S2
 |none=>.no
theorem qdI(h:T (mChain g g' w mb A) B H Q):
  tChain (G2 λx y S=>ofO ((g x y S).map D.bl) S) (G2 λx y S=>ofO ((g' x y S).map D.bl) S) (T w) (T mb) (T A) B H Q:=by
 refine TG.b1 h λι S ρ a b N C st E p=>Pst.tg p C st λd S2 m H2 b2 s2 n o f i=>?_
 refine⟨m,S2,a,d,o,Den.mono s2 a E,f,?_⟩;cases z:g a d S2 with
 |none=>rw[z]at i;exact i.elim
 |some c =>
  rw[z]at i;show Pst Den (ofO (Option.map D.bl (g a d S2)) S2) _ _ _;rw[z];intro v q H3 l j F;cases (show v=_ from F);refine⟨c,rfl,?_⟩;cases c with
  |false=>rw[wT (by decide)];exact i _ q H3 l j rfl
  |true =>
   rw[wN rfl];refine Pst.tg (ρ:=ρ) (Pst.from i l) (n.mono l) j λI J r O P K L s u M=>?_
   exact⟨r,J,d,I,s,Den.mono (l.trans K) d f,u,M⟩
theorem qeS:IsB (mChain g g' a mb b):=by
 intro ρ S d h z;dsimp only[mChain]at z;cases z1:a ρ S with
 |no=>rw[z1]at z;cases z
 |err=>rw[z1]at z;cases z
 |ok x S1 =>
  rw[z1,Res.bind_ok]at z;cases z2:mb ρ S1 with
  |no=>rw[z2]at z;cases z
  |err=>rw[z2]at z;cases z
  |ok y S2 =>
   rw[z2,Res.bind_ok]at z;cases z3:g x y S2 with
   |none=>rw[z3]at z;cases z
   |some c =>
    rw[z3]at z;cases c with
    |false=>cases z;exact⟨_,rfl⟩
    |true =>
     dsimp only at z;cases z4:b ρ S2 with
     |no=>rw[z4]at z;cases z
     |err=>rw[z4]at z;cases z
     |ok w f =>
      rw[z4,Res.bind_ok]at z;cases z5:g' y w f with
      |none=>rw[z5]at z;cases z
      |some c=>rw[z5]at z;cases z;exact⟨_,rfl⟩
theorem qhY(j:OpR X (compareOp op) (G2 λx y S=>ofO ((g x y S).map D.bl) S))(f:OpR X (compareOp d) (G2 λx y S=>ofO ((g' x y S).map D.bl) S))(ha:PE X a (T h))(l:PE X b (T mb))(m:PE X c (T i))(hm:lastMarks [op,d] [b,c]=false):PE X (.Compare a [op,d] [b,c] pos) (T (mChain g g' h mb i)) :=
 PEimp (qfs j f ha l m hm) λn H Q=>qdI
theorem qfP(j:OpR X (compareOp op) (G2 λx y S=>ofO ((g x y S).map D.bl) S))(f:OpR X (compareOp d) (G2 λx y S=>ofO ((g' x y S).map D.bl) S))(ha:PE X a (T h))(l:PE X b (T mb))(m:PE X c (T i))(hm:lastMarks [op,d] [b,c]=false):PT X (.Compare a [op,d] [b,c] pos) (TB (mVal (mChain g g' h mb i))) :=
 PTimp (qft j f ha l m hm) λo H Q n=>qdI (toTest qeS n)
theorem qj3{a:Expr}{b:Expr}{rest:List Expr}{c mb:En->Sr->Res Bool}(ha:PT X a (TB c))(d:PW X (.BoolOp .And (b::rest) pos) (TB mb)):
  PW X (.BoolOp .And (a::b::rest) pos) (TB λρ S=>(c ρ S).bind λt S1=>if t then mb ρ S1 else .ok false S1):=λf pins s h H Q I i=>by
 refine qjA ha d f pins s h H Q I (TG.b1 i λι S ρ x y j l st m p=>?_);cases (show x=y from m);cases x with
 |true=>rw[wN rfl];exact⟨ι,S,ρ,l,st,p⟩
 |false=>rw[wT (by decide)];exact p false ι j (Stp.refl _ _) st rfl
theorem qlB{a:Expr}{b:Expr}{rest:List Expr}{c mb:En->Sr->Res Bool}(ha:PT X a (TB c))(d:PW X (.BoolOp .Or (b::rest) pos) (TB mb)):
  PW X (.BoolOp .Or (a::b::rest) pos) (TB λρ S=>(c ρ S).bind λt S1=>if t then .ok true S1 else mb ρ S1):=λf pins s h H Q I i=>by
 refine qlj ha d f pins s h H Q I (TG.b1 i λι S ρ x y j l st m p=>?_);cases (show x=y from m);cases x with
 |true=>rw[wN rfl];exact p true ι j (Stp.refl _ _) st rfl
 |false=>rw[wT (by decide)];exact⟨ι,S,ρ,l,st,p⟩
theorem qj4(ha:PT X a (TB b)):PT X (.UnaryOp .Not a pos) (TB λρ S=>(b ρ S).bind λt S1=>.ok (!t) S1) :=
 PTimp (qfl ha) λh H Q c=>TG.b1 c λι S ρ x y d i st f p=>by
  cases (show x=y from f);exact p _ ι d (Stp.refl _ _) st rfl
theorem qlC{a:Expr}{b:Expr}{rest:List Expr}{d mb:En->Sr->Res D}(ha:PE X a (T d))(f:PE X (.BoolOp .And (b::rest) pos) (T mb)):
  PE X (.BoolOp .And (a::b::rest) pos) (T λρ S=>(d ρ S).bind λx S1=>match x with|.bl true=>mb ρ S1|.bl false=>.ok (.bl false) S1|_=>.no) :=
 PEimp (qjC ha f) λm H Q h=>TG.b1 h λι S ρ x y i j st l p=>by
  cases x with
  |bl c =>
   cases (show y=_ from l);refine⟨c,rfl,?_⟩;cases c with
   |true=>rw[wN rfl];exact⟨ι,S,ρ,j,st,p⟩
   |false=>rw[wT (by decide)];exact p _ ι i (Stp.refl _ _) st rfl
  |_=>exact p.elim
theorem qlD(ha:PE X a (T d)):PE X (.UnaryOp .Not a pos) (T λρ S=>(d ρ S).bind λx S1=>match x with|.bl b=>.ok (.bl (!b)) S1|_=>.no) :=
 PEimp (qjD ha) λj H Q f=>TG.b1 f λι S ρ x y h l st i p=>by
  cases x with
  |bl c =>
   cases (show y=_ from i);exact⟨c,rfl,p _ ι h (Stp.refl _ _) st rfl⟩
  |_=>exact p.elim
theorem qlE(ha:PE X a (T b)):PE X (.UnaryOp .USub a pos) (T λρ S=>(b ρ S).bind λx S1=>match x with|.int i=>.ok (.int (-i)) S1|_=>.no) :=
 PEimp (qll qjK ha) λh H Q c=>TG.b1 c λι S ρ x y d j st f p=>by
  cases x with
  |int i =>
   cases (show y=_ from f);exact⟨i,rfl,p _ ι d (Stp.refl _ _) st rfl⟩
  |_=>exact p.elim
theorem qlF{k:Nat}(h:PA X es (TL b)):PE X (.Tuple es k pos) (T λρ S=>(b ρ S).bind λl S1=>if l.length<=sizeLine then .ok (.tup l) S1 else .no) :=
 PEimp (qjN h) λf H Q d=>TG.b1 d λι S ρ x y i j st c p=>by
  by_cases a:x.length<=sizeLine
  .rw [wN a]at p
   exact⟨by rw[<-c.length];exact a,zC st c p⟩
  .rw [wT a]at p;exact p.elim
theorem qlG(h:PA X es (TL b)):PE X (.List es pos) (T λρ S=>(b ρ S).bind λl S1=>if l.length<=sizeLine then newL m l S1 else .no) :=
 PEimp (qfw h) λf H Q d=>TG.b1 d λι S ρ x y i j st c p=>by
  by_cases a:x.length<=sizeLine
  .rw [wN a]at p
   exact⟨by rw[<-c.length];exact a,zr st c p⟩
  .rw [wT a]at p;exact p.elim
theorem qlH{m:Bool}:PE X (.Dict [] [] pos) (T λ_ S=>if m then .ok (.ref S.length) (S++[.dic []])else .ok .emp S):=by
 cases m with
 |true =>
  refine PEimp qfH λc H Q b=>?_
  obtain⟨ι,S,ρ,d,st,p⟩:=b;intro q a;have g:=Stp.grow (ι:=ι) a (.dT []);refine p (.ref q) _ _ g (st.grow a ⟨rfl,[],qH,rfl⟩) ⟨q,rfl,?_⟩;rw[<-st.len];simp
 |false =>
  refine PEimp qfG λc H Q b=>?_
  obtain⟨ι,S,ρ,d,st,p⟩:=b;intro q a;have g:=Stp.laid (ι:=ι) a (.dK []);exact p (.ref q) _ _ g (st.laid a _) ⟨q,rfl,st.fresh a,qH⟩
theorem key_den(h:keyD d=some k)(hd:Den ι H d v):v=kV k:=by
 cases d <;> simp only[keyD]at h <;> cases h <;> exact hd
theorem qhZ{k:Int}(a:Dens ι H l xs)(h:atI l k=some d):∃v,atI xs k=some v/\Den ι H d v:=by
 unfold atI at h ⊢;rw[<-a.length];cases z:ixN l.length k with
 |none=>rw[z]at h;cases h
 |some j =>
  rw[z]at h;exact a.get h
theorem qb1:keyT a=keyT b ↔ a=b:=by
 refine⟨λh=>?_,λh=>by rw[h]⟩;unfold keyT at h;exact(List.map_inj_right (λx y h=>Sum.inl.inj h)).mp h
theorem qdJ(k:List Int):(keyT k).map kV=k.map V.int:=by
 unfold keyT;rw[wj];rfl
theorem qb2{κ K:Type}[DecidableEq κ][DecidableEq K]{f:κ->K}(c:∀{a b},f a=f b ↔ a=b){ι:List Addr}{H:Hp}{k:κ}:∀{l:List (κ×D)} {kvs:List (K×V)} {d:D},DGs f ι H l kvs->lookT k l=some d->∃v,valV kvs (f k)=some v/\Den ι H d v
 |[],_,_,_,h=>by cases h
 |p::l,_,d,hk,h=>by
  obtain⟨v,r,rfl,i,m⟩:=hk;obtain⟨j,e⟩:=p;simp only[lookT]at h;by_cases z:j=k
  .rw [wN z]at h;cases h
   exact⟨v,jn (by simp[z]),i⟩
  .rw [wT z]at h
   obtain⟨w,e1,n⟩:=qb2 c m h;exact⟨w,by rw[jo (by simpa[c]using z)];exact e1,n⟩
theorem qdK{κ K:Type}[DecidableEq κ][DecidableEq K]{f:κ->K}(c:∀{a b},f a=f b ↔ a=b){ι:List Addr}{H:Hp}{k:κ}:∀{l:List (κ×D)} {kvs:List (K×V)},DGs f ι H l kvs->(kvs.any λd=>decide (d.1=f k))=l.any λp=>decide (p.1=k)
 |[],_,h=>by cases (show _=[]from h);rfl
 |p::l,_,h=>by
  obtain⟨v,r,rfl,j,i⟩:=h;rw[vo,vo,qdK c i];simp[c]
theorem qb3{κ:Type}[DecidableEq κ]{k:κ}{d:D}(hd:refsLt 0 d=true):∀{l:List (κ×D)},refsLts 0 (l.map (·.2))=true->refsLts 0 ((putT k d l).map (·.2))=true:=by
 intro l c;refine qE λx f=>?_
 obtain⟨p,a,rfl⟩:=wp.mp f;unfold putT at a;split at a
 .obtain ⟨q,h,e⟩:=wp.mp a
  have b:=qu c (wp.mpr ⟨q,h,rfl⟩);split at e
  .subst e;exact hd
  .subst e;exact b
 .rcases wb.mp a with z|z
  .exact qu c (wp.mpr ⟨p,z,rfl⟩)
  .rw [wV.mp z];exact hd
theorem qdL{κ K:Type}[DecidableEq κ][DecidableEq K]{f:κ->K}(n:∀{a b},f a=f b ↔ a=b){ι:List Addr}{H:Hp}{k:κ}{d:D}{v:V}(hd:Den ι H d v){l:List (κ×D)}{kvs:List (K×V)}(h:DGs f ι H l kvs):DGs f ι H (putT k d l) (putK kvs (f k) v):=by
 unfold putT putK;rw[qdK n h];split
 .rename_i j
  clear j;induction l generalizing kvs with
  |nil=>cases (show _=[]from h);exact(rfl:_=_)
  |cons p l c =>
   obtain⟨w,r,rfl,m,i⟩:=h;rw[wd,wd];by_cases z:p.1=k
   .rw [wN z,wN (by simp[z])]
    exact⟨v,_,rfl,hd,c i⟩
   .rw [wT z,wT (by simpa[n]using z)]
    exact⟨w,_,rfl,m,c i⟩
 .rename_i j
  clear j;induction l generalizing kvs with
  |nil=>cases (show _=[]from h);exact⟨v,[],rfl,hd,rfl⟩
  |cons p l c =>
   obtain⟨w,r,rfl,m,i⟩:=h;exact⟨w,_,rfl,m,c i⟩
theorem qh0(j:X.A.units+1<cLine):IxR X (λx y H Q=>∃a v,x=.ref a/\DGet H a y (some v)/\Q v H):=by
 intro b c pins s l H x y v u Q I m n h o;obtain⟨a,z,rfl,g,q⟩:=h;cases m;have i:=qbY I g;unfold subscriptTail;refine wA ?_;rw[getitemInPython_of_ne i.not_modules];refine wA (wpAny_specialOf i PySem.F.slot_dict_getitem.lookup ?_);have fin:wpAny (model X.prog X.w) X.A (subscripted c false (.ref a) u) (λr d=>wpAny (model X.prog X.w) X.A (letTemporaryGo b (.ref a) r >>= λ_=>pure r) (EP X pins l Q) X.xe d) X.xe s:=by
  rw[o];exact wpAny_operating (qeL j I g n λB C p f=>wA (wpAny_letTemporaryGo (wC ⟨z,H,p,f,q⟩)))
 first
  |exact wC (wA fin)
  |exact wA fin
theorem qlI{a b:Expr}{o mb:En->Sr->Res D}(s:X.A.units+1<cLine)(ha:PE X a (T o))(j:PE X b (T mb))(f:PlainIx b):
  PE X (.Subscript a b pos) (T λρ S=>(o ρ S).bind λx S1=>(mb ρ S1).bind λy S2=>ofO (idxD S2 x y) S2) :=
 PEimp (qlq (qhO.or (qjS.or (qh0 s))) ha j f) λM H Q u=>by
  refine TG.b1 u λι S ρ a b N w st r p=>Pst.tg p w st λO S2 h H2 b2 s2 B c i C=>?_
  obtain⟨d,e,q⟩:=Pst.ofO C c;unfold idxD at e;split at e
  .rename_i k
   cases (show b2=_ from i);cases z:seqOf S2 a with
   |none=>rw[z]at e;cases e
   |some l =>
    rw[z]at e;obtain⟨p,xs,rfl,f,E⟩:=z9 c z (Den.mono s2 a r);obtain⟨v,e1,m⟩:=qhZ E e;have fin:=q v h H2 (Stp.refl _ _) c m;rcases f with f|f
    .exact .inl ⟨p,xs,k,v,rfl,rfl,.inl f,e1,fin⟩
    .exact .inr (.inl ⟨p,xs,k,v,rfl,rfl,.inl (.inl f),e1,fin⟩)
  .rename_i ks
   split at e
   .rename_i n
    split at e
    .rename_i l F
     cases z:intsOf ks with
     |none=>rw[z]at e;cases e
     |some k =>
      rw[z]at e;cases intsOf_eq z;obtain⟨p,I,hn⟩:=Den.mono s2 _ r;subst I;obtain⟨_,kvs,J,K⟩:=c.obj n p _ hn F;obtain⟨v,e1,m⟩:=qb2 qb1 K e;obtain⟨b,xs,rfl,_,j,L⟩:=i;cases dens_ints L;refine .inr (.inr ⟨p,v,rfl,?_,q v h H2 (Stp.refl _ _) c m⟩);rw[<-e1];exact DGet.t J (by rw[qdJ];exact j)
    .cases e
   .cases e
  .cases e
end
section
variable{X:Cx}{pos:Pos}
theorem qj5{ι:List Addr}{H:Hp}{S:Sr}{K:PySem.W.Frag}(st:Sto ι H S)(t:Ty):∀{d:D} {v:V} {b:Bool},isiD S t d=some b->Den ι H d v->∃ty,TyOf K H v ty/\PySem.W.kitOne K ty (.type t.nm)=some b
 | .non,v,b,h,hd=>by
  cases (show v=_ from hd);cases h;exact⟨_,.non,by cases t <;> (first|rfl|decide +kernel)⟩
 | .bl c,v,b,h,hd=>by
  cases (show v=_ from hd);cases t <;> cases h <;> exact⟨_,.bl c,by first|rfl|decide +kernel⟩
 | .int c,v,b,h,hd=>by
  cases (show v=_ from hd);cases t <;> cases h <;> exact⟨_,.int c,by first|rfl|decide +kernel⟩
 | .str c,v,b,h,hd=>by
  cases (show v=_ from hd);cases t <;> cases h <;> exact⟨_,.str c,by first|rfl|decide +kernel⟩
 | .tup l,v,b,h,hd=>by
  obtain⟨a,xs,rfl,_,ha,_⟩:=hd;cases t <;> cases h <;> exact⟨_,.tup ha,by first|rfl|decide +kernel⟩
 | .lst l,v,b,h,hd=>by
  obtain⟨a,xs,rfl,_,ha,_⟩:=hd;rcases ha with ha|⟨o,ha⟩
  .cases t <;> cases h <;> exact⟨_,.lst ha,by first|rfl|decide +kernel⟩
  .cases t <;> cases h <;> exact⟨_,.frz ha,by first|rfl|decide +kernel⟩
 | .exc C,v,b,h,hd=>by cases h
 | .emp,v,b,h,hd=>by
  obtain⟨a,rfl,_,ha⟩:=hd;cases t <;> cases h <;> exact⟨_,.dK ha,by first|rfl|decide +kernel⟩
 | .ref n,v,b,h,hd=>by
  obtain⟨a,rfl,ha⟩:=hd;simp only[isiD]at h;split at h
  .rename_i l f
   obtain⟨_,xs,i,_⟩:=st.obj n a _ ha f;cases t <;> cases h <;> exact⟨_,.lst i,by first|rfl|decide +kernel⟩
  .rename_i l f
   obtain⟨_,xs,i,_⟩:=st.obj n a _ ha f;cases t <;> cases h <;> exact⟨_,.dT i,by first|rfl|decide +kernel⟩
  .rename_i l f
   obtain⟨_,xs,i,_⟩:=st.obj n a _ ha f;cases t <;> cases h <;> exact⟨_,.dK i,by first|rfl|decide +kernel⟩
  .cases h
theorem qfQ:CallR X (.builtin "isinstance") (λxs H Q=>∃x n ty b,xs=[x,.ty n]/\TyOf X.K H x ty/\PySem.W.kitOne X.K ty (.type n)=some b/\Q (.bl b) H):=by
 intro pins s i H xs us Q I r h;obtain⟨x,n,ty,b,rfl,a,c,q⟩:=h;obtain⟨u,j,rfl,d,f⟩:=vals2 r;cases f;exact qeI I d a c λtk=>⟨.bl b,H,I.tok _,rfl,q⟩
theorem qh1(t:Ty):bootBuiltins (Str.ofString t.nm)=some (.type t.nm):=by cases t <;> decide +kernel
theorem qb4:bootBuiltins "isinstance"=some (.builtin "isinstance"):=by decide +kernel
theorem qlJ{p f:Pos}{t:Ty}(o:Gl X "isinstance")(hm:X.mg "isinstance"=none)(h:Gl X (Str.ofString t.nm))(i:X.mg (Str.ofString t.nm)=none)(ha:PE X a (T m))(n:starEach [a,.Name (Str.ofString t.nm) f] X.env=(false,eval a X.env)::starEach [.Name (Str.ofString t.nm) f] X.env)(j:starEach [.Name (Str.ofString t.nm) f] X.env=(false,eval (.Name (Str.ofString t.nm) f) X.env)::starEach [] X.env)(l:(backTo pos (starEach [.Name (Str.ofString t.nm) f] X.env)).any (·.1)=false):
  PE X (.Call (.Name "isinstance" p) [a,.Name (Str.ofString t.nm) f] [] pos) (T λρ S=>(m ρ S).bind λx S1=>ofO ((isiD S1 t x).map .bl) S1):=by
 have hn:(Str.ofString t.nm)≠"__name__":=by cases t <;> decide
 have hd:((Str.ofString t.nm) == ("__debug__":Str))=false:=by cases t <;> decide
 have r:PE X (.Name (Str.ofString t.nm) f) (λ_ H Q=>Q (.ty t.nm) H):=qdu (v:=.ty t.nm) h i (qh1 t) rfl hn hd;refine PEimp (j8 qfQ o hm qb4 (yT ha (yT r j7 j) n) (by decide) (by decide) n l) λB H Q s=>?_
 refine TG.b1 s λι S ρ a b u C st w p=>?_
 obtain⟨d,e,q⟩:=Pst.ofO p st;cases z:isiD S t a with
 |none=>rw[z]at e;cases e
 |some c =>
  rw[z]at e;cases e;obtain⟨ty,y,A⟩:=qj5 (K:=X.K) st t z w;exact⟨b,t.nm,ty,c,rfl,y,A,q _ ι u (Stp.refl _ _) st rfl⟩
theorem Dens.cut(h:Dens ι H l xs)(lo hi:Option Int):Dens ι H (cutD l lo hi) (cutV xs lo hi):=by
 unfold cutD cutV;rw[h.length];exact(h.drop _).take _
theorem qfR(h:PE X e (T m)):PO X (some e) (TOp λρ S=>(m ρ S).bind λx S1=>match x with|.int i=>.ok (some i) S1|_=>.no):=by
 intro pins s c H Q I d;refine qhM h pins s c H Q I (TG.b1 d λι S ρ a b f l st j p=>?_);cases a with
 |int i =>
  cases (show b=_ from j);exact⟨i,rfl,p _ ι f (Stp.refl _ _) st rfl⟩
 |_=>exact p.elim
theorem qfS:PO X none (TOp λ_ S=>.ok none S):=by
 intro pins s a H Q I b;obtain⟨ι,S,ρ,c,st,p⟩:=b;exact qhL pins s a H Q I (p _ ι H (Stp.refl _ _) st rfl)
theorem qlK{e:Expr}{lo hi:Option Expr}{r:Pos}{m:En->Sr->Res D}{C E:En->Sr->Res (Option Int)}(F:PE X e (T m))(I:PO X lo (TOp C))(J:PO X hi (TOp E)):
  PE X (.Subscript e (.Slice lo hi none r) pos) (T λρ S=>(m ρ S).bind λx S1=>(C ρ S1).bind λl S2=>(E ρ S2).bind λh o=>ofO (slcD o x l h) o) :=
 PEimp (qfz (qhP.or (qjQ.or qhR)) F I J) λσ H Q K=>by
  refine TG.b1 K λι S ρ a b H1 L st M p=>Pst.tg p L st λs S2 N H2 O s2 u v w r=>Pst.tg r u v λy o A H3 P U W f B Y=>?_
  cases (show s=O from w);cases (show y=P from B);obtain⟨d,e,q⟩:=Pst.ofO Y f;have j:=Den.mono (s2.trans U) a M;unfold slcD at e;split at e
  .rename_i l
   cases e;obtain⟨c,xs,rfl,Z,n,i⟩:=j;by_cases hn:HT.sIx xs.length 0 s=0/\HT.sIx xs.length xs.length y=xs.length
   .refine .inr (.inr ⟨c,xs,rfl,.inl (.inl n),hn,?_⟩)
    have e2:cutD l s y=l:=by
     unfold cutD;rw[i.length,hn.1,hn.2,u7,Nat.sub_zero,<-i.length,List.take_length]
    rw[e2]at q;exact q _ A H3 (Stp.refl _ _) f ⟨c,xs,rfl,Z,n,i⟩
   .exact .inr (.inl ⟨c,xs,rfl,.inl (.inl n),hn,zC f (i.cut _ _) q⟩)
  .cases z:lstOf o a with
   |none=>rw[z]at e;cases e
   |some l =>
    rw[z]at e;cases e;obtain⟨c,xs,rfl,n,i⟩:=qW f z j;exact .inl ⟨c,xs,rfl,.inl n,zr (m:=false) f (i.cut _ _) q⟩
def Gn(g:List D->Sr->Res D):List V->Hp->VK->Prop:=λxs H Q=>∃ι S ds,Sto ι H S/\Dens ι H ds xs/\Pst Den (g ds S) ι H Q
theorem qh2{x:Str}{id:String}{e:Expr}{es:List Expr}{p:Pos}{g:List D->Sr->Res D}{f:En->Sr->Res (List D)}(h:CallR X (.builtin id) (Gn g))(i:Gl X x)(hm:X.mg x=none)(j:bootBuiltins x=some (.builtin id))(ha:PA X (e::es) (TL f))(hn:x≠"__name__")(c:dB x)(m:sE X e es)(d:bT X es pos):
  PE X (.Call (.Name x p) (e::es) [] pos) (T λρ S=>(f ρ S).bind λl S1=>g l S1) :=
 PEimp (j8 h i hm j ha hn c m d) λq H Q n=>TG.b1 n λι S ρ a b r s st o p=>⟨ι,S,a,st,o,p⟩
theorem qfT{p:Pos}(h:CallR X (.type ty) (Gn g))(i:Gl X x)(hm:X.mg x=none)(j:bootBuiltins x=some (.type ty))(ha:PA X (e::es) (TL f))(hn:x≠"__name__")(c:dB x)(m:sE X e es)(d:bT X es pos):
  PE X (.Call (.Name x p) (e::es) [] pos) (T λρ S=>(f ρ S).bind λl S1=>g l S1) :=
 PEimp (qaY h i hm j ha hn c m d) λq H Q n=>TG.b1 n λι S ρ a b r s st o p=>⟨ι,S,a,st,o,p⟩
def SpD(np:Nat)(g:List D->Sr->Res D):Sp:=λvs H Q _=>vs.length=np/\∃ι S ds,Sto ι H S/\Dens ι H ds vs/\Pst Den (g ds S) ι H Q
theorem qj6{k:Nat}{p:Pos}(F:FnOk X.prog X.w X.K X.mg X.base CX k f fd ps (SpD ps.length g))(m:Room k X.A)(n:Gl X x)(hm:X.mg x=some (.ref f))(o:PySem.W.keepIn X.K (.ref f)=true)(q:Binds X.K fd ps [])(r:Passes CX X E)(ha:PA X (e::es) (TL b))(a:∀ρ S l s,b ρ S=.ok l s->l.length=ps.length)(c:dB x)(u:sE X e es)(d:bT X es pos):
  PE X (.Call (.Name x p) (e::es) [] pos) (T λρ S=>(b ρ S).bind λl S1=>g l S1) :=
 PEimp (qdy F m n hm o q (dvs:=[]) .nil r ha c u d) λB H Q v=>by
  obtain⟨ι,S,ρ,y,st,p⟩:=v;refine⟨ι,S,ρ,y,st,?_⟩;dsimp only at p ⊢;cases z:b ρ S with
  |no=>rw[z]at p;exact p
  |err=>rw[z]at p;exact p
  |ok l S1 =>
   rw[z]at p;intro xs h C s1 i j;refine⟨?_,h,S1,l,i,by simpa using j,Pst.from p s1⟩;rw[vY,<-j.length];exact a ρ S l S1 z
end
section
variable{X:Cx}{pos:Pos}
theorem dens1(h:Dens ι H [d] xs):∃x,xs=[x]/\Den ι H d x:=by
 obtain⟨x,r,rfl,a,b⟩:=h;cases (show r=[]from b);exact⟨x,rfl,a⟩
theorem dens2(h:Dens ι H [d,e] xs):∃x y,xs=[x,y]/\Den ι H d x/\Den ι H e y:=by
 obtain⟨x,r,rfl,a,b⟩:=h;obtain⟨y,rfl,c⟩:=dens1 b;exact⟨x,y,rfl,a,c⟩
theorem CallRimp(h:CallR X f r)(k:∀xs H Q,a xs H Q->r xs H Q):CallR X f a:=λpins s b H xs us Q I c q=>h pins s b H xs us Q I c (k xs H Q q)
theorem qc4(p:Pst Den (one g ds S) ι H Q):∃d,ds=[d]/\Pst Den (g d S) ι H Q:=by
 cases ds with
 |nil=>exact(show False from p).elim
 |cons d r =>
  cases r with
  |nil=>exact⟨d,rfl,p⟩
  |cons e r=>exact(show False from p).elim
theorem qj7(p:Pst Den (two g ds S) ι H Q):∃d e,ds=[d,e]/\Pst Den (g d e S) ι H Q:=by
 cases ds with
 |nil=>exact(show False from p).elim
 |cons d r =>
  cases r with
  |nil=>exact(show False from p).elim
  |cons e r =>
   cases r with
   |nil=>exact⟨d,e,rfl,p⟩
   |cons f r=>exact(show False from p).elim
theorem qb5{f:Value}{g:D->Sr->Res D}{r:V->Hp->VK->Prop}(h:CallR X f (λxs H Q=>∃x,xs=[x]/\r x H Q))(k:∀ι S d x H Q,Sto ι H S->Den ι H d x->Pst Den (g d S) ι H Q->r x H Q):CallR X f (Gn (one g)):=CallRimp h λxs H Q a=>by
 obtain⟨ι,S,ds,st,hd,p⟩:=a;obtain⟨d,rfl,p⟩:=qc4 p
 .skip
  obtain⟨x,rfl,b⟩:=dens1 hd;exact⟨x,rfl,k ι S d x H Q st b p⟩
theorem qfU{f:Value}{g:D->D->Sr->Res D}{r:V->V->Hp->VK->Prop}(h:CallR X f (λxs H Q=>∃x y,xs=[x,y]/\r x y H Q))(k:∀ι S d e x y H Q,Sto ι H S->Den ι H d x->Den ι H e y->Pst Den (g d e S) ι H Q->r x y H Q):CallR X f (Gn (two g)):=CallRimp h λxs H Q a=>by
 obtain⟨ι,S,ds,st,hd,p⟩:=a;obtain⟨d,e,rfl,p⟩:=qj7 p
 .skip
  obtain⟨x,y,rfl,b,c⟩:=dens2 hd;exact⟨x,y,rfl,k ι S d e x y H Q st b c p⟩
theorem qlL:CallR X (.builtin "len") (Gn (one bLen)) :=
 qb5 (r:=λx H Q=>(∃n,LenV X.K x H n/\Q (.int n) H)\/∃a kvs,x=V.ref a/\H a=some (.dT kvs)/\Q (.int kvs.length) H) (CallRimp (qfv.or qeQ) λxs H Q ⟨x,e,h⟩=>h.elim (λ⟨n,b,i⟩=>.inl ⟨x,n,e,b,i⟩) λ⟨a,kvs,b,i,m⟩=>.inr ⟨a,kvs,by rw[e,b],i,m⟩) λι S d x H Q st f p=>by
  obtain⟨r,e,q⟩:=Pst.ofO p st;cases z:lenD S d with
  |none=>rw[z]at e;cases e
  |some n =>
   rw[z]at e;cases e;have fin:=q _ ι H (Stp.refl _ _) st rfl;cases d with
   |str y =>
    cases (show x=_ from f);simp only[lenD]at z;split at z
    .cases z;exact .inl ⟨_,⟨by assumption,rfl⟩,fin⟩
    .cases z
   |tup l =>
    cases z;obtain⟨a,xs,rfl,_,ha,c⟩:=f;exact .inl ⟨_,.inr ⟨xs,.inl (.inl ha),c.length⟩,fin⟩
   |lst l =>
    cases z;obtain⟨a,xs,rfl,_,ha,c⟩:=f;exact .inl ⟨_,.inl ⟨xs,.inl ha,c.length⟩,fin⟩
   |ref k =>
    simp only[lenD]at z;split at z
    .rename_i l j
     cases z;obtain⟨a,rfl,ha⟩:=f;obtain⟨_,xs,b,c⟩:=st.obj k a _ ha j;exact .inl ⟨_,.inl ⟨xs,.inl (.inl b),c.length⟩,fin⟩
    .rename_i l j
     cases z;obtain⟨a,rfl,ha⟩:=f;obtain⟨_,kvs,b,c⟩:=st.obj k a _ ha j;exact .inr ⟨a,kvs,rfl,b,by rw[<-c.length];exact fin⟩
    .cases z
    .cases z
   |_=>cases z
theorem qlM:CallR X (.builtin "abs") (Gn (one bAbs)) :=
 qb5 (r:=λx H Q=>∃i,x=.int i/\Q (.int (if i<0 then -i else i)) H) (CallRimp qfu λxs H Q ⟨x,e,i,a,b⟩=>⟨i,by rw[e,a],b⟩) λι S d x H Q st c p=>by
  cases d with
  |int i=>cases (show x=_ from c);exact⟨i,rfl,p _ ι H (Stp.refl _ _) st rfl⟩
  |_=>exact p.elim
theorem qlN(a:X.calm=true):CallR X (.builtin "min") (Gn (two bMin)) :=
 qfU (r:=λx y H Q=>∃i j,x=.int i/\y=.int j/\Q (.int (if j<i then j else i)) H) (CallRimp (qeG a) λxs H Q ⟨x,y,e,i,j,b,c,f⟩=>⟨i,j,by rw[e,b,c],f⟩) λι S d e x y H Q st h l p=>by
  cases d with
  |int i =>
   cases e with
   |int j=>cases (show x=_ from h);cases (show y=_ from l);exact⟨i,j,rfl,rfl,p _ ι H (Stp.refl _ _) st rfl⟩
   |_=>exact p.elim
  |_=>exact p.elim
theorem qlO(a:X.calm=true):CallR X (.builtin "max") (Gn (two bMax)) :=
 qfU (r:=λx y H Q=>∃i j,x=.int i/\y=.int j/\Q (.int (if j>i then j else i)) H) (CallRimp (qeF a) λxs H Q ⟨x,y,e,i,j,b,c,f⟩=>⟨i,j,by rw[e,b,c],f⟩) λι S d e x y H Q st h l p=>by
  cases d with
  |int i =>
   cases e with
   |int j=>cases (show x=_ from h);cases (show y=_ from l);exact⟨i,j,rfl,rfl,p _ ι H (Stp.refl _ _) st rfl⟩
   |_=>exact p.elim
  |_=>exact p.elim
theorem qbo:CallR X (.builtin "divmod") (λxs H Q=>∃x y,xs=[x,y]/\∃i j,x=.int i/\y=.int j/\divOk i j=true/\∀p,H p=none->Q (.ref p) (upd H p (.tup [.int (i.fdiv j),.int (i.fmod j)]))):=by
 intro pins s a H xs us Q I r h;obtain⟨x,y,rfl,i,j,rfl,rfl,hd,q⟩:=h;obtain⟨u,c,rfl,⟨t,rfl⟩,⟨t',rfl⟩⟩:=vals2 r;simp only[divOk,wP,uH,ww]at hd;refine divmod_int hd.1 ?_ (.inl hd.2);have hn:H s.heap.objs.size=none:=I.hok.fresh (wJ _);refine⟨.ref s.heap.objs.size,_,?_,rfl,q _ hn⟩;refine I.laid (λb o e=>wB _ e) (wJ _) ⟨by simp only[w4,vb];rw[vT];decide,[.int (i.fdiv j) s.toks,.int (i.fmod j) (s.toks+1)],.cons ⟨_,rfl⟩ (.cons ⟨_,rfl⟩ .nil),?_⟩;exact⟨⟨_,wH s.heap rfl,rfl,0,rfl⟩,yS _ _⟩
theorem qfV:CallR X (.builtin "divmod") (Gn (two bDivmod)) :=
 qfU qbo λι S d e x y H Q st a b p=>by
  cases d with
  |int i =>
   cases e with
   |int j =>
    cases (show x=_ from a);cases (show y=_ from b);simp only[bDivmod]at p;split at p
    .rename_i hd
     exact⟨i,j,rfl,rfl,hd,zC (l:=[.int (i.fdiv j),.int (i.fmod j)]) (xs:=[.int (i.fdiv j),.int (i.fmod j)]) st ⟨_,_,rfl,rfl,_,_,rfl,rfl,rfl⟩ p⟩
    .exact p.elim
   |_=>exact p.elim
  |_=>exact p.elim
theorem qj8(m:Bool):CallR X (.type "list") (Gn (one (bList m))) :=
 qb5 (r:=λx H Q=>∃p ys,x=.ref p/\(SqL X.K H p ys\/SqT X.K H p ys)/\∀l,H l=none->Q (.ref l) (upd H l (.lst ys))) (CallRimp qbl λxs H Q ⟨x,e,p,ys,b,c,f⟩=>⟨p,ys,by rw[e,b],c,f⟩) λι S d x H Q st h p=>by
  unfold bList at p;split at p
  .rename_i l i
   obtain⟨a,xs,rfl,j,n⟩:=z9 st i h;exact⟨a,xs,rfl,j.elim (λz=>.inl (.inl z)) (λz=>.inr (.inl (.inl z))),zr st n p⟩
  .exact p.elim
theorem qh3:CallR X (.type "tuple") (Gn (one bTuple)) :=
 qb5 (r:=λx H Q=>∃p ys,x=.ref p/\((SqL X.K H p ys/\∀l,H l=none->Q (.ref l) (upd H l (.tup ys)))\/(SqT X.K H p ys/\Q (.ref p) H))) (CallRimp qaO λxs H Q ⟨x,e,p,ys,f,h⟩=>⟨p,ys,by rw[e,f],h⟩) λι S d x H Q st c p=>by
  obtain⟨r,e,q⟩:=Pst.ofO p st;cases z:seqOf S d with
  |none=>rw[z]at e;cases e
  |some l =>
   rw[z]at e;cases e;cases d with
   |tup i =>
    cases z;obtain⟨a,xs,rfl,hn,ha,b⟩:=c;exact⟨a,xs,rfl,.inr ⟨.inl (.inl ha),q _ ι H (Stp.refl _ _) st ⟨a,xs,rfl,hn,ha,b⟩⟩⟩
   |lst i =>
    cases z;obtain⟨a,xs,rfl,hn,ha,b⟩:=c;exact⟨a,xs,rfl,.inl ⟨.inl ha,zC st b q⟩⟩
   |ref k =>
    obtain⟨a,xs,rfl,j,b⟩:=qW st (show lstOf S (.ref k)=some l from z) c;exact⟨a,xs,rfl,.inl ⟨.inl j,zC st b q⟩⟩
   |_=>cases z
theorem qlP:CallR X (.type "str") (Gn (one bStr)) :=
 qb5 (r:=λx H Q=>∃i,x=.int i/\i.natAbs.log2<1920/\Q (.str (toString i)) H) (CallRimp qbi λxs H Q ⟨x,e,i,a,b,c⟩=>⟨i,by rw[e,a],b,c⟩) λι S d x H Q st f p=>by
  cases d with
  |int i =>
   cases (show x=_ from f);simp only[bStr]at p;split at p
   .exact ⟨i,rfl,by assumption,p _ ι H (Stp.refl _ _) st rfl⟩
   .exact p.elim
  |_=>exact p.elim
theorem qfW{A:Around}(I:Inv X pins q H s)(y:A.handled=none)(l:Rd H a (.lst xs)\/H a=some (.tup xs)):
  ∃c:List Value,Vals xs c/\∀(E:Value->Shared->Prop) (Q:Value->Shared->Prop),
   (∀(It:Addr) (fp B:List Addr) (m:Nat->Heap->Prop) (d:Shared),Walks X.prog X.w A It fp B c.length (λi v=>c[i]?=some v) m->m 0 d.heap->(∀b∈fp,b<d.heap.objs.size) ->
    (∀h' tk,(∀b o,b∉B->d.heap.get? b=some o->h'.get? b=some o)->Inv X pins q H {d with heap:=h',toks:=tk})->Q (.ref It) d) ->
   wpAny (model X.prog X.w) A (pyIter (.ref a)) Q E s:=by
 have base:∀(o:Obj) (h':Heap) (tk:Nat),(∀b x,b∉[s.heap.objs.size]->(s.heap.push o).get? b=some x->h'.get? b=some x)->Inv X pins q H {s with heap:=h',toks:=tk}:=λo h' tk n =>
  I.kept λb u e=>n b u (λhm=>by rw[wV.mp hm]at e;exact wh _ (wG e)) (wB _ e)
 rcases l with l|l
 .obtain ⟨c,r,j,C⟩:=qbn I l
  refine⟨c,r,λE Q k=>wpAny_pyIter_list j ?_⟩;have f:a<s.heap.objs.size:=by obtain⟨_,e,_⟩:=j;exact wG e
  have W:=Walks.list (prog:=X.prog) (w:=X.w) (A:=A) y s.heap.objs.size a (wa f) c.toArray;refine k s.heap.objs.size [s.heap.objs.size,a] [s.heap.objs.size] (λi h=>h.IsListIter s.heap.objs.size a i/\h.IsList a c.toArray) _ (by simpa using W) ⟨⟨_,wH _ rfl,rfl,rfl⟩,j.push _⟩ (λb p=>?_) (λh' tk n=>base _ h' tk n);simp only[wR,wc,v5]at p;have e1:=vW s.heap;rcases p with rfl|rfl
  .exact uk (xC _) (e1 _).symm
  .exact uk (uF f) (e1 _).symm
 .obtain ⟨c,r,j,C⟩:=qae I l
  refine⟨c,r,λE Q k=>wpAny_pyIter_tuple j ?_⟩;have f:a<s.heap.objs.size:=by obtain⟨_,e,_⟩:=j;exact wG e
  have W:=Walks.tuple (prog:=X.prog) (w:=X.w) (A:=A) y s.heap.objs.size a (wa f) c.toArray;refine k s.heap.objs.size [s.heap.objs.size,a] [s.heap.objs.size] (λi h=>h.IsTupleIter s.heap.objs.size a i/\h.IsTuple a c.toArray) _ (by simpa using W) ⟨⟨_,wH _ rfl,rfl,rfl⟩,j.push _⟩ (λb p=>?_) (λh' tk n=>base _ h' tk n);simp only[wR,wc,v5]at p;have e1:=vW s.heap;rcases p with rfl|rfl
  .exact uk (xC _) (e1 _).symm
  .exact uk (uF f) (e1 _).symm
theorem jU(ns:List Int):∀n,n<=ns.length->preSum (λi=>(ns[i]?).getD 0) n=(ns.take n).sum
 |0,_=>by simp[preSum]
 |n+1,h=>by
  rw[preSum,jU ns n (by lia),List.take_succ,List.sum_append];simp[wD (show n<ns.length by lia)]
theorem qlQ(B:X.calm=true):CallR X (.builtin "sum") (Gn (one bSum)):=by
 intro pins s Z H xs us Q I r h;obtain⟨ι,S,ds,st,hd,p⟩:=h;obtain⟨d,rfl,p⟩:=qc4 p
 .skip
  obtain⟨x,rfl,C⟩:=dens1 hd;obtain⟨u,rfl,E⟩:=vals1 r;obtain⟨r0,e,q⟩:=Pst.ofO p st;cases z:seqOf S d with
  |none=>rw[z]at e;cases e
  |some l =>
   rw[z]at e;cases z2:intsOf l with
   |none=>rw[wf,z2]at e;cases e
   |some ns =>
    rw[wf,z2]at e;cases e;obtain⟨a,xs,rfl,F,J⟩:=z9 st z C;cases E;obtain⟨b,f,w⟩:=qfW (A:=X.A.in1) I (I.ok.hd B) F;cases intsOf_eq z2;cases dens_ints J;have K:IntsAre b ns:=zy f;have L:b.length=ns.length:=K.length;refine call_sum_walkG (w _ _ λIt fp M c m W N O P=>⟨It,fp,M,_,_,c,λi=>(ns[i]?).getD 0,rfl,W,N,O,λi v o=>?_,λh' tk t' U=>?_⟩)
    .obtain ⟨j,Y⟩:=Vals.at f (wF.mp o).1
     obtain⟨e1,y⟩:=Y;rw[(wF.mp o).2]at y;rw[w8]at e1;cases z3:ns[i]? with
     |none=>rw[z3]at e1;cases e1
     |some n =>
      rw[z3]at e1;cases e1;obtain⟨t,rfl⟩:=y;exact⟨t,by simp[z3]⟩
    .rw [L,jU ns _ (wJ _),List.take_length]
     exact⟨.int ns.sum,H,P h' tk U,⟨_,rfl⟩,q _ ι H (Stp.refl _ _) st rfl⟩
end
section
variable{X:Cx}{pos:Pos}
theorem Dens.erase:∀{ds:List D} {xs:List V} (i:Nat),Dens ι H ds xs->Dens ι H (ds.eraseIdx i) (xs.eraseIdx i)
 |[],_,_,h=>by cases (show _=[]from h);exact(rfl:_=_)
 |d::ds,_,0,h=>by
  obtain⟨x,r,rfl,b,a⟩:=h;exact a
 |d::ds,_,i+1,h=>by
  obtain⟨x,r,rfl,b,a⟩:=h;exact⟨x,_,rfl,b,Dens.erase i a⟩
theorem qbp{n:Nat}(st:Sto ι H S)(ha:ι[n]?=some a)(f:refsLts n l=true)(b:Dens ι H l xs):Stp ι H ι (upd H a (.lst xs))/\Sto ι (upd H a (.lst xs)) (S.set n (.lst l)):=by
 have g:=Stp.put (H:=H) (w9 ha) (.lst xs);exact⟨g,st.put ha ⟨⟨n,ha,f⟩,xs,qH,Dens.mono g l b⟩⟩
theorem qeT{ι:List Addr}{H:Hp}{S:Sr}{x:D}{v:V}{K:PySem.W.Frag}(st:Sto ι H S)(h:isLst S x=true)(b:Den ι H x v):tyV K "list" v H:=by
 cases x with
 |ref n =>
  obtain⟨a,rfl,ha⟩:=b;simp only[isLst]at h;split at h
  .rename_i l c
   obtain⟨_,xs,d,_⟩:=st.obj n a _ ha c;exact .inl ⟨rfl,xs,.inl (.inl d)⟩
  .cases h
 |_=>cases h
theorem qfX{o e:Expr}{name:Str}{id:String}{b:Pos}{mo me:En->Sr->Res D}{g:Sr->D->D->Res D}{r:V->List V->Hp->VK->Prop}(slot:Slot "list" name id)(i:typeOf (.builtin id)=pure (.type "method_descriptor"))(hm:MtM X id r)(q:∀ι S x y v u H Q,Sto ι H S->Den ι H x v->Den ι H y u->Pst Den (g S x y) ι H Q->r v [u] H Q)(s:PE X o (T mo))(w:PE X e (T me))(f:starEach [e] X.env=(false,eval e X.env)::starEach [] X.env)(c:attributeBase o name X.env (eval o X.env)=eval o X.env)(d:(b.endLine == pos.line)=true)(h:((backTo pos (starEach [e] X.env)).all (λx=>!x.1)&&(backToKw pos (keywordEach [] X.env)).all (λx=>x.1.isSome)&&decide ([e].length+([]:List Keyword).length+(if([]:List Keyword).isEmpty then 0 else 1)<30))=true)(a:(backTo pos (starEach [] X.env)).any (·.1)=false):
  PE X (.Call (.Attribute o name b) [e] [] pos) (T λρ S=>(mo ρ S).bind λx S1=>if isLst S1 x then(me ρ S1).bind λy S2=>g S2 x y else .no) :=
 PEimp (qlr PySem.F.plainAttrs_list slot i hm s (yT w j7 f) c h d f a) λJ H Q A=>by
  refine TG.b1 A λι S ρ x v K B st n p=>?_
  by_cases j:isLst S x=true
  .rw [wN j]at p
   refine⟨qeT st j n,Pst.tg p B st λy S2 l H2 u s2 C m E I=>?_⟩;exact q l S2 x y v u H2 Q m (Den.mono s2 x n) E I
  .rw [wT j]at p;exact p.elim
theorem qlR(st:Sto ι H S)(f:Den ι H x v)(h:Den ι H y u)(p:Pst Den (popD S x y) ι H Q):rPopAt v [u] H Q:=by
 unfold popD at p;split at p
 .rename_i n k
  split at p
  .rename_i l i
   split at p
   .rename_i j
    split at p
    .rename_i d hd
     obtain⟨a,rfl,ha⟩:=f;cases (show u=_ from h);obtain⟨⟨o,q,r⟩,xs,s,c⟩:=st.obj n a _ ha i;obtain rfl:o=n:=zG st.nd q ha;obtain⟨z,e1,w⟩:=c.get hd;have A:k.toNat<xs.length:=(wF.mp e1).1;obtain⟨g,b⟩:=qbp st ha (qE λd m=>qu r (List.mem_of_mem_eraseIdx m)) (Dens.erase k.toNat c);refine⟨a,xs,k,k.toNat,z,rfl,rfl,s,?_,?_,?_,e1,p z ι _ g b (Den.mono g d w)⟩
     .lia
     .lia
     .exact seqIndex_of j.1 (by lia)
    .exact p.elim
   .exact p.elim
  .exact p.elim
 .exact p.elim
theorem qjc(st:Sto ι H S)(f:Den ι H x v)(h:Den ι H y u)(p:Pst Den (appD S x y) ι H Q):rAppend v [u] H Q:=by
 unfold appD at p;split at p
 .rename_i n
  split at p
  .rename_i l i
   split at p
   .rename_i c
    obtain⟨a,rfl,ha⟩:=f;obtain⟨⟨j,m,o⟩,xs,q,d⟩:=st.obj n a _ ha i;obtain rfl:j=n:=zG st.nd m ha;obtain⟨g,b⟩:=qbp st ha (by rw[qI,o];simp[refsLts,zA _ c.2]) (d.snoc h);exact⟨a,xs,u,rfl,rfl,q,by rw[<-d.length];exact c.1,p .non ι _ g b rfl⟩
   .exact p.elim
  .exact p.elim
 .exact p.elim
def TGt(m:D->En->Sr->Res En):L2.TG:=λv a H Q=>∃ι S ρ d,EnR ι H ρ a/\Sto ι H S/\Den ι H d v/\Pst EnR (m d ρ S) ι H Q
def TGts(m:List D->En->Sr->Res En):TGs:=λvs a H Q=>∃ι S ρ ds,EnR ι H ρ a/\Sto ι H S/\Dens ι H ds vs/\Pst EnR (m ds ρ S) ι H Q
theorem PGimp(h:PG X tg t)(k:∀v a H Q,t' v a H Q->t v a H Q):PG X tg t':=λpins s a H v u Q I r b=>h pins s a H v u Q I r (k v a H Q b)
theorem PGsimp(h:PGs X ts t)(k:∀v a H Q,t' v a H Q->t v a H Q):PGs X ts t':=λpins s a H v u Q I r b=>h pins s a H v u Q I r (k v a H Q b)
theorem qlS{i:Nat}(h:PG X tg (gName i)):PG X tg (TGt λd ρ S=>.ok (ρ.set i (some d)) S):=PGimp h λv c H Q a=>by
 obtain⟨ι,S,ρ,d,b,st,hd,p⟩:=a;exact p _ ι H (Stp.refl _ _) st (b.set hd)
theorem qlT:PGs X [] (TGts λl ρ S=>match l with|[]=>.ok ρ S|_=>.no):=PGsimp qhF λvs c H Q a=>by
 obtain⟨ι,S,ρ,ds,b,st,hd,p⟩:=a;cases ds with
 |nil=>exact⟨hd,p _ ι H (Stp.refl _ _) st b⟩
 |cons=>exact p.elim
theorem qj9(h:PG X e (TGt m))(i:PGs X es (TGts f))(j:(assignEach (e::es) X.env).map (·.2)=assign e X.env::(assignEach es X.env).map (·.2)):
  PGs X (e::es) (TGts λl ρ S=>match l with|d::r=>(m d ρ S).bind λρ1 S1=>f r ρ1 S1|[]=>.no):=PGsimp (qfn h i j) λvs y H Q n=>by
 obtain⟨ι,S,ρ,ds,o,st,hd,p⟩:=n;cases ds with
 |nil=>exact p.elim
 |cons d r =>
  obtain⟨v,q,rfl,s,u⟩:=hd;refine⟨v,q,rfl,ι,S,ρ,d,o,st,s,Pst.bind p λρ1 S1 a A w s1 b c x=>?_⟩;exact⟨a,S1,ρ1,r,c,b,Dens.mono s1 r u,x⟩
theorem qlU{k n:Nat}(j:X.calm=true)(h:PGs X es (TGts b))(hn:(assignEach es X.env).length=n)(c:(assignEach es X.env).findIdx? (·.1)=none)(m:∀l ρ S ρ' f,b l ρ S=.ok ρ' f->l.length=n):PG X (.Tuple es k pos) (TGt λd ρ S=>match d with|.tup l=>b l ρ S|_=>.no):=PGimp (qjE j h hn c) λv r H Q o=>by
 obtain⟨ι,S,ρ,d,q,st,hd,p⟩:=o;cases d with
 |tup l =>
  obtain⟨a,xs,rfl,_,ha,i⟩:=hd;refine⟨a,xs,rfl,.inl (.inl ha),?_,ι,S,ρ,l,q,st,i,p⟩;rw[<-i.length];cases z:b l ρ S with
  |ok ρ' f=>exact m l ρ S ρ' f z
  |no=>simp only[z]at p;exact p.elim
  |err=>simp only[z]at p;exact p.elim
 |_=>exact p.elim
theorem qb6(b:X.A.units+1<cLine):PSet X (λo i v H Q=>∃a H',o=.ref a/\DPut H a i v H'/\Q H'):=by
 intro pins s j H o i v l m u Q I c ri d h;obtain⟨a,H',rfl,g,q⟩:=h;cases c;exact qeM b I g ri d λn f=>⟨H',f,q⟩
theorem qfY(P:X.A.units+1<cLine){pins:List (Addr×Obj)}{s:Shared}{p:St}{H:Hp}{a:Addr}{i v:V}{r B u:Value}{Q:Hp->Prop}{ι:List Addr}{S U:Sr}{n:Nat}{y d:D}(I:Inv X pins p H s)(K:RelV (.ref a) r)(ri:RelV i B)(L:RelV v u)(st:Sto ι H S)(ha:ι[n]?=some a)(h:refsLt 0 d=true)(M:Den ι H y i)(hd:Den ι H d v)(e:putN S n y d=some U)(q:∀C H',Stp ι H C H'->Sto C H' U->Q H'):wpAny (model X.prog X.w) X.A (setItem r B u) (λ_ s'=>∃H',Inv X pins p H' s'/\Q H') X.xe s:=by
 unfold putN at e;split at e
 .rename_i l E
  obtain⟨⟨W,Y,F⟩,xs,J,c⟩:=st.obj n a _ ha E;obtain rfl:W=n:=zG st.nd Y ha;split at e
  .rename_i k
   cases (show i=_ from M);cases z:ixN l.length k with
   |none=>rw[z]at e;cases e
   |some j =>
    rw[z]at e;cases e;obtain⟨g,N⟩:=qbp st ha (qE λx m=>(ur m).elim (λz=>qu F z) λz=>z ▸ zA _ h) (c.set hd j);exact qfA pins s p H _ _ v r B u Q I K ri L ⟨a,xs,k,j,rfl,rfl,J,by rw[<-c.length];exact z,q ι _ g N⟩
  .cases e
 .rename_i l E
  obtain⟨F,kvs,J,c⟩:=st.obj n a _ ha E;split at e
  .rename_i ks
   cases z:intsOf ks with
   |none=>rw[z]at e;cases e
   |some k =>
    rw[z,wf]at e;split at e
    .rename_i o
     cases e;cases intsOf_eq z;obtain⟨b,ys,rfl,_,Z,db⟩:=M;cases dens_ints db;have g:=Stp.put (H:=H) (w9 ha) (.dT (putK kvs (keyT k) v));refine qb6 P pins s p H _ _ v r B u Q I K ri L ⟨a,_,rfl,DPut.t (k:=keyT k) J (by rw[qdJ];exact Z) ?_,q ι _ g (st.put ha ⟨qb3 h F,_,qH,qdL qb1 (Den.mono g d hd) (DGs.mono g c)⟩)⟩;have O:kvs.length<1000:=by rw[<-c.length];exact o
     exact wX O (by rw[vT];decide)
    .cases e
  .cases e
 .rename_i l E
  obtain⟨F,kvs,J,c⟩:=st.obj n a _ ha E;cases z:keyD y with
  |none=>rw[z]at e;cases e
  |some k =>
   rw[z,wf]at e;split at e
   .rename_i o
    cases e;cases key_den z M;have g:=Stp.put (H:=H) (w9 ha) (.dK (putK kvs k v));refine qb6 P pins s p H _ _ v r B u Q I K ri L ⟨a,_,rfl,DPut.k (k:=k) J ?_,q ι _ g (st.put ha ⟨qb3 h F,_,qH,qdL (f:=id) Iff.rfl (Den.mono g d hd) (DGs.mono g c)⟩)⟩;have O:kvs.length<1000:=by rw[<-c.length];exact o
    exact wX O (by rw[vT];decide)
   .cases e
 .cases e
theorem qh4(j:X.A.units+1<cLine):PSet X (λo i v H Q=>∃ι S x y d f,Sto ι H S/\Den ι H x o/\Den ι H y i/\Den ι H d v/\putE S x y d=some f/\∀c H',Stp ι H c H'->Sto c H' f->Q H'):=by
 intro pins s w H o i v B C u Q I l ri m h;obtain⟨ι,S,x,y,d,f,st,p,r,hd,e,q⟩:=h;unfold putE at e;by_cases b:refsLt 0 d=true
 .rw [wN b]at e
  split at e
  .rename_i n
   obtain⟨a,rfl,ha⟩:=p;exact qfY j I l ri m st ha b r hd e q
  .cases e
 .rw [wT b]at e;cases e
theorem qlV{o i:Expr}{mo mi:En->Sr->Res D}(s:X.A.units+1<cLine)(u:PE X o (T mo))(hi:PE X i (T mi))(ha:∀v,assign (.Subscript o i pos) X.env v=(do
   let a <-holding [v] (eval o X.env)
   let c <-holding [v,a] (eval i X.env)
   standAt pos
   holding [v,a,c] (setItem a c v)
   release [v,a,c] [])):
  PG X (.Subscript o i pos) (TGt λd ρ S=>(mo ρ S).bind λx S1=>(mi ρ S1).bind λy S2=>match putE S2 x y d with|some f=>.ok ρ f|none=>.no):=PGimp (qjF u hi (qh4 s) ha) λv w H Q B=>by
 obtain⟨ι,S,ρ,d,C,st,hd,p⟩:=B;refine Pst.tg (ρ:=ρ) p C st λx S1 E K L s1 h j F I=>Pst.tg (ρ:=ρ) I h j λy S2 l H2 M s2 m n J b=>?_
 cases z:putE S2 x y d with
 |none=>rw[z]at b;exact b.elim
 |some f =>
  rw[z]at b;exact⟨l,S2,x,y,d,f,n,Den.mono s2 x F,J,Den.mono (s1.trans s2) d hd,z,λq H' g r=>b w q H' g r (m.mono g)⟩
def FlOk(f:Fl)(ι:List Addr)(H:Hp)(D:Ends):Prop:=match f with
 | .nx ρ=>∀a,EnR ι H ρ a->D.nx a H
 | .bk ρ=>∀a,EnR ι H ρ a->D.bk a H
 | .ct ρ=>∀a,EnR ι H ρ a->D.ct a H
 | .rt d=>∀v,Den ι H d v->D.rt v H
def PsF(r:Res Fl)(ι:List Addr)(H:Hp)(D:Ends):Prop:=match r with
 | .ok f b=>∀a H',Stp ι H a H'->Sto a H' b->FlOk f a H' D
 | .err _ _=>False
 | .no=>False
theorem PsF.from{r:Res Fl}{ι a:List Addr}{H H':Hp}{D:Ends}(h:PsF r ι H D)(s:Stp ι H a H'):PsF r a H' D:=by
 cases r with
 |ok f S=>exact λb H2 t st=>h b H2 (s.trans t) st
 |err=>exact h
 |no=>exact h
theorem PsF.bind{d j:Type}{R:List Addr->Hp->d->j->Prop}{r:Res d}{f:d->Sr->Res Fl}{ι:List Addr}{H:Hp}{D:Ends}{K:j->Hp->Prop}(h:PsF (r.bind f) ι H D)(k:∀a l c H' b,Stp ι H c H'->Sto c H' l->R c H' a b->PsF (f a l) c H' D->K b H'):Pst R r ι H K:=by
 cases r with
 |ok a S=>exact λb i H2 t st q=>k a S i H2 b t st q (PsF.from h t)
 |err=>exact h
 |no=>exact h
def TSm(m:En->Sr->Res Fl):TS:=λD a H=>∃ι S ρ,EnR ι H ρ a/\Sto ι H S/\PsF (m ρ S) ι H D
theorem PSimp{st:Stmt}{t t':TS}(h:PS X st t)(k:∀D a H,t' D a H->t D a H):PS X st t':=λpins s a H D I b=>h pins s a H D I (k D a H b)
theorem PSsimp{st:List Stmt}{t t':TS}(h:PSs X st t)(k:∀D a H,t' D a H->t D a H):PSs X st t':=λpins s a H D I b=>h pins s a H D I (k D a H b)
theorem qlW:PSs X [] (TSm λρ S=>.ok (.nx ρ) S):=PSsimp qdv λD a H b=>by
 obtain⟨ι,S,ρ,c,st,p⟩:=b;exact p ι H (Stp.refl _ _) st a c
theorem qka{st:Stmt}{rest:List Stmt}{m j:En->Sr->Res Fl}(l:PS X st (TSm m))(n:PSs X rest (TSm j)):
  PSs X (st::rest) (TSm λρ S=>(m ρ S).bind λf S1=>match f with|.nx ρ1=>j ρ1 S1|f=>.ok f S1):=PSsimp (qbS l n) λD s H o=>by
 obtain⟨ι,S,ρ,q,st,p⟩:=o;refine⟨ι,S,ρ,q,st,?_⟩;dsimp only at p;cases z:m ρ S with
 |no=>rw[z]at p;exact p
 |err=>rw[z]at p;exact p
 |ok f S1 =>
  rw[z]at p;intro b i s1 c;cases f with
  |nx ρ1=>exact λh a=>⟨b,S1,ρ1,a,c,PsF.from p s1⟩
  |bk ρ1=>exact λh a=>p b i s1 c h a
  |ct ρ1=>exact λh a=>p b i s1 c h a
  |rt d=>exact λv r=>p b i s1 c v r
theorem qkb(h:PE X e (T m))(i:swapsWith e none pos.line X.env=pure false):PS X (.Expr e pos) (TSm λρ S=>(m ρ S).bind λ_ S1=>.ok (.nx ρ) S1):=PSimp (qdw h i) λD j H l=>by
 obtain⟨ι,S,ρ,f,st,p⟩:=l;exact⟨ι,S,ρ,f,st,PsF.bind p λa S1 c n b s1 d q o=>o c n (Stp.refl _ _) d j (f.mono s1)⟩
theorem qlX(h:PE X e (T m)):PS X (.Return (some e) pos) (TSm λρ S=>(m ρ S).bind λd S1=>.ok (.rt d) S1):=PSimp (qfm h) λD q H i=>by
 obtain⟨ι,S,ρ,j,st,p⟩:=i;exact⟨ι,S,ρ,j,st,PsF.bind p λa S1 c l b s1 f n o=>o c l (Stp.refl _ _) f b n⟩
theorem qh5{st:Stmt}:PS X st (TSm λ_ _=>.no):=PSimp qbT λD b H a=>by
 obtain⟨ι,S,ρ,c,st,p⟩:=a;exact p
theorem s_if(m:PT X c (TB i))(ha:PSs X a (TSm j))(n:PSs X b (TSm mb)):
  PS X (.If c a b pos) (TSm λρ S=>(i ρ S).bind λt S1=>if t then j ρ S1 else mb ρ S1):=PSimp (qi4 m ha n) λD r H o=>by
 obtain⟨ι,S,ρ,h,st,p⟩:=o;refine⟨ι,S,ρ,h,st,PsF.bind p λa S1 d s b s1 f q l=>?_⟩;cases (show a=b from q);cases a with
 |true=>rw[wN rfl];exact⟨d,S1,ρ,h.mono s1,f,l⟩
 |false=>rw[wT (by decide)];exact⟨d,S1,ρ,h.mono s1,f,l⟩
theorem qjd(h:PS X (.Assign [tg] e pos) (tAsg (T m) (TGt g))):
  PS X (.Assign [tg] e pos) (TSm λρ S=>(m ρ S).bind λd S1=>(g d ρ S1).bind λρ1 S2=>.ok (.nx ρ1) S2):=PSimp h λD r H n=>by
 obtain⟨ι,S,ρ,l,st,p⟩:=n;refine⟨ι,S,ρ,l,st,PsF.bind p λd S1 a s v s1 b rd o=>?_⟩;refine⟨a,S1,ρ,d,l.mono s1,b,rd,PsF.bind o λρ1 S2 c H2 f s2 i j q=>?_⟩;exact q c H2 (Stp.refl _ _) i f j
theorem qh6{N:Nat}(y:PassesOwn (model X.prog X.w) X.A X.env X.xe)(B:PT X c (TB o))(C:PSs X body (TSm mb)):
  PS X (.While c body [] pos) (TSm λρ S=>whileLoop o mb N ρ S):=PSimp (qfp y B C) λD x H E=>by
 obtain⟨ι,S,ρ,q,st,p⟩:=E;refine⟨λm x H=>∃ι S ρ,EnR ι H ρ x/\Sto ι H S/\PsF (whileLoop o mb m ρ S) ι H D,⟨N,ι,S,ρ,q,st,p⟩,?_⟩;rintro m x H ⟨ι,S,ρ,q,st,p⟩;cases m with
 |zero=>exact p.elim
 |succ m =>
  refine⟨ι,S,ρ,q,st,PsF.bind (show PsF ((o ρ S).bind _) ι H D from p) λa S1 r F b s1 s I i=>?_⟩;cases (show a=b from I);cases a with
  |false=>exact i r F (Stp.refl _ _) s x (q.mono s1)
  |true =>
   refine⟨λu H'=>∃ι S ρ,EnR ι H' ρ u/\Sto ι H' S/\PsF (whileLoop o mb m ρ S) ι H' D,λu H' h'=>⟨m,xC _,h'⟩,r,S1,ρ,q.mono s1,s,?_⟩;cases z:mb ρ S1 with
   |no=>simp only[z,v9]at i;exact i
   |err=>simp only[z,v9]at i;exact i
   |ok f S2 =>
    simp only[z,v9,Res.bind_ok]at i;intro j H2 s2 l;cases f with
    |nx ρ1=>exact λn h=>⟨j,S2,ρ1,h,l,PsF.from i s2⟩
    |ct ρ1=>exact λn h=>⟨j,S2,ρ1,h,l,PsF.from i s2⟩
    |bk ρ1=>exact λn h=>i j H2 s2 l n h
    |rt d=>exact λv J=>i j H2 s2 l v J
end
structure ItOk (ι:List Addr) (H:Hp) (J:It) (ds:List D):Prop where
 go:∀(i:Nat) (d:D) (ι2:List Addr) (H2:Hp),Stp ι H ι2 H2->ds[i]?=some d->J.go i H2/\∀x H3,J.yld i H2 x H3->Stp ι2 H2 ι2 H3/\∀S,Sto ι2 H2 S->Sto ι2 H3 S/\Den ι2 H3 d x
 stop:∀(ι2:List Addr) (H2:Hp),Stp ι H ι2 H2->J.stop ds.length H2
def qfZ{ι:List Addr}{H:Hp}{K:PySem.W.Frag}{a:Addr}{xs:List V}{ds:List D}(n:a∉ι)(h:Rd H a (.lst xs))(f:Dens ι H ds xs):ItOk ι H (Itl K a) ds where
 go:=λi d b H2 s e=>by
  obtain⟨x,e1,l⟩:=(Dens.mono s ds f).get e;obtain⟨j,m⟩:=s.rd h n;refine⟨⟨xs,x,.inl j,e1⟩,λy H3 c=>?_⟩;obtain⟨rfl,c⟩:=c;have:=c xs (.inl j);rw[e1]at this;cases this;exact⟨Stp.refl _ _,λ_ z=>⟨z,l⟩⟩
 stop:=λb H2 s=>⟨xs,.inl (s.rd h n).1,ul f.length.symm⟩
def qf0{ι:List Addr}{H:Hp}{K:PySem.W.Frag}{a:Addr}{xs:List V}{ds:List D}(n:a∉ι)(h:H a=some (.tup xs))(f:Dens ι H ds xs):ItOk ι H (Itt K a) ds where
 go:=λi d b H2 s e=>by
  obtain⟨x,e1,l⟩:=(Dens.mono s ds f).get e;have j:=s.keep _ _ h n trivial;refine⟨⟨xs,x,.inl (.inl j),e1⟩,λy H3 c=>?_⟩;obtain⟨rfl,c⟩:=c;have:=c xs (.inl (.inl j));rw[e1]at this;cases this;exact⟨Stp.refl _ _,λ_ z=>⟨z,l⟩⟩
 stop:=λb H2 s=>⟨xs,.inl (.inl (s.keep _ _ h n trivial)),ul f.length.symm⟩
structure ItG (ι:List Addr) (H:Hp) (J:It) (ds:List D) (gd:Sr->Prop):Prop where
 go:∀(i:Nat) (d:D) (ι2:List Addr) (H2:Hp) (S2:Sr),Stp ι H ι2 H2->Sto ι2 H2 S2->gd S2->ds[i]?=some d->J.go i H2/\∀x H3,J.yld i H2 x H3->Stp ι2 H2 ι2 H3/\∀S,Sto ι2 H2 S->Sto ι2 H3 S/\Den ι2 H3 d x
 stop:∀(ι2:List Addr) (H2:Hp) (S2:Sr),Stp ι H ι2 H2->Sto ι2 H2 S2->gd S2->J.stop ds.length H2
def ItG.mono(h:ItG ι H J ds gd)(s:Stp ι H b H'):ItG b H' J ds gd :=
 ⟨λi d a H2 S2 t st g e=>h.go i d a H2 S2 (s.trans t) st g e,λa H2 S2 t st g=>h.stop a H2 S2 (s.trans t) st g⟩
def ItOk.g(h:ItOk ι H J ds):ItG ι H J ds λ_=>True :=
 ⟨λi d a H2 _ t _ _ e=>h.go i d a H2 t e,λa H2 _ t _ _=>h.stop a H2 t⟩
def qdM{ι:List Addr}{H:Hp}{K:PySem.W.Frag}{a:Addr}{n:Nat}{l:List D}(h:ι[n]?=some a):ItG ι H (Itl K a) l (own n l) where
 go:=λi d b H2 S2 s st g e=>by
  obtain⟨_,xs,ha,c⟩:=st.obj n a _ (s.get h) g;obtain⟨x,e1,j⟩:=c.get e;refine⟨⟨xs,x,.inl (.inl ha),e1⟩,λy H3 f=>?_⟩;obtain⟨rfl,f⟩:=f;have:=f xs (.inl (.inl ha));rw[e1]at this;cases this;exact⟨Stp.refl _ _,λ_ z=>⟨z,j⟩⟩
 stop:=λb H2 S2 s st g=>by
  obtain⟨_,xs,ha,c⟩:=st.obj n a _ (s.get h) g;exact⟨xs,.inl (.inl ha),ul c.length.symm⟩
def TIg(m:En->Sr->Res (List D×(Sr->Prop))):TI:=λb H R=>∃ι S ρ,EnR ι H ρ b/\Sto ι H S/\match m ρ S with
 | .ok p c=>∀a H' J,Stp ι H a H'->Sto a H' c->ItG a H' J p.1 p.2->R J H'
 | .err _ _=>False
 | .no=>False
def TIt(m:En->Sr->Res (List D)):TI:=λb H R=>∃ι S ρ,EnR ι H ρ b/\Sto ι H S/\match m ρ S with
 | .ok ds c=>∀a H' J,Stp ι H a H'->Sto a H' c->ItOk a H' J ds->R J H'
 | .err _ _=>False
 | .no=>False
section
variable{X:Cx}{pos:Pos}{tg:Expr}
theorem PIimp(h:PI X tg iter t)(k:∀a H R,t' a H R->t a H R):PI X tg iter t':=λpins s a H R I b=>h pins s a H R I (k a H R b)
theorem qbq(r:PE X l tl):PI X tg l (λi H R=>tl i H λx d=>(∃a,x=.ref a/\(∃xs,SqL X.K d a xs)/\R (Itl X.K a) d)\/(∃a,x=.ref a/\(∃xs,SqT X.K d a xs)/\R (Itt X.K a) d)):=by
 intro pins s i H R I h;refine thn (r pins s i H _ I h) λv s1 ⟨x,d,c,n,q1⟩=>?_
 rcases q1 with ⟨a,e,⟨xs,j⟩,q⟩|⟨a,e,⟨xs,j⟩,q⟩
 .subst e
  cases n;obtain⟨f,u,p,w⟩:=c.list j;refine wpAny_pyIter_list p.isList ?_;refine⟨s1.heap.objs.size,[s1.heap.objs.size],_,_,d,rfl,c.kept (t':=s1.toks) λb o e=>wB _ e,qeD a _,⟨_,wH _ rfl,rfl,rfl⟩,λb m=>?_,q⟩;have e:b=s1.heap.objs.size:=by simpa using m
  subst e;exact c.fpOk (wJ _) (c.hok.fresh (wJ _))
 .subst e
  cases n;obtain⟨f,u,p,w⟩:=c.tuple j;refine wpAny_pyIter_tuple (show s1.heap.IsTuple a f.toArray from p) ?_;refine⟨s1.heap.objs.size,[s1.heap.objs.size],_,_,d,rfl,c.kept (t':=s1.toks) λb o e=>wB _ e,qcQ a _,⟨_,wH _ rfl,rfl,rfl⟩,λb m=>?_,q⟩;have e:b=s1.heap.objs.size:=by simpa using m
  subst e;exact c.fpOk (wJ _) (c.hok.fresh (wJ _))
def mSeq(m:En->Sr->Res D):En->Sr->Res (List D):=λρ S=>(m ρ S).bind λx S1=>match x with
 | .tup l=>.ok l S1
 | .lst l=>.ok l S1
 |_=>.no
theorem qlY(h:PE X e (T m)):PI X tg e (TIt (mSeq m)):=PIimp (qbq h) λq H R n=>by
 obtain⟨ι,S,ρ,o,st,p⟩:=n;refine⟨ι,S,ρ,o,st,?_⟩;dsimp only[mSeq]at p;cases z:m ρ S with
 |no=>rw[z]at p;exact p
 |err=>rw[z]at p;exact p
 |ok d S1 =>
  rw[z,Res.bind_ok]at p;intro v b i s1 c j;cases d with
  |tup l =>
   obtain⟨a,xs,rfl,hn,ha,f⟩:=j;exact .inr ⟨a,rfl,⟨xs,.inl (.inl ha)⟩,p b i _ s1 c (qf0 hn ha f)⟩
  |lst l =>
   obtain⟨a,xs,rfl,hn,ha,f⟩:=j;exact .inl ⟨a,rfl,⟨xs,.inl ha⟩,p b i _ s1 c (qfZ hn ha f)⟩
  |_=>exact p.elim
theorem qf1(hp:PassesOwn (model X.prog X.w) X.A X.env X.xe)(hc:X.calm=true)(hi:PI X tg iter (TIg mi))(hg:PG X tg (TGt g))(hb:PSs X body (TSm mb))(hs:∀x,foldedSetIterable iter X.env x=pure x):
  PS X (.For tg iter body [] pos) (TSm λρ S=>(mi ρ S).bind λp S1=>endG p.2 (forLoop (λd ρ S=>(grd p.2 S (g d ρ S)).bind λρ1 S1=>mb ρ1 S1) p.1 ρ S1)):=PSimp (qjI hp hc hi hg hb hs) λD K H hw=>by
 obtain⟨ι,S,ρ,W,st,p⟩:=hw;refine⟨ι,S,ρ,W,st,?_⟩;dsimp only at p;cases z:mi ρ S with
 |no=>rw[z]at p;exact p
 |err=>rw[z]at p;exact p
 |ok dg S1 =>
  obtain⟨ds,gd⟩:=dg;rw[z,Res.bind_ok]at p;dsimp only at p;intro q Y J s1 L y;refine⟨λi m K H=>m=ds.length-i/\i<=ds.length/\∃ι S ρ,Stp q Y ι H/\EnR ι H ρ K/\Sto ι H S/\PsF (endG gd (forLoop (λd ρ S=>(grd gd S (g d ρ S)).bind λρ1 S1=>mb ρ1 S1) (ds.drop i) ρ S)) ι H D,
   ⟨_,rfl,vN _,q,S1,ρ,Stp.refl _ _,W.mono s1,L,by simpa using PsF.from p s1⟩,?_⟩
  rintro i m K H ⟨rfl,hi,ι,S,ρ,s2,B,h,j⟩;by_cases r:i<ds.length
  .have hd:ds[i]?=some ds[i]:=wD r
   rw[ut r]at j;have b:gd S:=by
    apply Classical.byContradiction;intro hn;simp only[forLoop,yG hn,Res.bind_no,endG]at j;exact j
   obtain⟨go,yl⟩:=y.go i _ ι H S s2 h b hd;refine .inr ⟨go,λC H'=>∃ι S ρ,Stp q Y ι H'/\EnR ι H' ρ C/\Sto ι H' S/\PsF (endG gd (forLoop (λd ρ S=>(grd gd S (g d ρ S)).bind λρ1 S1=>mb ρ1 S1) (ds.drop (i+1)) ρ S)) ι H' D,λC H' h'=>⟨_,by omega,rfl,r,h'⟩,λx H3 hy=>?_⟩;obtain⟨M,N⟩:=yl x H3 hy;obtain⟨k3,d3⟩:=N S h;refine⟨ι,S,ρ,ds[i],B.mono M,k3,d3,?_⟩;have s:=PsF.from j M;simp only[forLoop,zo b]at s;cases z2:g ds[i] ρ S with
   |no=>simp only[z2,endG,Res.bind_no]at s;exact s
   |err=>simp only[z2,endG,Res.bind_err]at s;exact s
   |ok E Z =>
    rw[z2,Res.bind_ok]at s;intro a0 O H4 s4 P Q;refine⟨O,Z,E,Q,P,?_⟩;have a:=PsF.from s s4;cases z3:mb E Z with
    |no=>simp only[z3,endG,Res.bind_no]at a;exact a
    |err=>simp only[z3,endG,Res.bind_err]at a;exact a
    |ok f U =>
     rw[z3,Res.bind_ok]at a;intro l H5 F n;have tot:=((s2.trans M).trans s4).trans F;cases f with
     |nx o=>exact λu c=>⟨l,U,o,tot,c,n,PsF.from a F⟩
     |ct o=>exact λu c=>⟨l,U,o,tot,c,n,PsF.from a F⟩
     |bk o =>
      by_cases I:gd U
      .simp only[endG,Res.bind_ok,zo I]at a
       exact λu c=>a l H5 F n u c
      .simp only[endG,Res.bind_ok,yG I]at a
       exact a.elim
     |rt d=>exact λv hv=>a l H5 F n v hv
  .have e:i=ds.length:=by omega
   subst e;rw[vx (wJ _)]at j;have b:gd S:=by
    apply Classical.byContradiction;intro hn;simp only[forLoop,Res.bind_ok,endG,yG hn]at j;exact j
   simp only[forLoop,Res.bind_ok,endG,zo b]at j;refine .inl ⟨y.stop ι H S s2 h b,?_⟩;exact j ι H (Stp.refl _ _) h K B
theorem pi_g(h:PI X tg iter (TIt mi)):PI X tg iter (TIg λρ S=>(mi ρ S).bind λds S1=>.ok (ds,λ_=>True) S1):=PIimp h λf H R c=>by
 obtain⟨ι,S,ρ,d,st,p⟩:=c;refine⟨ι,S,ρ,d,st,?_⟩;dsimp only at p;cases z:mi ρ S with
 |no=>rw[z]at p;exact p
 |err=>rw[z]at p;exact p
 |ok ds S1 =>
  rw[z,Res.bind_ok]at p;exact λa H' J s1 b ok=>p a H' J s1 b ok.g
theorem qc5{a:Type}(S:Sr)(r:Res a):grd (λ_=>True) S r=r:=zo (gd:=λ_=>True) trivial r
theorem qh7(r:Res Fl):endG (λ_=>True) r=r:=by
 cases r with
 |ok f S=>cases f <;> simp only[endG,Res.bind_ok,qc5]
 |err=>rfl
 |no=>rfl
theorem qlZ(a:PassesOwn (model X.prog X.w) X.A X.env X.xe)(b:X.calm=true)(hi:PI X tg iter (TIt mi))(c:PG X tg (TGt g))(f:PSs X body (TSm mb))(i:∀x,foldedSetIterable iter X.env x=pure x):
  PS X (.For tg iter body [] pos) (TSm λρ S=>(mi ρ S).bind λds S1=>forLoop (λd ρ S=>(g d ρ S).bind λρ1 S1=>mb ρ1 S1) ds ρ S1):=by
 have h:=qf1 (pos:=pos) a b (pi_g hi) c f i;have e:(λ(ρ:En) (S:Sr)=>((mi ρ S).bind λds S1=>.ok (ds,λ_=>True) S1:Res (List D×(Sr->Prop))).bind λp S1=>endG p.2 (forLoop (λd ρ S=>(grd p.2 S (g d ρ S)).bind λρ1 S1=>mb ρ1 S1) p.1 ρ S1))=λρ S=>(mi ρ S).bind λds S1=>forLoop (λd ρ S=>(g d ρ S).bind λρ1 S1=>mb ρ1 S1) ds ρ S1:=by
  funext ρ S;cases mi ρ S with
  |ok ds S1 =>
   show endG (λ_=>True) (forLoop (λd ρ S=>(grd (λ_=>True) S (g d ρ S)).bind λρ1 S1=>mb ρ1 S1) ds ρ S1)=_;rw[qh7];simp only[qc5]
  |err=>rfl
  |no=>rfl
 rw[<-e];exact h
def mRef(m:En->Sr->Res D):En->Sr->Res (List D×(Sr->Prop)):=λρ S=>(m ρ S).bind λx S1=>match refL x S1 with
 |some p=>.ok (p.2,own p.1 p.2) S1
 |none=>.no
theorem ql0(h:PE X e (T m)):PI X tg e (TIg (mRef m)):=PIimp (qbq h) λr H R f=>by
 obtain⟨ι,S,ρ,i,st,p⟩:=f;refine⟨ι,S,ρ,i,st,?_⟩;dsimp only[mRef]at p;cases z:m ρ S with
 |no=>rw[z]at p;exact p
 |err=>rw[z]at p;exact p
 |ok d S1 =>
  rw[z,Res.bind_ok]at p;intro v c j s1 b o;cases d with
  |ref n =>
   obtain⟨a,rfl,ha⟩:=o;cases zn:S1[n]? with
   |none=>simp only[refL,zn]at p
   |some so =>
    cases so with
    |lst l =>
     simp only[refL,zn]at p;obtain⟨_,xs,q,_⟩:=b.obj n a _ ha zn;exact .inl ⟨a,rfl,⟨xs,.inl (.inl q)⟩,p c j _ s1 b (qdM ha)⟩
    |dic l=>simp only[refL,zn]at p
    |dis l=>simp only[refL,zn]at p
  |_=>exact p.elim
end
def compCx(X:Cx)(sc:Scope)(cl:List (Str×Addr))(C:Addr)(N':List Str)(fp:List Addr)(s:Shared)(H:Hp):Cx :=
 {X with N:=N',s₀:=s,H₀:=H,env:=compEnvC sc cl C X.env,outer:=X.stack,ex:=fp,fn:=λ_=>false,pn:=[],xe:=λ_ _=>False}
structure Clos (X:Cx) (sc:Scope) (cl:List (Str×Addr)):Prop where
 eq:closureFor sc X.env=pure cl
 sub:∀x c,cl.lookup x=some c->X.env.cells.lookup x=some c
 all:∀x,sc.names.lookup x=some .free->∃c,cl.lookup x=some c
def qbr{env:Env}:∀(names:List (Str×NameKind)) (b:List (Str×Addr)),(∀x∈names,x.2=.free->∃c,env.cells.lookup x.1=some c) ->
  ∃cl,(forIn names b λ(p:Str×NameKind) (cs:List (Str×Addr))=>(if p.2 == NameKind.free then(do let a <-cellOf env p.1;pure (ForInStep.yield ((p.1,a)::cs)))else pure (ForInStep.yield cs):Sem (ForInStep (List (Str×Addr)))))=pure cl /\
   (∀x c,cl.lookup x=some c->env.cells.lookup x=some c\/b.lookup x=some c)/\(∀x c,b.lookup x=some c->(∃f,cl.lookup x=some f))/\(∀x∈names,x.2=.free->∃c,cl.lookup x.1=some c)
 |[],b,_=>⟨b,rfl,λx c h=>.inr h,λx c h=>⟨c,h⟩,λx h=>by cases h⟩
 | (n,k)::r,b,h=>by
  by_cases j:k=.free
  .subst j
   obtain⟨c,m⟩:=h (n,.free) wQ rfl;obtain⟨cl,e,i1,i2,l⟩:=qbr r ((n,c)::b) λx d=>h x (wO _ d)
   have e1:cellOf env n=pure c:=by unfold cellOf;rw[m]
   refine⟨cl,?_,λx f d=>?_,λx f d=>?_,λx d i=>?_⟩
   .rw [uW]
    simp only[beq_self_eq_true,v9,e1,pure_bind];exact e
   .rcases i1 x f d with z|z
    .exact .inl z
    .rw [vZ]at z
     cases q:x == n with
     |true=>rw[q]at z;cases z;rw[v8.mp q];exact .inl m
     |false=>rw[q]at z;exact .inr z
   .cases q:x == n with
    |true=>exact i2 x c (by rw[vZ,q])
    |false=>exact i2 x f (by rw[vZ,q];exact d)
   .rcases wR.mp d with z|z
    .subst z;exact i2 n c (by simp[vZ])
    .exact l x z i
  .have o:(k == NameKind.free)=false:=by simpa using j
   obtain⟨cl,e,i1,i2,l⟩:=qbr r b λx d=>h x (wO _ d)
   refine⟨cl,?_,i1,i2,λx d i=>?_⟩
   .rw [uW]
    simp only[o,wi,uO,pure_bind];exact e
   .rcases wR.mp d with z|z
    .subst z;exact absurd i j
    .exact l x z i
def j0{X:Cx}{sc:Scope}(h:∀x∈sc.names,x.2=.free->∃c,X.env.cells.lookup x.1=some c):∃cl,Clos X sc cl:=by
 obtain⟨cl,e,i1,i2,b⟩:=qbr (env:=X.env) sc.names [] h;refine⟨cl,⟨?_,λx c a=>?_,λx a=>?_⟩⟩
 .unfold closureFor
  show(forIn sc.names [] _ >>= λr=>pure r)=_;rw[bind_pure];exact e
 .rcases i1 x c a with z|z
  .exact z
  .cases z
 .exact b (x,.free) (vU a) rfl
def zN{env:Env}:∀{names:List (Str×NameKind)} {x:Str},(names.map λ(n,k)=>if(k == NameKind.free&&env.scope.kind == .function&&env.kindOf n == some .cell)then(n,NameKind.cell)else(n,k)).lookup x =
  (names.lookup x).map λk=>if(k == NameKind.free&&env.scope.kind == .function&&env.kindOf x == some .cell)then NameKind.cell else k
 |[],_=>rfl
 | (n,k)::r,x=>by
  show List.lookup x ((if(k == NameKind.free&&env.scope.kind == .function&&env.kindOf n == some .cell)=true then(n,NameKind.cell)else(n,k))::_)=_;have c:=@zN env r x;cases hx:x == n with
  |true =>
   have b:=v8.mp hx;subst b;by_cases a:(k == NameKind.free&&env.scope.kind == .function&&env.kindOf x == some .cell)=true
   .rw [wN a];simp only[vZ,hx,wu,wN a]
   .rw [wT a];simp only[vZ,hx,wu,wT a]
  |false =>
   by_cases a:(k == NameKind.free&&env.scope.kind == .function&&env.kindOf n == some .cell)=true
   .rw [wN a];simp only[vZ,hx];exact c
   .rw [wT a];simp only[vZ,hx];exact c
section
variable{X:Cx}{pos:Pos}
theorem qeU{sc:Scope}{fp:List Addr}(I:Inv X pins l H s)(n:sc.kind=.function)(a:∀y∈sc.names,y.2≠.cell)(i:Clos X sc cl)(j:∀b∈fp,FpOk X pins H b)(p:∀b∈fp,b<s.heap.objs.size):(compCx X sc cl s.heap.objs.size N' fp s H).Ok where
 mod:=I.ok.mod
 kind:=n
 glob:=I.ok.glob
 blt:=I.ok.blt
 above:=wJ _
 inj:=λx y c q r=>I.ok.inj x y c (i.sub x c q) (i.sub y c r)
 has:=λx d=>by
  have d:(relabel sc X.env).names.lookup x=some .cell\/(relabel sc X.env).names.lookup x=some .free:=d;have e:(relabel sc X.env).names.lookup x=_:=zN (env:=X.env) (names:=sc.names) (x:=x);rw[e]at d;cases z:sc.names.lookup x with
  |none=>rw[z]at d;simp at d
  |some k =>
   cases k with
   |free=>exact i.all x z
   |cell=>exact absurd rfl (a _ (vU z))
   |_=>rw[z]at d;simp at d
 cab:=λx c h _=>by cases h
 hd:=I.ok.hd
 frames:=I.ok.frames
 stk:=.inl rfl
 exf:=λb f=>⟨wa (p b f),λx c h=>(j b f).2.2.2.2.1 x c (i.sub x c h)⟩
 bs:=I.bs
 bsz:=vA I.ok.bsz I.sz
 noex:=λb o e f=>by
  rcases(j b f).2.2.2.1 with z|z
  .exact I.ok.noex b o e z
  .exact absurd (wX (wG e) (vA I.ok.bsz z)) (wh _)
 exfs:=λb f u=>by
  rcases wR.mp (I.stkSub b u)with z|z
  .exact (j b f).2.1 z
  .exact (j b f).2.2.1 z
 funs:=I.stack
 frf:=I.stkFree
 tab:=λc T z=>let ⟨ps,e⟩:=I.ok.tab c T z;let ⟨m,e'⟩:=I.base.tbls _ _ e;⟨_,e'⟩
structure Frs (X:Cx) (sc:Scope) (fr:List Nat) (xs ts:List Str):Prop where
 len:fr.length=xs.length
 at':∀(i j:Nat) (x:Str),fr[i]?=some j->xs[i]?=some x->X.N[j]?=some x
 kd:∀x∈xs,sc.names.lookup x=some .free/\(X.env.kindOf x=some .cell\/X.env.kindOf x=some .free)
 tl:∀x∈ts,sc.names.lookup x=some .local
 nd:(xs++ts).Nodup
def frS(a:St)(fr:List Nat)(nt:Nat):St:=fr.map (λi=>(a[i]?).getD none)++List.replicate nt none
theorem qdN(e:EnR ι H ρ a)(fr:List Nat)(nt:Nat):EnR ι H (frE ρ fr nt) (frS a fr nt):=by
 refine⟨by simp[frE,frS],λi d h=>?_⟩;unfold frE at h;unfold frS;by_cases hi:i<fr.length
 .rw [wL (by simpa using hi),w8,wD hi]at h
  rw[wL (by simpa using hi),w8,wD hi];simp only[wu,Option.some.injEq]at h ⊢;cases z:ρ[fr[i]]? with
  |none=>rw[z]at h;cases h
  |some o =>
   rw[z]at h;cases h;obtain⟨v,b,c⟩:=e.get _ d z;exact⟨v,by rw[b];rfl,c⟩
 .rw [wM (by simpa using hi),vH]at h
  split at h <;> cases h
theorem qag{sc:Scope}{fp:List Addr}(I:Inv X pins h H s)(M:sc.kind=.function)(f:∀y∈sc.names,y.2≠.cell)(j:Clos X sc cl)(N:∀b∈fp,FpOk X pins H b)(O:∀b∈fp,b<s.heap.objs.size)(F:Frs X sc fr xs ts){h':Heap}{tk:Nat}(hn:h'.Ns s.heap.objs.size m)(a:∀b o,s.heap.get? b=some o->h'.get? b=some o):
  Inv (compCx X sc cl s.heap.objs.size (xs++ts) fp s H) [] (frS h fr ts.length) H {s with heap:=h',toks:=tk}:=by
 refine⟨qeU I M f j N O,rfl,GK.refl I.bare.bare,Un.kept a,⟨m,hn,λi x v n d Z=>?_⟩,λx c e=>?_,I.hok.fresh (wJ _),λx c e=>I.freeC x c (j.sub x c e),λp P=>absurd (show p∈([]:List (Addr×Obj))from P) (by simp),I.hok.kept a,?_⟩
 .have n:(xs++ts)[i]?=some x:=n
  have d:(frS h fr ts.length)[i]?=some (some v):=d;unfold frS at d;by_cases hi:i<fr.length
  .rw [wL (by simpa using hi),w8,wD hi]at d
   rw[wL (by rw[<-F.len];exact hi)]at n;simp only[wu,Option.some.injEq]at d;have Q:=F.at' i fr[i] x (wD hi) n;have B:h[fr[i]]?=some (some v):=by
    cases z:h[fr[i]]? with
    |none=>rw[z]at d;cases d
    |some o=>rw[z]at d;simp at d;rw[d]
   obtain⟨E,J⟩:=F.kd x (w9 n);obtain⟨m0,S,C⟩:=I.loc;have w:Vis X.env.scope x:=by
    rcases J with z|z
    .exact .inr (.inl z)
    .exact .inr (.inr z)
   obtain⟨u,r,l⟩:=C fr[i] x v Q B w;refine⟨u,r,.inr ?_⟩;have U:∃c,X.env.cells.lookup x=some c/\s.heap.IsCell c (some u):=by
    rcases l with ⟨z,_⟩|⟨_,c,e1,A⟩
    .rcases J with q|q <;> (rw[z]at q;cases q)
    .exact ⟨c,e1,A⟩
   obtain⟨c,e1,o,A,W⟩:=U;obtain⟨Y,K⟩:=j.all x E;have L:=j.sub x Y K;rw[e1]at L;cases L;refine⟨?_,c,K,o,a _ _ A,W⟩;have e:(relabel sc X.env).names.lookup x=_:=zN (env:=X.env) (names:=sc.names) (x:=x);show(relabel sc X.env).names.lookup x=some .cell\/(relabel sc X.env).names.lookup x=some .free;rw[e,E];simp only[wu];split
   .exact .inl rfl
   .exact .inr rfl
  .rw [wM (by simpa using hi),vH]at d
   split at d <;> cases d
 .obtain ⟨v,o,e1,A⟩:=I.cell x c (j.sub x c e)
  exact⟨v,o,a _ _ e1,A⟩
 .show (frS h fr ts.length).length=(xs++ts).length
  simp[frS,F.len]
theorem qah{fp:List Addr}(I:Inv X pins l H s)(f:∀b∈fp,FpOk X pins H b)(J:Inv (compCx X sc cl s.heap.objs.size N' fp s H) [] j H' s')(p:Heap.SameBut s.heap.objs.size s'.heap h'):Inv X pins l H' {s' with heap:=h' }:=by
 have m:H' s.heap.objs.size=none:=J.free;have u:=J.base;have h:∀b o,b≠s.heap.objs.size->s'.heap.get? b=some o->h'.get? b=some o:=λb o a e=>p.extBut b o a e
 have ne:∀b o,s.heap.get? b=some o->b≠s.heap.objs.size:=λb o e=>wa (wG e)
 have un:Un (frs X.stack) fp H H' s.heap h':=⟨λb o e n a d=>h b o (ne b o e) (u.keep b o e n a d),λb o e n a d=>by
   obtain⟨sl,q⟩:=u.slot b o e n a d;exact⟨sl,h b _ (ne b o e) q⟩,λb o e n d=>u.free b o e n d,λb o e d=>by
   obtain⟨o',q⟩:=u.there b o e d;exact⟨o',h b o' (ne b o e) q⟩,u.tups,u.frzs,u.tbls⟩
 have hok:HOk X.prog X.w H' h':=λb o e=>(J.hok b o e).stay (λc w r q=>h c w (λz=>by
   subst z;rcases r with i|i
   .rw [<-i,m]at e;cases e
   .rw [m]at i;cases i) q) (λ_ q=>q) λ_ _ q=>q
 exact I.call' (s':={s' with heap:=h' }) (ch:=fp) J.os un hok J.bare λb a=>⟨(f b a).2.2.2.1,(f b a).2.1,(f b a).2.2.2.2.1,(f b a).2.2.2.2.2⟩
end
def thnF(h:wpAny M A t Q (λ_ _=>False) s)(c:∀a s,Q a s->Q' a s):wpAny M A t Q' E s:=wo h c λ_ _ x=>x.elim
section
variable{X:Cx}{pos:Pos}
def PTl(X:Cx)(ifs:List Expr)(t:TT):Prop:=∀(pins:List (Addr×Obj)) (s:Shared) (a:St) (H:Hp) (Q:Bool->Hp->Prop),Inv X pins a H s->t a H Q ->
 wpAny (model X.prog X.w) X.A (forIn ifs true λc r=>(if r=true then do let ok <-isTrue c X.env (eval c X.env);pure (ForInStep.yield ok)else pure (ForInStep.yield r):Sem (ForInStep Bool))) (TP X pins a Q) X.xe s
theorem qkc:PTl X [] (TB λ_ S=>.ok true S):=λpins s a H Q I h=>by
 obtain⟨ι,S,ρ,b,st,p⟩:=h;exact wC ⟨H,I,p true ι H (Stp.refl _ _) st rfl⟩
theorem qb7:∀(ifs:List Expr),Q false s->wpAny M A (forIn ifs false λc r=>(if r=true then do let ok <-isTrue c env (eval c env);pure (ForInStep.yield ok)else pure (ForInStep.yield r):Sem (ForInStep Bool))) Q E s
 |[],h=>wC h
 |c::r,h=>by
  rw[uW];refine wA ?_;rw[wT (by decide)];exact wC (qb7 r h)
theorem qh8(q:PT X c (TB m))(r:PTl X ifs (TB i)):PTl X (c::ifs) (TB λρ S=>(m ρ S).bind λt S1=>if t then i ρ S1 else .ok false S1):=λpins s j H Q I u=>by
 rw[uW];refine wA ?_;rw[wN rfl];obtain⟨ι,S,ρ,v,st,p⟩:=u;refine wA (thn (q pins s j H _ I (Pst.tg (ρ:=ρ) p v st (K:=λb d=>if b=true then TB i j d Q else Q false d) λa S1 f d b s1 l h w n=>?_)) λb s1 ⟨d,o,q1⟩=>?_)
 .cases (show a=b from w)
  cases a with
  |true=>rw[wN rfl];exact⟨f,S1,ρ,l,h,n⟩
  |false=>rw[wT (by decide)];exact n false f d (Stp.refl _ _) h rfl
 .refine wC ?_
  cases b with
  |true=>rw[wN rfl]at q1;exact r pins s1 j d Q o q1
  |false=>rw[wT (by decide)]at q1;exact qb7 ifs ⟨d,o,q1⟩
theorem qh9{tg elt iter:Expr}{ifs:List Expr}{sc:Scope}{J:It}{fp:List Addr}{it Z:Addr}{tn:Nat->Heap->Prop}{g:D->En->Sr->Res En}{mt:En->Sr->Res Bool}{me:En->Sr->Res D}{n:Nat}{ds:List D}{gd:Sr->Prop}{R:Result->Shared->Prop}(N:X.xe=λ_ _=>False)(hc:X.calm=true)(a4:X.ex=fp)(a5:X.pn=[])(T':Turn X.prog X.w X.K tg J fp it tn)(hg:PG X tg (TGt g))(ht:PTl X ifs (TB mt))(he:PE X elt (T me))(a6:∀d ρ S,¬gd S->g d ρ S=.no){ι:List Addr}{H:Hp}{S:Sr}{ρ O:En}{Sf:Sr}{σ:St}{s:Shared}(hD:ι[n]?=some Z)(ok:ItG ι H J ds gd)(I:Inv X [] σ H s)(h0:tn 0 s.heap)(a7:∀b∈fp,H b=none)(er:EnR ι H ρ σ)(st:Sto ι H S)(e:lcLoop n g mt me ds ρ S=.ok O Sf)(a8:gd Sf)(fin:∀(l:St) (H':Hp) (a:List Addr) (s':Shared),Inv X [] l H' s'->Stp ι H a H'->Sto a H' Sf->R (.ok .next) s'):
  codeAny (model X.prog X.w) X.A (.compLoop (.ListComp elt [⟨tg,iter,ifs,0⟩] sc pos) 0 (.ref it) (.ref Z) X.env) R s:=by
 refine codeAny_loop rfl (λk s'=>∃(i:Nat) (l:St) (H':Hp) (a:List Addr) (S':Sr) (ρ':En),k=ds.length-i/\i<=ds.length/\Inv X [] l H' s'/\tn i s'.heap/\(∀b∈fp,H' b=none)/\Stp ι H a H'/\EnR a H' ρ' l/\Sto a H' S'/\lcLoop n g mt me (ds.drop i) ρ' S'=.ok O Sf) ?_
  ds.length ⟨0,σ,H,ι,S,ρ,by simp,vN _,I,h0,a7,Stp.refl _ _,er,st,by simpa using e⟩
 rintro k s1 ⟨i,P,H1,B,S1,ρ1,rfl,hi,I1,t1,f1,p1,a9,Q,e1⟩;have F:∀{H':Hp},(∀b∈fp,H' b=none)->∀b∈fp,FpOk X [] H' b:=λhn b hb=>by
  have U:b∈X.ex:=by rw[a4];exact hb
  exact⟨hn b hb,(I.ok.exf b U).1,λz=>I.ok.exfs b U z,.inl U,(I.ok.exf b U).2,λp hp=>by rw[a5]at hp;exact absurd hp (by simp)⟩
 show wpAny _ X.A ((compTurn (.ListComp elt [⟨tg,iter,ifs,0⟩] sc pos) 0 (.ref it) (.ref Z) X.env).onRaise (λx=>do noteFrame x X.env;theTreesLotGoes x)) _ _ s1;refine wpAny_noted ?_;rw[compTurn_list];refine wA (v4 (wA ?_));by_cases a0:i<ds.length
 .have hd:ds[i]?=some ds[i]:=wD a0
  rw[ut a0]at e1;have aa:gd S1:=by
   apply Classical.byContradiction;intro hn;simp only[lcLoop,a6 _ _ _ hn,Res.bind_no]at e1;cases e1
  obtain⟨go,yl⟩:=ok.go i _ B H1 S1 p1 Q aa hd;refine thnF (T'.item X rfl rfl rfl hc i [] s1 P H1 _ I1 (F f1) t1 go) λr s2 ⟨u,hr,h2⟩=>?_
  subst hr;refine wA (thnF h2 λ_ s3 ⟨x,H3,I3,r3,y3,t3,f3⟩=>?_);obtain⟨q3,ab⟩:=yl x H3 y3;obtain⟨k3,d3⟩:=ab S1 Q;have ac:=I3.pinned (F f3) (T'.obj _ _ t3);simp only[lcLoop]at e1;cases z1:g ds[i] ρ1 S1 with
  |no=>rw[z1]at e1;cases e1
  |err=>rw[z1]at e1;cases e1
  |ok f S2 =>
   rw[z1,Res.bind_ok]at e1;refine wA (wo (hg _ s3 P H3 x u (λC H4=>∃h,Stp B H3 h H4/\Sto h H4 S2/\EnR h H4 f C) ac r3 ⟨B,S1,ρ1,ds[i],a9.mono q3,k3,d3,?_⟩) (λ_ s4 ⟨C,H4,I4,h,q4,a1,E⟩=>?_) λ_ _ z=>by rw[N]at z;exact z.elim)
   .rw [z1];exact λC h H4 q4 a1 E=>⟨h,q4,a1,E⟩
   cases z2:mt f S2 with
   |no=>rw[z2]at e1;cases e1
   |err=>rw[z2]at e1;cases e1
   |ok b S3 =>
    rw[z2,Res.bind_ok]at e1;refine wA (wo (ht _ s4 C H4 (λb' H5=>b'=b/\∃q,Stp h H4 q H5/\Sto q H5 S3) I4 ⟨h,S2,f,E,a1,?_⟩) (λb' s5 ⟨H5,I5,eb,q,q5,W⟩=>?_) λ_ _ z=>by rw[N]at z;exact z.elim)
    .rw [z2];exact λb' q H5 q5 W eb=>⟨(show b=b' from eb).symm,q,q5,W⟩
    subst eb;have L:∀{Y:St} {M:Hp} {s7:Shared} {c:List Addr} {S7:Sr},Inv X ([]++pinsAt fp s3.heap) Y M s7->Stp B H1 c M->EnR c M f Y->Sto c M S7->lcLoop n g mt me (ds.drop (i+1)) f S7=.ok O Sf ->
      ∃m,m<ds.length-i/\∃(i:Nat) (l:St) (H':Hp) (a:List Addr) (S':Sr) (ρ':En),m=ds.length-i/\i<=ds.length/\Inv X [] l H' s7/\tn i s7.heap/\(∀b∈fp,H' b=none)/\Stp ι H a H'/\EnR a H' ρ' l/\Sto a H' S'/\lcLoop n g mt me (ds.drop i) ρ' S'=.ok O Sf:=by
     intro Y M s7 c S7 I7 q7 ad a2 e7;refine⟨ds.length-(i+1),by omega,i+1,Y,M,c,S7,f,rfl,a0,I7.unpinned,T'.keep _ _ _ t3 λb hb o eo=>(I7.pin (b,o) (wU _ (wU _ (q9 hb eo)))).1,λb hb=>?_,p1.trans q7,ad,a2,e7⟩;obtain⟨o,eo,_⟩:=T'.obj _ _ t3 b hb;exact(I7.pin (b,o) (wU _ (wU _ (q9 hb eo)))).2.1
    cases b' with
    |false =>
     rw[wT (by decide)]at e1;exact wC ⟨rfl,L I5 ((q3.trans q4).trans q5) (E.mono q5) W e1⟩
    |true =>
     rw[wN rfl]at e1;cases z3:me f S3 with
     |no=>rw[z3]at e1;cases e1
     |err=>rw[z3]at e1;cases e1
     |ok v S4 =>
      rw[z3,Res.bind_ok]at e1;refine wA (wA (wo (he _ s5 C H5 (λy H6=>∃j,Stp q H5 j H6/\Sto j H6 S4/\Den j H6 v y) I5 ⟨q,S3,f,E.mono q5,W,?_⟩) (λy' s6 ⟨y,H6,I6,ry,j,q6,a3,dv⟩=>?_) λ_ _ z=>by rw[N]at z;exact z.elim))
      .rw [z3];exact λy j H6 q6 a3 dv=>⟨j,q6,a3,dv⟩
      cases z4:appD S4 (.ref n) v with
      |no=>rw[z4]at e1;cases e1
      |err=>rw[z4]at e1;cases e1
      |ok w S5 =>
       rw[z4,Res.bind_ok]at e1;have tot:=((q3.trans q4).trans q5).trans q6;have ae:j[n]?=some Z:=(p1.trans tot).get hD;refine wA (wo (jD (X:=X) _ s6 C H6 (.ref Z) [y] (.ref Z) [y'] (λ_ M=>∃c,Stp j H6 c M/\Sto c M S5) I6 rfl (.cons ry .nil) (qjc (x:=.ref n) a3 ⟨Z,rfl,ae⟩ dv ?_)) (λ_ s7 ⟨_,M,I7,_,c,q7,a2⟩=>?_) λ_ _ z=>by rw[N]at z;exact z.elim)
       .rw [z4];exact λb a H' s' af _=>⟨a,s',af⟩
       .exact wC (wC ⟨rfl,L I7 (tot.trans q7) ((E.mono (q5.trans q6)).mono q7) a2 e1⟩)
 .have ag:i=ds.length:=by omega
  subst ag;rw[vx (wJ _)]at e1;cases e1;refine thnF (T'.done X rfl rfl rfl hc _ [] s1 P H1 _ I1 (F f1) t1 (ok.stop B H1 _ p1 Q a8)) λr s2 ⟨hr,I2⟩=>?_
  subst hr;exact wC (fin P H1 B s2 I2 p1 Q)
structure Blk (X:Cx) (sc:Scope) (N':List Str) (tg:Expr) (ifs:List Expr) (elt:Expr) (g:D->En->Sr->Res En) (mt:En->Sr->Res Bool) (me:En->Sr->Res D):Prop where
 tg:∀cl C fp s H,PG (compCx X sc cl C N' fp s H) tg (TGt g)
 ifs:∀cl C fp s H,PTl (compCx X sc cl C N' fp s H) ifs (TB mt)
 elt:∀cl C fp s H,PE (compCx X sc cl C N' fp s H) elt (T me)
structure CSc (X:Cx) (sc:Scope) (fr:List Nat) (xs ts:List Str):Prop where
 kind:sc.kind=.function
 nocell:∀y∈sc.names,y.2≠.cell
 names:∀x∈sc.names,x.2=.local->sc.names.lookup x.1=some .local
 frees:∀x∈sc.names,x.2=.free->X.env.kindOf x.1=some .cell\/X.env.kindOf x.1=some .free
 frs:Frs X sc fr xs ts
def mLc(m:Bool)(fr:List Nat)(nt:Nat)(mi:En->Sr->Res (List D))(g:D->En->Sr->Res En)(mt:En->Sr->Res Bool)(me:En->Sr->Res D):En->Sr->Res D:=λρ S=>(mi ρ S).bind λds S1 =>
 (lcLoop S1.length g mt me ds (frE ρ fr nt) (S1++[.lst []])).bind λ_ S2=>lcEnd m S1.length S2
def mLcG(m:Bool)(fr:List Nat)(nt:Nat)(mi:En->Sr->Res (List D×(Sr->Prop)))(g:D->En->Sr->Res En)(mt:En->Sr->Res Bool)(me:En->Sr->Res D):En->Sr->Res D:=λρ S=>(mi ρ S).bind λp S1 =>
 (lcLoop S1.length (λd ρ S=>grd p.2 S (g d ρ S)) mt me p.1 (frE ρ fr nt) (S1++[.lst []])).bind λ_ S2=>grd p.2 S2 (lcEnd m S1.length S2)
theorem qje{m:Bool}{fr:List Nat}{nt:Nat}{mi:En->Sr->Res (List D)}{g:D->En->Sr->Res En}{mt:En->Sr->Res Bool}{me:En->Sr->Res D}:mLcG m fr nt (λρ S=>(mi ρ S).bind λds S1=>.ok (ds,λ_=>True) S1) g mt me=mLc m fr nt mi g mt me:=by
 funext ρ S;unfold mLcG mLc;dsimp only;cases mi ρ S with
 |ok ds S1 =>
  show((lcLoop S1.length (λd ρ S=>grd (λ_=>True) S (g d ρ S)) mt me ds (frE ρ fr nt) (S1++[.lst []])).bind λ_ S2=>grd (λ_=>True) S2 (lcEnd m S1.length S2))=_;simp only[qc5]
 |err=>rfl
 |no=>rfl
theorem qkd(h:PG X tg (TGt g)):PG X tg (TGt λd ρ S=>grd gd S (g d ρ S)):=PGimp h λv f H Q b=>by
 obtain⟨ι,S,ρ,d,c,st,hd,p⟩:=b;refine⟨ι,S,ρ,d,c,st,hd,?_⟩;dsimp only at p;by_cases a:gd S
 .rw [zo a]at p;exact p
 .rw [yG a]at p;exact p.elim
theorem qdO{tg elt iter:Expr}{ifs:List Expr}{sc:Scope}{fr:List Nat}{xs ts:List Str}{mi:En->Sr->Res (List D×(Sr->Prop))}{g:D->En->Sr->Res En}{mt:En->Sr->Res Bool}{me:En->Sr->Res D}{mm:Bool}(hc:X.calm=true)(hi:PI X tg iter (TIg mi))(hs:∀x,foldedSetIterable iter X.env x=pure x)(C':CSc X sc fr xs ts)(B:Blk X sc (xs++ts) tg ifs elt g mt me){pins:List (Addr×Obj)}{s:Shared}{L:St}{H:Hp}{Q:VK}{use:Option (Value->Sem Unit)}{Q':Value->Shared->Prop}(I:Inv X pins L H s)(hw:T (mLcG mm fr ts.length mi g mt me) L H Q)(fin:∀(D C:Addr) (H':Hp) (s':Shared) (m:Str->Option Value),s'.heap.Ns C m->C≠X.env.locals->(∀x c,X.env.cells.lookup x=some c->c≠C)->(H' C=none/\X.s₀.heap.objs.size<=C/\∀p∈X.pn++pins,p.1≠C)->(∀h',Heap.SameBut C s'.heap h'->Inv X pins L H' {s' with heap:=h' })->Q (.ref D) H'->compPost (model X.prog X.w) X.A X.xe use Q' (.ref D) C (.ok .next) s'):
  wpAny (model X.prog X.w) X.A (comprehension (.ListComp elt [⟨tg,iter,ifs,0⟩] sc pos) sc X.env (firstIterPos [⟨tg,iter,ifs,0⟩] pos) (newList []) false (eval iter X.env) use) Q' X.xe s:=by
 obtain⟨ι,S,ρ,er,st,p⟩:=hw;dsimp only[mLcG]at p;cases z:mi ρ S with
 |no=>rw[z]at p;exact p.elim
 |err=>rw[z]at p;exact p.elim
 |ok dg S1 =>
 obtain⟨ds,gd⟩:=dg;rw[z,Res.bind_ok]at p;dsimp only at p;cases z2:lcLoop S1.length (λd ρ S=>grd gd S (g d ρ S)) mt me ds (frE ρ fr ts.length) (S1++[.lst []])with
 |no=>rw[z2]at p;exact p.elim
 |err=>rw[z2]at p;exact p.elim
 |ok ab Sf =>
 rw[z2,Res.bind_ok]at p;have M:gd Sf:=by
  apply Classical.byContradiction;intro hn;rw[yG hn]at p;exact p
 rw[zo M]at p;obtain⟨cl,CL⟩:=j0 (X:=X) (sc:=sc) λx hx hf=>I.ok.has x.1 (C'.frees x hx hf)
 refine wpAny_comprehension_free rfl hs CL.eq C'.kind C'.names ?_;refine thn (hi pins s L H (λJ H2=>∃a,Stp ι H a H2/\Sto a H2 S1/\ItG a H2 J ds gd) I ⟨ι,S,ρ,er,st,?_⟩) λxv s1 h1=>thn h1 λac s2 h2=>?_
 .rw [z];exact λh H' J q f ok=>⟨h,q,f,ok⟩
 obtain⟨it,fp,tn,J,H2,e,I2,T',t2,f2,a,q2,F,a0⟩:=h2;subst e;refine w6 ?_;have N:H2 s2.heap.objs.size=none:=I2.hok.fresh (wJ _);have O:∀b∈fp,b<s2.heap.objs.size:=λb i=>by
  obtain⟨o,n,_⟩:=T'.obj _ _ t2 b i;exact wG n
 have K:Inv X pins L (upd H2 s2.heap.objs.size (.lst [])) {s2 with heap:=s2.heap.push {cls:=.type "list",dict:=none,data:=.seq ([]:List Value).toArray}} :=
  I2.laid (t':=s2.toks) (λb o e=>wB _ e) (wJ _) ⟨vN _,[],0,.nil,wH _ rfl⟩
 have f3:∀b∈fp,FpOk X pins (upd H2 s2.heap.objs.size (.lst [])) b:=λb i=>⟨by rw[qp (wa (O b i))];exact(f2 b i).1,(f2 b i).2⟩
 have Z:=Stp.grow (ι:=a) N (.lst []);have a1:Sto (a++[s2.heap.objs.size]) (upd H2 s2.heap.objs.size (.lst [])) (S1++[.lst []]):=F.grow N ⟨⟨a.length,by simp,rfl⟩,[],qH,rfl⟩;have P:(a++[s2.heap.objs.size])[S1.length]?=some s2.heap.objs.size:=by rw[<-F.len];simp
 generalize U:({s2 with heap:=s2.heap.push {cls:=.type "list",dict:=none,data:=.seq ([]:List Value).toArray}}:Shared)=s3 at K ⊢;have W:∀b∈fp,b<s3.heap.objs.size:=λb i=>by
  rw[<-U];show b<(s2.heap.push _).objs.size;rw[vW];exact uF (O b i)
 have t3:tn 0 s3.heap:=T'.keep _ _ _ t2 λb i o n=>by rw[<-U];exact wB _ n
 refine wpAny_newFunctionEnv C'.nocell (by intro y hy;simp at hy) (λh4 a2 a3=>?_) C'.kind;have r:∀b o,s3.heap.get? b=some o->h4.get? b=some o:=λb o n=>a3.extBut b o (wa (wG n)) (wB _ n)
 have I4:=qag (tk:=s3.toks+([]:List (Str×Value)).length) K C'.kind C'.nocell CL f3 W C'.frs a2 r;have t4:tn 0 h4:=T'.keep _ _ _ t3 λb i o n=>r b o n
 have a4:EnR (a++[s2.heap.objs.size]) (upd H2 s2.heap.objs.size (.lst [])) (frE ρ fr ts.length) (frS L fr ts.length):=(qdN er fr ts.length).mono (q2.trans Z);have E:codeAny (model X.prog X.w) X.A (.compLoop (.ListComp elt [⟨tg,iter,ifs,0⟩] sc pos) 0 (.ref it) (.ref s2.heap.objs.size) (compEnvC sc cl s3.heap.objs.size X.env)) (compPost (model X.prog X.w) X.A X.xe use Q' (.ref s2.heap.objs.size) s3.heap.objs.size) {s3 with heap:=h4,toks:=s3.toks+([]:List (Str×Value)).length}:=by
  refine qh9 (X:=compCx X sc cl s3.heap.objs.size (xs++ts) fp s3 (upd H2 s2.heap.objs.size (.lst []))) (pos:=pos) rfl hc rfl rfl T' (qkd (gd:=gd) (B.tg _ _ _ _ _)) (B.ifs _ _ _ _ _) (B.elt _ _ _ _ _) (λd ρ S hn=>yG hn _) P (a0.mono Z) I4 t4 (λb i=>(f3 b i).1) a4 a1 z2 M λad H' h s' J' q' f=>?_
  obtain⟨m',a5,_⟩:=J'.loc;refine fin s2.heap.objs.size s3.heap.objs.size H' s' m' a5 (vR K.lt) (λx c ec ez=>?_) ⟨J'.free,K.sz,λq hq ez=>by have:=wG (K.pin q hq).1;rw[ez]at this;exact absurd this (wh _)⟩ (λh5 a6=>qah K f3 J' a6) ?_
  .obtain ⟨v,o,n,_⟩:=K.cell x c ec
   rw[ez]at n;exact absurd (wG n) (wh _)
  .have u:h[S1.length]?=some s2.heap.objs.size:=q'.get P
   unfold lcEnd at p;cases mm with
   |true =>
    rw[wN rfl]at p;exact p _ h H' ((q2.trans Z).trans q') f ⟨_,rfl,u⟩
   |false =>
    rw[wT (by decide)]at p;by_cases hl:Sf.length=S1.length+1
    .rw [wN hl]at p
     split at p
     .rename_i l a7
      obtain⟨⟨n',a8,a9⟩,ys,h1,dl⟩:=f.obj _ _ _ u a7;obtain rfl:n'=S1.length:=zG f.nd a8 u;have en:S1.length=a.length:=F.len.symm;have qq:Stp ι H (h.take S1.length) H':=by rw[en];exact q2.trans (Z.trans q').less
      have Y:=f.less S1.length;refine p (.ref s2.heap.objs.size) _ H' qq Y ⟨_,ys,rfl,λhm=>?_,.inl h1,Dens.less l a9 dl⟩;obtain⟨j,hj,ej⟩:=uh hm;rw[wg]at hj;have aa:h[j]?=some s2.heap.objs.size:=by
       rw[List.getElem_take]at ej;rw[wD (by omega),ej]
      have:=zG f.nd aa u;omega
     .exact p.elim
    .rw [wT hl]at p;exact p.elim
 exact codeAny_compStart_list E (T'.self _ 0 _ _ _ t4 E)
theorem qjf{tg elt iter:Expr}{ifs:List Expr}{sc:Scope}{fr:List Nat}{xs ts:List Str}{mi:En->Sr->Res (List D×(Sr->Prop))}{g:D->En->Sr->Res En}{mt:En->Sr->Res Bool}{me:En->Sr->Res D}{b:Bool}(c:X.calm=true)(hi:PI X tg iter (TIg mi))(d:∀x,foldedSetIterable iter X.env x=pure x)(C':CSc X sc fr xs ts)(B:Blk X sc (xs++ts) tg ifs elt g mt me):
  PE X (.ListComp elt [⟨tg,iter,ifs,0⟩] sc pos) (T (mLcG b fr ts.length mi g mt me)):=λpins s i H Q I f=>by
 rw[eval_ListComp];refine qdO c hi d C' B I f λD C H' s' m hn _ _ _ h q=>⟨m,hn,λh' a=>⟨.ref D,H',h h' a,rfl,q⟩⟩
theorem qf2{tg elt iter:Expr}{ifs:List Expr}{sc:Scope}{fr:List Nat}{xs ts:List Str}{mi:En->Sr->Res (List D×(Sr->Prop))}{g:D->En->Sr->Res En}{mt:En->Sr->Res Bool}{me:En->Sr->Res D}{M:Bool}{i:Nat}{y:Str}{h c:Pos}(U:X.calm=true)(hi:PI X tg iter (TIg mi))(W:∀x,foldedSetIterable iter X.env x=pure x)(C':CSc X sc fr xs ts)(B:Blk X sc (xs++ts) tg ifs elt g mt me)(Y:X.N.Nodup)(Z:X.N[i]?=some y)(O:X.env.scope.names.lookup y=some .local)(n:swapsWith (.ListComp elt [⟨tg,iter,ifs,0⟩] sc pos) (some (.Name y h)) c.line X.env=pure true):
  PS X (.Assign [.Name y h] (.ListComp elt [⟨tg,iter,ifs,0⟩] sc pos) c) (TSm λρ S=>(mLcG M fr ts.length mi g mt me ρ S).bind λd S1=>.ok (.nx (ρ.set i (some d))) S1):=λpins s r H D I hw=>by
 obtain⟨ι,S,ρ,P,st,p⟩:=hw;rw[exec_Assign_Name_used _ _ _ _ n];refine wA (v4 (wA ?_));show wpAny _ X.A (do let _ <-comprehension (.ListComp elt [⟨tg,iter,ifs,0⟩] sc pos) sc X.env _ (newList []) false (eval iter X.env) (some (assign (.Name y h) X.env))) _ _ s;have hT:T (mLcG M fr ts.length mi g mt me) r H (λv u=>D.nx (r.set i (some v)) u):=⟨ι,S,ρ,P,st,PsF.bind p λa S1 w u b s1 E ra p1=>p1 w u (Stp.refl _ _) E _ ((P.mono s1).set ra)⟩;refine wA (wo (qdO (use:=some (assign (.Name y h) X.env)) (Q':=λ_ s'=>SP X pins D .next s') U hi W C' B I hT λQ C H' s' m hn j l f hI q=>?_) (λ_ s' hq=>wC (wC hq)) λ_ _ e=>e);show wpAny _ X.A (assign (.Name y h) X.env (.ref Q)) _ _ _;have I0:Inv X pins r H' s':=by
  have:=hI s'.heap (Heap.SameBut.refl ..);exact this
 refine wpAny_assign_Name (jB I0 Y Z (.inl O) (v:=.ref Q) rfl (λs'' F J=>?_) (.inr O));obtain⟨a,sb,ha⟩:=J;have K:C≠a:=by
  rcases ha with z|z
  .rw [z];exact j
  .exact λq=>l y a z q.symm
 refine⟨m,hn.sameBut sb K,λh' L=>?_⟩;have I3:=F.turned (h':=h') (t':=s''.toks) (it:=C) (λb o hb e=>L.extBut b o hb e) f.1 j (.inr f.2.1) l f.2.2;exact⟨_,H',I3,q⟩
theorem r_lc{tg elt iter:Expr}{ifs:List Expr}{sc:Scope}{fr:List Nat}{xs ts:List Str}{mi:En->Sr->Res (List D)}{g:D->En->Sr->Res En}{mt:En->Sr->Res Bool}{me:En->Sr->Res D}{a:Bool}(b:X.calm=true)(hi:PI X tg iter (TIt mi))(c:∀x,foldedSetIterable iter X.env x=pure x)(C':CSc X sc fr xs ts)(B:Blk X sc (xs++ts) tg ifs elt g mt me):
  PE X (.ListComp elt [⟨tg,iter,ifs,0⟩] sc pos) (T (mLc a fr ts.length mi g mt me)):=by
 rw[<-qje];exact qjf b (pi_g hi) c C' B
theorem qia{tg elt iter:Expr}{ifs:List Expr}{sc:Scope}{fr:List Nat}{xs ts:List Str}{mi:En->Sr->Res (List D)}{g:D->En->Sr->Res En}{mt:En->Sr->Res Bool}{me:En->Sr->Res D}{f:Bool}{i:Nat}{y:Str}{c a:Pos}(h:X.calm=true)(hi:PI X tg iter (TIt mi))(j:∀x,foldedSetIterable iter X.env x=pure x)(C':CSc X sc fr xs ts)(B:Blk X sc (xs++ts) tg ifs elt g mt me)(l:X.N.Nodup)(m:X.N[i]?=some y)(n:X.env.scope.names.lookup y=some .local)(b:swapsWith (.ListComp elt [⟨tg,iter,ifs,0⟩] sc pos) (some (.Name y c)) a.line X.env=pure true):
  PS X (.Assign [.Name y c] (.ListComp elt [⟨tg,iter,ifs,0⟩] sc pos) a) (TSm λρ S=>(mLc f fr ts.length mi g mt me ρ S).bind λd S1=>.ok (.nx (ρ.set i (some d))) S1):=by
 rw[<-qje];exact qf2 h (pi_g hi) j C' B l m n b
end
def Sg(M:Model)(B:Around)(a:End->Shared->Prop)(k:Code)(t:Sem Fin)(l:List Frame)(s:Shared):Prop:=∀G p,G.code=k->G.Woken B->∃x z,Runs M G p t l s x z/\a x z
section
variable{M:Model}{B:Around}{Φ:End->Shared->Prop}{k:Code}{l:List Frame}{s:Shared}
theorem qbs(h:wpAny M (B.over k l) m (λa z=>Sg M B Φ k (f a) l z) (λx z=>Sg M B Φ k (e x) l z) s):Sg M B Φ k (m.wrap f e gd lv) l s:=λG p d b=>by
 subst d;exact runs_wrap_of_wp f e gd lv m (h _ p (b.over l)) (λ_ q _ z=>z G q rfl b) λ_ q _ z=>z G q rfl b
theorem yd{d i:Type}{m:Sem d}{f:d->Sem i}{c:i->Sem Fin}{e':Value->Sem Fin}{gd:Bool->Bool}{lv:List Value->List Value}(h:wpAny M (B.over k l) m (λa z=>Sg M B Φ k ((f a).wrap c e' gd lv) l z) (λx z=>Sg M B Φ k (e' x) l z) s):Sg M B Φ k ((m >>= f).wrap c e' gd lv) l s:=by
 have q:=qbs (f:=λa=>(f a).wrap c e' gd lv) (e:=λx=>(Sem.raise x).wrap c e' gd lv) (gd:=λb=>gd (id b)) (lv:=λb=>lv (id b)) h
 rwa [Sem.bind_eq_wrap',Sem.wrap_wrap]
theorem yJ{a:Code}(b:a.quiet=true)(h:Sg M B Φ a (M.den a) l s):Sg M B Φ k (.pure (.again a)) l s:=λG p c d=>by
 subst c;have ⟨x,z,r,q⟩:=h (G.goto a) p rfl (d.goto a);exact⟨x,z,Runs.head (c₁:=a) (λ_ _ y=>.again b y) r,q⟩
theorem qke(r:Result)(h:Φ (.ret r) s):Sg M B Φ k (leafOf r) [] s:=λG p a b=>⟨_,s,Runs.leaf r,h⟩
theorem ql1(h:Sg M B Φ k (f ()) l s):Sg M B Φ k (.at a f) l s:=by
 have q:Sg M B Φ k ((standAt a).wrap f .raise id id) l s:=qbs (v4 h);exact q
theorem qf3(h:∀p,Φ (.susp v false vs f k p []) s):Sg M B Φ k (.yield v false vs f) [] s:=λG p a b=>by
 subst a;exact⟨_,s,Runs.yield' [] rfl,h p⟩
end
def Go(M:Model)(B:Around)(a:End->Shared->Prop)(s:Shared):GenState->Prop
 | .fresh k=>Sg M B a k (M.den k) [] s
 | .suspended f _ k _ l _=>Sg M B a k (f (.send .none)) l s
 |_=>False
def qf4{prog:Program}{w:World}{A:Around}{E:Value->Shared->Prop}{s:Shared}{a:Addr}{n:Nat}{gs:GenState}{h:End->Shared->Prop}{Q:Option Value->Shared->Prop}(C:A.handled=none)(F:s.heap.NoLimit)(hd:A.depth<recursionLimit)(ha:s.heap.IsGen a n)(m:s.gens[n]?=some gs)(c:Go (model prog w) A.in1 h (s.setGen n .running) gs)(u:∀x z,h x z->match x with
   | .ret r=>r=.ok .next/\∀h',(∀b o,z.heap.get? b=some o->h'.get? b=some o)->Q none {z.setGen n .finished with heap:=h' }
   | .susp v g vs f k p l=>(End.susp v g vs f k p l).quiet=true/\Q (some v) (z.setGen n (End.susp v g vs f k p l).genState)):
  wpAny (model prog w) A (pyNext (.ref a)) Q E s:=by
 have d:∀{y:Type} {l:List Value} {f:GenResult->Sem y} {R:y->Shared->Prop} {B:Value->Shared->Prop},(∀x z,h x z->x.quiet=true/\wpAny (model prog w) A.in1 (f x.result) R B (z.setGen n x.genState))->wpAny (model prog w) A.in1 (.resume n (.send .none) l f) R B s:=by
  intro y l f R B i G p j;rw[Sem.wp_resume];cases gs with
  |fresh k =>
   obtain⟨x,z,r,q⟩:=c (G.wake k p) p rfl (j.wake k p);exact⟨x.result,z.setGen n x.genState,by unfold Wakes;rw[m];exact⟨x,z,r,(i x z q).1,rfl,rfl⟩,(i x z q).2 G p j⟩
  |suspended L M k H I cl =>
   obtain⟨x,z,r,q⟩:=c (G.wake k p) H rfl (j.wake k p);exact⟨x.result,z.setGen n x.genState,by unfold Wakes;rw[m];exact⟨x,z,r,(i x z q).1,rfl,rfl⟩,(i x z q).2 G p j⟩
  |running=>exact c.elim
  |finished=>exact c.elim
 unfold pyNext;refine wA (uS ?_);refine wt (name:=Str.ofString "__next__") ha.typeIs slot_gen_next ?_;refine wz slot_gen_next ha.typeIs entry_gen_next (?_:wpAny _ A.in1 (Builtin.Generator.genWake (.ref a) (.send .none)) _ _ s) (args_gen_next _);unfold Builtin.Generator.genWake;refine wA (vE (wpAny_genNumber ha ?_));refine wA (wpAny_genState m ?_);have go:∀x z,h x z->x.quiet=true:=λx z q=>by
  cases x with
  |ret r=>rfl
  |susp v g vs f k p l=>exact(u _ _ q).1
 cases gs with
 |running=>exact c.elim
 |finished=>exact c.elim
 |_ =>
  refine wA (wpAny_roomToWake F hd (d λx z q=>⟨go x z q,?_⟩));cases x with
  |susp v g vs f k p l=>exact wC ⟨v,rfl,wC (u _ _ q).2⟩
  |ret r =>
   obtain⟨e,J⟩:=u _ _ q;subst e;show wpAny _ A.in1 (newExc (.type "StopIteration") [] >>= _) _ _ (z.setGen n .finished);refine wA ?_;unfold newExc newTuple;refine wA (w6 ?_ (by size_fits));refine wA (wpAny_of_eq (t:=firstArgMember _ _) (a:=Value.none) (by first|rfl|(simp only[firstArgMember];rfl)) ?_);refine w6 ?_ (by size_fits);unfold raiseNew;refine wA (wA (wpAny_handled ?_));rw[show A.in1.handled=none from C];refine wpAny_throw (wA (wpAny_isInstance (T:="StopIteration") (b:=true) ⟨_,wH _ rfl,rfl⟩ isSubtype_stop ?_));exact wC (J _ λb o K=>wB _ (wB _ K))
inductive GN where
 |fin (S:Sr)|yl (i:Nat) (ρ:En) (v:D) (S:Sr)|bad
def grdN(gu:Sr->Prop)(S:Sr)(r:GN):GN:=@ite _ (gu S) (Classical.propDecidable _) r .bad
def yV(h:gu S)(r:GN):grdN gu S r=r:=wN h
def jp(h:grdN gu S r≠.bad):gu S:=Classical.byContradiction λn=>h (wT n)
def gnx(gu:Sr->Prop)(g:D->En->Sr->Res En)(mt:En->Sr->Res Bool)(me:En->Sr->Res D):Nat->List D->En->Sr->GN
 |_,[],_,S=>grdN gu S (.fin S)
 |i,d::r,ρ,S=>grdN gu S <| match g d ρ S with
  | .ok ρ1 S1=>match mt ρ1 S1 with
   | .ok true S2=>match me ρ1 S2 with
    | .ok v a=>.yl (i+1) ρ1 v a
    |_=>.bad
   | .ok false S2=>gnx gu g mt me (i+1) r ρ1 S2
   |_=>.bad
  |_=>.bad
section
variable{X:Cx}{pos:Pos}
structure Sus (X:Cx) (J:It) (tn:Nat->Heap->Prop) (fp:List Addr) (ds:List D) (gu:Sr->Prop) (i:Nat) (ρ:En) (S:Sr) (ι:List Addr) (H:Hp) (pins:List (Addr×Obj)) (s:Shared):Prop where
 inv:∃σ,Inv X pins σ H s/\EnR ι H ρ σ
 sto:Sto ι H S
 at':tn i s.heap
 le:i<=ds.length
 fz:∀b∈fp,H b=none
 it:ItG ι H J ds gu
 pf:∀p∈pins,p.1∉fp
def Pw(X:Cx)(J:It)(tn:Nat->Heap->Prop)(fp:List Addr)(ds:List D)(gu:Sr->Prop)(M:Model)(B:Around)(g:D->En->Sr->Res En)(mt:En->Sr->Res Bool)(me:En->Sr->Res D):Nat->GenState->Nat->En->Sr->Prop
 |0,_,_,_,_=>True
 |n+1,gs,i,ρ,S=>∀pins ι H s,Sus X J tn fp ds gu i ρ S ι H pins s->gnx gu g mt me i (ds.drop i) ρ S≠.bad->Go M B (λx z=>match x with
  | .ret r=>r=.ok .next/\∃b a H' c,gnx gu g mt me i (ds.drop i) ρ S=.fin b/\Inv X pins c H' z/\Stp ι H a H'/\Sto a H' b
  | .susp v gd vs f k p l=>(End.susp v gd vs f k p l).quiet=true/\∃h ρ' d b a H' y,gnx gu g mt me i (ds.drop i) ρ S=.yl h ρ' d b/\Stp ι H a H'/\Den a H' d y/\RelV y v/\Sus X J tn fp ds gu h ρ' b a H' pins z /\
   Pw X J tn fp ds gu M B g mt me n (End.susp v gd vs f k p l).genState h ρ' b) s gs
def Pz(X:Cx)(J:It)(tn:Nat->Heap->Prop)(fp:List Addr)(ds:List D)(gu:Sr->Prop)(M:Model)(B:Around)(g:D->En->Sr->Res En)(mt:En->Sr->Res Bool)(me:En->Sr->Res D)(n:Nat)(i:GN)(pins:List (Addr×Obj))(ι:List Addr)(H:Hp):End->Shared->Prop:=λx z=>match x with
  | .ret r=>r=.ok .next/\∃b a H' c,i=.fin b/\Inv X pins c H' z/\Stp ι H a H'/\Sto a H' b
  | .susp v gd vs f k p l=>(End.susp v gd vs f k p l).quiet=true/\∃h ρ' d b a H' y,i=.yl h ρ' d b/\Stp ι H a H'/\Den a H' d y/\RelV y v/\Sus X J tn fp ds gu h ρ' b a H' pins z /\
   Pw X J tn fp ds gu M B g mt me n (End.susp v gd vs f k p l).genState h ρ' b
theorem qf5{tg elt iter:Expr}{ifs:List Expr}{sc:Scope}{J:It}{fp:List Addr}{it:Addr}{tn:Nat->Heap->Prop}{g:D->En->Sr->Res En}{mt:En->Sr->Res Bool}{me:En->Sr->Res D}{ds:List D}{gu:Sr->Prop}{B:Around}(P:X.xe=λ_ _=>False)(hc:X.calm=true)(a2:X.ex=fp)(a3:∀p∈X.pn,p.1∉fp)(hA:X.A=B.over (.compLoop (.GeneratorExp elt [⟨tg,iter,ifs,0⟩] sc pos) 0 (.ref it) .none X.env) [])(a5:X.env.scope.isCoroutine=false)(T':Turn X.prog X.w X.K tg J fp it tn)(hg:PG X tg (TGt g))(ht:PTl X ifs (TB mt))(he:PE X elt (T me)):∀(n m i:Nat) (ρ:En) (S:Sr) (pins:List (Addr×Obj)) (C:List Addr) (H0:Hp) (ι:List Addr) (H:Hp) (s:Shared),ds.length-i=m ->
   Sus X J tn fp ds gu i ρ S ι H pins s->Stp C H0 ι H->gnx gu g mt me i (ds.drop i) ρ S≠.bad ->
   Sg (model X.prog X.w) B (Pz X J tn fp ds gu (model X.prog X.w) B g mt me n (gnx gu g mt me i (ds.drop i) ρ S) pins C H0) (.compLoop (.GeneratorExp elt [⟨tg,iter,ifs,0⟩] sc pos) 0 (.ref it) .none X.env)
    ((model X.prog X.w).den (.compLoop (.GeneratorExp elt [⟨tg,iter,ifs,0⟩] sc pos) 0 (.ref it) .none X.env)) [] s:=by
 intro n;induction n using Nat.strongRecOn with
 |ind n a6 =>
 intro m;induction m with
 |zero =>
  intro i ρ S pins C H0 ι H s hm U q0 a;obtain⟨⟨σ,I,er⟩,st,t1,le,f1,ok,pf⟩:=U;have hi:i=ds.length:=by omega
  subst hi;have l:∀{H':Hp},(∀b∈fp,H' b=none)->∀b∈fp,FpOk X pins H' b:=λhn b a=>by
   have c:b∈X.ex:=by rw[a2];exact a
   exact⟨hn b a,(I.ok.exf b c).1,λz=>I.ok.exfs b c z,.inl c,(I.ok.exf b c).2,λp hp z=>(wb.mp hp).elim (λy=>a3 p y (z ▸ a)) λy=>pf p y (z ▸ a)⟩
  show Sg _ B _ _ ((compTurn (.GeneratorExp elt [⟨tg,iter,ifs,0⟩] sc pos) 0 (.ref it) .none X.env).onRaise (leaving X.env)) [] s;rw[compTurn_gen,Sem.onRaise_eq_wrap];refine yd (v4 (yd ?_));rw[<-hA];have E:gu S:=by
   rw[vx (wJ _)]at a;exact jp a
  refine thnF (T'.done X rfl rfl rfl hc _ pins s σ H _ I (l f1) t1 (ok.stop ι H S (Stp.refl _ _) st E)) λr s2 ⟨hr,I2⟩=>?_
  subst hr;refine qke (.ok .next) ⟨rfl,S,ι,H,σ,?_,I2,q0,st⟩;rw[vx (wJ _)];exact yV E _
 |succ m a7 =>
  intro i ρ S pins C H0 ι H s hm U q0 a;obtain⟨⟨σ,I,er⟩,st,t1,le,f1,ok,pf⟩:=U;have Q:i<ds.length:=by omega
  have l:∀{H':Hp},(∀b∈fp,H' b=none)->∀b∈fp,FpOk X pins H' b:=λhn b a=>by
   have c:b∈X.ex:=by rw[a2];exact a
   exact⟨hn b a,(I.ok.exf b c).1,λz=>I.ok.exfs b c z,.inl c,(I.ok.exf b c).2,λp hp z=>(wb.mp hp).elim (λy=>a3 p y (z ▸ a)) λy=>pf p y (z ▸ a)⟩
  have hd:ds[i]?=some ds[i]:=wD Q;have ed:ds.drop i=ds[i]::ds.drop (i+1):=ut Q;have E:gu S:=by
   rw[ed]at a;exact jp a
  obtain⟨go,yl⟩:=ok.go i _ ι H S (Stp.refl _ _) st E hd;show Sg _ B _ _ ((compTurn (.GeneratorExp elt [⟨tg,iter,ifs,0⟩] sc pos) 0 (.ref it) .none X.env).onRaise (leaving X.env)) [] s;rw[compTurn_gen,Sem.onRaise_eq_wrap];refine yd (v4 (yd ?_));rw[<-hA];refine thnF (T'.item X rfl rfl rfl hc i pins s σ H _ I (l f1) t1 go) λr s2 ⟨u,hr,h2⟩=>?_
  subst hr;refine yd ?_;rw[<-hA];refine thnF h2 λ_ s3 ⟨x,H3,I3,r3,y3,t3,f3⟩=>?_
  obtain⟨q3,a8⟩:=yl x H3 y3;obtain⟨k3,d3⟩:=a8 S st;have a9:=I3.pinned (l f3) (T'.obj _ _ t3);rw[ed]at a ⊢;unfold gnx at a ⊢;rw[yV E]at a ⊢;cases z1:g ds[i] ρ S with
  |no=>rw[z1]at a;exact absurd rfl a
  |err=>rw[z1]at a;exact absurd rfl a
  |ok d S2 =>
   rw[z1]at a;dsimp only at a ⊢;refine yd ?_;rw[<-hA];refine wo (hg _ s3 σ H3 x u (λF W=>∃f,Stp ι H3 f W/\Sto f W S2/\EnR f W d F) a9 r3 ⟨ι,S,ρ,ds[i],er.mono q3,k3,d3,?_⟩) (λ_ s4 ⟨F,W,I4,f,q4,Y,q⟩=>?_) λ_ _ z=>by rw[P]at z;exact z.elim
   .rw [z1];exact λF f W q4 Y q=>⟨f,q4,Y,q⟩
   cases z2:mt d S2 with
   |no=>rw[z2]at a;exact absurd rfl a
   |err=>rw[z2]at a;exact absurd rfl a
   |ok b S3 =>
    rw[z2]at a;refine yd ?_;rw[<-hA];refine wo (ht _ s4 F W (λb' Z=>b'=b/\∃h,Stp f W h Z/\Sto h Z S3) I4 ⟨f,S2,d,q,Y,?_⟩) (λb' s5 ⟨Z,I5,eb,h,O,M⟩=>?_) λ_ _ z=>by rw[P]at z;exact z.elim
    .rw [z2];exact λb' h Z O M eb=>⟨(show b=b' from eb).symm,h,O,M⟩
    subst eb;have sus:∀{N:St} {H7:Hp} {s7:Shared} {L:List Addr} {S7:Sr},Inv X (pins++pinsAt fp s3.heap) N H7 s7->Stp ι H L H7->EnR L H7 d N->Sto L H7 S7->Sus X J tn fp ds gu (i+1) d S7 L H7 pins s7:=by
     intro N H7 s7 L S7 I7 q7 aa ab;refine⟨⟨N,I7.unpinned,aa⟩,ab,T'.keep _ _ _ t3 λb a o eo=>(I7.pin (b,o) (wU _ (wU _ (q9 a eo)))).1,Q,λb a=>?_,ok.mono q7,pf⟩;obtain⟨o,eo,_⟩:=T'.obj _ _ t3 b a;exact(I7.pin (b,o) (wU _ (wU _ (q9 a eo)))).2.1
    cases b' with
    |false =>
     dsimp only at a ⊢;exact yJ rfl (a7 (i+1) d S3 pins C H0 h Z s5 (by omega) (sus I5 ((q3.trans q4).trans O) (q.mono O) M) (q0.trans ((q3.trans q4).trans O)) a)
    |true =>
     dsimp only at a ⊢;cases z3:me d S3 with
     |no=>rw[z3]at a;exact absurd rfl a
     |err=>rw[z3]at a;exact absurd rfl a
     |ok v S4 =>
      dsimp only;have hy:∀v,yieldOut X.env v=yieldValue v:=λv=>by simp only[yieldOut,a5,wi,uO]
      simp only[hy,v9];rw[Sem.bind_eq_wrap',Sem.bind_eq_wrap',Sem.wrap_wrap,Sem.wrap_wrap];refine qbs ?_;rw[<-hA];refine wo (he _ s5 F Z (λy H6=>∃j,Stp h Z j H6/\Sto j H6 S4/\Den j H6 v y) I5 ⟨h,S3,d,q.mono O,M,?_⟩) (λy' s6 ⟨y,H6,I6,ry,j,q6,a0,dv⟩=>?_) λ_ _ z=>by rw[P]at z;exact z.elim
      .rw [z3];exact λy j H6 q6 a0 dv=>⟨j,q6,a0,dv⟩
      have tot:=((q3.trans q4).trans O).trans q6;refine ql1 (qf3 λp=>⟨rfl,i+1,d,v,S4,j,H6,y,rfl,q0.trans tot,dv,ry,sus I6 tot (q.mono (O.trans q6)) a0,?_⟩);cases n with
      |zero=>trivial
      |succ n' =>
       intro a1 a4 H' s' U' c;exact yJ rfl (a6 n' (xC _) _ (i+1) d S4 a1 a4 H' a4 H' s' rfl U' (Stp.refl _ _) c)
end
section
variable{gu:Sr->Prop}{g:D->En->Sr->Res En}{mt:En->Sr->Res Bool}{me:En->Sr->Res D}
theorem qai:∀(l:List D) (i:Nat) (ρ:En) (S:Sr) {a:Nat} {ρ':En} {v:D} {b:Sr},gnx gu g mt me i l ρ S=.yl a ρ' v b->i<a/\a<=i+l.length
 |[],_,_,S,_,_,_,_,h=>by
  rw[show gnx gu g mt me _ [] _ S=grdN gu S (.fin S)from rfl,yV (jp (by rw[show grdN gu S (.fin S)=_ from h];intro z;cases z))]at h;cases h
 |d::r,i,ρ,S,a,ρ',v,b,h=>by
  unfold gnx at h;rw[yV (jp (by rw[h];intro z;cases z))]at h;split at h
  .split at h
   .split at h
    .cases h;simp
    .cases h
   .have:=qai r (i+1) _ _ h
    simp only[w4];lia
   .cases h
  .cases h
def gen1{a:Type}(step:a->D->Option (a ⊕ D))(fin:a->Option D)(rest:Nat->En->a->Sr->Res D)(b:a):GN->Res D
 | .fin S=>ofO (fin b) S
 | .yl i ρ v S=>match step b v with
  |some (.inl b')=>rest i ρ b' S
  |some (.inr x)=>.ok x S
  |none=>.no
 | .bad=>.no
theorem qdP{c:Type}{step:c->D->Option (c ⊕ D)}{fin:c->Option D}:∀(l:List D) (i:Nat) (ρ:En) (b:c) (S:Sr) {d:D} {f:Sr},genLoopG gu g mt me step fin l ρ b S=.ok d f ->
  gen1 step fin (λj ρ b S=>genLoopG gu g mt me step fin (l.drop (j-i)) ρ b S) b (gnx gu g mt me i l ρ S)=.ok d f
 |[],_,_,_,S,d,f,h=>by
  have a:gu S:=Classical.byContradiction λn=>by
   unfold genLoopG at h;rw[yG n]at h;cases h
  unfold genLoopG at h;rw[zo a]at h;unfold gnx;rw[yV a];exact h
 |x::r,i,ρ,b,S,d,f,h=>by
  have a:gu S:=Classical.byContradiction λn=>by
   unfold genLoopG at h;rw[yG n]at h;cases h
  unfold genLoopG at h;rw[zo a]at h;unfold gnx;rw[yV a];cases z1:g x ρ S with
  |no=>rw[z1]at h;cases h
  |err=>rw[z1]at h;cases h
  |ok ρ1 S1 =>
   rw[z1,Res.bind_ok]at h;dsimp only;cases z2:mt ρ1 S1 with
   |no=>rw[z2]at h;cases h
   |err=>rw[z2]at h;cases h
   |ok t S2 =>
    rw[z2,Res.bind_ok]at h;cases t with
    |true =>
     rw[wN rfl]at h;dsimp only;cases z3:me ρ1 S2 with
     |no=>rw[z3]at h;cases h
     |err=>rw[z3]at h;cases h
     |ok v m =>
      rw[z3,Res.bind_ok]at h;have e:i+1-i=1:=by lia
      simp only[gen1,e,uP,u7];exact h
    |false =>
     rw[wT (by decide)]at h;dsimp only;have q:=qdP r (i+1) ρ1 b S2 h;cases z4:gnx gu g mt me (i+1) r ρ1 S2 with
     |fin m=>rw[z4]at q;exact q
     |bad=>rw[z4]at q;cases q
     |yl j ρ' v m =>
      rw[z4]at q;have:=qai r (i+1) ρ1 S2 z4;have e:j-i=j-(i+1)+1:=by lia
      simp only[gen1]at q ⊢;rw[e,uP];exact q
theorem yK{a:Type}{step:a->D->Option (a ⊕ D)}{fin:a->Option D}{ds:List D}{gu:Sr->Prop}{i:Nat}{ρ:En}{b:a}{S:Sr}{d:D}{c:Sr}(h:genLoopG gu g mt me step fin (ds.drop i) ρ b S=.ok d c):
  gen1 step fin (λj ρ b S=>genLoopG gu g mt me step fin (ds.drop j) ρ b S) b (gnx gu g mt me i (ds.drop i) ρ S)=.ok d c:=by
 have q:=qdP _ i ρ b S h;cases z:gnx gu g mt me i (ds.drop i) ρ S with
 |fin f=>rw[z]at q;exact q
 |bad=>rw[z]at q;cases q
 |yl j ρ' v f =>
  rw[z]at q;have:=qai _ i ρ S z;simp only[gen1]at q ⊢;rw[List.drop_drop]at q;have e:i+(j-i)=j:=by lia
  rw[e]at q;exact q
end
def qib{s:Shared}{n:Nat}:(s.setGen n x).setGen n y=s.setGen n y:=by
 unfold Shared.setGen;simp
def GK.done{a g:Array GenState}(h:GK (a.push .running) (g.setIfInBounds a.size .running))(e:g[a.size]?=some x)(b:x.bare=true):GK a g:=by
 refine⟨λy c=>?_,?_,λi hi=>?_⟩
 .obtain ⟨i,hi,rfl⟩:=Array.mem_iff_getElem.mp c
  by_cases q:i=a.size
  .subst q
   rw[uN hi]at e;cases e;exact b
  .refine h.bare _ ?_
   have:(g.setIfInBounds a.size .running)[i]'(by simpa using hi)=g[i]:=by
    rw[ui];rw[wT (Ne.symm q)]
   rw[<-this];exact Array.getElem_mem _
 .have:=h.sz
  simp at this;lia
 .have:=h.old i (by simp;lia)
  rw[Array.getElem?_setIfInBounds_ne (by lia)]at this;rw[this,Array.getElem?_push_lt hi];exact(uN hi).symm
def qf6(I:Inv X pins a H s)(h:GK X.s₀.gens g'):Inv X pins a H {s with gens:=g' } :=
 ⟨I.ok,I.os,h,I.base,I.loc,I.cell,I.free,I.freeC,I.pin,I.hok,I.len⟩
section
variable{X:Cx}
structure Cs (X:Cx) (J:It) (tn:Nat->Heap->Prop) (fp:List Addr) (ds:List D) (gu:Sr->Prop) (B:Around) (g:D->En->Sr->Res En) (mt:En->Sr->Res Bool) (me:En->Sr->Res D) (n k i:Nat) (ρ:En) (S:Sr) (ι:List Addr) (H:Hp) (pins:List (Addr×Obj)) (s:Shared):Prop where
 sus:Sus X J tn fp ds gu i ρ S ι H pins (s.setGen n .running)
 st:∃gs,s.gens[n]?=some gs/\gs.bare=true/\Pw X J tn fp ds gu (model X.prog X.w) B g mt me k gs i ρ S
theorem qdQ{J:It}{tn:Nat->Heap->Prop}{fp:List Addr}{ds:List D}{gu:Sr->Prop}{A:Around}{g:D->En->Sr->Res En}{mt:En->Sr->Res Bool}{me:En->Sr->Res D}{n k i:Nat}{ρ:En}{S:Sr}{ι:List Addr}{H:Hp}{pins:List (Addr×Obj)}{s:Shared}{a:Addr}{o:Obj}{B:Array GenState}{Q:Option Value->Shared->Prop}{E:Value->Shared->Prop}(Y:A.handled=none)(hd:A.depth<recursionLimit)(Z:(a,o)∈X.pn)(hg:∀h:Heap,h.get? a=some o->h.IsGen a n)(L:X.s₀.gens=B.push .running)(hn:n=B.size)(C:Cs X J tn fp ds gu A.in1 g mt me n (k+1) i ρ S ι H pins s)(hb:gnx gu g mt me i (ds.drop i) ρ S≠.bad)(fin:∀m c H' b z,gnx gu g mt me i (ds.drop i) ρ S=.fin m->Inv X pins b H' (z.setGen n .running)->GK B z.gens->Stp ι H c H'->Sto c H' m->Q none z)(yl:∀K ρ' d m c H' y v z,gnx gu g mt me i (ds.drop i) ρ S=.yl K ρ' d m->Stp ι H c H'->Den c H' d y->RelV y v->Cs X J tn fp ds gu A.in1 g mt me n k K ρ' m c H' pins z->Q (some v) z):
  wpAny (model X.prog X.w) A (pyNext (.ref a)) Q E s:=by
 obtain⟨U,gs,hs,a0,pw⟩:=C;obtain⟨⟨σ,I,er⟩,_⟩:=id U;have hp:s.heap.get? a=some o:=(I.pin (a,o) (ws _ Z)).1;refine qf4 Y I.nolimit hd (hg _ hp) hs (pw pins ι H _ U hb) λx z q=>?_
 have hsz:∀{b:St} {H':Hp},Inv X pins b H' z->z.gens[n]?=some .running/\n<z.gens.size:=λ{b H'} J=>by
  have e:=J.bare.old n (by rw[L,hn];simp);rw[L,hn]at e;rw[hn];have u:(B.push GenState.running)[B.size]?=some .running:=by simp
  rw[u]at e;exact⟨e,by
   rcases Nat.lt_or_ge B.size z.gens.size with M|M
   .exact M
   .rw [xH M]at e;cases e⟩
 have bk:∀{b:St} {H':Hp} (y:GenState),Inv X pins b H' z->Inv X pins b H' ((z.setGen n y).setGen n .running):=λ{b H'} y J=>by
  rw[qib];have e:(z.gens.setIfInBounds n .running)=z.gens:=by
   obtain⟨e1,u⟩:=hsz J;apply Array.ext
   .simp
   .intro j h1 h2
    rw[ui];split
    .rename_i q
     subst q;rw[uN u]at e1;exact(Option.some.inj e1).symm
    .rfl
  have:=qf6 J (g':=z.gens.setIfInBounds n .running) (by rw[e];exact J.bare);exact this
 cases x with
 |ret r =>
  obtain⟨e,m,c,H',b,e1,J,s1,N⟩:=q;refine⟨e,λh' hk=>fin m c H' b _ e1 ?_ ?_ s1 N⟩
  .have:=(bk .finished J).kept (h':=h') (t':=z.toks) hk
   exact this
  .refine GK.done (x:=.finished) (g:=(z.gens.setIfInBounds n .finished)) ?_ ?_ rfl
   .have:=(bk .finished J).bare
    rw[L]at this;rw[<-hn];exact this
   .rw [<-hn]
    obtain⟨_,u⟩:=hsz J;simp[u]
 |susp v gd vs f k' p l =>
  obtain⟨P,K,ρ',d,m,c,H',y,e1,s1,dv,ry,W,O⟩:=q;refine⟨P,yl K ρ' d m c H' y v _ e1 s1 dv ry ⟨?_,_,?_,End.bare_of_quiet P,O⟩⟩
  .obtain ⟨⟨b,J,F⟩,a1,a2,a3,a4,a5,a6⟩:=W
   exact⟨⟨b,bk _ J,F⟩,a1,a2,a3,a4,a5,a6⟩
  .obtain ⟨⟨b,J,F⟩,_⟩:=W
   obtain⟨_,u⟩:=hsz J;show(z.gens.setIfInBounds n _)[n]?=_;simp[u]
end
section
variable{X:Cx}{pos:Pos}
theorem qc6{K:PySem.W.Frag}{h:Heap}(kin:K.In h){c T:Addr}{ps:Array Value}(e:codeTab K c T=true)(n:h.get? T=some {cls:=.none,data:=.fields ps})(tr:TriplesOk ps.toList):h.IsCode c T ps/\h.TableAt c T ps:=by
 unfold codeTab at e;split at e
 .rename_i cls d vs sl p
  simp only[wP,v8]at e;obtain⟨⟨e1,_⟩,i⟩:=e;split at i
  .rename_i a b v w x y A B C j f l q r m
   simp only[wP,v8,bne_iff_ne]at i;obtain⟨⟨s,u⟩,ne⟩:=i;subst s;subst u;have o:=kin _ _ p;exact⟨⟨_,vs,_,_,_,_,_,_,_,_,o,rfl,j,l,q,r,m,n,rfl,tr,ne⟩,⟨_,vs,o,e1,rfl,f⟩,n⟩
  .cases i
 .cases e
theorem qf7{M:Model}{A:Around}{E:Value->Shared->Prop}{pins:List (Addr×Obj)}{F:St}{H:Hp}{s:Shared}{c T:Addr}{q:Str}{sc:Scope}(I:Inv X pins F H s)(P:X.env.code=.ref c)(Q:codeTab X.K c T=true):
  wpAny M A (genexprCode X.env pos q sc) (λ_ s'=>∃H',Inv X pins F H' s'/\s'.gens=s.gens/\(∀ι,Stp ι H ι H')/\(∀ι S,Sto ι H S->Sto ι H' S)/\∀b o,s.heap.get? b=some o->H b=none->s'.heap.get? b=some o/\H' b=none) E s:=by
 obtain⟨p,W⟩:=I.ok.tab c T Q;obtain⟨mo,B⟩:=I.base.tbls T p W;generalize p++mo=ps at B;obtain⟨Y,tr⟩:=I.hok T _ B;obtain⟨ic,Z⟩:=qc6 I.kIn Q Y tr;cases z:codeAmong pos ps.toList with
 |some v=>exact wpAny_genexprCode_hit P ic z ⟨H,I,rfl,λ_=>Stp.refl _ _,λ_ _ x=>x,λb o e n=>⟨e,n⟩⟩
 |none =>
  refine wpAny_genexprCodeX P ic Z z λU h' tk i _ _ C _ h _=>?_
  generalize J:ps++#[rawInt pos.line,rawInt pos.col,.ref U]=ps' at C h;have f:∀{b:Addr} {u:HO},H b=some u->(∀x,u≠.tbl x)->b≠T:=λ{b u} e n z=>by
   subst z;rw[B]at e;cases e;exact n _ rfl
  have j:∀{b:Addr},H b=none->b≠T:=λ{b} e z=>by subst z;rw[B]at e;cases e
  have L:TriplesOk ps'.toList:=by
   obtain⟨_,_,_,_,_,_,_,_,_,_,_,_,_,_,_,_,_,e1,N,t,_⟩:=C;exact t
  have O:HOk X.prog X.w (upd H T (.tbl ps')) h':=λb u e=>by
   by_cases q:b=T
   .subst q
    rw[qH]at e;cases e;exact⟨h.2,L⟩
   .rw [qp q]at e
    refine(I.hok b u e).stay (λd v hd eo=>i d v ?_ eo) (λd e'=>by rw[qp (f e' (by intro _ z;cases z))];exact e') λd xs e'=>by rw[qp (f e' (by intro _ z;cases z))];exact e'
    rcases hd with y|y
    .subst y;exact q
    .exact f y (by intro _ z;cases z)
  have I':Inv X pins F (upd H T (.tbl ps')) {s with heap:=h',toks:=tk}:=by
   refine I.step (g':=s.gens) (d':=s.drawn) (ch:=[]) (λ_ z=>nomatch z) (λb o _ _ _ e n=>i b o (j n) e) (λb o _ _ _ e n=>⟨o.slots,i b o (j n) e⟩) (λb o _ e n=>by rw[qp (j n)];exact n)
    (λb o _ e=>?_) (λb xs e=>by rw[qp (f e (by intro _ z;cases z))];exact e) (λb o u e=>by rw[qp (f e (by intro _ z;cases z))];exact e) (λb qs e=>?_) (λm hm=>?_) O I.bare.self
   .by_cases q:b=T
    .subst q;exact⟨_,h.2⟩
    .exact ⟨o,i b o q e⟩
   .by_cases q:b=T
    .subst q
     rw[B]at e;cases e;exact⟨#[rawInt pos.line,rawInt pos.col,.ref U],by rw[qH,<-J]⟩
    .exact ⟨#[],by rw[qp q,e];simp⟩
   .obtain ⟨o,es,ep,ho,r⟩:=hm
    exact⟨o,es,ep,i _ o (j I.free) ho,r⟩
  have sp:∀ι,Stp ι H ι (upd H T (.tbl ps')):=λι=>⟨ua _,λ_ m=>.inl m,λa u e _ nt=>by
    rw[qp (f e (by intro x z;subst z;exact nt))];exact e,λa e=>by
    by_cases q:a=T
    .subst q;rw[qH];simp
    .rw [qp q];exact e⟩
  refine⟨_,I',rfl,sp,λι S st=>⟨st.len,st.nd,λn a so e1 N=>(st.obj n a so e1 N).mono (sp ι) ?_⟩,λb o e n=>⟨i b o (j n) e,by rw[qp (j n)];exact n⟩⟩;have k:=st.obj n a so e1 N;cases so with
  |lst l=>obtain⟨_,xs,e,_⟩:=k;rw[qp (f e (by intro _ z;cases z))]
  |dic l=>obtain⟨_,xs,e,_⟩:=k;rw[qp (f e (by intro _ z;cases z))]
  |dis l=>obtain⟨_,xs,e,_⟩:=k;rw[qp (f e (by intro _ z;cases z))]
theorem qic(I:Inv X pins a H s)(h:Q builtinsNs s):wpAny M A (builtinsFor X.env.globals X.env.builtins) Q E s:=by
 obtain⟨bm,ob,e1,b,c,d,f,i⟩:=I.ok.mod.bmod;rw[I.ok.glob];exact wpAny_builtinsFor (I.ok.mod.glob.keeps I.bk) e1 b (I.bk _ _ c) d f i h
def genCx(X:Cx)(sc:Scope)(cl:List (Str×Addr))(C:Addr)(code:Value)(N':List Str)(fp:List Addr)(ge:Expr)(it:Addr)(o:Addr×Obj)(s:Shared)(H:Hp):Cx :=
 {X with A:=X.A.in4.in1.over (.compLoop ge 0 (.ref it) .none (genEnv sc cl C code builtinsNs X.env)) [],N:=N',s₀:={s with gens:=s.gens.push .running},H₀:=H,env:=genEnv sc cl C code builtinsNs X.env,outer:=X.stack,stack:=genEnv sc cl C code builtinsNs X.env::X.stack,ex:=fp,fn:=λ_=>false,pn:=[o],xe:=λ_ _=>False}
theorem qf8{sc:Scope}{cl:List (Str×Addr)}{code:Value}{N':List Str}{fp:List Addr}{tg elt iter:Expr}{ifs:List Expr}{it:Addr}{o:Addr×Obj}{pins:List (Addr×Obj)}{l:St}{H:Hp}{s:Shared}(I:Inv X pins l H s)(n:sc.kind=.function)(a:∀y∈sc.names,y.2≠.cell)(f:Clos X sc cl)(i:∀b∈fp,FpOk X pins H b)(p:∀b∈fp,b<s.heap.objs.size):(genCx X sc cl s.heap.objs.size code N' fp (.GeneratorExp elt [⟨tg,iter,ifs,0⟩] sc pos) it o s H).Ok where
 mod:=I.ok.mod
 kind:=n
 glob:=I.ok.glob
 blt:=rfl
 above:=wJ _
 inj:=λx y c q r=>I.ok.inj x y c (f.sub x c q) (f.sub y c r)
 has:=λx j=>by
  have j:sc.names.lookup x=some .cell\/sc.names.lookup x=some .free:=j;rcases j with z|z
  .exact absurd rfl (a _ (vU z))
  .exact f.all x z
 cab:=λx c h _=>by cases h
 hd:=λh=>I.ok.hd h
 frames:=by
  unfold genCx Around.over;dsimp only[uo,envsOf,List.filter_nil,List.filterMap_nil,pushEnvs];rw[I.ok.frames];rfl
 stk:=.inr ⟨rfl,rfl⟩
 exf:=λb d=>⟨wa (p b d),λx c h=>(i b d).2.2.2.2.1 x c (f.sub x c h)⟩
 bs:=I.bs
 bsz:=vA I.ok.bsz I.sz
 noex:=λb o e d=>by
  rcases(i b d).2.2.2.1 with z|z
  .exact I.ok.noex b o e z
  .exact absurd (wX (wG e) (vA I.ok.bsz z)) (wh _)
 exfs:=λb d u=>by
  rcases wR.mp (I.stkSub b u)with z|z
  .exact (i b d).2.1 z
  .exact (i b d).2.2.1 z
 funs:=I.stack
 frf:=I.stkFree
 tab:=λc T z=>let ⟨ps,e⟩:=I.ok.tab c T z;let ⟨m,e'⟩:=I.base.tbls _ _ e;⟨_,e'⟩
end
section
variable{X:Cx}{pos:Pos}
theorem qeV{tg elt iter:Expr}{ifs:List Expr}{sc:Scope}{J:It}{fp:List Addr}{it:Addr}{tn:Nat->Heap->Prop}{g:D->En->Sr->Res En}{mt:En->Sr->Res Bool}{me:En->Sr->Res D}{ds:List D}{gu:Sr->Prop}{B:Around}(b:X.xe=λ_ _=>False)(h:X.calm=true)(c:X.ex=fp)(d:∀p∈X.pn,p.1∉fp)(i:X.A=B.over (.compLoop (.GeneratorExp elt [⟨tg,iter,ifs,0⟩] sc pos) 0 (.ref it) .none X.env) [])(f:X.env.scope.isCoroutine=false)(T':Turn X.prog X.w X.K tg J fp it tn)(j:PG X tg (TGt g))(l:PTl X ifs (TB mt))(n:PE X elt (T me))(ρ:En)(S:Sr):∀k,Pw X J tn fp ds gu (model X.prog X.w) B g mt me k (.fresh (.compStart (.GeneratorExp elt [⟨tg,iter,ifs,0⟩] sc pos) 0 (.ref it) .none X.env)) 0 ρ S
 |0=>trivial
 |k+1=>by
  intro pins ι H s U o;have a:=qf5 b h c d i f T' j l n k _ 0 ρ S pins ι H ι H s rfl U (Stp.refl _ _) o;have t0:=U.at';show Sg _ B (Pz X J tn fp ds gu _ B g mt me k _ pins ι H) _ ((compStart (.GeneratorExp elt [⟨tg,iter,ifs,0⟩] sc pos) 0 (.ref it) .none X.env).onRaise (leaving X.env)) [] s;unfold compStart;rw[Sem.onRaise_eq_wrap];refine yd (m:=ask) (wpAny_askSetting ?_);split
  .exact yJ rfl a
  .refine yd (u4 ?_)
   first
    |exact yd (v4 (yd (T'.self _ 0 s _ _ t0 (yJ rfl a))))
    | (show Sg _ B _ _ ((standAt iter.pos >>= _).wrap _ _ _ _) [] s
       exact yd (v4 (yd (T'.self _ 0 s _ _ t0 (yJ rfl a)))))
structure BlkG (X:Cx) (sc:Scope) (N':List Str) (tg iter:Expr) (ifs:List Expr) (elt:Expr) (pos:Pos) (g:D->En->Sr->Res En) (mt:En->Sr->Res Bool) (me:En->Sr->Res D):Prop where
 rt:∀cl C code fp it o s H,PG (genCx X sc cl C code N' fp (.GeneratorExp elt [⟨tg,iter,ifs,0⟩] sc pos) it o s H) tg (TGt g)
 ri:∀cl C code fp it o s H,PTl (genCx X sc cl C code N' fp (.GeneratorExp elt [⟨tg,iter,ifs,0⟩] sc pos) it o s H) ifs (TB mt)
 re:∀cl C code fp it o s H,PE (genCx X sc cl C code N' fp (.GeneratorExp elt [⟨tg,iter,ifs,0⟩] sc pos) it o s H) elt (T me)
def GH(X:Cx)(pins:List (Addr×Obj))(l:St)(ds:List D)(gu:Sr->Prop)(g:D->En->Sr->Res En)(mt:En->Sr->Res Bool)(me:En->Sr->Res D)(a:Addr)(ρ:En)(S:Sr)(ι:List Addr)(H:Hp)(s:Shared):Prop :=
 ∃sc cl C code N' fp ge it o d j J tn,(∀h:Heap,h.get? a=some o->h.IsGen a d.gens.size)/\(∀k,Cs (genCx X sc cl C code N' fp ge it (a,o) d j) J tn fp ds gu X.A.in4.in1 g mt me d.gens.size k 0 ρ S ι H [] s)/\(∀b∈fp,b<s.heap.objs.size) /\
  (∀i h h',tn i h->(∀b∈fp,∀o,h.get? b=some o->h'.get? b=some o)->tn i h') /\
  ∀c f H' z,Inv (genCx X sc cl C code N' fp ge it (a,o) d j) c f H' (z.setGen d.gens.size .running)->GK d.gens z.gens->Inv X pins l H' z
theorem qb8{tg elt iter:Expr}{ifs:List Expr}{sc:Scope}{fr:List Nat}{xs ts:List Str}{mi:En->Sr->Res (List D×(Sr->Prop))}{g:D->En->Sr->Res En}{mt:En->Sr->Res Bool}{me:En->Sr->Res D}{c T:Addr}(hc:X.calm=true)(W:X.A.depth<recursionLimit)(hi:PI X tg iter (TIg mi))(hs:∀x,genFold iter X.env x=pure x)(C':CSc X sc fr xs ts)(hz:sc.names.lookup (".0":Str)=some NameKind.local)(a4:sc.isCoroutine=false)(Y:X.env.code=.ref c)(a5:codeTab X.K c T=true)(B:BlkG X sc (xs++ts) tg iter ifs elt pos g mt me){pins:List (Addr×Obj)}{s:Shared}{O:St}{H:Hp}{ι:List Addr}{S:Sr}{ρ:En}(I:Inv X pins O H s)(er:EnR ι H ρ O)(st:Sto ι H S){ds:List D}{gu:Sr->Prop}{S1:Sr}(hm:mi ρ S=.ok (ds,gu) S1):
  wpAny (model X.prog X.w) X.A (eval (.GeneratorExp elt [⟨tg,iter,ifs,0⟩] sc pos) X.env) (λv s'=>∃a P H',v=.ref a/\Stp ι H P H'/\GH X pins O ds gu g mt me a (frE ρ fr ts.length) S1 P H' s') X.xe s:=by
 obtain⟨cl,CL⟩:=j0 (X:=X) (sc:=sc) λx hx hf=>I.ok.has x.1 (C'.frees x hx hf)
 refine wpAny_GeneratorExp_make a4 CL.eq C'.nocell hz C'.kind W ?_ hs;refine thn (hi pins s O H (λJ H2=>∃E,Stp ι H E H2/\Sto E H2 S1/\ItG E H2 J ds gu) I ⟨ι,S,ρ,er,st,?_⟩) λxv s1 U=>thn U λan s2 L=>?_
 .rw [hm];exact λP H' J q aa ok=>⟨P,q,aa,ok⟩
 obtain⟨it,fp,tn,J,H2,e,I2,T',t2,f2,E,q2,ab,ac⟩:=L;subst e;refine⟨I2.nolimit,thn (qf7 I2 Y a5) λcode d ⟨H3,M,eg,Z,ad,a0⟩=>qic M ?_⟩;intro m ae a6;have a7:∀b∈fp,∃o,s2.heap.get? b=some o/\H2 b=none:=λb C=>by
  obtain⟨o,eo,_⟩:=T'.obj _ _ t2 b C;exact⟨o,eo,(f2 b C).1⟩
 have f3:∀b∈fp,FpOk X pins H3 b:=λb C=>by
  obtain⟨o,e1,Q⟩:=a7 b C;exact⟨(a0 b o e1 Q).2,(f2 b C).2⟩
 have l3:∀b∈fp,b<d.heap.objs.size:=λb C=>by
  obtain⟨o,e1,Q⟩:=a7 b C;exact wG (a0 b o e1 Q).1
 have hsz:m.objs.size=d.heap.objs.size+1:=by rw[a6.1,vW]
 have f:∀(u:Obj) b o,d.heap.get? b=some o->(m.push u).get? b=some o:=λu b o e=>wB _ (a6.extBut b o (wa (wG e)) (wB _ e))
 generalize a1:({cls:=.type "generator",data:=.fields #[.int d.gens.size 0,.str "<genexpr>" (d.toks+1),.str (X.env.qual++"<genexpr>") (d.toks+1+1)]}:Obj)=ob;have a2:H3 m.objs.size=none:=M.hok.fresh (by rw[hsz];lia);have af:=qf8 (code:=code) (N':=xs++ts) (tg:=tg) (elt:=elt) (iter:=iter) (ifs:=ifs) (pos:=pos) (it:=it) (o:=(m.objs.size,ob)) M C'.kind C'.nocell CL f3 l3;have ag:(m.push ob).Ns d.heap.objs.size (λy=>if y=".0" then some (.ref it)else none):=ae.push _;have ek:∀n,(d.gens.push (GenState.fresh n)).setIfInBounds d.gens.size .running=d.gens.push .running:=λn=>by
  apply Array.ext
  .simp
  .intro j U L
   by_cases q:j=d.gens.size
   .subst q;simp
   .have:j<d.gens.size:=by simp at L;lia
    rw[ui (by simp;lia),wT (Ne.symm q),Array.getElem_push_lt this,Array.getElem_push_lt this]
 have am:∀b:Addr,(m.objs.size)≠b\/b=m.objs.size:=λb=>by
  by_cases q:b=m.objs.size
  .exact .inr q
  .exact .inl (Ne.symm q)
 have a8:(m.push ob).get? m.objs.size=some ob:=by subst a1;exact wH _ rfl
 have F:=C'.frs;have a9:∀(gg:Array GenState) (tk:Nat),gg=d.gens.push .running->Inv (genCx X sc cl d.heap.objs.size code (xs++ts) fp (.GeneratorExp elt [⟨tg,iter,ifs,0⟩] sc pos) it (m.objs.size,ob) d H3) [] (frS O fr ts.length) H3 {d with heap:=m.push ob,toks:=tk,gens:=gg}:=by
  intro gg tk ah;refine⟨af,rfl,?_,Un.kept (f ob),⟨_,ag,λi x v U L h3=>?_⟩,λx N e=>?_,M.hok.fresh (wJ _),λx N e=>M.freeC x N (CL.sub x N e),λp hp=>?_,M.hok.kept (f ob),?_⟩
  .subst ah
   exact GK.refl (AllBare.push M.bare.bare rfl)
  .have U:(xs++ts)[i]?=some x:=U
   have L:(frS O fr ts.length)[i]?=some (some v):=L;unfold frS at L;by_cases hi:i<fr.length
   .rw [wL (by simpa using hi),w8,wD hi]at L
    rw[wL (by rw[<-F.len];exact hi)]at U;simp only[wu,Option.some.injEq]at L;have hN:=F.at' i fr[i] x (wD hi) U;have ai:O[fr[i]]?=some (some v):=by
     cases z:O[fr[i]]? with
     |none=>rw[z]at L;cases L
     |some o=>rw[z]at L;simp at L;rw[L]
    obtain⟨kf,ko⟩:=F.kd x (w9 U);obtain⟨m0,ao,aj⟩:=M.loc;obtain⟨u,r,l⟩:=aj fr[i] x v hN ai (.inr ko);refine⟨u,r,.inr ?_⟩;have ak:∃N,X.env.cells.lookup x=some N/\d.heap.IsCell N (some u):=by
     rcases l with ⟨z,_⟩|⟨_,N,e1,Q⟩
     .rcases ko with q|q <;> (rw[z]at q;cases q)
     .exact ⟨N,e1,Q⟩
    obtain⟨N,e1,o,Q,e3⟩:=ak;obtain⟨c',e4⟩:=CL.all x kf;have e5:=CL.sub x c' e4;rw[e1]at e5;cases e5;exact⟨.inr kf,N,e4,o,f ob _ _ Q,e3⟩
   .rw [wM (by simpa using hi),vH]at L
    split at L <;> cases L
  .obtain ⟨v,o,e1,Q⟩:=M.cell x N (CL.sub x N e)
   exact⟨v,o,f ob _ _ e1,Q⟩
  .have a3:p=(m.objs.size,ob):=by
    have:p∈[(m.objs.size,ob)]++([]:List (Addr×Obj)):=hp;simpa using this
   subst a3;refine⟨a8,a2,(show m.objs.size≠d.heap.objs.size by lia),λz=>?_,λv=>?_⟩
   .have z':m.objs.size∈frs X.stack:=z
    rcases wR.mp (M.stkSub _ z')with q|q
    .have:=M.lt
     rw[<-q,hsz]at this;exact absurd this (Nat.not_lt.mpr (Nat.le_succ _))
    .exact absurd q (M.nofs (by lia))
   .show ob.data≠_
    rw[<-a1];intro z;cases z
  .show (frS O fr ts.length).length=(xs++ts).length
   simp[frS,F.len]
 refine⟨m.objs.size,E,H3,rfl,q2.trans (Z E),sc,cl,d.heap.objs.size,code,xs++ts,fp,.GeneratorExp elt [⟨tg,iter,ifs,0⟩] sc pos,it,ob,d,H3,J,tn,λh e=>?_,λk=>⟨?_,_,Array.getElem?_push_size ..,rfl,?_⟩,λb C=>?_,T'.keep,λal ap H' z J' gk=>?_⟩
 .rw [<-a1]at e
  exact⟨_,_,_,e,rfl,rfl,rfl⟩
 .refine ⟨⟨frS O fr ts.length,?_,(qdN er fr ts.length).mono (q2.trans (Z E))⟩,ad _ _ ab,T'.keep _ _ _ t2 λb C o eo=>f ob b o (a0 b o eo (f2 b C).1).1,vN _,λb C=>(f3 b C).1,ac.mono (Z E),λp hp=>absurd hp (by simp)⟩
  exact a9 _ _ (ek _)
 .exact qeV (X:=genCx X sc cl d.heap.objs.size code (xs++ts) fp (.GeneratorExp elt [⟨tg,iter,ifs,0⟩] sc pos) it (m.objs.size,ob) d H3) rfl hc rfl (λp hp C=>by
   have a3:p=(m.objs.size,ob):=by
    have:p∈[(m.objs.size,ob)]:=hp;simpa using this
   subst a3;have:=l3 _ C;have e:m.objs.size<d.heap.objs.size:=this;lia) rfl a4 T' (B.rt _ _ _ _ _ _ _ _) (B.ri _ _ _ _ _ _ _ _) (B.re _ _ _ _ _ _ _ _) _ _ k
 .have:=l3 b C
  show b<(m.push ob).objs.size;rw[vW];exact wX (l3 b C) (by lia)
 .have ba:Un (frs X.stack) fp H3 H' d.heap z.heap:=J'.base
  exact M.call' (ch:=fp) J'.os ba J'.hok gk λb C=>⟨(f3 b C).2.2.2.1,(f3 b C).2.1,(f3 b C).2.2.2.2.1,(f3 b C).2.2.2.2.2⟩
end
section
variable{X:Cx}{pos:Pos}
theorem qf9{A:Around}(h:wpAny M A.in4 t Q E s):wpAny M A.in1 t Q E s:=wpAny_of_in1 (wpAny_of_in1 (wpAny_of_in1 h))
section
variable{sc:Scope}{cl:List (Str×Addr)}{C:Addr}{code:Value}{N':List Str}{fp:List Addr}{ge:Expr}{it a:Addr}{o:Obj}{s4:Shared}{H4:Hp}{J:It}{tn:Nat->Heap->Prop}{ds:List D}{gu:Sr->Prop}{g:D->En->Sr->Res En}{mt:En->Sr->Res Bool}{me:En->Sr->Res D}
theorem qga{c:Type}{step:c->D->Option (c ⊕ D)}{fin:c->Option D}{i:Nat}{ρ:En}{b:c}{S f:Sr}{d:D}(h:genLoopG gu g mt me step fin (ds.drop i) ρ b S=.ok d f):gnx gu g mt me i (ds.drop i) ρ S≠.bad:=λz=>by
 have q:=yK h;rw[z]at q;cases q
theorem qid{R:Result->Shared->Prop}(O:X.A.handled=none)(hd:X.A.depth<recursionLimit)(P:∀h:Heap,h.get? a=some o->h.IsGen a s4.gens.size):∀(k i:Nat) (ρ:En) (b:D) (S:Sr) (ι:List Addr) (H:Hp) (s:Shared) {d:D} {l:Sr},ds.length<k+i ->
  Cs (genCx X sc cl C code N' fp ge it (a,o) s4 H4) J tn fp ds gu X.A.in4.in1 g mt me s4.gens.size k i ρ S ι H [] s->genLoopG gu g mt me (stepG .all) (finG .all) (ds.drop i) ρ b S=.ok d l ->
  (∀j f H' z c,d=.bl c->Inv (genCx X sc cl C code N' fp ge it (a,o) s4 H4) [] j H' (z.setGen s4.gens.size .running)->GK s4.gens z.gens->Stp ι H f H'->Sto f H' l->R (.ok (.ret (.bool c))) z) ->
  codeAny (model X.prog X.w) X.A (.builtin "all.loop" ⟨[.ref a],[]⟩) R s:=by
 intro k;induction k with
 |zero =>
  intro i ρ b S ι H s d l Q r _ _;have:=r.sus.le;lia
 |succ k U =>
  intro i ρ b S ι H s d l Q r e x;refine vQ F.entry_all_loop ?_;rw[vB F.plain_all_loop];refine wA (m:=pyNext (.ref a)) (qf9 (qdQ (X:=genCx X sc cl C code N' fp ge it (a,o) s4 H4) (A:=X.A.in4) O hd wQ P rfl rfl r (qga e) (λS2 f H' j z n p B q st=>?_) λW ρ' v S2 f H' y u z n q Y Z N=>?_))
  .have q2:=yK e
   rw[n]at q2;cases q2;exact wA (u4 (wC (x j f H' z true rfl p B q st)))
  .have q2:=yK e
   have hi:=qai _ _ _ _ n;rw[n]at q2;simp only[gen1]at q2;have hv:∃c,v=.bl c:=by
    cases v with
    |bl c=>exact⟨c,rfl⟩
    |_=>simp only[stepG]at q2;cases q2
   obtain⟨c,rfl⟩:=hv;cases (show y=_ from Y);cases (show u=Value.bool c from Z);refine wA (vE (v7 (wA (wpAny_letGo ?_))));cases c with
   |true =>
    simp only[stepG]at q2;rw[wN rfl];exact wC ⟨vm F.plain_all_loop _,U W ρ' _ S2 f H' z (by lia) N q2 λE I H2 z2 c ec I2 B s2 K=>x E I H2 z2 c ec I2 B (q.trans s2) K⟩
   |false =>
    simp only[stepG]at q2;cases q2;rw[wT (by decide)];obtain⟨⟨⟨L,p,a0⟩,M,_⟩,gs,eg,bg,_⟩:=N;exact wA (u4 (wC (x L f H' z false rfl p (GK.done p.bare eg bg) q M)))
end
end
section
variable{X:Cx}{J:It}{tn:Nat->Heap->Prop}{fp:List Addr}{ds:List D}{gu:Sr->Prop}{B:Around}{g:D->En->Sr->Res En}{mt:En->Sr->Res Bool}{me:En->Sr->Res D}{n k i:Nat}{ρ:En}{S:Sr}{ι:List Addr}{H:Hp}{s:Shared}
theorem qie(C:Cs X J tn fp ds gu B g mt me n k i ρ S ι H [] s)(tk:∀i h h',tn i h->(∀b∈fp,∀o,h.get? b=some o->h'.get? b=some o)->tn i h')(c:∀b∈fp,b<s.heap.objs.size)(d:(s.heap.push u).get? s.heap.objs.size=some u)(f:∀v,u.data≠.cell v){t:Nat}:
  Cs X J tn fp ds gu B g mt me n k i ρ S ι H [(s.heap.objs.size,u)] {s with heap:=s.heap.push u,toks:=t}:=by
 obtain⟨⟨⟨j,I,l⟩,st,at',le,fz,ok,pf⟩,w⟩:=C;refine⟨⟨⟨j,?_,l⟩,st,tk _ _ _ at' λb _ o e=>wB _ e,le,fz,ok,λp a m=>?_⟩,w⟩
 .have q:=I.kept (h':=s.heap.push u) (t':=t) λb o e=>wB _ e
  refine q.pins_of λp a=>?_
  obtain rfl:=wV.mp a;exact⟨d,I.hok.fresh (wJ _),vR I.lt,I.nofs (wJ _),f⟩
 .obtain rfl:=wV.mp a
  exact absurd (c _ m) (wh _)
theorem qdR{h':Heap}{t:Nat}(C:Cs X J tn fp ds gu B g mt me n k i ρ S ι H [(p,u)] s)(tk:∀i h h',tn i h->(∀b∈fp,∀o,h.get? b=some o->h'.get? b=some o)->tn i h')(F:X.s₀.heap.objs.size<=p)(hn:∀q∈X.pn,q.1≠p)(l:∀b o,b≠p->s.heap.get? b=some o->h'.get? b=some o)(K:h'.get? p=some f)(L:∀v,f.data≠.cell v):Cs X J tn fp ds gu B g mt me n k i ρ S ι H [(p,f)] {s with heap:=h',toks:=t}:=by
 obtain⟨⟨⟨m,I,M⟩,st,at',le,fz,ok,pf⟩,w⟩:=C;obtain⟨e1,r,y,N,O⟩:=I.pin (p,u) (wU _ (wV.mpr rfl));have np:p∉fp:=pf (p,u) (wV.mpr rfl);refine⟨⟨⟨m,?_,M⟩,st,tk _ _ _ at' λb j o e=>l b o (λz=>np (z ▸ j)) e,le,fz,ok,λq a j=>?_⟩,w⟩
 .have A:Inv X [] m H (s.setGen n .running):=I.unpinned (pins:=[]) (pl:=[(p,u)])
  have P:=A.turned (h':=h') (t':=t) (it:=p) l r y (.inr F) (λx c Q z=>by
   obtain⟨v,o,E,d⟩:=A.cell x c Q;rw[z,e1]at E;cases E;exact O v d) λq a=>hn q (by simpa using a)
  refine P.pins_of λq a=>?_
  obtain rfl:=wV.mp a;exact⟨K,r,y,N,L⟩
 .obtain rfl:=wV.mp a
  exact np j
end
def mGenG(w:GW)(fr:List Nat)(nt:Nat)(mi:En->Sr->Res (List D×(Sr->Prop)))(g:D->En->Sr->Res En)(mt:En->Sr->Res Bool)(me:En->Sr->Res D):En->Sr->Res D:=λρ S=>(mi ρ S).bind λp S1 =>
 genLoopG p.2 g mt me (stepG w) (finG w) p.1 (frE ρ fr nt) (startG w) S1
def mGen(w:GW)(fr:List Nat)(nt:Nat)(mi:En->Sr->Res (List D))(g:D->En->Sr->Res En)(mt:En->Sr->Res Bool)(me:En->Sr->Res D):En->Sr->Res D:=λρ S=>(mi ρ S).bind λds S1 =>
 genLoop g mt me (stepG w) (finG w) ds (frE ρ fr nt) (startG w) S1
def qgb{w:GW}{fr:List Nat}{nt:Nat}{mi:En->Sr->Res (List D)}{g:D->En->Sr->Res En}{mt:En->Sr->Res Bool}{me:En->Sr->Res D}:mGenG w fr nt (λρ S=>(mi ρ S).bind λds S1=>.ok (ds,λ_=>True) S1) g mt me=mGen w fr nt mi g mt me:=by
 funext ρ S;unfold mGenG mGen;dsimp only;cases mi ρ S with
 |ok ds S1=>exact yH _ _ _ _
 |err=>rfl
 |no=>rfl
section
variable{X:Cx}{pos gp:Pos}
def GCall(X:Cx)(w:GW)(f:Value):Prop:=∀(pins:List (Addr×Obj)) (s:Shared) (b:St) (H:Hp) (ι:List Addr) (a:Addr) (ds:List D) (gu:Sr->Prop) (g:D->En->Sr->Res En) (mt:En->Sr->Res Bool) (me:En->Sr->Res D) (ρ:En) (S:Sr) (Q:VK),
 GH X pins b ds gu g mt me a ρ S ι H s->Pst Den (genLoopG gu g mt me (stepG w) (finG w) ds ρ (startG w) S) ι H Q->wpAny (model X.prog X.w) X.A (call f [.ref a]) (EP X pins b Q) X.xe s
theorem qdS{w:GW}{ds:List D}{gu:Sr->Prop}{g:D->En->Sr->Res En}{mt:En->Sr->Res Bool}{me:En->Sr->Res D}{ρ:En}{b:D}{S:Sr}{ι:List Addr}{H:Hp}{Q:VK}(h:Pst Den (genLoopG gu g mt me (stepG w) (finG w) ds ρ b S) ι H Q):
  ∃d c,genLoopG gu g mt me (stepG w) (finG w) (ds.drop 0) ρ b S=.ok d c/\∀y a H',Stp ι H a H'->Sto a H' c->Den a H' d y->Q y H':=by
 rw[u7];cases z:genLoopG gu g mt me (stepG w) (finG w) ds ρ b S with
 |no=>rw[z]at h;exact h.elim
 |err=>rw[z]at h;exact h.elim
 |ok d c=>rw[z]at h;exact⟨d,c,rfl,h⟩
theorem qkf(l:X.calm=true)(hd:X.A.depth<recursionLimit)(hok:X.calm=true->X.A.handled=none):GCall X .all (.builtin "all"):=by
 intro pins s v H ι a ds gu g mt me ρ S Q n h;obtain⟨sc,cl,C,code,N',fp,ge,it,o,w,x,J,tn,j,cs,y,tk,out⟩:=n;obtain⟨d,B,e,q⟩:=qdS h;have ha:s.heap.get? a=some o:=by
  obtain⟨b,I,_⟩:=(cs 0).sus.inv;exact(I.pin (a,o) (ws _ wQ)).1
 refine call_function_tree F.kind_all F.plain_all F.entry_all (F.args_all1 _) ?_;unfold Builtin.«all»;refine wA (m:=oneArg "all" _) (wC (wA (wpAny_pyIter_gen (j _ ha) (wC ⟨vm F.plain_all_loop _,?_⟩))));exact qid (hok l) hd j (ds.length+1) 0 ρ _ S ι H s (by lia) (cs _) e λb f H' z c p r u s1 i=>⟨.bl c,H',out _ b H' z r u,rfl,q _ f H' s1 i (by subst p;rfl)⟩
theorem qkg{w:GW}{id:String}{f:Str}{p:Pos}{tg elt iter:Expr}{ifs:List Expr}{sc:Scope}{fr:List Nat}{xs ts:List Str}{mi:En->Sr->Res (List D×(Sr->Prop))}{g:D->En->Sr->Res En}{mt:En->Sr->Res Bool}{me:En->Sr->Res D}{c T':Addr}(o:X.calm=true)(b:X.A.depth<recursionLimit)(r:GCall X w (.builtin id))(j:Gl X f)(hm:X.mg f=none)(u:bootBuiltins f=some (.builtin id))(hn:f≠"__name__")(l:dB f)(hi:PI X tg iter (TIg mi))(y:∀x,genFold iter X.env x=pure x)(C':CSc X sc fr xs ts)(C:sc.names.lookup (".0":Str)=some NameKind.local)(m:sc.isCoroutine=false)(d:X.env.code=.ref c)(i:codeTab X.K c T'=true)(B:BlkG X sc (xs++ts) tg iter ifs elt gp g mt me):
  PE X (.Call (.Name f p) [.GeneratorExp elt [⟨tg,iter,ifs,0⟩] sc gp] [] pos) (T (mGenG w fr ts.length mi g mt me)):=by
 intro pins s E H Q I F;refine uT (yB I j hm u ?_ hn l);obtain⟨ι,S,ρ,J,st,h⟩:=F;dsimp only[mGenG]at h;cases z:mi ρ S with
 |no=>rw[z]at h;exact h.elim
 |err=>rw[z]at h;exact h.elim
 |ok L S1 =>
  obtain⟨ds,gu⟩:=L;rw[z,Res.bind_ok]at h;refine PyProof.Rows.callWith_builtin1 (e:=.GeneratorExp elt [⟨tg,iter,ifs,0⟩] sc gp) (rest:=[]) ?_ rfl rfl;refine vg (thn (qb8 o b hi y C' C m d i B I J st z) λv s' ⟨a,n,H',ev,q,M⟩=>?_);subst ev;exact u6 (r pins s' E H' n a ds gu g mt me _ S1 Q M (Pst.from h q))
theorem ql2{w:GW}{id:String}{f:Str}{p:Pos}{tg elt iter:Expr}{ifs:List Expr}{sc:Scope}{fr:List Nat}{xs ts:List Str}{mi:En->Sr->Res (List D)}{g:D->En->Sr->Res En}{mt:En->Sr->Res Bool}{me:En->Sr->Res D}{c T':Addr}(l:X.calm=true)(a:X.A.depth<recursionLimit)(m:GCall X w (.builtin id))(h:Gl X f)(hm:X.mg f=none)(n:bootBuiltins f=some (.builtin id))(hn:f≠"__name__")(i:dB f)(hi:PI X tg iter (TIt mi))(o:∀x,genFold iter X.env x=pure x)(C':CSc X sc fr xs ts)(q:sc.names.lookup (".0":Str)=some NameKind.local)(j:sc.isCoroutine=false)(b:X.env.code=.ref c)(d:codeTab X.K c T'=true)(B:BlkG X sc (xs++ts) tg iter ifs elt gp g mt me):
  PE X (.Call (.Name f p) [.GeneratorExp elt [⟨tg,iter,ifs,0⟩] sc gp] [] pos) (T (mGen w fr ts.length mi g mt me)):=by
 rw[<-qgb];exact qkg l a m h hm n hn i (pi_g hi) o C' q j b d B
end
def qb9{a b c:Int}(d:0<c):Builtin.Range.rangeSize a b c=(((b-a+c-1) / c).toNat:Int):=by
 unfold Builtin.Range.rangeSize;rw[wN d];by_cases h:a<b
 .rw [wN h]
  have e:b-a+c-1=(b-a-1)+c:=by omega
  have q:(b-a-1+c) / c=(b-a-1) / c+1:=Int.add_ediv_of_dvd_right (Int.dvd_refl c) |>.trans (by rw[Int.ediv_self (by omega)]);rw[e,q];have:=Int.ediv_nonneg (a:=b-a-1) (b:=c) (by omega) (by omega);omega
 .rw [wT h]
  have:(b-a+c-1) / c<=0:=by
   have i:b-a+c-1<=c-1:=by omega
   have f:=Int.ediv_le_ediv d i;have j:(c-1) / c=0:=Int.ediv_eq_zero_of_lt (by omega) (by omega);rw[j]at f;exact f
  omega
def qeW{a b c:Int}(f:-(2^62)<=a)(i:a<2^62)(j:-(2^62)<=b)(p:b<2^62)(d:0<c)(r:c<2^62):Builtin.Range.small a b c=true:=by
 have l:=qb9 (a:=a) (b:=b) d;have m:(b-a+c-1) / c<=2^63-1:=by
  by_cases h:b-a+c-1<0
  .have:=Int.ediv_neg_of_neg_of_pos h d
   omega
  .have n:(b-a+c-1) / c<=b-a+c-1-(c-1)\/b-a<=0:=by
    by_cases o:b-a<=0
    .exact .inr o
    .left
     have e:b-a+c-1=(b-a-1)+c:=by omega
     have q:(b-a-1+c) / c=(b-a-1) / c+1:=Int.add_ediv_of_dvd_right (Int.dvd_refl c) |>.trans (by rw[Int.ediv_self (by omega)]);rw[e,q];have:=Int.ediv_le_self c (a:=b-a-1) (by omega);omega
   rcases n with z|z
   .omega
   .have f:b-a+c-1<=c-1:=by omega
    have i:=Int.ediv_le_ediv d f;have j:(c-1) / c=0:=Int.ediv_eq_zero_of_lt (by omega) (by omega);rw[j]at i;omega
 unfold Builtin.Range.small;rw[l];simp only[Builtin.Range.rangeFitsLong,wP,Bool.or_eq_true,wq,v8];rw[wN d];simp only[wP,wq];omega
def noPy{x c:Int}(a:0<c)(b:c<2^63):Builtin.divisionGoesByPylong x c=false:=by
 refine PyProof.noPylong_of_log2 ?_;have h:c.natAbs.log2<63:=(Nat.log2_lt (by omega)).mpr (by omega);omega
def qca:∀{xs:List V} {us:List Value},xs.length=us.length->(∀(i:Nat) (x:V) (u:Value),xs[i]?=some x->us[i]?=some u->RelV x u)->Vals xs us
 |[],[],_,_=>.nil
 |[],_::_,h,_=>by cases h
 |_::_,[],h,_=>by cases h
 |x::xs,u::us,h,k=>.cons (k 0 x u rfl rfl) (qca (by simpa using h) λi y w e1 a=>k (i+1) y w (by simpa using e1) (by simpa using a))
section
variable{X:Cx}{pos:Pos}{tg:Expr}
def RngAt(X:Cx)(pins:List (Addr×Obj))(d:St)(ds:List D)(H:Hp)(v:Value)(s:Shared):Prop :=
 ∃a b c t u w p,v=.ref p/\IsRange s.heap p a b c t u w/\Inv X pins d H s/\Builtin.Range.small a b c=true/\Builtin.Range.rangeSize a b c=ds.length/\ds=(List.range ds.length).map λ(k:Nat)=>D.int (a+k*c)
theorem qgc{E:Value->Shared->Prop}(I:Inv X pins f H s)(r:Vals vs us)(hd:Dens ι H l vs)(e:rngD l=some ds):
  wpAny (model X.prog X.w) X.A (call (.type "range") us) (RngAt X pins f ds H) E s:=by
 have fin:∀{a b c:Int} {t u w:Tok} {tk:Nat},-(2^62)<=a->a<2^62->-(2^62)<=b->b<2^62->0<c->c<2^62->ds=rngL a b c ->
   RngAt X pins f ds H (.ref s.heap.objs.size) {s with heap:=s.heap.push {cls:=.type "range",data:=.fields #[.int a t,.int b u,.int c w]},toks:=tk}:=by
  intro a b c t u w tk v B C F m J n;have p:ds.length=((b-a+c-1) / c).toNat:=by rw[n];unfold rngL;simp
  refine⟨a,b,c,t,u,w,_,rfl,IsRange.new ..,I.kept λb o e=>wB _ e,qeW v B C F m J,?_,?_⟩
  .rw [qb9 m,p]
  .rw [p,n]
   unfold rngL;exact vO λk _=>by rw[uq]
 match l,e,hd with
 |[.int b],e,hd =>
  obtain⟨x,rfl,d⟩:=dens1 hd;cases (show x=_ from d);obtain⟨u,rfl,q,rfl⟩:=vals1 r;simp only[rngD]at e;split at e
  .rename_i h
   cases e;exact call_range_1 (fin (by omega) (by omega) h.1 h.2 (by omega) (by omega) rfl)
  .cases e
 |[.int a,.int b],e,hd =>
  obtain⟨x,y,rfl,d,i⟩:=dens2 hd;cases (show x=_ from d);cases (show y=_ from i);obtain⟨u,w,rfl,⟨q,rfl⟩,K,rfl⟩:=vals2 r;simp only[rngD]at e;split at e
  .rename_i h
   cases e;exact call_range_2 (fin h.1 h.2.1 h.2.2.1 h.2.2.2 (by omega) (by omega) rfl)
  .cases e
 |[.int a,.int b,.int c],e,hd =>
  obtain⟨x,O,rfl,d,j⟩:=hd;obtain⟨y,z,rfl,i,L⟩:=dens2 j;cases (show x=_ from d);cases (show y=_ from i);cases (show z=_ from L);cases r with
  |cons M N =>
   obtain⟨u,w,rfl,⟨q,rfl⟩,K,rfl⟩:=vals2 N;obtain⟨P,rfl⟩:=M;simp only[rngD]at e;split at e
   .rename_i h
    cases e;exact call_range_3 (by omega) (fin h.1 h.2.1 h.2.2.1 h.2.2.2.1 h.2.2.2.2.1 h.2.2.2.2.2 rfl) (.inl (noPy (by omega) (by omega)))
   .cases e
theorem qgd{p:Pos}(m:Gl X "range")(hm:X.mg "range"=none)(ha:PA X (a::es) (TL j))(n:sE X a es)(i:bT X es pos)(I:Inv X pins h H s)(o:EnR ι H ρ h)(st:Sto ι H S)(z:j ρ S=.ok l S1)(e:rngD l=some ds):
  wpAny (model X.prog X.w) X.A (eval (.Call (.Name "range" p) (a::es) [] pos) X.env) (λv s'=>∃f H',Stp ι H f H'/\Sto f H' S1/\RngAt X pins h ds H' v s') X.xe s:=by
 refine Call_ (yB I m hm boot_range (va (thn (ha pos pins s h H (λvs d=>∃b,Stp ι H b d/\Sto b d S1/\Dens b d l vs) I ⟨ι,S,ρ,o,st,?_⟩) λus s1 ⟨vs,d,q,r,b,q1,c,d1⟩=>?_) n i))
 .rw [z];exact λvs b d q1 c d1=>⟨b,q1,c,d1⟩
 .exact thn (qgc q r d1 e) λv s2 q2=>⟨b,d,q1,c,q2⟩
def ItS(lo c:Int)(n:Nat):It:=⟨λi _=>i<n,λi H x H'=>H'=H/\x=.int (lo+i*c),λi _=>n<=i⟩
theorem qeX{P:Program}{w:World}{K:PySem.W.Frag}(it:Addr)(lo c:Int)(n:Nat):Turn P w K tg (ItS lo c n) [it] it (λi h=>IsRangeIter h it (lo+(i:Nat)*c) ((n:Int)-(i:Nat)) c) where
 mem:=by simp
 obj:=λi h st b a=>by
  obtain rfl:=wV.mp a;exact⟨_,st,λv z=>by cases (show Data.fields _=Data.cell v from z)⟩
 keep:=λi h h' st k=>k it (by simp) _ st
 item:=by
  intro X j l m p i pins s B H E I f st q;subst j l m;obtain⟨r,u,C,x,y,A⟩:=f it (by simp);refine(Walks.range (prog:=X.prog) (w:=X.w) (I.ok.hd p) it lo c n).item i s _ _ q st λv h' tk F d J=>?_
  obtain⟨t,rfl⟩:=F;have L:Inv X pins B H {s with heap:=h',toks:=tk}:=I.turned (λb o a e=>J b o (by simpa using a) e) r u x y A;exact⟨_,rfl,qfq (s:={s with heap:=h',toks:=tk}) (n:="range_iterator") d rfl rfl (by decide) ⟨.int (lo+i*c),H,L,⟨t,rfl⟩,⟨rfl,rfl⟩,d,λb a=>(f b a).1⟩⟩
 done:=by
  intro X j l m p i pins s B H E I f st q;subst j l m;obtain⟨r,u,C,x,y,A⟩:=f it (by simp);exact wpAny_pyNext_range_end (I.ok.hd p) st (by have:n<=i:=q;omega) λh' M=>⟨rfl,I.turned (t':=s.toks) (λb o a e=>M b o a e) r u x y A⟩
 self:=λ_ _ _ _ _ st h=>wpAny_pyIter_rangeiter st h
theorem qkh{lo c:Int}{n:Nat}:ItOk ι H (ItS lo c n) ((List.range n).map λ(k:Nat)=>D.int (lo+k*c)) where
 go:=λi d a H2 s e=>by
  rw[w8]at e;cases z:(List.range n)[i]? with
  |none=>rw[z]at e;cases e
  |some k =>
   rw[z]at e;cases e;obtain⟨b,f⟩:=wF.mp z;simp only[List.length_range]at b;simp only[List.getElem_range]at f;subst f;refine⟨b,λy H3 h=>?_⟩;obtain⟨rfl,rfl⟩:=h;exact⟨Stp.refl _ _,λ_ z=>⟨z,rfl⟩⟩
 stop:=λa H2 s=>by
  show n<=_;simp
theorem i_rng{p:Pos}(r:Gl X "range")(hm:X.mg "range"=none)(ha:PA X (a::es) (TL f))(A:sE X a es)(h:bT X es pos):
  PI X tg (.Call (.Name "range" p) (a::es) [] pos) (TIt λρ S=>(f ρ S).bind λl S1=>ofO (rngD l) S1):=by
 intro pins s N H R I B;obtain⟨ι,S,ρ,C,st,q⟩:=B;dsimp only at q;cases z:f ρ S with
 |no=>rw[z]at q;exact q.elim
 |err=>rw[z]at q;exact q.elim
 |ok l S1 =>
  rw[z,Res.bind_ok]at q;cases z2:rngD l with
  |none=>rw[z2]at q;exact q.elim
  |some ds =>
   rw[z2]at q;refine thn (qgd r hm ha A h I C st z z2) λv s1 ⟨d,i,q1,j,E⟩=>?_
   obtain⟨x,y,c,t,u,w,O,rfl,F,m,J,sz,K⟩:=E;refine wpAny_pyIter_range F J ?_;refine⟨s1.heap.objs.size,[s1.heap.objs.size],_,ItS x c ds.length,i,rfl,m.kept (t':=s1.toks) λb o e=>wB _ e,qeX _ x c ds.length,?_,λb L=>?_,q d i _ q1 j (by rw[K];simpa using qkh (ι:=d) (H:=i) (lo:=x) (c:=c) (n:=ds.length))⟩
   .show IsRangeIter _ _ (x+((0:Nat):Int)*c) ((ds.length:Int)-((0:Nat):Int)) c
    have e1:x+((0:Nat):Int)*c=x:=by simp
    have M:(ds.length:Int)-((0:Nat):Int)=Builtin.Range.rangeSize x y c:=by rw[sz];simp
    rw[e1,M];exact wH _ rfl
   .obtain rfl:=wV.mp L
    exact m.fpOk (wJ _) (m.hok.fresh (wJ _))
theorem qaj{a c:Int}:∀{b:Array Value} {n:Nat},ItemsOf (λi v=>∃t,v=.int (a+i*c) t) b n->Vals ((List.range n).map λ(k:Nat)=>V.int (a+k*c)) b.toList:=by
 intro b n h;obtain⟨f,j⟩:=h;apply qca
 .simp [f]
 .intro i x u e1 l
  rw[w8]at e1;cases z:(List.range n)[i]? with
  |none=>rw[z]at e1;cases e1
  |some k =>
   rw[z]at e1;cases e1;obtain⟨m,d⟩:=wF.mp z;simp only[List.getElem_range]at d;subst d;obtain⟨t,rfl⟩:=j i u (by simpa using l);exact⟨t,rfl⟩
end
section
variable{prog:Program}{w:World}{A:Around}{E:Value->Shared->Prop}{s:Shared}
theorem qge{a b c:Int}{n:Nat}(p:A.handled=none)(q:IsRange s.heap r a b c t u v)(x:Builtin.Range.small a b c=true)(hn:Builtin.Range.rangeSize a b c=n)(y:n<=2^24)(B:∀(h':Heap) (tk:Nat) (d:Array Value),(∀b o,s.heap.get? b=some o->h'.get? b=some o)->ItemsOf (λi v=>∃t,v=.int (a+i*c) t) d n->Q d.toList {s with heap:=h',toks:=tk}):wpAny (model prog w) A (collect (.ref r)) Q E s:=by
 have f:∀R:Result->Shared->Prop,(∀(h':Heap) (tk:Nat) (d:Array Value) (h:Nat),(∀b o,s.heap.get? b=some o->h'.get? b=some o)->h'.get? s.heap.objs.size=some {cls:=.type "list",dict:=none,data:=.seq d h,slots:=#[]}->ItemsOf (λi v=>∃t,v=.int (a+i*c) t) d n ->
   R (.ok (.ret (.ref s.heap.objs.size))) {s with heap:=h',toks:=tk})->codeAny (model prog w) A (.builtin "proto.collect" ⟨[.ref r],[]⟩) R s:=by
  intro R C;refine vQ xR ?_;rw[vB xQ];refine wA (m:=newList []) (w6 (wC ⟨vm uG _,vQ F.entry_list_iadd ?_⟩));rw[vB uG];have H:(s.heap.push {cls:=.type "list",data:=.seq ([]:List Value).toArray}).get? s.heap.objs.size=some {cls:=.type "list",data:=.seq #[] 0}:=wH _ rfl;exact wpAny_extend_range (R:=R) (s:={s with heap:=s.heap.push {cls:=.type "list",data:=.seq ([]:List Value).toArray}}) p (wB _ q) x hn y s.heap.objs.size (.ref s.heap.objs.size) 0 H λh' tk d h j l hi =>
   C h' tk d h (λb o e=>j b o (wa (wG e)) (wB _ e)) l hi
 unfold collect;refine wA (wpAny_runValue (f _ λh' tk d h j l hi=>?_));exact wA (m:=load s.heap.objs.size) (wpAny_load l (wC (B h' tk d j hi)))
theorem qif{a b c:Int}{n:Nat}(p:A.handled=none)(j:IsRange s.heap r a b c t u v)(q:Builtin.Range.small a b c=true)(hn:Builtin.Range.rangeSize a b c=n)(l:n<=2^24)(x:∀(h':Heap) (tk:Nat) (d:Array Value),(∀b o,s.heap.get? b=some o->h'.get? b=some o)->ItemsOf (λi v=>∃t,v=.int (a+i*c) t) d n->Q (.ref h'.objs.size) {s with heap:=h'.push {cls:=.type "tuple",data:=.seq d},toks:=tk}):
  wpAny (model prog w) A (call (.type "tuple") [.ref r]) Q E s:=by
 have new:codeAny (model prog w) A.in1 (.call (.builtin "tuple.__new__") ⟨[.type "tuple",.ref r],[]⟩) (wants (λobj f=>f.TypeIs obj "tuple"/\Q obj f) E) s:=by
  refine codeAny_of_tree (?_:wpAny _ A.in1.in1 (do checkBuiltinCall "tuple.__new__" ⟨[.type "tuple",.ref r],[]⟩;again (.builtin "tuple.__new__" ⟨[.type "tuple",.ref r],[]⟩)) _ _ s);refine wA (wpAny_of_eq (F.newCall_tuple_1 _) (wC ⟨vm ux _,vQ F.entry_tuple_new ?_⟩));rw[vB ux];have k1:=sub_tuple_self;have k2:=init_tuple_lookup;have k3:=madeHere_tuple;have y:s.TypeIs (.ref r) "range":=⟨_,j,rfl⟩;wp_walk using uj y,qge (A:=A.in1.in1) p j q hn l;intro h' tk d B hi;refine wA (m:=Builtin.Tuple.tupleExact d.toList.toArray) ?_;unfold Builtin.Tuple.tupleExact;refine w6 (wC ?_) (by
   have:d.toList.toArray.size<=sizeLine:=by rw[uc,hi.1];exact l
   exact this)
  have e:d.toList.toArray=d:=uc ..;rw[e];exact⟨⟨_,wH _ rfl,rfl⟩,x h' tk d B hi⟩
 refine callType_codes u8 (F.typeCall_tuple_1 _) F.entry_object_init new λobj f h=>?_
 exact⟨h.1,F.args_object_init_2 obj _,object_init_meets u8.init.lookup u8.made (by decide) prog w A.in1 _ f ⟨h.1,rfl,h.2⟩⟩
end
section
variable{X:Cx}{pos:Pos}
def mRng(k:Option Bool)(a:En->Sr->Res (List D)):En->Sr->Res D:=λρ S=>(a ρ S).bind λl S1=>match rngD l with
 |some ds=>if ds.length<=1000000 then(match k with
  |some m=>newL m ds S1
  |none=>.ok (.tup ds) S1)else .no
 |none=>.no
theorem qig{a c:Int}{n:Nat}:Dens ι H ((List.range n).map λ(k:Nat)=>D.int (a+k*c)) ((List.range n).map λ(k:Nat)=>V.int (a+k*c)):=by
 have:∀l:List Nat,Dens ι H (l.map λ(k:Nat)=>D.int (a+k*c)) (l.map λ(k:Nat)=>V.int (a+k*c)):=λl=>by
  induction l with
  |nil=>rfl
  |cons x r b=>exact⟨_,_,rfl,rfl,b⟩
 exact this _
theorem ql3{p1 U h:Pos}(C:(f=Str.ofString "list"/\ty="list"/\∃m,k=some m)\/(f=Str.ofString "tuple"/\ty="tuple"/\k=none))(W:X.calm=true)(hg:Gl X "range")(hm:X.mg "range"=none)(F:Gl X f)(J:X.mg f=none)(ha:PA X (a::es) (TL E))(hs:sE X a es)(K:(backTo h (starEach es X.env)).any (·.1)=false):
  PE X (.Call (.Name f p1) [.Call (.Name "range" U) (a::es) [] h] [] pos) (T (mRng k E)):=by
 intro pins s σ H Q I hw;have hb:bootBuiltins f=some (.type ty):=by
  rcases C with ⟨rfl,rfl,_⟩|⟨rfl,rfl,_⟩ <;> decide +kernel
 have hn:f≠"__name__":=by rcases C with ⟨rfl,rfl,_⟩|⟨rfl,rfl,_⟩ <;> decide
 have hd:(f == ("__debug__":Str))=false:=by rcases C with ⟨rfl,rfl,_⟩|⟨rfl,rfl,_⟩ <;> decide
 refine Call_ (yB I F J hb ?_ hn hd);obtain⟨ι,S,ρ,er,st,q⟩:=hw;dsimp only[mRng]at q;cases z:E ρ S with
 |no=>rw[z]at q;exact q.elim
 |err=>rw[z]at q;exact q.elim
 |ok l S1 =>
  rw[z,Res.bind_ok]at q;cases z2:rngD l with
  |none=>simp only[z2]at q;exact q.elim
  |some ds =>
   simp only[z2]at q;by_cases i:ds.length<=1000000
   .rw [wN i]at q
    refine va (e:=.Call (.Name "range" U) (a::es) [] h) (rest:=[]) ?_ rfl rfl;refine vg (thn (qgd hg hm ha hs K I er st z z2) λv s1 ⟨p,r,q1,A,ra⟩=>u6 ?_);obtain⟨x,y,c,t,u,w,pp,rfl,Y,L,Z,sz,ed⟩:=ra;have M:r s1.heap.objs.size=none:=L.hok.fresh (wJ _);have dd:Dens p r ds ((List.range ds.length).map λ(k:Nat)=>V.int (x+k*c)):=by
     have:=qig (ι:=p) (H:=r) (a:=x) (c:=c) (n:=ds.length)
     rwa [<-ed]at this
    have d:ds.length<=2^24:=vA i (by decide);rcases C with ⟨rfl,rfl,e⟩|⟨rfl,rfl,e⟩
    .obtain ⟨m,rfl⟩:=e
     .refine call_list_range (I.ok.hd W) Y Z sz d λh' tk j c' N hS hi=>?_
      exact⟨.ref _,_,L.laid (o:=.lst ((List.range ds.length).map λ(k:Nat)=>V.int (x+k*c))) (t':=tk) N (wJ _) ⟨by simp;exact d,j.toList,c',qaj hi,by rw[hS]⟩,rfl,zr A dd (Pst.from q q1) _ M⟩
    .subst e
     .refine qif (I.ok.hd W) Y Z sz d λh' tk j N hi=>?_
      have I2:=L.kept (h':=h') (t':=tk) N;have B:r h'.objs.size=none:=I2.hok.fresh (wJ _);refine⟨.ref _,upd r h'.objs.size (.tup _),I2.laid (t':=tk) (λb o e=>wB _ e) (wJ _) ⟨by simp;exact d,j.toList,qaj hi,⟨_,wH _ rfl,rfl,0,by simp⟩,λo q=>by rw[wH _ rfl]at q;cases q;rfl⟩,rfl,zC A dd ?_ _ B⟩;exact λv O H' s' P dv=>q v O H' (q1.trans s') P dv
   .rw [wT i]at q;exact q.elim
end
def SI(b:Bool)(h:Heap)(it l:Addr)(k:Nat):Prop:=match b with
 |true=>h.IsTupleIter it l k
 |false=>h.IsListIter it l k
def SQ(b:Bool)(h:Heap)(l:Addr)(xs:Array Value):Prop:=match b with
 |true=>h.IsTuple l xs
 |false=>h.IsList l xs
def SI.at{h h':Heap}{k:Nat}(x:SI b h it l k)(e:∀o,h.get? it=some o->h'.get? it=some o):SI b h' it l k:=by
 cases b with
 |true=>exact Heap.IsTupleIter.at x e
 |false=>exact Heap.IsListIter.at x e
def SQ.at{h h':Heap}(x:SQ b h l xs)(e:∀o,h.get? l=some o->h'.get? l=some o):SQ b h' l xs:=by
 cases b with
 |true=>exact Heap.IsTuple.at x e
 |false=>exact Heap.IsList.at x e
def SI.obj{k:Nat}(x:SI b h it l k):∃o,h.get? it=some o/\(∀v,o.data≠.cell v):=by
 cases b with
 |true=>obtain⟨o,e,_,d⟩:=x;exact⟨o,e,λv z=>by rw[d]at z;cases z⟩
 |false=>obtain⟨o,e,_,d⟩:=x;exact⟨o,e,λv z=>by rw[d]at z;cases z⟩
section
variable{prog:Program}{w:World}{A:Around}{E:Value->Shared->Prop}{s:Shared}
theorem qgf{i:Nat}(hi:s.heap.IsTupleIter it l i)(c:s.heap.IsTuple l xs)(f:xs[i]?=some x)(h:∀h',h'.IsTupleIter it l (i+1)->Heap.SameBut it s.heap h'->Q x {s with heap:=h' }):wpAny (model prog w) A (Builtin.SmallTypes.nextOf (.ref it)) Q E s:=by
 have b:=hi.typeIs;obtain⟨o,a,co,d⟩:=hi;obtain⟨u,eu,_,m,j⟩:=c;unfold Builtin.SmallTypes.nextOf;refine wA (wt (name:=Str.ofString "__next__") b uL (wz uL b F.entry_tuple_iterator_next ?_ (F.args_tuple_iterator_next_1 _)));refine wA (m:=field (.ref it) 0) (wx a d (x:=.ref l) rfl (?_:wpAny _ _ (if(Value.ref l == Value.none)=true then _ else _) _ _ s));rw[wT (show ¬((Value.ref l == Value.none)=true)from w5)];refine wA (m:=field (.ref it) 1) (wx a d (x:=.int i 0) rfl ?_);refine wA (m:=seqItems? (.ref l)) (vr eu j ?_);simp only[u5,f];refine wA (vi a d (by simp) (wC ⟨x,rfl,wC (h _ ⟨_,vD _ a (uB (w1 d _)),(Obj.cls_mapFields ..).trans co,?_⟩ (Heap.SameBut.update ..))⟩));rw[w1 d];simp[rawInt]
theorem qbt{i:Nat}(f:A.handled=none)(hi:s.heap.IsTupleIter it l i)(h:s.heap.IsTuple l xs)(j:xs[i]?=none)(n:∀h' e,Heap.ExtBut it s.heap h'->(∃o,h'.get? e=some o/\o.cls=.type "StopIteration")->E (.ref e) {s with heap:=h' }):wpAny (model prog w) A (Builtin.SmallTypes.nextOf (.ref it)) Q E s:=by
 have c:=hi.typeIs;obtain⟨o,b,co,d⟩:=hi;obtain⟨u,eu,_,m,p⟩:=h;unfold Builtin.SmallTypes.nextOf;refine wA (wt (name:=Str.ofString "__next__") c uL (wz uL c F.entry_tuple_iterator_next ?_ (F.args_tuple_iterator_next_1 _)));refine wA (m:=field (.ref it) 0) (wx b d (x:=.ref l) rfl (?_:wpAny _ _ (if(Value.ref l == Value.none)=true then _ else _) _ _ s));rw[wT (show ¬((Value.ref l == Value.none)=true)from w5)];refine wA (m:=field (.ref it) 1) (wx b d (x:=.int i 0) rfl ?_);refine wA (m:=seqItems? (.ref l)) (vr eu p ?_);simp only[u5,j];refine wA (u4 (wA (vi b d (by simp) (?_:wpAny _ _ (newExc (.type "StopIteration") [] >>= _) _ _ _))));refine wA ?_;unfold newExc newTuple;refine wA (w6 (wA (wpAny_of_eq (t:=firstArgMember _ _) (a:=Value.none) (by first|rfl|(simp only[firstArgMember];rfl)) (w6 ?_ (by size_fits)))) (by size_fits));unfold raiseNew;refine wA (wpAny_handled ?_);rw[show A.in1.handled=none from f];exact wA (wC (wpAny_throw (n _ _ (((Heap.SameBut.update ..).extBut.push _).push _) ⟨_,wH _ rfl,rfl⟩)))
theorem draw{i:Nat}(hi:SI b s.heap it l i)(a:SQ b s.heap l xs)(c:xs[i]?=some x)(d:∀h',SI b h' it l (i+1)->Heap.SameBut it s.heap h'->Q x {s with heap:=h' }):wpAny (model prog w) A (Builtin.SmallTypes.nextOf (.ref it)) Q E s:=by
 cases b with
 |true=>exact qgf hi a c d
 |false=>exact wpAny_nextOf_list_item hi a c d
theorem qcb{i:Nat}(a:A.handled=none)(hi:SI b s.heap it l i)(c:SQ b s.heap l xs)(d:xs[i]?=none)(f:∀h' e,Heap.ExtBut it s.heap h'->(∃o,h'.get? e=some o/\o.cls=.type "StopIteration")->E (.ref e) {s with heap:=h' }):wpAny (model prog w) A (Builtin.SmallTypes.nextOf (.ref it)) Q E s:=by
 cases b with
 |true=>exact qbt a hi c d f
 |false=>exact wpAny_nextOf_list_end a hi c d f
structure ZA (z TI TO i j l m:Addr):Prop where
 zTI:TI≠z
 zTO:TO≠z
 zi:i≠z
 zj:j≠z
 TT:TI≠TO
 TIi:TI≠i
 TIj:TI≠j
 TOi:TO≠i
 TOj:TO≠j
 ij:i≠j
 lz:l≠z
 lT:l≠TO
 li:l≠i
 lj:l≠j
 mz:m≠z
 mT:m≠TO
 mi:m≠i
 mj:m≠j
structure ZS (b c:Bool) (h:Heap) (z TI TO i j l m:Addr) (k:Nat) (xs ys:Array Value) (f:Value):Prop where
 z:IsZip h z TI TO f
 ti:IsPair h TI (.ref i) (.ref j)
 to':∃a d,IsPair h TO a d
 i1:SI b h i l k
 i2:SI c h j m k
 q1:SQ b h l xs
 q2:SQ c h m ys
variable{b c:Bool}{z TI TO i j l m:Addr}{k:Nat}{xs ys:Array Value}
theorem qki(D:ZA z TI TO i j l m)(st:ZS b c s.heap z TI TO i j l m k xs ys .none)(Z:xs[k]?=some x)(hy:ys[k]?=some y)(hQ:∀h',ZS b c h' z TI TO i j l m (k+1) xs ys (rawInt s.heap.objs.size)->IsPair h' s.heap.objs.size x y->(∀a o,a≠z->a≠TO->a≠i->a≠j->s.heap.get? a=some o->h'.get? a=some o)->Q (some (.ref s.heap.objs.size)) {s with heap:=h' }):
  wpAny (model prog w) A (pyNext (.ref z)) Q E s:=by
 obtain⟨f,ti,⟨t0,t1,to'⟩,i1,i2,q1,q2⟩:=st;have N:s.TypeIs (.ref z) "zip":=⟨_,f,rfl⟩;unfold pyNext;refine wA (uS (wt (name:=Str.ofString "__next__") N xO (wz xO N F.entry_zip_next ?_ (F.args_zip_next_1 _))));refine wA (m:=field (.ref z) 2) (wx f rfl (x:=.bool false) rfl (wA (m:=field (.ref z) 3) (wx f rfl (x:=.ref TI) rfl (wA (vr ti rfl ?_)))));refine wA (m:=Builtin.SmallTypes.ownedTupleIsFree (.ref z)) ?_;unfold Builtin.SmallTypes.ownedTupleIsFree;refine wA (wx f rfl (x:=.none) rfl (wC ?_));simp only[v9];refine wA (u4 (wA (wx f rfl (x:=.ref TO) rfl (wA (vy f (by simp) λh1 z1 b1=>?_)))));have H:IsZip h1 z TI TO .ellipsis:=z1;refine wA ?_;simp only[List.zipIdx_cons,List.zipIdx_nil,uW,List.forIn_nil];refine wA (wA (wpAny_onRaise (wA (m:=Builtin.SmallTypes.nextOf (.ref i)) ?_)));refine draw (i1.at λo e=>b1.extBut _ o D.zi e) (q1.at λo e=>b1.extBut _ o D.lz e) Z λh2 I b2=>wC ?_
 have O:IsPair h2 TO t0 t1:=b2.extBut _ _ D.TOi (b1.extBut _ _ D.zTO to');refine wA (vr O rfl (wA (xT O λh3 o3 h=>wA (wpAny_letGo (wC ?_)))));have J:IsPair h3 TO x t1:=o3;refine wA (wA (wpAny_onRaise (wA (m:=Builtin.SmallTypes.nextOf (.ref j)) ?_)));refine draw (i2.at λo e=>h.extBut _ o D.TOj.symm (b2.extBut _ o D.ij.symm (b1.extBut _ o D.zj e))) (q2.at λo e=>h.extBut _ o D.mT (b2.extBut _ o D.mi (b1.extBut _ o D.mz e))) hy λh4 i4 p=>wC ?_
 have P:IsPair h4 TO x t1:=p.extBut _ _ D.TOj J;refine wA (vr P rfl (wA (xT P λd o5 q=>wA (wpAny_letGo (wC (wC ?_))))));have r:IsPair d TO x y:=o5;refine wA (vr r rfl (wA (wpAny_newTuple ?_)));have sz:d.objs.size=s.heap.objs.size:=by rw[q.1,p.1,h.1,b2.1,b1.1]
 have S:IsZip d z TI TO .ellipsis:=q.extBut _ _ D.zTO.symm (p.extBut _ _ D.zj.symm (h.extBut _ _ D.zTO.symm (b2.extBut _ _ D.zi.symm H)));have k5:∀a o,a≠z->a≠TO->a≠i->a≠j->s.heap.get? a=some o->d.get? a=some o:=λa o B C K L e=>q.extBut _ _ C (p.extBut _ _ L (h.extBut _ _ C (b2.extBut _ _ K (b1.extBut _ _ B e))))
 have U:z<d.objs.size:=wG S;refine wA (m:=Builtin.SmallTypes.ownedTupleHandOut (.ref z) (.ref d.objs.size)) ?_;unfold Builtin.SmallTypes.ownedTupleHandOut;have z6:IsZip (d.push {cls:=.type "tuple",data:=.seq #[x,y]}) z TI TO .ellipsis:=wB _ S;refine wA (vy z6 (by simp) λh7 z7 W=>?_);have M:IsZip h7 z TI TO (rawInt d.objs.size):=z7;refine vy M (by simp) λu z8 X=>?_
 have v:IsZip u z TI TO (rawInt d.objs.size):=z8;have up:∀a o,a≠z->d.get? a=some o->u.get? a=some o:=λa o n e=>X.extBut _ _ n (W.extBut _ _ n (wB _ e))
 have Y:IsPair u d.objs.size x y:=X.extBut _ _ (vR U) (W.extBut _ _ (vR U) (wH _ rfl));rw[sz]at v Y;refine wC ⟨_,rfl,wC ?_⟩;have all:∀a o,a≠z->a≠TO->a≠i->a≠j->s.heap.get? a=some o->u.get? a=some o:=λa o B C K L e=>up a o B (k5 a o B C K L e)
 have fin:=hQ u ⟨v,all _ _ D.zTI D.TT D.TIi D.TIj ti,⟨_,_,up _ _ D.zTO r⟩,I.at λo e=>up _ o D.zi (q.extBut _ o D.TOi.symm (p.extBut _ o D.ij (h.extBut _ o D.TOi.symm e))),i4.at λo e=>up _ o D.zj (q.extBut _ o D.TOj.symm e),
  q1.at λo e=>all _ o D.lz D.lT D.li D.lj e,q2.at λo e=>all _ o D.mz D.mT D.mi D.mj e⟩ Y all
 rw[<-sz]at fin;exact fin
theorem qih(C:A.handled=none)(D:ZA z TI TO i j l m)(st:ZS b c s.heap z TI TO i j l m k xs ys .none)(O:xs[k]?=none\/ys[k]?=none)(P:∀h',(∀a o,a≠z->a≠TO->a≠i->a≠j->s.heap.get? a=some o->h'.get? a=some o)->Q none {s with heap:=h' }):wpAny (model prog w) A (pyNext (.ref z)) Q E s:=by
 obtain⟨n,ti,⟨t0,t1,to'⟩,i1,i2,q1,q2⟩:=st;have H:s.TypeIs (.ref z) "zip":=⟨_,n,rfl⟩;have d:∀(h':Heap) (e:Addr),(∀a o,a≠z->a≠TO->a≠i->a≠j->s.heap.get? a=some o->h'.get? a=some o)->(∃o,h'.get? e=some o/\o.cls=.type "StopIteration") ->
   wpAny (model prog w) A (do if <-isInstance (.ref e) (.type "StopIteration")then pure none else throw (Value.ref e)) Q E {s with heap:=h' }:=λh' e S ⟨o,U,W⟩ =>
  wA (wpAny_isInstance (T:="StopIteration") (b:=true) ⟨o,U,W⟩ isSubtype_stop (wC (P h' S)))
 unfold pyNext;refine wA (uS (wt (name:=Str.ofString "__next__") H xO (wz xO H F.entry_zip_next ?_ (F.args_zip_next_1 _))));refine wA (m:=field (.ref z) 2) (wx n rfl (x:=.bool false) rfl (wA (m:=field (.ref z) 3) (wx n rfl (x:=.ref TI) rfl (wA (vr ti rfl ?_)))));refine wA (m:=Builtin.SmallTypes.ownedTupleIsFree (.ref z)) ?_;unfold Builtin.SmallTypes.ownedTupleIsFree;refine wA (wx n rfl (x:=.none) rfl (wC ?_));simp only[v9];refine wA (u4 (wA (wx n rfl (x:=.ref TO) rfl (wA (vy n (by simp) λX Y b1=>?_)))));have p:IsZip X z TI TO .ellipsis:=Y;refine wA ?_;simp only[List.zipIdx_cons,List.zipIdx_nil,uW,List.forIn_nil];refine wA (wA (wpAny_onRaise (wA (m:=Builtin.SmallTypes.nextOf (.ref i)) ?_)));cases ex:xs[k]? with
 |none =>
  refine qcb C (i1.at λo e=>b1.extBut _ o D.zi e) (q1.at λo e=>b1.extBut _ o D.lz e) ex λv e b2 ⟨y,f,r⟩=>?_
  have I:IsZip v z TI TO .ellipsis:=b2 _ _ D.zi.symm p;have ne:e≠z:=λq=>by subst q;rw[I]at f;cases f;simp at r
  exact vy I (by simp) λJ _ h=>d J e (λa o u _ B _ q=>h.extBut _ _ u (b2 _ _ B (b1.extBut _ _ u q))) ⟨y,h.extBut _ _ ne f,r⟩
 |some x =>
  have Z:ys[k]?=none:=by
   rcases O with q|q
   .rw [ex]at q;cases q
   .exact q
  refine draw (i1.at λo e=>b1.extBut _ o D.zi e) (q1.at λo e=>b1.extBut _ o D.lz e) ex λv a0 b2=>wC ?_
  have K:IsPair v TO t0 t1:=b2.extBut _ _ D.TOi (b1.extBut _ _ D.zTO to');refine wA (vr K rfl (wA (xT K λJ o3 h=>wA (wpAny_letGo (wC ?_)))));refine wA (wA (wpAny_onRaise (wA (m:=Builtin.SmallTypes.nextOf (.ref j)) ?_)));refine qcb C (i2.at λo e=>h.extBut _ o D.TOj.symm (b2.extBut _ o D.ij.symm (b1.extBut _ o D.zj e))) (q2.at λo e=>h.extBut _ o D.mT (b2.extBut _ o D.mi (b1.extBut _ o D.mz e))) Z λh4 e L ⟨y,f,r⟩=>?_
  have M:IsZip h4 z TI TO .ellipsis:=L _ _ D.zj.symm (h.extBut _ _ D.zTO.symm (b2.extBut _ _ D.zi.symm p));have ne:e≠z:=λq=>by subst q;rw[M]at f;cases f;simp at r
  exact vy M (by simp) λh5 _ N=>d h5 e (λa o u n2 B n4 q=>N.extBut _ _ u (L _ _ n4 (h.extBut _ _ n2 (b2.extBut _ _ B (b1.extBut _ _ u q))))) ⟨y,N.extBut _ _ ne f,r⟩
end
def siO(b:Bool)(l:Addr):Obj:=match b with
 |true=>{cls:=.type "tuple_iterator",data:=.fields #[.ref l,.int 0 0]}
 |false=>{cls:=.type "list_iterator",data:=.fields #[.ref l,.int 0 0]}
def qgg{h:Heap}:SI b (h.push (siO b l)) h.objs.size l 0:=by
 cases b with
 |true=>exact⟨_,wH _ rfl,rfl,rfl⟩
 |false=>exact⟨_,wH _ rfl,rfl,rfl⟩
section
variable{prog:Program}{w:World}{A:Around}{E:Value->Shared->Prop}{s:Shared}
theorem qcc(a:SQ b s.heap l xs)(c:Q (.ref s.heap.objs.size) {s with heap:=s.heap.push (siO b l)}):wpAny (model prog w) A (pyIter (.ref l)) Q E s:=by
 cases b with
 |true=>exact wpAny_pyIter_tuple a c
 |false=>exact wpAny_pyIter_list a c
end
def zh1(b:Bool)(h:Heap)(l:Addr):Heap:=h.push (siO b l)
def zh2(b c:Bool)(h:Heap)(l m:Addr):Heap:=(zh1 b h l).push (siO c m)
def zh3(b c:Bool)(h:Heap)(l m:Addr):Heap:=(zh2 b c h l m).push {cls:=.type "tuple",data:=.seq #[.ref h.objs.size,.ref (zh1 b h l).objs.size]}
def zh4(b c:Bool)(h:Heap)(l m:Addr):Heap:=(zh3 b c h l m).push {cls:=.type "tuple",data:=.seq #[.none,.none]}
def zh5(b c:Bool)(h:Heap)(l m:Addr):Heap:=(zh4 b c h l m).push {cls:=.type "zip",data:=.fields #[.none,.bool false,.bool false,.ref (zh2 b c h l m).objs.size,.ref (zh3 b c h l m).objs.size]}
def qii(b c:Bool)(l m:Addr)(xs ys:Array Value):Meets (Builtin.«zip.__new__» ⟨[.type "zip",.ref l,.ref m],[]⟩) (λ_ R s=>SQ b s.heap l xs/\SQ c s.heap m ys/\R (.ok (.ret (.ref (zh4 b c s.heap l m).objs.size))) {s with heap:=zh5 b c s.heap l m}) :=
 .of_wp λprog w A R s h=>by
  obtain⟨a,g,d,tk,os⟩:=s;obtain⟨f,i,h⟩:=h;have k0:=sub_zip;have e1:SQ b (Shared.heap ⟨a,g,d,tk,os⟩) l xs:=f;have j:SQ c (Shared.heap ⟨a.push (siO b l),g,d,tk,os⟩) m ys:=SQ.at i λo e=>wB _ e
  wp_walk using qcc e1,qcc j;exact⟨_,rfl,h⟩
section
variable{prog:Program}{w:World}{A:Around}{E:Value->Shared->Prop}{s:Shared}
theorem qgh(n:SQ b s.heap l xs)(p:SQ c s.heap m ys)(h:∀h':Heap,ZS b c h' (s.heap.objs.size+4) (s.heap.objs.size+2) (s.heap.objs.size+3) s.heap.objs.size (s.heap.objs.size+1) l m 0 xs ys .none->(∀a o,s.heap.get? a=some o->h'.get? a=some o)->Q (.ref (s.heap.objs.size+4)) {s with heap:=h' }):
  wpAny (model prog w) A (call (.type "zip") [.ref l,.ref m]) Q E s:=by
 have d:(zh1 b s.heap l).objs.size=s.heap.objs.size+1:=vW ..;have f:(zh2 b c s.heap l m).objs.size=s.heap.objs.size+2:=by unfold zh2;rw[vW,d]
 have i:(zh3 b c s.heap l m).objs.size=s.heap.objs.size+3:=by unfold zh3;rw[vW,f]
 have r:(zh4 b c s.heap l m).objs.size=s.heap.objs.size+4:=by unfold zh4;rw[vW,i]
 have kp:∀a o,s.heap.get? a=some o->(zh5 b c s.heap l m).get? a=some o:=λa o e=>by
  unfold zh5 zh4 zh3 zh2 zh1;exact wB _ (wB _ (wB _ (wB _ (wB _ e))))
 have j:IsZip (zh5 b c s.heap l m) (zh4 b c s.heap l m).objs.size (zh2 b c s.heap l m).objs.size (zh3 b c s.heap l m).objs.size .none:=wH _ rfl;have u:IsPair (zh5 b c s.heap l m) (zh3 b c s.heap l m).objs.size .none .none:=by
  have q:(zh4 b c s.heap l m).get? (zh3 b c s.heap l m).objs.size=some _:=wH _ rfl;exact wB _ q
 have v:IsPair (zh5 b c s.heap l m) (zh2 b c s.heap l m).objs.size (.ref s.heap.objs.size) (.ref (zh1 b s.heap l).objs.size):=by
  have q:(zh3 b c s.heap l m).get? (zh2 b c s.heap l m).objs.size=some _:=wH _ rfl;exact wB _ (wB _ q)
 have i2:SI c (zh5 b c s.heap l m) (zh1 b s.heap l).objs.size m 0:=SI.at (qgg (b:=c) (h:=zh1 b s.heap l) (l:=m)) λo e=>wB _ (wB _ (wB _ e))
 have i1:SI b (zh5 b c s.heap l m) s.heap.objs.size l 0:=SI.at (qgg (b:=b) (h:=s.heap) (l:=l)) λo e=>wB _ (wB _ (wB _ (wB _ e)))
 refine callType_new F.called_zip (by decide) (F.typeCall_zip_2 _ _) (F.newCall_zip_2 _ _) (λobj=>F.args_object_init_3 obj _ _) F.entry_zip_new (qii b c l m xs ys) ⟨n,p,?_⟩;rw[r,i,f]at j;rw[i]at u;rw[f,d]at v;rw[d]at i2;rw[r];exact⟨⟨_,j,rfl⟩,h _ ⟨j,v,⟨_,_,u⟩,i1,i2,n.at λo e=>kp _ o e,p.at λo e=>kp _ o e⟩ kp⟩
end
def SqB(b:Bool)(K:PySem.W.Frag)(H:Hp)(l:Addr)(xs:List V):Prop:=match b with
 |true=>SqT K H l xs
 |false=>SqL K H l xs
def ItZ(K:PySem.W.Frag)(b c:Bool)(l m:Addr):It:=⟨λi H=>∃xs ys u v,SqB b K H l xs/\SqB c K H m ys/\xs[i]?=some u/\ys[i]?=some v,
 λi H x H'=>∃p u v,x=.ref p/\H p=none/\H'=upd H p (.tup [u,v])/\(∀xs,SqB b K H l xs->xs[i]?=some u)/\∀ys,SqB c K H m ys->ys[i]?=some v,λi H=>∃xs ys,SqB b K H l xs/\SqB c K H m ys/\(xs.length<=i\/ys.length<=i)⟩
section
variable{X:Cx}{pos:Pos}
theorem jF(I:Inv X pins c H s)(h:SqB b X.K H l xs):∃a:List Value,Vals xs a/\SQ b s.heap l a.toArray:=by
 cases b with
 |true=>obtain⟨a,r,p,_⟩:=I.tuple h;exact⟨a,r,p⟩
 |false=>obtain⟨a,r,p,_⟩:=I.list h;exact⟨a,r,p.isList⟩
theorem qdT(I:Inv X pins a H s)(h:SqB b X.K H l xs)(h':SqB b X.K H l ys):xs=ys:=by
 cases b with
 |true=>exact I.tuple_inj h h'
 |false=>exact I.list_inj h h'
def ztn(b c:Bool)(z TI TO i j l m:Addr)(k:Nat)(h:Heap):Prop:=IsZip h z TI TO .none/\IsPair h TI (.ref i) (.ref j)/\(∃a d,IsPair h TO a d)/\SI b h i l k/\SI c h j m k
theorem qgi{P:Program}{w:World}{K:PySem.W.Frag}{es:List Expr}{n:Nat}{tp:Pos}{b c:Bool}{z TI TO i j l m:Addr}(D:ZA z TI TO i j l m):Turn P w K (.Tuple es n tp) (ItZ K b c l m) [z,TI,TO,i,j] z (ztn b c z TI TO i j l m) where
 mem:=by simp
 obj:=λk h ⟨Y,A,⟨a,d,Z⟩,h4,h5⟩ x B=>by
  simp only[wR,wc,v5]at B;rcases B with rfl|rfl|rfl|rfl|rfl
  .exact ⟨_,Y,λv q=>by cases (show Data.fields _=Data.cell v from q)⟩
  .exact ⟨_,A,λv q=>by cases (show Data.seq _ _=Data.cell v from q)⟩
  .exact ⟨_,Z,λv q=>by cases (show Data.seq _ _=Data.cell v from q)⟩
  .exact h4.obj
  .exact h5.obj
 keep:=λk h h' ⟨Y,A,⟨a,d,Z⟩,h4,h5⟩ kp=>⟨kp z (by simp) _ Y,kp TI (by simp) _ A,⟨a,d,kp TO (by simp) _ Z⟩,h4.at λo e=>kp i (by simp) o e,h5.at λo e=>kp j (by simp) o e⟩
 item:=by
  intro X hP hw hK hc k pins s σ H E I p st hg;subst hP hw hK;obtain⟨xs,ys,u,v,B,O,eu,ev⟩:=hg;obtain⟨s1,s2,Q,S,U⟩:=st;obtain⟨J,rx,qx⟩:=jF I B;obtain⟨L,ry,qy⟩:=jF I O;obtain⟨x,ex,a0⟩:=rx.get eu;obtain⟨y,ey,a1⟩:=ry.get ev;refine qki D ⟨s1,s2,Q,S,U,qx,qy⟩ (by simpa using ex) (by simpa using ey) λh' zs pr kp=>⟨_,rfl,?_⟩
  obtain⟨t1,t2,t3,t4,t5,t6,t7⟩:=zs;refine wpAny_letOwnedTupleGo_zip (s:={s with heap:=h' }) t1 λA z2 b2=>?_
  have M:H s.heap.objs.size=none:=I.hok.fresh (wJ _);have nz:s.heap.objs.size≠z:=vR (wG s1);have all:∀a o,a∉[z,TI,TO,i,j]->s.heap.get? a=some o->A.get? a=some o:=λa o f e=>by
   simp only[wR,wc,v5,not_or]at f;exact b2.extBut _ _ f.1 (kp a o f.1 f.2.2.1 f.2.2.2.1 f.2.2.2.2 e)
  have ne:∀a o,s.heap.get? a=some o->a≠s.heap.objs.size:=λa o e=>wa (wG e)
  have nt:∀{a:Addr} {q:HO},H a=some q->a∉[z,TI,TO,i,j]:=λ{a q} e hm=>by rw[(p a hm).1]at e;cases e
  have N:∀{a:Addr} {q:HO},H a=some q->a≠s.heap.objs.size:=λ{a q} e z'=>by subst z';rw[M]at e;cases e
  have C:HOk X.prog X.w (upd H s.heap.objs.size (.tup [u,v])) A:=λa q e=>by
   by_cases qa:a=s.heap.objs.size
   .subst qa
    rw[qH]at e;cases e;exact⟨(show(2:Nat)<=sizeLine by decide),[x,y],.cons a0 (.cons a1 .nil),⟨_,b2.extBut _ _ nz pr,rfl,0,rfl⟩,λo q=>by rw[b2.extBut _ _ nz pr]at q;cases q;rfl⟩
   .rw [qp qa]at e
    refine(I.hok a q e).stay (λd o hd eo=>all d o ?_ eo) (λd e'=>by rw[qp (N e')];exact e') λd xs e'=>by rw[qp (N e')];exact e'
    rcases hd with F|F
    .subst F;exact nt e
    .exact nt F
  have I2:Inv X pins σ (upd H s.heap.objs.size (.tup [u,v])) {s with heap:=A}:=by
   refine I.step (g':=s.gens) (d':=s.drawn) (t':=s.toks) (ch:=[z,TI,TO,i,j]) (λa ha=>⟨(p a ha).2.2.2.1,(p a ha).2.1,(p a ha).2.2.2.2.1,(p a ha).2.2.2.2.2⟩) (λa o _ _ f e _=>all a o f e) (λa o _ _ f e _=>⟨o.slots,all a o f e⟩)
    (λa o _ e n=>by rw[qp (ne a o e)];exact n) (λa o f e=>⟨o,all a o f e⟩) (λa xs e=>by rw[qp (N e)];exact e) (λa o q e=>by rw[qp (N e)];exact e) (λa ps e=>⟨#[],by rw[qp (N e),e];simp⟩) (λmm hm=>?_) C I.bare.self
   obtain⟨o,es,ep,ho,r⟩:=hm;exact⟨o,es,ep,all _ o (λq=>(p _ q).2.1 rfl) ho,r⟩
  refine⟨.ref s.heap.objs.size,_,I2,rfl,⟨_,u,v,rfl,M,rfl,λa3 q=>by rw[qdT I q B];exact eu,λa4 q=>by rw[qdT I q O];exact ev⟩,⟨z2,b2.extBut _ _ D.zTI t2,?_,t4.at λo e=>b2.extBut _ o D.zi e,t5.at λo e=>b2.extBut _ o D.zj e⟩,λa ha=>?_⟩
  .obtain ⟨a,d,t3⟩:=t3
   exact⟨a,d,b2.extBut _ _ D.zTO t3⟩
  .rw [qp]
   .exact (p a ha).1
   .intro q
    have:∃o,s.heap.get? a=some o:=by
     obtain⟨a',d',a2⟩:=Q;simp only[wR,wc,v5]at ha;rcases ha with rfl|rfl|rfl|rfl|rfl
     .exact ⟨_,s1⟩
     .exact ⟨_,s2⟩
     .exact ⟨_,a2⟩
     .exact ⟨_,S.obj.choose_spec.1⟩
     .exact ⟨_,U.obj.choose_spec.1⟩
    obtain⟨o,e⟩:=this;exact ne a o e q
 done:=by
  intro X hP hw hK hc k pins s σ H E I p st hg;subst hP hw hK;obtain⟨xs,ys,B,O,hl⟩:=hg;obtain⟨s1,s2,Q,S,U⟩:=st;obtain⟨J,rx,qx⟩:=jF I B;obtain⟨L,ry,qy⟩:=jF I O;have hn:J.toArray[k]?=none\/L.toArray[k]?=none:=by
   rcases hl with q|q
   .left;simp;rw[<-rx.length];exact q
   .right;simp;rw[<-ry.length];exact q
  refine qih (I.ok.hd hc) D ⟨s1,s2,Q,S,U,qx,qy⟩ hn λh' kp=>⟨rfl,?_⟩
  have nt:∀{a:Addr} {q:HO},H a=some q->a∉[z,TI,TO,i,j]:=λ{a q} e hm=>by rw[(p a hm).1]at e;cases e
  have all:∀a o,a∉[z,TI,TO,i,j]->s.heap.get? a=some o->h'.get? a=some o:=λa o f e=>by
   simp only[wR,wc,v5,not_or]at f;exact kp a o f.1 f.2.2.1 f.2.2.2.1 f.2.2.2.2 e
  have C:HOk X.prog X.w H h':=λa q e=>by
   refine(I.hok a q e).stay (λd o hd eo=>all d o ?_ eo) (λd e'=>e') λd xs e'=>e'
   rcases hd with F|F
   .subst F;exact nt e
   .exact nt F
  refine I.step (g':=s.gens) (d':=s.drawn) (t':=s.toks) (ch:=[z,TI,TO,i,j]) (λa ha=>⟨(p a ha).2.2.2.1,(p a ha).2.1,(p a ha).2.2.2.2.1,(p a ha).2.2.2.2.2⟩) (λa o _ _ f e _=>all a o f e) (λa o _ _ f e _=>⟨o.slots,all a o f e⟩)
   (λa o _ e n=>n) (λa o f e=>⟨o,all a o f e⟩) (λa xs e=>e) (λa o q e=>e) (λa ps e=>⟨#[],by rw[e];simp⟩) (λmm hm=>?_) C I.bare.self
  obtain⟨o,es,ep,ho,r⟩:=hm;exact⟨o,es,ep,all _ o (λq=>(p _ q).2.1 rfl) ho,r⟩
 self:=λ_ _ _ _ _ st h=>wpAny_pyIter_zip st.1 h
end
section
variable{X:Cx}{pos:Pos}
theorem qa3(e:walkF d=some l)(h:Den ι H d v):∃b a xs,v=.ref a/\a∉ι/\Dens ι H l xs/\(if b=true then H a=some (.tup xs)else Rd H a (.lst xs)):=by
 cases d with
 |tup f=>cases e;obtain⟨a,xs,e1,n,ha,c⟩:=h;exact⟨true,a,xs,e1,n,c,by simpa using ha⟩
 |lst f=>cases e;obtain⟨a,xs,e1,n,ha,c⟩:=h;exact⟨false,a,xs,e1,n,c,by simpa using ha⟩
 |_=>cases e
def AtB(b:Bool)(H:Hp)(a:Addr)(xs:List V):Prop:=if b=true then H a=some (.tup xs)else Rd H a (.lst xs)
theorem AtB.sq{b:Bool}{H:Hp}{K:PySem.W.Frag}{a:Addr}{xs:List V}(h:AtB b H a xs):SqB b K H a xs:=by
 cases b with
 |true=>exact .inl (.inl h)
 |false=>exact .inl h
theorem AtB.mono(h:AtB b H a xs)(n:a∉ι)(s:Stp ι H c H'):AtB b H' a xs:=by
 cases b with
 |true=>exact s.keep _ _ h n trivial
 |false=>exact(s.rd h n).1
theorem qkj{ι:List Addr}{H:Hp}{K:PySem.W.Frag}{b c:Bool}{l m:Addr}{xs ys:List V}{ds es:List D}(r:l∉ι)(nm:m∉ι)(w:AtB b H l xs)(y:AtB c H m ys)(A:Dens ι H ds xs)(B:Dens ι H es ys):ItOk ι H (ItZ K b c l m) ((ds.zip es).map λp=>.tup [p.1,p.2]) where
 go:=λi d a H2 s e=>by
  rw[w8]at e;cases z:(ds.zip es)[i]? with
  |none=>rw[z]at e;cases e
  |some p =>
   rw[z]at e;cases e;obtain⟨e1,F⟩:=uM.mp z;obtain⟨u,C,I⟩:=(Dens.mono s ds A).get e1;obtain⟨v,E,J⟩:=(Dens.mono s es B).get F;have f:=(w.mono r s).sq (K:=K);have h:=(y.mono nm s).sq (K:=K);refine⟨⟨xs,ys,u,v,f,h,C,E⟩,λx H3 L=>?_⟩;obtain⟨q,M,N,rfl,o,rfl,j,n⟩:=L;have j:=j xs f;have n:=n ys h;rw[C]at j;cases j;rw[E]at n;cases n;have g:=Stp.laid (ι:=a) o (.tup [u,v]);exact⟨g,λS st=>⟨st.laid o _,q,[u,v],rfl,st.fresh o,qH,u,[v],rfl,Den.mono g _ I,v,[],rfl,Den.mono g _ J,rfl⟩⟩
 stop:=λa H2 s=>by
  refine⟨xs,ys,(w.mono r s).sq,(y.mono nm s).sq,?_⟩;rw[wE,List.length_zip,A.length,B.length];lia
theorem ql4(N l m:Nat)(a:l<N)(b:m<N):ZA (N+4) (N+2) (N+3) N (N+1) l m :=
 ⟨(by lia:N+2≠N+4),(by lia:N+3≠N+4),(by lia:N≠N+4),(by lia:N+1≠N+4),(by lia:N+2≠N+3),(by lia:N+2≠N),(by lia:N+2≠N+1),(by lia:N+3≠N),(by lia:N+3≠N+1),(by lia:N≠N+1),
  (by lia:l≠N+4),(by lia:l≠N+3),(by lia:l≠N),(by lia:l≠N+1),(by lia:m≠N+4),(by lia:m≠N+3),(by lia:m≠N),(by lia:m≠N+1)⟩
theorem qgj:bootBuiltins "zip"=some (.type "zip"):=by decide +kernel
theorem ql5{es:List Expr}{n:Nat}{tp:Pos}{p:Pos}(hg:Gl X "zip")(hm:X.mg "zip"=none)(h1:PE X e1 (T m1))(h2:PE X j (T m2))(M:starEach [e1,j] X.env=(false,eval e1 X.env)::starEach [j] X.env)(u:starEach [j] X.env=(false,eval j X.env)::starEach [] X.env):
  PI X (.Tuple es n tp) (.Call (.Name "zip" p) [e1,j] [] pos) (TIt λρ S=>(m1 ρ S).bind λx S1=>(m2 ρ S1).bind λy S2=>match walkF x,walkF y with
   |some l,some m=>.ok ((l.zip m).map λp=>.tup [p.1,p.2]) S2
   |_,_=>.no):=by
 intro pins s C H R I hw;obtain⟨ι,S,ρ,O,st,q⟩:=hw;dsimp only at q;cases z1:m1 ρ S with
 |no=>rw[z1]at q;exact q.elim
 |err=>rw[z1]at q;exact q.elim
 |ok x S1 =>
  rw[z1,Res.bind_ok]at q;cases z2:m2 ρ S1 with
  |no=>rw[z2]at q;exact q.elim
  |err=>rw[z2]at q;exact q.elim
  |ok y S2 =>
   rw[z2,Res.bind_ok]at q;cases z3:walkF x with
   |none=>simp only[z3]at q
   |some l =>
    cases z4:walkF y with
    |none=>simp only[z3,z4]at q
    |some m =>
     simp only[z3,z4]at q;refine Call_ (yB I hg hm qgj (va (e:=e1) (rest:=[j]) ?_ M (by rw[u];rfl)));rw[M,u];refine vg (thn (h1 pins s C H (λv i=>∃d,Stp ι H d i/\Sto d i S1/\Den d i x v) I ⟨ι,S,ρ,O,st,by rw[z1];exact λv d i a b c=>⟨d,a,b,c⟩⟩) λu1 s1 ⟨v1,i,I1,r1,d,q1,E,d1⟩=>?_);refine vg (thn (h2 pins s1 C i (λv H2=>∃f,Stp d i f H2/\Sto f H2 S2/\Den f H2 y v) I1 ⟨d,S1,ρ,O.mono q1,E,by rw[z2];exact λv d i a b c=>⟨d,a,b,c⟩⟩) λu2 s2 ⟨v2,H2,A,r2,f,q2,F,d2⟩=>u6 ?_);obtain⟨b,J,xs,rfl,nl,dl,P⟩:=qa3 z3 (Den.mono q2 x d1);obtain⟨c,L,ys,rfl,nm,dm,Q⟩:=qa3 z4 d2;cases r1;cases r2;obtain⟨a0,rx,U⟩:=jF A (AtB.sq P);obtain⟨a1,ry,W⟩:=jF A (AtB.sq Q);have lt:∀{b:Bool} {a:Addr} {w:Array Value},SQ b s2.heap a w->a<s2.heap.objs.size:=λ{b a w} h=>by
      cases b with
      |true=>obtain⟨o,e,_⟩:=h;exact wG e
      |false=>obtain⟨o,e,_⟩:=h;exact wG e
     have Y:=lt U;have Z:=lt W;refine qgh U W λh' r kp=>wpAny_pyIter_zip r.z ?_
     have I3:Inv X pins C H2 {s2 with heap:=h' }:=A.kept (t':=s2.toks) kp;generalize hN:s2.heap.objs.size=N at Y Z r;have D:ZA (N+4) (N+2) (N+3) N (N+1) J L:=ql4 N J L Y Z;refine⟨N+4,[N+4,N+2,N+3,N,N+1],_,ItZ X.K b c J L,H2,rfl,I3,qgi D,⟨r.z,r.ti,r.to',r.i1,r.i2⟩,λa ha=>?_,q f H2 _ (q1.trans q2) F (qkj nl nm P Q dl dm)⟩;have B:s2.heap.objs.size<=a:=by
      rw[hN];simp only[wR,wc,v5]at ha;rcases ha with rfl|rfl|rfl|rfl|rfl
      .exact xD _ _
      .exact xD _ _
      .exact xD _ _
      .exact wJ _
      .exact xD _ _
     exact A.fpOk B (A.hok.fresh B)
end
end R
namespace R
open PySem PySem.Spec L2 SeqAt
open PyProof.Rows hiding St
open PySem.W (KasT kas_rev kas_asc kas_desc kas_tail3 kas_descPart kas_count kas_place kas_bin kas_sort)
def evT{b:Type}(lt:Nat->Nat->Bool):KasT b->b
 | .ret a=>a
 | .ask i j k=>evT lt (k (lt i j))
def ye{a b:Type}(lt:Nat->Nat->Bool)(f:a->KasT b):∀t:KasT a,evT lt (t.bind f)=evT lt (f (evT lt t))
 | .ret _=>rfl
 | .ask i j k=>ye lt f (k (lt i j))
structure Ord (lt:Nat->Nat->Bool) (n:Nat):Prop where
 irr:∀a,a<n->lt a a=false
 tr:∀a b c,a<n->b<n->c<n->lt a b=true->lt b c=true->lt a c=true
 tot:∀a b,a<n->b<n->a≠b->lt a b=true\/lt b a=true
def gt(p:Array Nat)(k:Nat):Nat:=p.getD k 0
def Pm(n:Nat)(p:Array Nat):Prop:=p.toList.Perm (List.range n)
section
variable{lt:Nat->Nat->Bool}{n:Nat}{p:Array Nat}
theorem Pm.size(h:Pm n p):p.size=n:=by
 have:=h.length_eq;simpa using this
theorem qcd{k:Nat}(a:k<p.size):gt p k=p[k]:=by simp[gt,Array.getD,a]
theorem jq{k j:Nat}(h:q[k]?=p[j]?):gt q k=gt p j:=by
 unfold gt;rw[Array.getD_eq_getD_getElem?,Array.getD_eq_getD_getElem?,h]
theorem Pm.bd(h:Pm n p){k:Nat}(a:k<n):gt p k<n:=by
 have b:k<p.size:=by rw[h.size];exact a
 rw[qcd b];have hm:p[k]∈p.toList:=by simp
 exact vu.mp (h.mem_iff.mp hm)
theorem Pm.inj(h:Pm n p){i j:Nat}(hi:i<n)(c:j<n)(e:gt p i=gt p j):i=j:=by
 have nd:p.toList.Nodup:=h.nodup_iff.mpr List.nodup_range;have a:i<p.size:=by rw[h.size];exact hi
 have b:j<p.size:=by rw[h.size];exact c
 rw[qcd a,qcd b]at e;have e':p.toList[i]'(by simpa using a)=p.toList[j]'(by simpa using b):=by simpa using e
 exact(xE nd).mp e'
def Srt(lt:Nat->Nat->Bool)(p:Array Nat)(m:Nat):Prop:=∀i j,i<j->j<m->lt (gt p i) (gt p j)=true
theorem Srt.one:Srt lt p 1:=λi j a b=>by lia
theorem Srt.snoc(O:Ord lt n)(h:Pm n p){m:Nat}(hm:1<=m)(hn:m<n)(s:Srt lt p m)(q:lt (gt p (m-1)) (gt p m)=true):Srt lt p (m+1):=λi j a c=>by
 by_cases b:j<m
 .exact s i j a b
 .have e:j=m:=by lia
  subst e;by_cases hi:i=j-1
  .subst hi;exact q
  .exact O.tr _ _ _ (h.bd (by lia)) (h.bd (by lia)) (h.bd hn) (s i (j-1) (by lia) (by lia)) q
theorem qbu(O:Ord lt n)(h:Pm n p):∀(f k:Nat),1<=k->k+f=n->Srt lt p k->(k<=evT lt (kas_asc p f k)/\evT lt (kas_asc p f k)<=n/\Srt lt p (evT lt (kas_asc p f k)))/\(evT lt (kas_asc p f k)<n->lt (gt p (evT lt (kas_asc p f k))) (gt p (evT lt (kas_asc p f k)-1))=true)
 |0,k,h1,h2,s=>⟨⟨wJ _,by show k<=n;lia,s⟩,λq=>by have j:k<n:=q;lia⟩
 |f+1,k,h1,h2,s=>by
  unfold kas_asc;simp only[evT];cases z:lt (p.getD k 0) (p.getD (k-1) 0)with
  |true =>
   rw[wN rfl];exact⟨⟨wJ _,by show k<=n;lia,s⟩,λ_=>z⟩
  |false =>
   rw[wT (by decide)];have a:gt p k≠gt p (k-1):=λe=>by
    have:=h.inj (by lia) (by lia) e;lia
   have q:lt (gt p (k-1)) (gt p k)=true:=by
    rcases O.tot _ _ (h.bd (show k<n by lia)) (h.bd (show k-1<n by lia)) a with y|y
    .have b:lt (gt p k) (gt p (k-1))=false:=z
     rw[b]at y;cases y
    .exact y
   obtain⟨⟨l,c,d⟩,i⟩:=qbu O h f (k+1) (by lia) (by lia) (s.snoc O h h1 (by lia) q);exact⟨⟨by lia,c,d⟩,i⟩
def Fal(lt:Nat->Nat->Bool)(p:Array Nat)(m:Nat):Prop:=∀i j,i<j->j<m->lt (gt p j) (gt p i)=true
theorem Fal.snoc(O:Ord lt n)(h:Pm n p){m:Nat}(hm:1<=m)(hn:m<n)(s:Fal lt p m)(q:lt (gt p m) (gt p (m-1))=true):Fal lt p (m+1):=λi j a c=>by
 by_cases b:j<m
 .exact s i j a b
 .have e:j=m:=by lia
  subst e;by_cases hi:i=j-1
  .subst hi;exact q
  .exact O.tr _ _ _ (h.bd hn) (h.bd (by lia)) (h.bd (by lia)) q (s i (j-1) (by lia) (by lia))
theorem qbv(O:Ord lt n)(h:Pm n p):∀(f k:Nat),1<=k->k+f=n->Fal lt p k->∃m,evT lt (kas_desc f p k 0)=(p,m,0)/\k<=m/\m<=n/\Fal lt p m
 |0,k,h1,h2,s=>⟨k,rfl,wJ _,by lia,s⟩
 |f+1,k,h1,h2,s=>by
  unfold kas_desc;simp only[evT];cases z:lt (p.getD k 0) (p.getD (k-1) 0)with
  |true =>
   rw[wN rfl,wT (by lia)];obtain⟨m,e,i,b,c⟩:=qbv O h f (k+1) (by lia) (by lia) (s.snoc O h h1 (by lia) z);exact⟨m,e,by lia,b,c⟩
  |false =>
   rw[wT (by decide)];simp only[evT];have a:gt p k≠gt p (k-1):=λe=>by
    have:=h.inj (by lia) (by lia) e;lia
   have q:lt (p.getD (k-1) 0) (p.getD k 0)=true:=by
    rcases O.tot _ _ (h.bd (show k<n by lia)) (h.bd (show k-1<n by lia)) a with y|y
    .have d:lt (gt p k) (gt p (k-1))=false:=z
     rw[d]at y;cases y
    .exact y
   rw[q,wN rfl];exact⟨k,rfl,wJ _,by lia,s⟩
theorem qgk(h:Pm n p)(i j:Nat):Pm n (kas_rev p i j):=(mirror_perm p i j _).toList.trans h
theorem tail_ok(O:Ord lt n)(h:Pm n p){k:Nat}(b:1<=k)(c:k<=n)(s:Fal lt p k):∃m q,evT lt (kas_tail3 k n p)=(m,q)/\Pm n q/\1<=m/\m<=n/\Srt lt q m:=by
 have a:Pm n (kas_rev p 0 k):=qgk h 0 k;have d:Srt lt (kas_rev p 0 k) k:=λi j v f=>by
  have e:∀x,x<k->gt (kas_rev p 0 k) x=gt p (k-1-x):=λx l=>by
   have:=getElem?_mirror_all (xs:=p) (i:=0) (j:=k) (by rw[h.size];exact c) x;rw[wN ⟨vN _,l⟩]at this;have q:=jq this;have o:0+k-1-x=k-1-x:=by lia
   rw[o]at q;exact q
  rw[e i (by lia),e j f];exact s (k-1-j) (k-1-i) (by lia) (by lia)
 unfold kas_tail3;rw[ye];obtain⟨⟨w,r,u⟩,_⟩:=qbu O a (n-k) k b (by lia) d;exact⟨_,_,rfl,a,by lia,r,u⟩
theorem qce(O:Ord lt n)(hn:1<=n)(h:Pm n p):∃m q,evT lt (kas_count n p)=(m,q)/\Pm n q/\1<=m/\m<=n/\Srt lt q m:=by
 unfold kas_count;rw[ye];obtain⟨⟨c,d,a⟩,f⟩:=qbu O h (n-1) 1 (wJ _) (by lia) Srt.one;generalize evT lt (kas_asc p (n-1) 1)=m at *;by_cases e:m=n
 .subst e
  rw[wN (by simp)];exact⟨m,p,rfl,h,c,d,a⟩
 .rw [wT (by simpa using e)]
  by_cases b:m>1
  .rw [wN b]
   simp only[evT];have q:lt (p.getD 0 0) (p.getD (m-1) 0)=true:=a 0 (m-1) (by lia) (by lia);rw[q,wN rfl];exact⟨m,p,rfl,h,c,d,a⟩
  .rw [wT b]
   have e1:m=1:=by lia
   subst e1;have q:=f (by lia);unfold kas_descPart;rw[ye];have l:Fal lt p 2:=Fal.snoc (m:=1) O h (wJ _) (by lia) (λi j b r=>by lia) q;obtain⟨k,e,b1,b2,o⟩:=qbv O h (n-(1+1)) (1+1) (by lia) (by lia) l;rw[e];rw[wT (by simp)];exact tail_ok (k:=k) O h (by lia) b2 o
theorem qak(O:Ord lt n)(h:Pm n p){k:Nat}(c:k<n)(s:Srt lt p k):∀(f l r:Nat),l<=r->r<=k->r-l<=f->(∀i,i<l->lt (gt p i) (gt p k)=true)->(∀i,r<=i->i<k->lt (gt p k) (gt p i)=true) ->
  evT lt (kas_place p k f l r)<=k/\(∀i,i<evT lt (kas_place p k f l r)->lt (gt p i) (gt p k)=true)/\∀i,evT lt (kas_place p k f l r)<=i->i<k->lt (gt p k) (gt p i)=true
 |0,l,r,h1,h2,h3,a,b=>⟨by show l<=k;lia,a,λi d j=>b i (by have m:l<=i:=d;lia) j⟩
 |f+1,l,r,h1,h2,h3,a,b=>by
  unfold kas_place;by_cases u:l>=r
  .rw [wN u]
   exact⟨by show l<=k;lia,a,λi d j=>b i (by have m:l<=i:=d;lia) j⟩
  .rw [wT u]
   simp only[evT];have hm:(l+r) / 2<k:=by lia
   cases z:lt (p.getD k 0) (p.getD ((l+r) / 2) 0)with
   |true =>
    rw[wN rfl];refine qak O h c s f l ((l+r) / 2) (by lia) (by lia) (by lia) a λi d j=>?_
    by_cases e:i=(l+r) / 2
    .subst e;exact z
    .exact O.tr _ _ _ (h.bd c) (h.bd (by lia)) (h.bd (by lia)) z (s ((l+r) / 2) i (by lia) j)
   |false =>
    rw[wT (by decide)];have o:gt p k≠gt p ((l+r) / 2):=λe=>by
     have:=h.inj c (by lia) e;lia
    have q:lt (gt p ((l+r) / 2)) (gt p k)=true:=by
     rcases O.tot _ _ (h.bd c) (h.bd (show(l+r) / 2<n by lia)) o with y|y
     .have v:lt (gt p k) (gt p ((l+r) / 2))=false:=z
      rw[v]at y;cases y
     .exact y
    refine qak O h c s f ((l+r) / 2+1) r (by lia) h2 (by lia) (λi d=>?_) b;by_cases e:i=(l+r) / 2
    .subst e;exact q
    .exact O.tr _ _ _ (h.bd (by lia)) (h.bd (by lia)) (h.bd c) (s i ((l+r) / 2) (by lia) hm) q
theorem qgl(O:Ord lt n):∀(f k:Nat) (p:Array Nat),Pm n p->k+f=n->Srt lt p k->Pm n (evT lt (kas_bin f p k))/\Srt lt (evT lt (kas_bin f p k)) n
 |0,k,p,h,h1,s=>by
  have e:k=n:=by lia
  subst e;exact⟨h,s⟩
 |f+1,k,p,h,h1,s=>by
  unfold kas_bin;rw[ye];obtain⟨u,d,m⟩:=qak O h (k:=k) (by lia) s k 0 k (vN _) (wJ _) (by lia) (λi hi=>by lia) λi a o=>by lia
  generalize evT lt (kas_place p k k 0 k)=l at *;have q:Pm n (bubble p k (k-l)):=(bubble_perm p k (k-l)).toList.trans h;refine qgl O f (k+1) _ q (by lia) λi j a o=>?_
  have ev:∀x,gt (bubble p k (k-l)) x=if x=l then gt p k else if l<x/\x<=k then gt p (x-1)else gt p x:=λx=>by
   have e:=getElem?_bubble (xs:=p) (src:=k) (by rw[h.size];lia) (k-l) (by lia) x;have r:k-(k-l)=l:=by lia
   rw[r]at e;by_cases q1:x=l
   .rw [wN q1]at e ⊢;exact jq e
   .rw [wT q1]at e ⊢
    by_cases q2:l<x/\x<=k
    .rw [wN q2]at e ⊢;exact jq e
    .rw [wT q2]at e ⊢;exact jq e
  rw[ev i,ev j];by_cases i1:i=l
  .rw [wN i1,wT (by lia),wN ⟨by lia,by lia⟩]
   exact m (j-1) (by lia) (by lia)
  .rw [wT i1]
   by_cases b:j=l
   .rw [wN b,wT (by lia)]
    exact d i (by lia)
   .rw [wT b]
    by_cases i2:l<i/\i<=k
    .rw [wN i2,wN ⟨by lia,by lia⟩]
     exact s (i-1) (j-1) (by lia) (by lia)
    .rw [wT i2]
     by_cases c:l<j/\j<=k
     .rw [wN c]
      exact s i (j-1) (by lia) (by lia)
     .rw [wT c]
      exact s i j a (by lia)
theorem qdU(O:Ord lt n)(hn:1<=n):Pm n (evT lt (kas_sort n))/\Srt lt (evT lt (kas_sort n)) n:=by
 unfold kas_sort;rw[ye];have d:Pm n (List.toArray (List.range n)):=by
  show(List.toArray (List.range n)).toList.Perm _;simp
 obtain⟨m,q,e,b,f,h,c⟩:=qce O hn d;rw[e];by_cases hm:m<n
 .rw [wN hm]
  have a:max m 1=m:=by lia
  show Pm n (evT lt (kas_bin (n-max m 1) q (max m 1)))/\_;rw[a];exact qgl O (n-m) m q b (by lia) c
 .rw [wT hm]
  have a:m=n:=by lia
  subst a;exact⟨b,c⟩
end
end R
namespace R
open PySem PySem.Spec L2 SeqAt
open PyProof.Rows hiding St
open PySem.W (KasT kas_rev kas_asc kas_desc kas_tail3 kas_descPart kas_count kas_place kas_bin kas_sort kas_cmp kas_item kas_item_eq kas_runs kas_st kas_range KatLex kat_lt KatTups kat_kind)
def InT{a:Type}(lt:Nat->Nat->Bool)(n:Nat):KasT a->Prop
 | .ret _=>True
 | .ask i j k=>i<n/\j<n/\InT lt n (k (lt i j))
section
variable{lt:Nat->Nat->Bool}{n:Nat}{p:Array Nat}
theorem yf{a b:Type}{f:a->KasT b}:∀{t:KasT a},InT lt n t->InT lt n (f (evT lt t))->InT lt n (t.bind f)
 | .ret _,_,h=>h
 | .ask i j k,h,h'=>⟨h.1,h.2.1,yf h.2.2 h'⟩
theorem qc7(h:Pm n p):∀(f k:Nat),1<=k->k+f=n->InT lt n (kas_asc p f k)
 |0,_,_,_=>trivial
 |f+1,k,h1,h2=>by
  refine⟨h.bd (show k<n by lia),h.bd (show k-1<n by lia),?_⟩;dsimp only;split
  .trivial
  .exact qc7 h f (k+1) (by lia) (by lia)
theorem qdV(O:Ord lt n)(h:Pm n p):∀(f k:Nat),1<=k->k+f=n->InT lt n (kas_desc f p k 0)
 |0,_,_,_=>trivial
 |f+1,k,h1,h2=>by
  refine⟨h.bd (show k<n by lia),h.bd (show k-1<n by lia),?_⟩;cases z:lt (p.getD k 0) (p.getD (k-1) 0)with
  |true =>
   dsimp only;rw[wN rfl,wT (by lia)];exact qdV O h f (k+1) (by lia) (by lia)
  |false =>
   dsimp only;rw[wT (by decide)];refine⟨h.bd (show k-1<n by lia),h.bd (show k<n by lia),?_⟩;have a:gt p k≠gt p (k-1):=λe=>by
    have:=h.inj (by lia) (by lia) e;lia
   have q:lt (p.getD (k-1) 0) (p.getD k 0)=true:=by
    rcases O.tot _ _ (h.bd (show k<n by lia)) (h.bd (show k-1<n by lia)) a with y|y
    .have b:lt (gt p k) (gt p (k-1))=false:=z
     rw[b]at y;cases y
    .exact y
   rw[q];dsimp only;rw[wN rfl];trivial
theorem qij(h:Pm n p){k:Nat}(a:1<=k)(b:k<=n):InT lt n (kas_tail3 k n p):=yf (qc7 (qgk h 0 k) (n-k) k a (by lia)) trivial
theorem qgm(O:Ord lt n)(hn:1<=n)(h:Pm n p):InT lt n (kas_count n p):=by
 unfold kas_count;obtain⟨⟨f,l,b⟩,c⟩:=qbu O h (n-1) 1 (wJ _) (by lia) Srt.one;refine yf (qc7 h (n-1) 1 (wJ _) (by lia)) ?_;generalize evT lt (kas_asc p (n-1) 1)=m at *;by_cases e:m=n
 .subst e;rw[wN (by simp)];trivial
 .rw [wT (by simpa using e)]
  by_cases a:m>1
  .rw [wN a]
   refine⟨h.bd (show 0<n by lia),h.bd (show m-1<n by lia),?_⟩;have q:lt (p.getD 0 0) (p.getD (m-1) 0)=true:=b 0 (m-1) (by lia) (by lia);rw[q];dsimp only;rw[wN rfl];trivial
  .rw [wT a]
   have e1:m=1:=by lia
   subst e1;have q:=c (by lia);unfold kas_descPart;have d:Fal lt p 2:=Fal.snoc (m:=1) O h (wJ _) (by lia) (λi j a o=>by lia) q;obtain⟨k,e,b1,b2,r⟩:=qbv O h (n-(1+1)) (1+1) (by lia) (by lia) d;refine yf (qdV O h (n-(1+1)) (1+1) (by lia) (by lia)) ?_;rw[e,wT (by simp)];exact qij (k:=k) h (by lia) b2
theorem qal(h:Pm n p){k:Nat}(a:k<n):∀(f l r:Nat),r<=k->InT lt n (kas_place p k f l r)
 |0,_,_,_=>trivial
 |f+1,l,r,h2=>by
  unfold kas_place;by_cases b:l>=r
  .rw [wN b];trivial
  .rw [wT b]
   refine⟨h.bd a,h.bd (show(l+r) / 2<n by lia),?_⟩;dsimp only;split
   .exact qal h a f l _ (by lia)
   .exact qal h a f _ r h2
theorem qgn(O:Ord lt n):∀(f k:Nat) (p:Array Nat),Pm n p->k+f=n->InT lt n (kas_bin f p k)
 |0,_,_,_,_=>trivial
 |f+1,k,p,h,h1=>yf (qal h (by lia) k 0 k (wJ _)) (qgn O f (k+1) _ ((bubble_perm p k _).toList.trans h) (by lia))
theorem qik(O:Ord lt n)(hn:1<=n):InT lt n (kas_sort n):=by
 have a:Pm n (List.toArray (List.range n)):=by
  show(List.toArray (List.range n)).toList.Perm _;simp
 obtain⟨m,q,e,b,d,f,h⟩:=qce O hn a;refine yf (qgm O hn a) ?_;rw[e];by_cases hm:m<n
 .rw [wN hm]
  have c:max m 1=m:=by lia
  show InT lt n (kas_bin (n-max m 1) q (max m 1));rw[c];exact qgn O (n-m) m q b (by lia)
 .rw [wT hm];trivial
theorem qdW{a:Type}{cmp:Nat->Nat->(Bool->Shared->Prop)->Shared->Prop}{s:Shared}(b:∀i j C,i<n->j<n->C (lt i j) s->cmp i j C s){Q:a->Shared->Prop}:∀{t:KasT a},InT lt n t->Q (evT lt t) s->t.kasWp cmp Q s
 | .ret _,_,h=>h
 | .ask i j k,h,q=>b i j _ h.1 h.2.1 (qdW b h.2.2 q)
end
section
variable{prog:Program}{w:World}{A:Around}{E:Value->Shared->Prop}{s:Shared}
theorem qkk{x y:Int}(h:Q (decide (x<y)) s):wpAny (model prog w) A (oneLt' b (.int x t) (.int y u)) Q E s:=by
 cases b with
 |true=>exact oneLt_int h
 |false=>exact PySem.W.kat_one _ _ (PySem.P.lt_int h)
theorem qgo:∀{xs ys:List Int} {us vs:List Value} {i:Nat},IntsAre us xs->IntsAre vs ys->Q (HT.lexLt xs ys) s->KatLex prog w A b (decide (xs.length<ys.length)) Q (us.zip vs) i s:=by
 intro xs;induction xs with
 |nil =>
  intro ys us vs i a c h;cases a;cases c with
  |nil=>exact h
  |cons =>
   show Q _ s;simpa[HT.lexLt]using h
 |cons x xs d =>
  intro ys us vs i a c h;cases a with
  |cons _ t f =>
  cases c with
  |nil =>
   show Q _ s;simpa[HT.lexLt]using h
  |cons _ u j =>
  refine wpAny_eqBool_int ?_;rw[HT.zx]at h;split at h
  .rename_i e
   subst e;rw[wN (by simp)];have:=d (i:=i+1) f j h;simpa[List.zip]using this
  .rename_i e
   rw[wT (by simpa using e)];exact qkk h
def TupsAt(h:Heap):List Value->List (List Int)->Prop
 |[],ks=>ks=[]
 |v::vs,ks=>∃a b k r,v=.ref a/\ks=k::r/\IsTup h a b.toArray/\IntsAre b k/\TupsAt h vs r
theorem TupsAt.len:∀{vs:List Value} {ks:List (List Int)},TupsAt h vs ks->vs.length=ks.length
 |[],_,e=>by cases (show _=[]from e);rfl
 |_::_,_,e=>by obtain⟨a,b,k,r,_,rfl,_,_,t⟩:=e;simp[TupsAt.len t]
theorem TupsAt.get:∀{vs:List Value} {ks:List (List Int)} (i:Nat),TupsAt h vs ks->i<ks.length->∃a b,vs.getD i .none=.ref a/\IsTup h a b.toArray/\IntsAre b (ks.getD i [])
 |[],_,_,e,hi=>by cases (show _=[]from e);simp at hi
 |_::vs,_,0,e,hi=>by obtain⟨a,b,k,r,rfl,rfl,c,d,_⟩:=e;exact⟨a,b,rfl,c,by simpa using d⟩
 |_::vs,_,i+1,e,hi=>by
  obtain⟨a,b,k,r,rfl,rfl,c,d,t⟩:=e;obtain⟨f,its',e1,j,l⟩:=TupsAt.get i t (by simpa using hi);exact⟨f,its',by simpa using e1,j,by simpa using l⟩
theorem TupsAt.keep{h h':Heap}:∀{vs:List Value} {ks:List (List Int)},TupsAt h vs ks->(∀a o,Value.ref a∈vs->h.get? a=some o->h'.get? a=some o)->TupsAt h' vs ks
 |[],_,e,_=>e
 |_::_,_,e,hk=>by
  obtain⟨a,d,k,r,rfl,rfl,⟨o,f,c⟩,i,t⟩:=e;exact⟨a,d,k,r,rfl,rfl,⟨o,hk a o wQ f,c⟩,i,t.keep λb u j=>hk b u (wO _ j)⟩
theorem TupsAt.firsts:∀{vs:List Value} {ks:List (List Int)},TupsAt h vs ks->(∀k∈ks,k≠[])->∃fs:List Value,KatTups h vs fs/\fs.length=vs.length/\∀f∈fs,∃x t,f=.int x t
 |[],_,e,_=>⟨[],trivial,rfl,λf b=>by cases b⟩
 |_::_,_,e,hn=>by
  obtain⟨a,j,k,r,rfl,rfl,⟨o,l,c,m,d⟩,i,t⟩:=e;obtain⟨fs,k1,k2,k3⟩:=t.firsts λk n=>hn k (wO _ n)
  cases i with
  |nil=>exact absurd rfl (hn [] wQ)
  |cons x tx i =>
   refine⟨.int x tx::fs,⟨⟨a,o,_,m,rfl,l,c,d,by simp⟩,k1⟩,by simp[k2],λf b=>?_⟩;rcases wR.mp b with z|z
   .exact ⟨x,tx,z⟩
   .exact k3 f z
def ltK(ks:List (List Int))(i j:Nat):Bool:=HT.lexLt (ks.getD i []) (ks.getD j [])
theorem qil(t:TupsAt s.heap vs ks){i j:Nat}(hi:i<ks.length)(l:j<ks.length)(h:C (ltK ks i j) s):kas_cmp prog w A (tuples' true) (pairsOf vs) i j C s:=by
 unfold kas_cmp;rw[kas_item_eq,kas_item_eq];obtain⟨a,xs,e1,⟨o,n,_,m,d⟩,c⟩:=t.get i hi;obtain⟨b,ys,p,⟨u,eu,_,v,d'⟩,f⟩:=t.get j l;dsimp only;rw[e1,p];have:=qgo (prog:=prog) (w:=w) (A:=A) (s:=s) (b:=true) (i:=0) (Q:=C) c f h;refine kat_lt n d eu d' ?_;have q:=c.length;have r:=f.length;simpa[q,r]using this
theorem qgp(t:TupsAt s.heap vs ks)(hn:∀k∈ks,k≠[])(b:2<=vs.length){Q:SortKind->Shared->Prop}(h:Q (tuples' true) s):wpAny (model prog w) A (keyKind' vs.toArray) Q E s:=by
 obtain⟨fs,k1,k2,k3⟩:=t.firsts hn;refine kat_kind (T:=Value.type "int") k1 (by lia) (λv a=>?_) (by decide) h;obtain⟨x,tx,rfl⟩:=k3 v a;exact .now
end
end R
namespace R
open PySem PySem.Spec L2 SeqAt
open PyProof.Rows hiding St
open PySem.W (KasT kas_sort kas_cmp kas_item kas_item_eq kas_runs kas_st kas_range KdlSrc kdl_extend kdl_hint_dict)
section
variable{prog:Program}{w:World}{A:Around}{E:Value->Shared->Prop}{s:Shared}
structure Answers (prog:Program) (w:World) (A:Around) (vs:List Value) (s:Shared) (κ:SortKind) (lt:Nat->Nat->Bool):Prop where
 kind:∀(E:Value->Shared->Prop) (Q:SortKind->Shared->Prop),Q κ s->wpAny (model prog w) A (keyKind' vs.toArray) Q E s
 ord:Ord lt vs.length
 cmp:∀i j C,i<vs.length->j<vs.length->C (lt i j) s->kas_cmp prog w A κ (pairsOf vs) i j C s
def outOf(lt:Nat->Nat->Bool)(vs:List Value):List Value:=if vs.length<2 then vs else(evT lt (kas_sort vs.length)).toList.map λi=>vs.getD i Value.none
theorem lsort{D:Addr}{vs:List Value}{n:Nat}{κ:SortKind}{lt:Nat->Nat->Bool}{P:PySem.Fin->Shared->Prop}(r:s.heap.get? D=some (seqObj "list" vs.toArray n))(v:vs.length<64)(x:2<=vs.length->∀h':Heap,(∀b o,b≠D->s.heap.get? b=some o->h'.get? b=some o)->Answers prog w A vs {s with heap:=h' } κ lt)(h:∀(h':Heap) (c:Nat),(∀b o,b≠D->s.heap.get? b=some o->h'.get? b=some o)->h'.get? D=some (seqObj "list" (outOf lt vs).toArray c)->P (.done (.ret .none)) {s with heap:=h' }):
  wpAny (model prog w) A (Builtin.«list.sort» ⟨[.ref D],[]⟩) P E s:=by
 have L:D<s.heap.objs.size:=wG r;obtain⟨e1,B⟩:∃e1,(s.heap.update D (Obj.mapSeq λ_=>(#[]:Array Value))).get? D=some (seqObj "list" #[] e1):=⟨_,xI r λ_=>#[]⟩;have k1:∀b o,b≠D->s.heap.get? b=some o->(((s.heap.update D (Obj.mapSeq λ_=>(#[]:Array Value))).push (seqObj "tuple" vs.toArray 0)).push (seqObj "list" #[] 0)).get? b=some o:=λb o u e =>
  wB _ (wB _ ((wW _ _ (Ne.symm u)).trans e))
 have j:(((s.heap.update D (Obj.mapSeq λ_=>(#[]:Array Value))).push (seqObj "tuple" vs.toArray 0)).push (seqObj "list" #[] 0)).get? D=some (seqObj "list" #[] e1):=wB _ (wB _ B);rw[list_sort_plain];refine wA (listItems_at r rfl (wA (listUpdate_at r rfl (wA (seqEpoch_at B rfl (wA (wpAny_newTuple (wA (wpAny_newList (vE ?_) (vN _))) (by show vs.length<=_;rw[vT];lia)))))
  (by rw[wK,vT];lia) (vN _))))
 generalize M:((s.heap.update D (Obj.mapSeq λ_=>(#[]:Array Value))).push (seqObj "tuple" vs.toArray 0)).push (seqObj "list" #[] 0)=h3 at k1 j;show wpAny (model prog w) A _ P E {s with heap:=h3};dsimp only;have fin:∀(xs:Array Value),xs=(outOf lt vs).toArray->P (.done (.ret .none)) {s with heap:=h3.update D (Obj.mapSeq λ_=>xs)}:=λxs ex=>by
  subst ex;exact h _ _ (λb o u e=>(wW _ _ (Ne.symm u)).trans (k1 b o u e)) (xI j λ_=>(outOf lt vs).toArray)
 by_cases l:vs.toArray.size<2
 .have f:vs.length<2:=by simpa using l
  rw[wN l,wN l];refine wA (wC ?_);rw[StateT.run_pure];refine wA (wC (?_:wpAny _ A _ _ _ _));dsimp only;refine wA (seqEpoch_at j rfl (wA (listUpdate_at j rfl ?_ (vN _) (by rw[Array.size_map];show(pairsOf vs).size<=_;rw[pairsOf_size,vT];lia))));simp only[bne_self_eq_false,wi,uO];refine wC (fin _ ?_);unfold outOf;rw[wN f];apply Array.toList_inj.mp;show((vs.toArray.zip vs.toArray).map (·.2)).toList=_;simp[List.map_snd_zip]
 .have f:2<=vs.length:=by
   have:¬vs.length<2:=by simpa using l
   lia
  have a:=x f h3 k1;rw[wT l,wT l];refine wA (a.kind _ _ ?_);have y:SortSt.mk' κ (vs.toArray.zip vs.toArray) #[] 7 none=kas_st κ (pairsOf vs) (List.toArray (List.range vs.length)):=by
   have e:=kas_range (pairsOf vs);rw[pairsOf_size]at e;show SortSt.mk' κ (pairsOf vs) #[] 7 none=SortSt.mk' κ ((List.toArray (List.range vs.length)).map (kas_item (pairsOf vs))) #[] 7 none;rw[e]
  have run:=kas_runs (prog:=prog) (w:=w) (A:=A) (E:=E) (κ:=κ) (it:=pairsOf vs) (s:={s with heap:=h3}) (Q:=λ_ d s'=>s'={s with heap:=h3}/\failedOf d=none/\∃p:Array Nat,p=evT lt (kas_sort vs.length)/\p.size=vs.length/\arrOf d=p.map (kas_item (pairsOf vs)))
   (G:=λp s'=>s'={s with heap:=h3}/\p=evT lt (kas_sort vs.length)) f v (λF d s' b1 b2 H C=>⟨C.1,H,F,C.2,b1,b2⟩) (qdW a.cmp (qik a.ord (by lia)) ⟨rfl,rfl⟩)
  rw[<-y]at run;refine wA (wo run ?_ λ_ _ e=>e);rintro⟨⟨⟩,d⟩ s' ⟨rfl,I,p,J,K,m⟩;dsimp only;have q:(arrOf d).map (·.2)=(outOf lt vs).toArray:=by
   unfold outOf;rw[wT (by lia),<-J];apply Array.toList_inj.mp;rw[m,Array.map_map,Array.toList_map];exact vO λi _=>by show(kas_item (pairsOf vs) i).2=_;rw[kas_item_eq]
  have hsz:((arrOf d).map (·.2)).size=vs.length:=by rw[m,Array.map_map,Array.size_map,K]
  refine wA (seqEpoch_at j rfl (wA (listUpdate_at j rfl ?_ (vN _) (by show((arrOf d).map (·.2)).size<=_;rw[hsz,vT];lia))));rw[I];simp only[bne_self_eq_false,wi,uO];exact wC (fin _ q)
theorem qeY{vs:List Value}{κ:SortKind}(d:vs.length<64)(col:∀(j:Value->Shared->Prop) (Q':List Value->Shared->Prop),(∀(h':Heap) (tk:Nat),s.heap.objs.size<=h'.objs.size->(∀b o,s.heap.get? b=some o->h'.get? b=some o)->Q' vs {s with heap:=h',toks:=tk})->wpAny (model prog w) A.in1 (collect x) Q' j s)(f:2<=vs.length->∀(h':Heap) (tk:Nat),(∀b o,s.heap.get? b=some o->h'.get? b=some o)->Answers prog w A.in1.in1 vs {s with heap:=h',toks:=tk} κ lt)(h:∀(h':Heap) (tk:Nat) (D:Addr) (c:Nat),s.heap.objs.size<=D->(∀b o,s.heap.get? b=some o->h'.get? b=some o)->h'.get? D=some (seqObj "list" (outOf lt vs).toArray c)->Q (.ref D) {s with heap:=h',toks:=tk}):
  wpAny (model prog w) A (call (.builtin "sorted") [x]) Q E s:=by
 refine Calls.call_function_entry kind_sorted plain_sorted entry_sorted (args_sorted1 _) ?_;unfold Builtin.«sorted»;refine wA (m:=checkCount "sorted" 1 1 _) (wC (wA (col _ _ λa tk sz k1=>wA (wpAny_newList ?_ (by rw[vT];lia)))));have i:(a.push (seqObj "list" vs.toArray 0)).get? a.objs.size=some (seqObj "list" vs.toArray 0):=wH _ rfl;have up:∀b o,s.heap.get? b=some o->(a.push (seqObj "list" vs.toArray 0)).get? b=some o:=λb o e=>wB _ (k1 b o e)
 have ne:∀b o,s.heap.get? b=some o->b≠a.objs.size:=λb o e=>wa (wG (k1 b o e))
 show wpAny _ _ _ _ _ {s with heap:=a.push (seqObj "list" vs.toArray 0),toks:=tk};refine wA (vE (wz slot_list_sort ⟨_,i,rfl⟩ entry_list_sort ?_ (args_list_sort _)));refine lsort (κ:=κ) (lt:=lt) (s:={s with heap:=a.push (seqObj "list" vs.toArray 0),toks:=tk}) i d (λl h' kp=>f l h' tk λb o e=>kp b o (ne b o e) (up b o e)) λh' c kp n=>?_
 exact⟨_,rfl,wC ⟨_,rfl,h h' tk a.objs.size c sz (λb o e=>kp b o (ne b o e) (up b o e)) n⟩⟩
def EsAt(h:Heap)(d:Addr)(es:Array DictEntry)(a:Nat):Prop:=∃o,h.get? d=some o/\o.ExactDict/\o.data=.dict es a
theorem EsAt.at{h h':Heap}{a:Nat}(x:EsAt h d es a)(e:∀o,h.get? d=some o->h'.get? d=some o):EsAt h' d es a:=let ⟨o,b,r⟩:=x;⟨o,e o b,r⟩
theorem EsAt.typeIs{s:Shared}{a:Nat}(x:EsAt s.heap d es a):s.TypeIs (.ref d) "dict":=let ⟨o,b,c,_⟩:=x;⟨o,b,c.1⟩
theorem qeZ{c:Nat}(hd:(d == sysModules)=false)(hm:EsAt s.heap d es c)(h:Q (.ref s.heap.objs.size) {s with heap:=s.heap.push {cls:=.type "dict_keyiterator",data:=.fields #[.ref d,.int 0 0,.int es.size 0,.int c 0]}}):wpAny (model prog w) A (pyIter (.ref d)) Q E s:=by
 have b:=hm.typeIs;obtain⟨o,f,i,a⟩:=hm;refine wpAny_pyIter_slot b F.slot_dict_iter (wz F.slot_dict_iter b F.entry_dict_iter ?_ (F.args_dict_iter_1 _));unfold Builtin.«dict.__iter__»;refine wA ?_;unfold Builtin.Dict.dictSlotNone;refine wA (wpAny_notOrdered_dict b (wC (?_:wpAny _ _ (Builtin.Dict.showsAll d >>= _) _ _ s)));unfold Builtin.Dict.showsAll;rw[wT (by rw[hd];exact w5)];refine wA (wC (wA (uu f a (wA (wpAny_dictEpoch f a ?_)))));refine wA (w6 (wC ⟨_,rfl,"dict_keyiterator",_,⟨_,wH _ rfl,rfl⟩,v6.lookup,?_⟩));simpa[rawInt]using h
theorem qe0{i j:Nat}{es:Array DictEntry}(c:s.heap.IsKeyIter it d i es.size j)(hm:EsAt s.heap d es j)(m:es[i]?=some e)(n:∀h',h'.IsKeyIter it d (i+1) es.size j->Heap.SameBut it s.heap h'->Q (some e.key) {s with heap:=h' }):wpAny (model prog w) A (pyNext (.ref it)) Q E s:=by
 have b:=c.typeIs;obtain⟨o,l,p,hd⟩:=c;obtain⟨od,f,q,h⟩:=hm;unfold pyNext;refine wA (uS (wt (name:=Str.ofString "__next__") b v6 (wz v6 b F.entry_dict_keyiterator_next ?_ (F.args_dict_keyiterator_next_1 _))));refine wA (wC (wA (wA ?_)))
 first|refine wA (vp b (wC (wA (xU l hd ?_))))|refine wA (uQ b (wC (wA (xU l hd ?_))))
 have own:Builtin.Dict_items.ownsTuple "dict_keyiterator"=false:=by decide
 simp only[own,wi,uO];show wpAny _ _ (if(Value.ref d == Value.none)=true then _ else _) _ _ s;rw[wT (show ¬((Value.ref d == Value.none)=true)from w5)];refine wA (wC (wA (uu f h ?_)));rw[wT (by simp)];refine wA (wC (wA (wpAny_dictEpoch f h ?_)));rw[wT (by simp)];refine wC ?_;obtain⟨r,u⟩:=vI.mp m;simp only[show ¬((i:Int)<0)from by lia,uO,u5,m];refine wA ?_
 first|refine wA (vp b (wC ?_))|refine wA (uQ b (wC ?_))
 refine wA (wpAny_isOneOf_keyiter b (?_:wpAny _ _ (setField (.ref it) 1 (rawInt ((i:Int)+1)) >>= _) _ _ s));refine wA (vi l hd (by simp) ?_);have a:(s.heap.update it (Obj.mapFields (·.setIfInBounds 1 (rawInt ((i:Int)+1))))).IsKeyIter it d (i+1) es.size j :=
  ⟨_,vD _ l (uB (w1 hd _)),(Obj.cls_mapFields ..).trans p,by rw[w1 hd];simp[rawInt]⟩
 refine wA (vE (wA (wpAny_isOneOf_keyiter (s:={s with heap:=s.heap.update it (Obj.mapFields (·.setIfInBounds 1 (rawInt ((i:Int)+1))))}) a.typeIs (?_:wpAny _ _ (pure e.key) _ _ _))));exact wC (wC ⟨_,rfl,wC (n _ a (Heap.SameBut.update ..))⟩)
theorem qgq{i n:Nat}{es:Array DictEntry}(p:A.handled=none)(f:s.heap.IsKeyIter it d i es.size n)(hm:EsAt s.heap d es n)(q:es[i]?=none)(r:∀h',Heap.ExtBut it s.heap h'->Q none {s with heap:=h' }):wpAny (model prog w) A (pyNext (.ref it)) Q E s:=by
 have c:=f.typeIs;obtain⟨o,l,v,hd⟩:=f;obtain⟨od,h,u,j⟩:=hm;unfold pyNext;refine wA (uS (wt (name:=Str.ofString "__next__") c v6 (wz v6 c F.entry_dict_keyiterator_next ?_ (F.args_dict_keyiterator_next_1 _))));refine wA (wC (wA (wA ?_)))
 first|refine wA (vp c (wC (wA (xU l hd ?_))))|refine wA (uQ c (wC (wA (xU l hd ?_))))
 have own:Builtin.Dict_items.ownsTuple "dict_keyiterator"=false:=by decide
 simp only[own,wi,uO];show wpAny _ _ (if(Value.ref d == Value.none)=true then _ else _) _ _ s;rw[wT (show ¬((Value.ref d == Value.none)=true)from w5)];refine wA (wC (wA (uu h j ?_)));rw[wT (by simp)];refine wA (wC (wA (wpAny_dictEpoch h j ?_)));rw[wT (by simp)];refine wC ?_;simp only[show ¬((i:Int)<0)from by lia,uO,u5,q];refine wA ?_
 first|refine wA (vp c (wC ?_))|refine wA (uQ c (wC ?_))
 refine wA (m:=setField (.ref it) 0 .none) (vi l hd (by simp) (?_:wpAny _ _ (newExc (.type "StopIteration") [] >>= _) _ _ _));refine wA ?_;unfold newExc newTuple;refine wA (w6 (wA (wpAny_of_eq (t:=firstArgMember _ _) (a:=Value.none) (by first|rfl|(simp only[firstArgMember];rfl)) (w6 ?_ (by size_fits)))) (by size_fits));unfold raiseNew;refine wA (wpAny_handled ?_);rw[show A.in1.handled=none from p];refine wA (wC (wpAny_throw ?_));refine wA (wpAny_isInstance (T:="StopIteration") (b:=true) ⟨_,wH _ rfl,rfl⟩ isSubtype_stop ?_);exact wC (r _ (((Heap.SameBut.update ..).extBut.push _).push _))
theorem qe1(p:A.handled=none)(I d:Addr)(f:d≠I)(es:Array DictEntry)(j:Nat):Walks prog w A I [I,d] [I] es.size (λi v=>(es[i]?).map (·.key)=some v) (λi h=>h.IsKeyIter I d i es.size j/\EsAt h d es j) where
 sub:=λb a=>by simp at a;simp[a]
 frame:=λ_ _ _ st l=>⟨st.1.at λo e=>l I (by simp) o e,st.2.at λo e=>l d (by simp) o e⟩
 item:=λi s Q E hi st c=>by
  have m:es[i]?=some es[i]:=uN hi;exact qe0 st.1 st.2 m λh' q n=>c _ h' s.toks (by rw[m];rfl) ⟨q,st.2.at λo e=>n.extBut _ o f e⟩ λb o a e=>n.extBut b o (λz=>a (by simp[z])) e
 done:=λs Q E st c=>qgq p st.1 st.2 (xH (wJ _)) λh' r=>c h' s.toks λb o a e=>r b o (λz=>a (by simp[z])) e
 self:=λ_ _ _ _ st c=>wpAny_pyIter_keyiter st.1 c
theorem qgr{es:Array DictEntry}{c:Nat}(lo:(d == sysModules)=false):KdlSrc prog w "dict" d d es.size (λi v=>(es[i]?).map (·.key)=some v) (λh=>EsAt h d es c) where
 type:=λ_ hm=>hm.typeIs
 there:=λ_ hm=>let ⟨o,a,_⟩:=hm;⟨wG a,wG a⟩
 keep:=λ_ _ hm f=>hm.at λo e=>f d (.inl rfl) o e
 notList:=by decide
 notTuple:=by decide
 hint:=λ_ _ _ _ hm b=>kdl_hint_dict hm.typeIs b
 iter:=λA s j hm=>⟨_,_,(λ_ _ b=>qeZ lo hm b),qe1 j _ d (by obtain⟨o,a,_⟩:=hm;exact wa (wG a)) es c,⟨⟨_,wH _ rfl,rfl,rfl⟩,hm.at λo e=>wB _ e⟩⟩
theorem qa4{n:Nat}(p:A.handled=none)(lo:(d == sysModules)=false)(hm:EsAt s.heap d es n)(hn:es.size<=sizeLine)(q:∀(h':Heap) (tk:Nat),s.heap.objs.size<=h'.objs.size->(∀b o,s.heap.get? b=some o->h'.get? b=some o)->Q (es.toList.map (·.key)) {s with heap:=h',toks:=tk}):wpAny (model prog w) A (collect (.ref d)) Q E s:=by
 have hd:d≠s.heap.objs.size:=by obtain⟨o,r,_⟩:=hm;exact wa (wG r)
 have c:∀R:Result->Shared->Prop,(∀(h':Heap) (tk:Nat) (a:Array Value) (f:Nat),(∀b o,s.heap.get? b=some o->h'.get? b=some o)->h'.get? s.heap.objs.size=some {cls:=.type "list",dict:=none,data:=.seq a f,slots:=#[]}->ItemsOf (λi v=>(es[i]?).map (·.key)=some v) a es.size ->
   R (.ok (.ret (.ref s.heap.objs.size))) {s with heap:=h',toks:=tk})->codeAny (model prog w) A (.builtin "proto.collect" ⟨[.ref d],[]⟩) R s:=by
  intro R u;refine vQ xR ?_;rw[vB xQ];refine wA (m:=newList []) (w6 (wC ⟨vm uG _,vQ F.entry_list_iadd ?_⟩));rw[vB uG];have x:(s.heap.push {cls:=.type "list",data:=.seq ([]:List Value).toArray}).get? s.heap.objs.size=some {cls:=.type "list",data:=.seq #[] 0}:=wH _ rfl;exact kdl_extend (R:=R) (s:={s with heap:=s.heap.push {cls:=.type "list",data:=.seq ([]:List Value).toArray}}) (qgr lo) p (hm.at λo e=>wB _ e) s.heap.objs.size (Ne.symm hd) (Ne.symm hd) (.ref s.heap.objs.size) 0 x (λh' tk a f j h hi =>
   u h' tk a f (λb o e=>j b o (wa (wG e)) (wB _ e)) h hi) hn
 unfold collect;refine wA (wpAny_runValue (c _ λh' tk a f j h hi=>?_));refine wA (m:=load s.heap.objs.size) (wpAny_load h (wC ?_));have e:a.toList=es.toList.map (·.key):=by
  apply List.ext_getElem?;intro i;rw[w8];cases z:a[i]? with
  |none =>
   have l:a.size<=i:=by simpa using z
   rw[hi.1]at l;have y:es[i]?=none:=xH l;rw[uE,uE,z,y];rfl
  |some v =>
   have:=hi.2 i v z;rw[uE,uE,z,this]
 rw[e];exact q h' tk (Nat.le_of_lt (wG h)) j
end
end R
namespace R
open PySem PySem.Spec L2 SeqAt
open PyProof.Rows hiding St
open PySem.W (KasT kas_sort)
def qbw:∀a:List Int,HT.lexLt a a=false
 |[]=>rfl
 |x::a=>by rw[HT.zx,wN rfl];exact qbw a
def qbx:∀{a b c:List Int},HT.lexLt a b=true->HT.lexLt b c=true->HT.lexLt a c=true
 |[],[],_,h,_=>by cases h
 |[],_::_,[],_,h=>by cases h
 |[],_::_,_::_,_,_=>rfl
 |_::_,[],_,h,_=>by cases h
 |_::_,_::_,[],_,h=>by cases h
 |x::a,y::b,z::c,h,k=>by
  rw[HT.zx]at h k ⊢;by_cases e1:x=y
  .subst e1
   rw[wN rfl]at h;by_cases d:x=z
   .subst d
    rw[wN rfl]at k ⊢;exact qbx h k
   .rw [wT d]at k ⊢;exact k
  .rw [wT e1]at h
   have h':=vF h;by_cases d:y=z
   .subst d
    rw[wT e1];exact h
   .rw [wT d]at k
    have f:=vF k;rw[wT (by lia)];exact wS (by lia)
def lex_tot:∀{a b:List Int},a≠b->HT.lexLt a b=true\/HT.lexLt b a=true
 |[],[],h=>absurd rfl h
 |[],_::_,_=>.inl rfl
 |_::_,[],_=>.inr rfl
 |x::a,y::b,h=>by
  rw[HT.zx,HT.zx];by_cases e:x=y
  .subst e
   rw[wN rfl,wN rfl];exact lex_tot λz=>h (by rw[z])
  .rw [wT e,wT (Ne.symm e)]
   rcases Int.lt_or_gt_of_ne e with z|z
   .exact .inl (wS z)
   .exact .inr (wS z)
def jG(x:List Int):∀l:List (List Int),(insT x l).Perm (x::l)
 |[]=>.refl _
 |y::r=>by
  unfold insT;split
  .exact ((jG x r).cons y).trans (.swap ..)
  .exact .refl _
def zb:∀l:List (List Int),(sortT l).Perm l
 |[]=>.refl _
 |x::r=>(jG x (sortT r)).trans ((zb r).cons x)
def Ris(l:List (List Int)):Prop:=l.Pairwise λa b=>HT.lexLt a b=true
def qcf:∀{l:List (List Int)},x∉l->Ris l->Ris (insT x l)
 |[],_,_=>List.pairwise_singleton _ _
 |y::r,hn,h=>by
  obtain⟨i,j⟩:=vJ.mp h;unfold insT;split
  .rename_i d
   refine vJ.mpr ⟨λz f=>?_,qcf (λm=>hn (wO _ m)) j⟩;rcases wR.mp ((jG x r).mem_iff.mp f)with e|e
   .rw [e];exact d
   .exact i z e
  .rename_i d
   have c:HT.lexLt x y=true:=by
    rcases lex_tot (a:=x) (b:=y) λe=>hn (by rw[e];exact wQ)with z|z
    .exact z
    .rw [z]at d;exact absurd rfl d
   refine vJ.mpr ⟨λz f=>?_,h⟩;rcases wR.mp f with e|e
   .rw [e];exact c
   .exact qbx c (i z e)
def jH:∀{l:List (List Int)},l.Nodup->Ris (sortT l)
 |[],_=>.nil
 |x::r,h=>by
  obtain⟨a,b⟩:=uC.mp h;exact qcf (λm=>a ((zb r).mem_iff.mp m)) (jH b)
def qcg:∀{a b:List (List Int)},a.Perm b->Ris a->Ris b->a=b
 |[],b,p,_,_=>(List.nil_perm.mp p).symm
 |x::a,[],p,_,_=>absurd (List.perm_nil.mp p) (by simp)
 |x::a,y::b,p,h,k=>by
  obtain⟨d,f⟩:=vJ.mp h;obtain⟨k1,k2⟩:=vJ.mp k;have e:x=y:=by
   rcases wR.mp (p.mem_iff.mp wQ)with z|z
   .exact z
   .rcases wR.mp (p.symm.mem_iff.mp wQ)with c|c
    .exact c.symm
    .have:=qbx (d y c) (k1 x z)
     rw[qbw]at this;cases this
  subst e;rw[qcg (List.Perm.cons_inv p) f k2]
def jI(x:Int):∀l:List Int,(insI x l).Perm (x::l)
 |[]=>.refl _
 |y::r=>by
  unfold insI;split
  .exact .refl _
  .exact ((jI x r).cons y).trans (.swap ..)
def zH:∀l:List Int,(sortI l).Perm l
 |[]=>.refl _
 |x::r=>(jI x (sortI r)).trans ((zH r).cons x)
def qdX{x:Int}:∀{l:List Int},l.Pairwise (·<=·)->(insI x l).Pairwise (·<=·)
 |[],_=>List.pairwise_singleton _ _
 |y::r,h=>by
  obtain⟨c,d⟩:=vJ.mp h;unfold insI;split
  .rename_i a
   refine vJ.mpr ⟨λz b=>?_,h⟩;rcases wR.mp b with e|e
   .rw [e];exact a
   .exact Int.le_trans a (c z e)
  .rename_i a
   refine vJ.mpr ⟨λz b=>?_,qdX d⟩;rcases wR.mp ((jI x r).mem_iff.mp b)with e|e
   .rw [e];lia
   .exact c z e
def qam:∀l:List Int,(sortI l).Pairwise (·<=·)
 |[]=>.nil
 |x::r=>qdX (qam r)
def qc8{ks:List (List Int)}(nd:ks.Nodup):Ord (ltK ks) ks.length where
 irr:=λa _=>qbw _
 tr:=λa b c _ _ _ h k=>qbx h k
 tot:=λa b ha d h=>lex_tot λe=>h (by
  rw[we,we,wD ha,wD d]at e;exact(xE nd).mp e)
def qch{ks:List (List Int)}(nd:ks.Nodup)(c:1<=ks.length):(evT (ltK ks) (kas_sort ks.length)).toList.map (λi=>ks.getD i [])=sortT ks:=by
 obtain⟨pm,d⟩:=qdU (qc8 nd) c;generalize evT (ltK ks) (kas_sort ks.length)=p at *;have f:(p.toList.map λi=>ks.getD i []).Perm ks:=by
  have e:(List.range ks.length).map (λi=>ks.getD i [])=ks:=by
   apply List.ext_getElem?;intro i;rw[w8];by_cases hi:i<ks.length
   .rw [wD (by simpa using hi),wD hi]
    simp[hi]
   .rw [xK (by simpa using hi),xK (by lia)];rfl
  have:=pm.map λi=>ks.getD i []
  rwa [e]at this
 refine qcg (f.trans (zb ks).symm) ?_ (jH nd);show(p.toList.map λi=>ks.getD i []).Pairwise _;rw[List.pairwise_map,List.pairwise_iff_getElem];intro i j hi b a;have hsz:=pm.size;have:=d i j a (by simpa[hsz]using b);rw[qcd (by simpa using hi),qcd (by simpa using b)]at this;simpa[ltK]using this
section
variable{X:Cx}{pins:List (Addr×Obj)}{σ:St}{H:Hp}{s:Shared}{ι:List Addr}{S:Sr}
theorem qdY(I:Inv X pins σ H s):∀{l:List D} {ks:List (List Int)} {xs:List V} {vs:List Value},tupsOf l=some ks->Dens ι H l xs->Vals xs vs->TupsAt s.heap vs ks/\l=ks.map tupI
 |[],ks,xs,vs,e,hd,r=>by
  cases e;cases (show xs=[]from hd);cases r;exact⟨rfl,rfl⟩
 | .tup a::l,ks,xs,vs,e,hd,r=>by
  obtain⟨x,d,rfl,f,h⟩:=hd;obtain⟨b,ys,rfl,_,i,j⟩:=f;simp only[tupsOf]at e;cases z1:intsOf a with
  |none=>rw[z1]at e;cases e
  |some k =>
   rw[z1,wf]at e;cases z2:tupsOf l with
   |none=>rw[z2]at e;cases e
   |some m =>
    rw[z2]at e;cases e;cases r with
    |cons n o =>
     cases n;obtain⟨t1,t2⟩:=qdY I z2 h o;obtain⟨c,q,p,_⟩:=qae I i;have u:=intsOf_eq z1;subst u;cases dens_ints j;refine⟨⟨b,c,k,m,rfl,rfl,p,zy q,t1⟩,?_⟩;rw[t2];rfl
 | .non::_,_,_,_,e,_,_=>by cases e
 | .bl _::_,_,_,_,e,_,_=>by cases e
 | .int _::_,_,_,_,e,_,_=>by cases e
 | .str _::_,_,_,_,e,_,_=>by cases e
 | .lst _::_,_,_,_,e,_,_=>by cases e
 | .emp::_,_,_,_,e,_,_=>by cases e
 | .exc _::_,_,_,_,e,_,_=>by cases e
 | .ref _::_,_,_,_,e,_,_=>by cases e
theorem qci(r:Vals xs vs):∀p:List Nat,(∀i∈p,i<vs.length)->Vals (p.map λi=>xs.getD i .non) (p.map λi=>vs.getD i .none)
 |[],_=>.nil
 |i::p,h=>by
  refine .cons ?_ (qci r p λj a=>h j (wO _ a));have hi:=h i wQ;obtain⟨x,e1,b⟩:=Vals.at r hi;dsimp only;rw[we,we,e1,wD hi];exact b
theorem qcj(h:Dens ι H l xs):∀p:List Nat,(∀i∈p,i<l.length)->Dens ι H (p.map λi=>l.getD i .non) (p.map λi=>xs.getD i .non)
 |[],_=>rfl
 |i::p,hp=>by
  have hi:=hp i wQ;obtain⟨x,e1,a⟩:=h.get (wD hi);refine⟨_,_,rfl,?_,qcj h p λj b=>hp j (wO _ b)⟩;dsimp only;rw[we,we,e1,wD hi];exact a
theorem zQ(I:Inv X pins σ H s)(st:Sto ι H S)(P:X.calm=true)(n:Dens ι H l xs)(p:Vals xs vs)(e:tupsOf l=some ks)(B:l.length<64)(nd:ks.Nodup)(ne:∀k∈ks,k≠[])(col:∀(v:Value->Shared->Prop) (Q':List Value->Shared->Prop),(∀(h':Heap) (tk:Nat),s.heap.objs.size<=h'.objs.size->(∀b o,s.heap.get? b=some o->h'.get? b=some o)->Q' vs {s with heap:=h',toks:=tk})->wpAny (model X.prog X.w) X.A.in1 (collect x) Q' v s)(q:Pst Den (newL m ((sortT ks).map tupI) S) ι H Q):wpAny (model X.prog X.w) X.A (call (.builtin "sorted") [x]) (EP X pins σ Q) X.xe s:=by
 obtain⟨y,r⟩:=qdY I e n p;have len:vs.length=ks.length:=y.len;have E:l.length=ks.length:=by rw[r];simp
 refine qeY (κ:=tuples' true) (lt:=ltK ks) (by lia) col (λh h' tk kp=>?_) λh' tk D c sz kp F=>?_
 .have t':TupsAt h' vs ks:=y.keep λa o _ J=>kp a o J
  exact⟨λv Q' K=>qgp (s:={s with heap:=h',toks:=tk}) t' ne h K,by rw[len];exact qc8 nd,λi j C hi U L=>qil (s:={s with heap:=h',toks:=tk}) t' (by lia) (by lia) L⟩
 .-- the answer's data
  have fin:∃f,Vals f (outOf (ltK ks) vs)/\Dens ι H ((sortT ks).map tupI) f:=by
   unfold outOf;by_cases h:vs.length<2
   .rw [wN h]
    refine⟨xs,p,?_⟩;have:sortT ks=ks:=by
     match ks,len with
     |[],_=>rfl
     |[k],_=>rfl
     |_::_::_,len=>simp at len;lia
    rw[this,<-r];exact n
   .rw [wT h]
    rw[len];obtain⟨pm,_⟩:=qdU (qc8 nd) (show 1<=ks.length by lia);have u:∀i∈(evT (ltK ks) (kas_sort ks.length)).toList,i<ks.length:=λi hi=>vu.mp (pm.mem_iff.mp hi)
    refine⟨_,qci p _ λi hi=>by rw[len];exact u i hi,?_⟩;have d:=qcj n _ λi hi=>by rw[E];exact u i hi
    have M:(sortT ks).map tupI=(evT (ltK ks) (kas_sort ks.length)).toList.map λi=>l.getD i .non:=by
     rw[<-qch nd (by lia),wj];refine vO λi hi=>?_
     have:=u i hi;rw[r];simp[this]
    rw[M];exact d
  obtain⟨f,N,d'⟩:=fin;have fr:H D=none:=I.hok.fresh sz;have O:f.length<=sizeLine:=by
   rw[<-d'.length,wE,(zb ks).length_eq,vT];lia
  exact⟨.ref D,upd H D (.lst f),I.laid (o:=.lst f) (t':=tk) kp sz ⟨O,outOf (ltK ks) vs,c,N,F⟩,rfl,zr st d' q D fr⟩
theorem qgs(I:Inv X pins σ H s)(h:Rd H a (.lst xs)):∃vs:List Value,Vals xs vs/\s.heap.IsList a vs.toArray/\(∀(A:Around) (c:Value->Shared->Prop) (Q':List Value->Shared->Prop),(∀(h':Heap) (tk:Nat),s.heap.objs.size<=h'.objs.size->(∀b o,s.heap.get? b=some o->h'.get? b=some o)->Q' vs {s with heap:=h',toks:=tk})->wpAny (model X.prog X.w) A (collect (.ref a)) Q' c s):=by
 obtain⟨vs,r,p,d⟩:=qbn I h;refine⟨vs,r,p,λA c Q' f=>collect_list p (f _ s.toks ?_ λb o e=>?_) (by rw[<-r.length];exact d)⟩
 .rw [v0,size_push'];lia
 .exact (wW _ _ (vR (wG e))).trans (wB _ e)
theorem qe2{ns:List Int}(I:Inv X pins σ H s)(st:Sto ι H S)(h:Rd H a (.lst xs))(v:Dens ι H (ns.map .int) xs)(y:ns.length<64)(q:Pst Den (newL m ((sortI ns).map .int) S) ι H Q):
  wpAny (model X.prog X.w) X.A (call (.builtin "sorted") [.ref a]) (EP X pins σ Q) X.xe s:=by
 obtain⟨vs,r,p,K⟩:=qbn I h;cases dens_ints v;have u:IntsAre vs ns:=zy r;have L:=u.length;refine sorted_ints p u (by lia) λout d i1 i2 B=>?_
 have C:d=sortI ns:=PySem.W.lks_uniq (i2.trans (zH ns).symm) B (qam ns);have up:∀b o,s.heap.get? b=some o->(sortedAll s.heap vs out).get? b=some o:=λb o e=>by
  have i:b<s.heap.objs.size:=wG e;unfold sortedAll sortedHeap;refine(wW _ _ (vR (uF i))).trans (wB _ (wB _ ((wW _ _ (vR (uF i))).trans (wB _ ?_))));exact(wW _ _ (vR i)).trans (wB _ e)
 have E:(((s.heap.push (seqObj "list" #[] 0)).update s.heap.objs.size (Obj.mapSeq (·++vs.toArray))).push (seqObj "list" vs.toArray 0)).get? (s.heap.objs.size+1)=some (seqObj "list" vs.toArray 0):=by
  have:((s.heap.push (seqObj "list" #[] 0)).update s.heap.objs.size (Obj.mapSeq (·++vs.toArray))).objs.size=s.heap.objs.size+1:=by rw[v0,size_push']
  rw[<-this];exact wH _ rfl
 obtain⟨c,at'⟩:∃c,(sortedAll s.heap vs out).get? (s.heap.objs.size+1)=some (seqObj "list" out c):=by
  unfold sortedAll sortedHeap;have e1:=xI E λ_=>(#[]:Array Value)
  have F:=wB (seqObj "list" #[] 0) (wB (seqObj "tuple" vs.toArray 0) e1);exact⟨_,xI F λ_=>out⟩
 have sz:s.heap.objs.size<=s.heap.objs.size+1:=Nat.le_succ _;have fr:H (s.heap.objs.size+1)=none:=I.hok.fresh sz;have J:Vals (d.map V.int) out.toList:=by
  have:∀{us:List Value} {f:List Int},IntsAre us f->Vals (f.map V.int) us:=λ{us f} h=>by
   induction h with
   |nil=>exact .nil
   |cons n t _ j=>exact .cons ⟨t,rfl⟩ j
  exact this i1
 have dd:Dens ι H ((sortI ns).map .int) (d.map V.int):=by
  rw[C];have:∀f:List Int,Dens ι H (f.map .int) (f.map V.int):=λf=>by
   induction f with
   |nil=>rfl
   |cons x r j=>exact⟨_,_,rfl,rfl,j⟩
  exact this _
 have l:(d.map V.int).length<=sizeLine:=by rw[wE,i2.length_eq,vT];lia
 refine⟨.ref _,upd H (s.heap.objs.size+1) (.lst (d.map V.int)),I.laid (o:=.lst (d.map V.int)) (t':=s.toks) up sz ⟨l,out.toList,c,J,by rw[at']⟩,rfl,zr st dd q _ fr⟩
theorem qgt(m:Bool)(n:X.calm=true):CallR X (.builtin "sorted") (Gn (one (bSorted m))):=by
 intro pins s σ H xs us Q I r h;obtain⟨ι,S,ds,st,hd,p⟩:=h;obtain⟨d,rfl,p⟩:=qc4 p
 .skip
  obtain⟨x,rfl,P⟩:=dens1 hd;obtain⟨u,rfl,U⟩:=vals1 r;simp only[one,bSorted]at p;have f:∀{l:List D},lstOf S d=some l->walkD S d=some l->wpAny (model X.prog X.w) X.A (call (.builtin "sorted") [u]) (EP X pins σ Q) X.xe s:=λ{l} hl hw=>by
   obtain⟨a,xs,rfl,ha,B⟩:=qW st hl P;cases U;rw[hw,wf]at p;unfold sortL at p;by_cases c:l.length<64
   .rw [wN c]at p
    cases z:intsOf l with
    |some ns =>
     rw[z]at p;have:=intsOf_eq z;subst this;exact qe2 I st ha B (by simpa using c) p
    |none =>
     rw[z]at p;cases z2:tupsOf l with
     |none=>simp only[z2,xB]at p;exact p.elim
     |some ks =>
      simp only[z2,wf]at p;by_cases i:ks.Nodup/\∀t∈ks,t≠[]
      .rw [wN i]at p
       obtain⟨vs,K,_,col⟩:=qgs I ha;exact zQ I st n B K z2 c i.1 i.2 (col _) p
      .rw [wT i]at p;exact p.elim
   .rw [wT c]at p;exact p.elim
  cases d with
  |lst l=>exact f rfl rfl
  |ref k =>
   cases z:S[k]? with
   |none=>simp only[walkD,z,xB]at p;exact p.elim
   |some so =>
    cases so with
    |lst l=>exact f (by unfold lstOf;dsimp only;rw[z]) (by unfold walkD;dsimp only;rw[z])
    |dis l=>simp only[walkD,z,xB]at p;exact p.elim
    |dic l =>
     obtain⟨a,rfl,ha⟩:=P;cases U;obtain⟨_,kvs,e1,dk⟩:=st.obj k a _ ha z;obtain⟨hz,lo,ys,E,o,es,ep,W,ex,Y,Z,a0⟩:=I.hok a _ e1;simp only[walkD,z,wf]at p;have F:∀{l:List (List Int×D)} {kvs:List (List Key×V)} {ys:List (List Key×Addr×Value)},DGs keyT ι H l kvs->Paired (λ(p:List Key×V) (q:List Key×Addr×Value)=>p.1=q.1/\H q.2.1=some (.tup (p.1.map kV))/\RelV p.2 q.2.2) kvs ys ->
       Dens ι H (l.map λp=>tupI p.1) (ys.map λq=>V.ref q.2.1):=λ{l}=>by
      induction l with
      |nil=>intro kvs ys L M;cases (show kvs=[]from L);cases M;rfl
      |cons q l J =>
       intro kvs ys L M;obtain⟨v,r',rfl,_,a1⟩:=L;cases M with
       |cons y t =>
        rename_i q2 a2;obtain⟨ya,N,yc⟩:=y;refine⟨_,_,rfl,⟨q2.2.1,_,rfl,λhm=>?_,N,?_⟩,J a1 t⟩
        .obtain ⟨j,hj,ej⟩:=uh hm
         have hs:j<S.length:=by rw[<-st.len];exact hj
         have C:=st.obj j _ S[j] (by rw[wD hj,ej]) (wD hs);cases e:S[j]with
         |lst _=>rw[e]at C;obtain⟨_,_,k2,_⟩:=C;rw[N]at k2;cases k2
         |dic _=>rw[e]at C;obtain⟨_,_,k2,_⟩:=C;rw[N]at k2;cases k2
         |dis _=>rw[e]at C;obtain⟨_,_,k2,_⟩:=C;rw[N]at k2;cases k2
        .show Dens ι H (q.1.map .int) ((keyT q.1).map kV)
         unfold keyT;rw[wj];have:∀O:List Int,Dens ι H (O.map .int) (O.map (kV∘Sum.inl)):=λO=>by
          induction O with
          |nil=>rfl
          |cons x r J=>exact⟨_,_,rfl,rfl,J⟩
         exact this _
     have B:=F dk E;have K:Vals (ys.map λq=>V.ref q.2.1) (ys.map λq=>Value.ref q.2.1):=by
      clear E Z B a0;induction ys with
      |nil=>exact .nil
      |cons q r J=>exact .cons rfl J
     have ev:es.toList.map (·.key)=ys.map λq=>Value.ref q.2.1:=by rw[Z,wj];rfl
     have hsz:es.size<=sizeLine:=by
      have L:es.toList.length=ys.length:=by rw[Z];simp
      have M:kvs.length=ys.length:=Paired.length E;have:es.size=es.toList.length:=by simp
      lia
     have col:∀(E':Value->Shared->Prop) (Q':List Value->Shared->Prop),(∀(h':Heap) (tk:Nat),s.heap.objs.size<=h'.objs.size->(∀b o,s.heap.get? b=some o->h'.get? b=some o)->Q' (ys.map λq=>Value.ref q.2.1) {s with heap:=h',toks:=tk})->wpAny (model X.prog X.w) X.A.in1 (collect (.ref a)) Q' E' s:=λE' Q' hq =>
      qa4 (A:=X.A.in1) (I.ok.hd n) lo ⟨o,W,ex,Y⟩ hsz (by rw[ev];exact hq)
     unfold sortL at p;by_cases c:(l.map λp=>tupI p.1).length<64
     .rw [wN c]at p
      cases z1:intsOf (l.map λp=>tupI p.1)with
      |some ns =>
       rw[z1]at p;cases l with
       |nil =>
        cases z1;exact zQ (ks:=[]) I st n B K rfl (by simp) (by simp) (by simp) col p
       |cons q l=>cases z1
      |none =>
       rw[z1]at p;cases z2:tupsOf (l.map λp=>tupI p.1)with
       |none=>simp only[z2,xB]at p;exact p.elim
       |some ks =>
        simp only[z2,wf]at p;by_cases i:ks.Nodup/\∀t∈ks,t≠[]
        .rw [wN i]at p
         exact zQ I st n B K z2 c i.1 i.2 col p
        .rw [wT i]at p;exact p.elim
     .rw [wT c]at p;exact p.elim
  |emp =>
   obtain⟨a,rfl,_,ha⟩:=P;cases U;obtain⟨hz,lo,ys,E,o,es,ep,W,ex,Y,eK,eP,_⟩:=I.hok a _ ha;cases E;have e0:es.toList.map (·.key)=[]:=by
    cases eP' :es.toList with
    |nil=>rfl
    |cons q r=>rw[eP']at eP;cases eP
   have hsz:es.size<=sizeLine:=by
    have:es.toList=[]:=by simpa using e0
    have:es.size=es.toList.length:=by simp
    simp_all
   simp only[walkD,wf]at p;refine zQ (l:=[]) (ks:=[]) (xs:=[]) (vs:=[]) I st n rfl .nil rfl (by simp) (by simp) (by simp) (λE' Q' hq=>qa4 (A:=X.A.in1) (I.ok.hd n) lo ⟨o,W,ex,Y⟩ hsz (by rw[e0];exact hq)) p
  |_=>exact p.elim
end
end R
namespace R
open PySem PySem.Spec L2 SeqAt
open PyProof.Rows hiding St
def CEs.len:CEs->Nat
 | .nil=>0
 | .cons _ r=>r.len+1
def yW:∀{es:CEs} {ρ:En} {S:Sr} {l:List D} {a:Sr},evs F es ρ S=.ok l a->l.length=es.len
 | .nil,_,_,_,_,h=>by cases h;rfl
 | .cons e r,ρ,S,l,a,h=>by
  unfold evs at h;cases z:ev F e ρ S with
  |no=>rw[z]at h;cases h
  |err=>rw[z]at h;cases h
  |ok x S1 =>
   rw[z,Res.bind_ok]at h;cases z2:evs F r ρ S1 with
   |no=>rw[z2]at h;cases h
   |err=>rw[z2]at h;cases h
   |ok b S2 =>
    rw[z2,Res.bind_ok]at h;cases h;show b.length+1=r.len+1;rw[yW z2]
def CTs.len:CTs->Nat
 | .nil=>0
 | .cons _ r=>r.len+1
def qck:∀{ts:CTs} {l:List D} {ρ:En} {S:Sr} {ρ':En} {a:Sr},asgs F ts l ρ S=.ok ρ' a->l.length=ts.len
 | .nil,[],_,_,_,_,_=>rfl
 | .nil,_::_,_,_,_,_,h=>by unfold asgs at h;cases h
 | .cons t r,[],_,_,_,_,h=>by unfold asgs at h;cases h
 | .cons t r,d::l,ρ,S,ρ',a,h=>by
  unfold asgs at h;dsimp only at h;cases z:asg F t d ρ S with
  |no=>rw[z]at h;cases h
  |err=>rw[z]at h;cases h
  |ok ρ1 S1 =>
   rw[z,Res.bind_ok]at h;show l.length+1=r.len+1;rw[qck h]
def FnAt(P:Program)(w:World)(K:PySem.W.Frag)(mg:Str->Option Value)(base:Heap)(k:Nat)(F:Fs)(i:Nat)(x:Str)(ps:List Str):Prop :=
 ∃f fd,mg x=some (.ref f)/\PySem.W.keepIn K (.ref f)=true/\Binds K fd ps []/\FnOk P w K mg base CX0 k f fd ps (SpD ps.length (F i))
structure Gb (mg:Str->Option Value):Prop where
 len:mg "len"=none
 range:mg "range"=none
 list:mg "list"=none
 tuple:mg "tuple"=none
 sorted:mg "sorted"=none
 sum:mg "sum"=none
 all:mg "all"=none
 any:mg "any"=none
 zip:mg "zip"=none
 min:mg "min"=none
 max:mg "max"=none
 abs:mg "abs"=none
 divmod:mg "divmod"=none
 isinstance:mg "isinstance"=none
 int:mg "int"=none
 bool:mg "bool"=none
 str:mg "str"=none
 dict:mg "dict"=none
 set:mg "set"=none
def Gb.ty(g:Gb mg):∀t:Ty,mg (Str.ofString t.nm)=none
 | .int=>g.int|.bool=>g.bool|.tuple=>g.tuple|.list=>g.list|.str=>g.str|.dict=>g.dict
def nodupB:List Str->Bool
 |[]=>true
 |x::r=>!(r.any λy=>y == x)&&nodupB r
def zg:∀{l:List Str},nodupB l=true->l.Nodup
 |[],_=>.nil
 |x::r,h=>by
  unfold nodupB at h;simp only[wP,uH,List.any_eq_false,v8]at h;exact uC.mpr ⟨λhm=>h.1 x hm rfl,zg h.2⟩
@[irreducible] def QE(X:Cx)(e:Expr)(t:TE):Prop:=PE X e t
@[irreducible] def QT(X:Cx)(e:Expr)(t:TT):Prop:=PT X e t
@[irreducible] def QW(X:Cx)(e:Expr)(t:TT):Prop:=PW X e t
@[irreducible] def QA(X:Cx)(e:List Expr)(t:TA):Prop:=PA X e t
@[irreducible] def QS(X:Cx)(e:Stmt)(t:TS):Prop:=PS X e t
@[irreducible] def QSs(X:Cx)(e:List Stmt)(t:TS):Prop:=PSs X e t
@[irreducible] def QG(X:Cx)(e:Expr)(t:L2.TG):Prop:=PG X e t
@[irreducible] def QGs(X:Cx)(e:List Expr)(t:L2.TGs):Prop:=PGs X e t
@[irreducible] def QI(X:Cx)(tg e:Expr)(t:TI):Prop:=PI X tg e t
@[irreducible] def QO(X:Cx)(e:Option Expr)(t:TO):Prop:=PO X e t
@[irreducible] def QTl(X:Cx)(e:List Expr)(t:TT):Prop:=PTl X e t
def Qpt(h:QW X e t):QT X e t:=by delta QW at h;delta QT;exact h.pt
def QSs.un(h:QSs X e t):PSs X e t:=by delta QSs at h;exact h
section
variable{X:Cx}{F:Fs}{pos:Pos}
theorem qc(i:Nat)(b:X.N[i]?=some x:=by rfl)(c:Vis X.env.scope x:=by first|exact Or.inl rfl|exact Or.inr (Or.inl rfl)|exact Or.inr (Or.inr rfl))(hd:dB x:=by decide)(a:(x == ("__classdict__":Str))=false:=by decide):QE X (.Name x pos) (T (ev F (.var i))):=by
 delta QE;exact(qly (qjv b c hd a))
theorem qg{n:Int}{j}:QE X (.Constant (.int n) j pos) (T (ev F (.cst (.int n)))):=by
 delta QE;exact(qbZ qjw λ_ _=>rfl)
theorem qO{j}:QE X (.Constant (.bool b) j pos) (T (ev F (.cst (.bl b)))):=by
 delta QE;exact(qbZ qli λ_ _=>rfl)
theorem zX{j}:QE X (.Constant .none j pos) (T (ev F (.cst .non))):=by
 delta QE;exact(qbZ qjx λ_ _=>rfl)
theorem qcl{j}:QE X (.Constant (.str x) j pos) (T (ev F (.cst (.str x)))):=by
 delta QE;exact(qbZ qjy λ_ _=>rfl)
theorem qan{n:Int}(hm:X.mg x=some (.int n t))(a:Gl X x:=by rfl)(hd:dB x:=by decide):QE X (.Name x pos) (T (ev F (.cst (.int n)))):=by
 delta QE;exact(qjY (qdt (v:=.int n) a hm ⟨t,rfl⟩ hd) λ_ _=>rfl)
theorem qk(o:BOp)(ha:QE X a (T (ev F c)))(f:QE X b (T (ev F d))):QE X (.BinOp a (opOf o) b pos) (T (ev F (.bin o c d))):=by
 delta QE;delta QE at ha;delta QE at f;exact(qja (qhT o) ha f)
theorem yo(o:BOp)(ha:QE X a (T (ev F c)))(f:QE X b (T (ev F d))):QE X (.BinOp a (opOf o) b pos) (T (ev F (.binM o c d))):=by
 delta QE;delta QE at ha;delta QE at f;exact(qja (qhU o) ha f)
theorem qgu(ha:QE X a (T (ev F b))):QE X (.UnaryOp .USub a pos) (T (ev F (.neg b))):=by
 delta QE;delta QE at ha;exact(qlE ha)
theorem qao(o:COp){k:Nat}(h:Room k X.A)(ha:QE X a (T (ev F c)))(f:QE X b (T (ev F d)))(hm:behindInMarks (cOf o) b=false:=by rfl):QE X (.Compare a [cOf o] [b] pos) (T (ev F (.cmp o c d))):=by
 delta QE;delta QE at ha;delta QE at f;exact(qlA (yU o (by have:=h.un;lia)) ha f hm)
theorem qim(o o':COp){k:Nat}(i:Room k X.A)(ha:QE X a (T (ev F d)))(j:QE X b (T (ev F f)))(l:QE X c (T (ev F h)))(hm:lastMarks [cOf o,cOf o'] [b,c]=false:=by rfl):
  QE X (.Compare a [cOf o,cOf o'] [b,c] pos) (T (ev F (.chain o o' d f h))):=by
 delta QE;delta QE at ha;delta QE at j;delta QE at l;exact(qhY (yU o (by have:=i.un;lia)) (yU o' (by have:=i.un;lia)) ha j l hm)
theorem yL(ha:QE X a t):QE X (.BoolOp .And [a] pos) t:=by
 delta QE;delta QE at ha;exact(qjB ha)
theorem jV{a b:Expr}{rest:List Expr}{c d:CE}(ha:QE X a (T (ev F c)))(f:QE X (.BoolOp .And (b::rest) pos) (T (ev F d))):QE X (.BoolOp .And (a::b::rest) pos) (T (ev F (.and c d))):=by
 delta QE;delta QE at ha;delta QE at f;exact(qlC ha f)
theorem ql6(ha:QE X a (T (ev F b))):QE X (.UnaryOp .Not a pos) (T (ev F (.not b))):=by
 delta QE;delta QE at ha;exact(qlD ha)
theorem qd :QA X [] (TL (evs F .nil)):=by
 delta QA;exact(qlz)
theorem qb(a:QE X e (T (ev F c)))(b:QA X es (TL (evs F cs)))(d:sE X e es:=by rfl):QA X (e::es) (TL (evs F (.cons c cs))):=by
 delta QA;delta QE at a;delta QA at b;exact(qjZ a b d)
theorem ql{k:Nat}(h:QA X es (TL (evs F cs))):QE X (.Tuple es k pos) (T (ev F (.tup cs))):=by
 delta QE;delta QA at h;exact(qlF h)
theorem qM(m:Bool)(h:QA X es (TL (evs F cs))):QE X (.List es pos) (T (ev F (.lst m cs))):=by
 delta QE;delta QA at h;exact(qlG h)
theorem qgv(m:Bool):QE X (.Dict [] [] pos) (T (ev F (.dic m))):=by
 delta QE;exact(qlH)
theorem qi{k i:Nat}(h:FnAt X.prog X.w X.K X.mg X.base k F i x ps)(c:Room k X.A)(ha:QA X (e::es) (TL (evs F cs)))(d:Gl X x:=by rfl)(j:cs.len=ps.length:=by rfl)(a:dB x:=by decide)(m:sE X e es:=by rfl)(b:bT X es pos:=by rfl):QE X (.Call (.Name x p) (e::es) [] pos) (T (ev F (.call i cs))):=by
 delta QE;delta QA at ha;obtain⟨f,fd,hm,n,o,q⟩:=h;exact qj6 q c d hm n o pass0 ha (λρ S l r z=>(yW z).trans j) a m b
theorem qap(b:Blt){x:Str}{id:String}{e:Expr}{es:List Expr}{cs:CEs}{p:Pos}(d:CallR X (.builtin id) (Gn (bltD b)))(hm:X.mg x=none)(f:bootBuiltins x=some (.builtin id))(ha:PA X (e::es) (TL (evs F cs)))(h:Gl X x:=by rfl)(hn:x≠"__name__":=by decide)(a:dB x:=by decide)(i:sE X e es:=by rfl)(c:bT X es pos:=by rfl):PE X (.Call (.Name x p) (e::es) [] pos) (T (ev F (.blt b cs))):=qh2 d h hm f ha hn a i c
theorem qgw(b:Blt)(d:CallR X (.type ty) (Gn (bltD b)))(hm:X.mg x=none)(f:bootBuiltins x=some (.type ty))(ha:PA X (e::es) (TL (evs F cs)))(h:Gl X x:=by rfl)(hn:x≠"__name__":=by decide)(a:dB x:=by decide)(i:sE X e es:=by rfl)(c:bT X es pos:=by rfl):PE X (.Call (.Name x p) (e::es) [] pos) (T (ev F (.blt b cs))):=qfT d h hm f ha hn a i c
theorem yM(t:Ty){p b:Pos}(gb:Gb X.mg)(ha:QE X a (T (ev F h)))(i:Gl X "isinstance":=by rfl)(c:Gl X (Str.ofString t.nm):=by rfl)(j:starEach [a,.Name (Str.ofString t.nm) b] X.env=(false,eval a X.env)::starEach [.Name (Str.ofString t.nm) b] X.env:=by rfl)(d:starEach [.Name (Str.ofString t.nm) b] X.env=(false,eval (.Name (Str.ofString t.nm) b) X.env)::starEach [] X.env:=by rfl)(f:(backTo pos (starEach [.Name (Str.ofString t.nm) b] X.env)).any (·.1)=false:=by rfl):
  QE X (.Call (.Name "isinstance" p) [a,.Name (Str.ofString t.nm) b] [] pos) (T (ev F (.isi t h))):=by
 delta QE;delta QE at ha;exact(qlJ i gb.isinstance c (gb.ty t) ha j d f)
theorem ql7{b:Pos}(j:QE X o (T (ev F co)))(l:QE X e (T (ev F i)))(h:starEach [e] X.env=(false,eval e X.env)::starEach [] X.env:=by rfl)(c:attributeBase o "pop" X.env (eval o X.env)=eval o X.env:=by rfl)(d:(b.endLine == pos.line)=true:=by rfl)(f:((backTo pos (starEach [e] X.env)).all (λx=>!x.1)&&(backToKw pos (keywordEach [] X.env)).all (λx=>x.1.isSome)&&decide ([e].length+([]:List Keyword).length+(if([]:List Keyword).isEmpty then 0 else 1)<30))=true:=by rfl)(a:(backTo pos (starEach [] X.env)).any (·.1)=false:=by rfl):QE X (.Call (.Attribute o "pop" b) [e] [] pos) (T (ev F (.popAt co i))):=by
 delta QE;delta QE at j;delta QE at l;exact(qfX PySem.F.slot_list_pop PySem.F.type_list_pop qfC (λι S x y v u H Q st m n p=>qlR st m n p) j l h c d f a)
theorem qa5{b:Pos}(j:QE X o (T (ev F co)))(l:QE X e (T (ev F i)))(h:starEach [e] X.env=(false,eval e X.env)::starEach [] X.env:=by rfl)(c:attributeBase o "append" X.env (eval o X.env)=eval o X.env:=by rfl)(d:(b.endLine == pos.line)=true:=by rfl)(f:((backTo pos (starEach [e] X.env)).all (λx=>!x.1)&&(backToKw pos (keywordEach [] X.env)).all (λx=>x.1.isSome)&&decide ([e].length+([]:List Keyword).length+(if([]:List Keyword).isEmpty then 0 else 1)<30))=true:=by rfl)(a:(backTo pos (starEach [] X.env)).any (·.1)=false:=by rfl):QE X (.Call (.Attribute o "append" b) [e] [] pos) (T (ev F (.app co i))):=by
 delta QE;delta QE at j;delta QE at l;exact(qfX PySem.F.slot_list_append PySem.F.type_list_append jD (λι S x y v u H Q st m n p=>qjc st m n p) j l h c d f a)
theorem qG{k:Nat}(h:Room k X.A)(ha:QE X a (T (ev F c)))(f:QE X b (T (ev F d)))(i:PlainIx b:=by exact λ_ _=>rfl):QE X (.Subscript a b pos) (T (ev F (.idx c d))):=by
 delta QE;delta QE at ha;delta QE at f;exact(qlI (qi7 h) ha f i)
theorem k_on :QO X none (TOp (evO F .none)):=by
 delta QO;exact(qfS)
theorem k_os(h:QE X e (T (ev F c))):QO X (some e) (TOp (evO F (.some c))):=by
 delta QO;delta QE at h;exact(qfR h)
theorem zh{e:Expr}{lo hi:Option Expr}{f:Pos}{c:CE}{cl ch:CO}(a:QE X e (T (ev F c)))(b:QO X lo (TOp (evO F cl)))(d:QO X hi (TOp (evO F ch))):QE X (.Subscript e (.Slice lo hi none f) pos) (T (ev F (.slc c cl ch))):=by
 delta QE;delta QE at a;delta QO at b;delta QO at d;exact(qlK a b d)
theorem qkl(m:Bool)(gb:Gb X.mg)(ha:QA X (a::es) (TL (evs F cs)))(i:X.calm=true:=by rfl)(j:Gl X "range":=by rfl)(c:Gl X "list":=by rfl)(l:sE X a es:=by rfl)(d:(backTo b (starEach es X.env)).any (·.1)=false:=by rfl):QE X (.Call (.Name "list" f) [.Call (.Name "range" h) (a::es) [] b] [] pos) (T (ev F (.rng (some m) cs))):=by
 delta QE;delta QA at ha;exact(ql3 (k:=some m) (.inl ⟨rfl,rfl,m,rfl⟩) i j gb.range c gb.list ha l d)
theorem zt(h:QE X e (T (ev F c)))(b:∀a,isTrue e X.env a=(do let v <-a;standAt e.pos;holding [v] (truthy v)):=by intro _;rfl):QT X e (TB (tst F (.val c))):=by
 delta QT;delta QE at h;exact(qj1 h b)
theorem zu(o:COp){k:Nat}(h:Room k X.A)(ha:QE X a (T (ev F c)))(f:QE X b (T (ev F d)))(hm:behindInMarks (cOf o) b=false:=by rfl):QT X (.Compare a [cOf o] [b] pos) (TB (tst F (.val (.cmp o c d)))):=by
 delta QT;delta QE at ha;delta QE at f;exact(qj2 (yU o (by have:=h.un;lia)) ha f hm)
theorem qin(o o':COp){k:Nat}(i:Room k X.A)(ha:QE X a (T (ev F d)))(j:QE X b (T (ev F f)))(l:QE X c (T (ev F h)))(hm:lastMarks [cOf o,cOf o'] [b,c]=false:=by rfl):
  QT X (.Compare a [cOf o,cOf o'] [b,c] pos) (TB (tst F (.val (.chain o o' d f h)))):=by
 delta QT;delta QE at ha;delta QE at j;delta QE at l;exact(qfP (yU o (by have:=i.un;lia)) (yU o' (by have:=i.un;lia)) ha j l hm)
theorem zv(ha:QT X a (TB (tst F b))):QT X (.UnaryOp .Not a pos) (TB (tst F (.not b))):=by
 delta QT;delta QT at ha;exact(qj4 ha)
theorem qkm(ha:QT X a t):QW X (.BoolOp .And [a] pos) t:=by
 delta QW;delta QT at ha;exact(qhE ha)
theorem yx(ha:QT X a t):QW X (.BoolOp .Or [a] pos) t:=by
 delta QW;delta QT at ha;exact(qjz ha)
theorem ql8{a b:Expr}{rest:List Expr}{c d:CB}(ha:QT X a (TB (tst F c)))(f:QW X (.BoolOp .And (b::rest) pos) (TB (tst F d))):QW X (.BoolOp .And (a::b::rest) pos) (TB (tst F (.and c d))):=by
 delta QW;delta QT at ha;delta QW at f;exact(qj3 ha f)
theorem w_or{a b:Expr}{rest:List Expr}{c d:CB}(ha:QT X a (TB (tst F c)))(f:QW X (.BoolOp .Or (b::rest) pos) (TB (tst F d))):QW X (.BoolOp .Or (a::b::rest) pos) (TB (tst F (.or c d))):=by
 delta QW;delta QT at ha;delta QW at f;exact(qlB ha f)
theorem zk :QTl X [] (TB (tsts F .nil)):=by
 delta QTl;exact(qkc)
theorem qkn(b:QT X c (TB (tst F a)))(d:QTl X ifs (TB (tsts F cs))):QTl X (c::ifs) (TB (tsts F (.cons a cs))):=by
 delta QTl;delta QT at b;delta QTl at d;exact(qh8 b d)
theorem yy(h:QE X e (T (ev F c))):QI X tg e (TIt (evI F (.seq c))):=by
 delta QI;delta QE at h;exact(qlY h)
theorem qaq{tg a:Expr}{p:Pos}(gb:Gb X.mg)(ha:QA X (a::es) (TL (evs F cs)))(c:Gl X "range":=by rfl)(d:sE X a es:=by rfl)(b:bT X es pos:=by rfl):
  QI X tg (.Call (.Name "range" p) (a::es) [] pos) (TIt (evI F (.rng cs))):=by
 delta QI;delta QA at ha;exact(i_rng c gb.range ha d b)
theorem zR{n:Nat}(gb:Gb X.mg)(c:QE X e1 (T (ev F c1)))(d:QE X a (T (ev F c2)))(h:Gl X "zip":=by rfl)(i:starEach [e1,a] X.env=(false,eval e1 X.env)::starEach [a] X.env:=by rfl)(b:starEach [a] X.env=(false,eval a X.env)::starEach [] X.env:=by rfl):QI X (.Tuple es n f) (.Call (.Name "zip" p) [e1,a] [] pos) (TIt (evI F (.zip c1 c2))):=by
 delta QI;delta QE at c;delta QE at d;exact(ql5 h gb.zip c d i b)
theorem qo(i:Nat)(a:nodupB X.N=true:=by rfl)(hi:X.N[i]?=some x:=by rfl)(b:Loc X.env.scope x:=by first|exact Or.inl rfl|exact Or.inr rfl)(c:X.fn x=true\/X.env.scope.names.lookup x=some .local:=by first|exact .inl rfl|exact .inr rfl):QG X (.Name x pos) (TGt (asg F (.var i))):=by
 delta QG;exact(qlS (qdx (zg a) hi b c))
theorem qT :QGs X [] (TGts (asgs F .nil)):=by
 delta QGs;exact(qlT)
theorem qm(a:QG X e (TGt (asg F c)))(b:QGs X es (TGts (asgs F cs)))(d:(assignEach (e::es) X.env).map (·.2)=assign e X.env::(assignEach es X.env).map (·.2):=by rfl):QGs X (e::es) (TGts (asgs F (.cons c cs))):=by
 delta QGs;delta QG at a;delta QGs at b;exact(qj9 a b d)
theorem qU{k:Nat}(h:QGs X es (TGts (asgs F cs)))(b:X.calm=true:=by rfl)(hn:(assignEach es X.env).length=cs.len:=by rfl)(a:(assignEach es X.env).findIdx? (·.1)=none:=by rfl):QG X (.Tuple es k pos) (TGt (asg F (.tup cs))):=by
 delta QG;delta QGs at h;exact(qlU b h hn a λl ρ S ρ' c z=>qck z)
theorem qcm{k:Nat}{o i:Expr}{co c:CE}(f:Room k X.A)(d:QE X o (T (ev F co)))(hi:QE X i (T (ev F c)))(ha:∀v,assign (.Subscript o i pos) X.env v=(do
   let a <-holding [v] (eval o X.env)
   let b <-holding [v,a] (eval i X.env)
   standAt pos
   holding [v,a,b] (setItem a b v)
   release [v,a,b] []):=by intro _;rfl):QG X (.Subscript o i pos) (TGt (asg F (.sub co c))):=by
 delta QG;delta QE at d;delta QE at hi;exact(qlV (qi7 f) d hi ha)
end
section
variable{X:Cx}{F:Fs}{N:Nat}{pos:Pos}
theorem qh :QSs X [] (TSm (exs F N .nil)):=by
 delta QSs;exact(qlW)
theorem qf{st:Stmt}{rest:List Stmt}{c:CS}{cs:CSs}(a:QS X st (TSm (ex F N c)))(b:QSs X rest (TSm (exs F N cs))):QSs X (st::rest) (TSm (exs F N (.cons c cs))):=by
 delta QSs;delta QS at a;delta QSs at b;exact(qka a b)
theorem yN(a:QE X e (T (ev F c)))(b:swapsWith e none pos.line X.env=pure false:=by rfl):QS X (.Expr e pos) (TSm (ex F N (.expr c))):=by
 delta QS;delta QE at a;exact(qkb a b)
theorem qw(a:QE X e (T (ev F c))):QS X (.Return (some e) pos) (TSm (ex F N (.ret c))):=by
 delta QS;delta QE at a;exact(qlX a)
theorem qio{st:Stmt}:QS X st (TSm (ex F N .never)):=by
 delta QS;exact(qh5)
theorem z_if(i:QT X c (TB (tst F d)))(ha:QSs X a (TSm (exs F N f)))(j:QSs X b (TSm (exs F N h))):QS X (.If c a b pos) (TSm (ex F N (.ifs d f h))):=by
 delta QS;delta QT at i;delta QSs at ha;delta QSs at j;exact(s_if i ha j)
theorem yg(a:QE X e (T (ev F c)))(b:QG X tg (TGt (asg F t)))(d:swapsWithSole [tg] e pos.line X.env=pure false:=by rfl)(f:swappedStores [tg] e X.env=pure none:=by rfl)(h:(assignEach [tg] X.env).map (·.2)=[assign tg X.env]:=by rfl):
  QS X (.Assign [tg] e pos) (TSm (ex F N (.set t c))):=by
 delta QS;delta QE at a;delta QG at b;exact(qjd (qjG a b d f h))
theorem qD(i:Nat)(n:QE X e (T (ev F c)))(q:nodupB X.N=true:=by rfl)(hi:X.N[i]?=some x:=by rfl)(r:Loc X.env.scope x:=by first|exact Or.inl rfl|exact Or.inr rfl)(s:swapsWith e (some (.Name x a)) pos.line X.env=pure false:=by rfl)(u:X.fn x=true\/X.env.scope.names.lookup x=some .local:=by first|exact .inl rfl|exact .inr rfl):QS X (.Assign [.Name x a] e pos) (TSm (ex F N (.set (.var i) c))):=by
 delta QS;delta QE at n;refine qjd (g:=λd ρ S=>.ok (ρ.set i (some d)) S) (PSimp (qfo (zg q) hi r n s u) λD E H w=>?_);obtain⟨ι,S,ρ,y,st,p⟩:=w;refine⟨ι,S,ρ,y,st,?_⟩;cases z:ev F c ρ S with
 |no=>rw[z]at p;exact p
 |err=>rw[z]at p;exact p
 |ok d S1 =>
  rw[z]at p;intro v b o s1 f A;obtain⟨h,S2,B,d2,j,l,m,C⟩:=p v b o s1 f A;exact C _ h o (Stp.refl _ _) l (j.set m)
theorem zS(hi:QI X tg iter (TIt (evI F it)))(b:QG X tg (TGt (asg F t)))(c:QSs X body (TSm (exs F N a)))(d:PassesOwn (model X.prog X.w) X.A X.env X.xe:=by exact PassesOwn.never)(f:X.calm=true:=by rfl)(h:∀x,foldedSetIterable iter X.env x=pure x:=by intro _;rfl):QS X (.For tg iter body [] pos) (TSm (ex F N (.forS t it a))):=by
 delta QS;delta QI at hi;delta QG at b;delta QSs at c;exact(qlZ d f hi b c h)
theorem qdZ(d:QT X c (TB (tst F a)))(f:QSs X body (TSm (exs F N b)))(h:PassesOwn (model X.prog X.w) X.A X.env X.xe:=by exact PassesOwn.never):QS X (.While c body [] pos) (TSm (ex F N (.whileS a b))):=by
 delta QS;delta QT at d;delta QSs at f;exact(qh6 h d f)
def cscB(O:List (Str×NameKind))(N':List Str)(sc:Scope)(fr:List Nat)(xs ts:List Str):Bool :=
 (sc.kind == .function)&&sc.names.all (λy=>y.2 != .cell)&&sc.names.all (λy=>y.2 != .local || sc.names.lookup y.1 == some .local)&&sc.names.all (λy=>y.2 != .free || O.lookup y.1 == some .cell || O.lookup y.1 == some .free) &&
 decide (fr.length=xs.length)&&(fr.zip xs).all (λp=>N'[p.1]? == some p.2)&&xs.all (λx=>sc.names.lookup x == some .free&&(O.lookup x == some .cell || O.lookup x == some .free))&&ts.all (λx=>sc.names.lookup x == some .local)&&decide (xs++ts).Nodup
theorem yO(h:cscB X.env.scope.names X.N sc fr xs ts=true):CSc X sc fr xs ts:=by
 unfold cscB at h;simp only[wP,wn,Bool.or_eq_true,bne_iff_ne,v8,wq]at h;obtain⟨⟨⟨⟨⟨⟨⟨⟨b,c⟩,d⟩,f⟩,l⟩,m⟩,n⟩,o⟩,p⟩:=h;refine⟨b,c,λy a q=>?_,λy a r=>?_,⟨l,λi j x e1 s=>?_,n,o,p⟩⟩
 .rcases d y a with z|z
  .exact absurd q z
  .exact z
 .rcases f y a with (z|z)|z
  .exact absurd r z
  .exact .inl z
  .exact .inr z
 .have hm:(j,x)∈fr.zip xs:=by
   apply w9 (i:=i);rw[uM];exact⟨e1,s⟩
  exact m (j,x) hm
theorem qP{k:Nat}{sc:Scope}{cl:List (Str×Addr)}{C:Addr}{code:Value}{N':List Str}{fp:List Addr}{tg elt iter:Expr}{ifs:List Expr}{a:Pos}{it:Addr}{o:Addr×Obj}{s:Shared}{H:Hp}(r:Room (k+1) X.A):
  Room k (genCx X sc cl C code N' fp (.GeneratorExp elt [⟨tg,iter,ifs,0⟩] sc a) it o s H).A:=by
 have c:=r.hd;have d:=r.dp;have f:=r.un;refine⟨c,?_,?_⟩
 .show X.A.depth+frameCount ([].map Frame.where_)+Code.weight _+3*k+5<_
  have:Code.weight (.compLoop (.GeneratorExp elt [⟨tg,iter,ifs,0⟩] sc a) 0 (.ref it) .none (genEnv sc cl C code builtinsNs X.env))<=1:=Nat.le_of_ble_eq_true rfl;have b:frameCount (([]:List Frame).map Frame.where_)=0:=rfl;rw[b];lia
 .show X.A.units+1+1+1+1+1+unitsOf ([].map Frame.where_)+Code.cUnits _+16*k+200<_
  have:Code.cUnits (.compLoop (.GeneratorExp elt [⟨tg,iter,ifs,0⟩] sc a) 0 (.ref it) .none (genEnv sc cl C code builtinsNs X.env))<=3:=Nat.le_of_ble_eq_true rfl;have b:unitsOf (([]:List Frame).map Frame.where_)=0:=rfl;rw[b];lia
theorem k_lc(m:Bool)(fr:List Nat)(xs ts:List Str)(hi:QI X tg iter (TIt (evI F it)))(rt:∀cl C fp s H,QG (compCx X sc cl C (xs++ts) fp s H) tg (TGt (asg F t)))(ri:∀cl C fp s H,QTl (compCx X sc cl C (xs++ts) fp s H) ifs (TB (tsts F a)))(re:∀cl C fp s H,QE (compCx X sc cl C (xs++ts) fp s H) elt (T (ev F b)))(c:X.calm=true:=by rfl)(d:∀x,foldedSetIterable iter X.env x=pure x:=by intro _;rfl)(h:cscB X.env.scope.names X.N sc fr xs ts=true:=by rfl):QE X (.ListComp elt [⟨tg,iter,ifs,0⟩] sc pos) (T (ev F (.lc m fr ts.length b t it a))):=by
 delta QE;delta QI at hi;delta QG at rt;delta QTl at ri;delta QE at re;exact(r_lc c hi d (yO h) ⟨rt,ri,re⟩)
theorem qby(i:Nat)(m:Bool)(fr:List Nat)(xs ts:List Str){f a:Pos}(hi:QI X tg iter (TIt (evI F it)))(rt:∀cl C fp s H,QG (compCx X sc cl C (xs++ts) fp s H) tg (TGt (asg F t)))(ri:∀cl C fp s H,QTl (compCx X sc cl C (xs++ts) fp s H) ifs (TB (tsts F c)))(re:∀cl C fp s H,QE (compCx X sc cl C (xs++ts) fp s H) elt (T (ev F d)))(j:X.calm=true:=by rfl)(l:∀x,foldedSetIterable iter X.env x=pure x:=by intro _;rfl)(h:cscB X.env.scope.names X.N sc fr xs ts=true:=by rfl)(n:nodupB X.N=true:=by rfl)(o:X.N[i]?=some y:=by rfl)(p:X.env.scope.names.lookup y=some .local:=by rfl)(b:swapsWith (.ListComp elt [⟨tg,iter,ifs,0⟩] sc pos) (some (.Name y f)) a.line X.env=pure true:=by rfl):
  QS X (.Assign [.Name y f] (.ListComp elt [⟨tg,iter,ifs,0⟩] sc pos) a) (TSm (ex F N (.set (.var i) (.lc m fr ts.length d t it c)))):=by
 delta QS;delta QI at hi;delta QG at rt;delta QTl at ri;delta QE at re;exact(qia j hi l (yO h) ⟨rt,ri,re⟩ (zg n) o p b)
theorem ql9(w:GW)(fr:List Nat)(xs ts:List Str){id:String}{f:Str}{p d:Pos}{tg elt iter:Expr}{ifs:List Expr}{sc:Scope}{k:Nat}{c T':Addr}{t:CT}{it:CI}{m:CBs}{n:CE}(q:Room k X.A)(r:GCall X w (.builtin id))(hm:X.mg f=none)(u:bootBuiltins f=some (.builtin id))(a:X.env.code=.ref c)(b:codeTab X.K c T'=true)(hi:PI X tg iter (TIt (evI F it)))(rt:∀cl C code fp it o s H,PG (genCx X sc cl C code (xs++ts) fp (.GeneratorExp elt [⟨tg,iter,ifs,0⟩] sc d) it o s H) tg (TGt (asg F t)))(ri:∀cl C code fp it o s H,PTl (genCx X sc cl C code (xs++ts) fp (.GeneratorExp elt [⟨tg,iter,ifs,0⟩] sc d) it o s H) ifs (TB (tsts F m)))(re:∀cl C code fp it o s H,PE (genCx X sc cl C code (xs++ts) fp (.GeneratorExp elt [⟨tg,iter,ifs,0⟩] sc d) it o s H) elt (T (ev F n)))(v:X.calm=true:=by rfl)(i:Gl X f:=by rfl)(hn:f≠"__name__":=by decide)(j:dB f:=by decide)(y:∀x,genFold iter X.env x=pure x:=by intro _;rfl)(h:cscB X.env.scope.names X.N sc fr xs ts=true:=by rfl)(B:sc.names.lookup (".0":Str)=some NameKind.local:=by rfl)(l:sc.isCoroutine=false:=by rfl):PE X (.Call (.Name f p) [.GeneratorExp elt [⟨tg,iter,ifs,0⟩] sc d] [] pos) (T (ev F (.gen w fr ts.length n t it m))) :=
 ql2 v q.depth r i hm u hn j hi y (yO h) B l a b ⟨rt,ri,re⟩
theorem yp(fr:List Nat)(xs ts:List Str){k:Nat}(f:Room k X.A)(gb:Gb X.mg)(a:X.env.code=.ref c)(b:codeTab X.K c T'=true)(hi:QI X tg iter (TIt (evI F it)))(rt:∀cl C code fp it o s H,QG (genCx X sc cl C code (xs++ts) fp (.GeneratorExp elt [⟨tg,iter,ifs,0⟩] sc d) it o s H) tg (TGt (asg F t)))(ri:∀cl C code fp it o s H,QTl (genCx X sc cl C code (xs++ts) fp (.GeneratorExp elt [⟨tg,iter,ifs,0⟩] sc d) it o s H) ifs (TB (tsts F l)))(re:∀cl C code fp it o s H,QE (genCx X sc cl C code (xs++ts) fp (.GeneratorExp elt [⟨tg,iter,ifs,0⟩] sc d) it o s H) elt (T (ev F m)))(n:X.calm=true:=by rfl)(i:Gl X "all":=by rfl)(q:∀x,genFold iter X.env x=pure x:=by intro _;rfl)(h:cscB X.env.scope.names X.N sc fr xs ts=true:=by rfl)(r:sc.names.lookup (".0":Str)=some NameKind.local:=by rfl)(j:sc.isCoroutine=false:=by rfl):QE X (.Call (.Name "all" p) [.GeneratorExp elt [⟨tg,iter,ifs,0⟩] sc d] [] pos) (T (ev F (.gen .all fr ts.length m t it l))):=by
 delta QE;delta QI at hi;delta QG at rt;delta QTl at ri;delta QE at re;exact(ql9 .all fr xs ts f (qkf n f.depth λ_=>f.hd) gb.all (by decide +kernel) a b hi rt ri re n i (by decide) (by decide) q h r j)
end
structure FunT (K:PySem.W.Frag) (x:Str) (st:Stmt) (f:Addr) (fd:FuncData) (c T':Addr):Prop where
 ex:∃(oc:Value) (od:Option Addr) (kV doc pm:Value) (an:Option Addr) (ct:Value) (osl:Array (Option Value)),
  fd=PySem.W.fnOf x x (defArgs st) (defBody st) (defScope st) .none kV doc pm an (.ref c) ct/\K.lookup f=some ⟨oc,od,.func fd,osl⟩/\PySem.W.codeIn K (.ref c) x=true
 tab:codeTab K c T'=true
 kp:PySem.W.keepIn K (.ref f)=true
mutual
def Den.frz{n:Nat}(st:Sto ι H S):∀(d:D) {d':D} {v:V},R.frz S n d=some d'->Den ι H d v->Den (ι.take n) H d' v
 | .non,d',v,e,h=>by cases e;exact h
 | .bl b,d',v,e,h=>by cases e;exact h
 | .int b,d',v,e,h=>by cases e;exact h
 | .str b,d',v,e,h=>by cases e;exact h
 | .exc _,d',v,e,h=>by cases e
 | .emp,d',v,e,h=>by
  cases e;obtain⟨a,e1,e2,e3⟩:=h;exact⟨a,e1,λm=>e2 (wm m),e3⟩
 | .tup l,d',v,e,h=>by
  unfold R.frz at e;cases z:R.frzs S n l with
  |none=>rw[z]at e;cases e
  |some l' =>
   rw[z]at e;cases e;obtain⟨a,xs,e1,e2,e3,e4⟩:=h;exact⟨a,xs,e1,λm=>e2 (wm m),e3,Dens.frz st l z e4⟩
 | .lst l,d',v,e,h=>by
  unfold R.frz at e;cases z:R.frzs S n l with
  |none=>rw[z]at e;cases e
  |some l' =>
   rw[z]at e;cases e;obtain⟨a,xs,e1,e2,e3,e4⟩:=h;exact⟨a,xs,e1,λm=>e2 (wm m),e3,Dens.frz st l z e4⟩
 | .ref m,d',v,e,h=>by
  obtain⟨a,e1,e2⟩:=h;unfold R.frz at e;split at e
  .rename_i hm
   cases e;exact⟨a,e1,by rw[List.getElem?_take];rw[wN hm];exact e2⟩
  .rename_i hm
   split at e
   .rename_i l hl
    split at e
    rotate_left
    .cases e
    rename_i f;cases e;obtain⟨_,xs,h1,h2⟩:=st.obj m a _ e2 hl;refine⟨a,xs,e1,λhmem=>?_,.inl h1,Dens.less l f h2⟩;obtain⟨i,hi,ei⟩:=List.mem_iff_getElem?.mp hmem |>.elim λi hi=>(⟨i,by
     have:=(wF.mp hi).1;rw[wg]at this;lia,hi⟩:∃i,i<n/\(ι.take n)[i]?=some a)
    rw[List.getElem?_take,wN hi]at ei;have hlt:=(wF.mp ei).1;have:=(List.getElem?_inj hlt st.nd).mp (ei.trans e2.symm);lia
   .cases e
def Dens.frz{n:Nat}(st:Sto ι H S):∀(ds:List D) {ds':List D} {xs:List V},R.frzs S n ds=some ds'->Dens ι H ds xs->Dens (ι.take n) H ds' xs
 |[],ds',xs,e,h=>by cases e;exact h
 |d::r,ds',xs,e,h=>by
  unfold R.frzs at e;split at e
  .rename_i a b h1 h2
   cases e;obtain⟨x,t,e1,e2,e3⟩:=h;exact⟨x,t,e1,Den.frz st d h1 e2,Dens.frz st r h2 e3⟩
  .cases e
end
def qip{N:Nat}{c:CF}{ns ps:List Str}(o:ps.length=c.np)(hn:ns.length=c.nn)(s:c.np<=c.nn)(h:SpD ps.length (callC F N c) vs H Q E0):TSm (exs F N c.body) {nx:=λ_ H'=>Q .non H',rt:=Q} (start ns vs) H:=by
 obtain⟨r,ι,S,ds,st,l,p⟩:=h;have m:ds.length=c.np:=by rw[l.length,r,o]
 unfold callC at p;rw[wN m]at p;have u:EnR ι H (ds.map some++List.replicate (c.nn-c.np) none) (start ns vs):=by
  unfold L2.start;have e1:ns.length-vs.length=c.nn-c.np:=by rw[hn,r,o]
  rw[e1];refine⟨by simp[l.length],λi d e=>?_⟩;by_cases hi:i<ds.length
  .rw [wL (by simpa using hi),w8,wD hi]at e
   cases e;obtain⟨x,w,y⟩:=l.get (wD hi);refine⟨x,?_,y⟩;rw[wL (by rw[wE,<-l.length];exact hi),w8,w];rfl
  .rw [wM (by simpa using hi),vH]at e
   split at e <;> cases e
 refine⟨ι,S,_,u,st,?_⟩;have lv:∀{d:D} {S1:Sr},Pst Den (leave c.keeps S.length d S1) ι H Q->∀a H',Stp ι H a H'->Sto a H' S1->∀v,Den a H' d v->Q v H':=by
  intro d S1 q a H' s1 b v j;unfold leave at q;split at q
  .exact q v a H' s1 b j
  .split at q
   .exact q v a H' s1 b j
   .split at q
    .rename_i A
     have e:=s1.take_eq;have n:ι.length=S.length:=st.len;refine q v (a.take S.length) H' (by rw[<-n];exact s1.less) (b.less _) (Den.less d A j)
    .split at q
     .rename_i d' hd
      have n:ι.length=S.length:=st.len;exact q v (a.take S.length) H' (by rw[<-n];exact s1.less) (b.less _) (Den.frz b d hd j)
     .exact q.elim
 cases z:exs F N c.body (ds.map some++List.replicate (c.nn-c.np) none) S with
 |no=>rw[z]at p;exact p.elim
 |err=>rw[z]at p;exact p.elim
 |ok f S1 =>
  rw[z,Res.bind_ok]at p;intro a H' s1 b;cases f with
  |nx ρ=>exact λB _=>lv p a H' s1 b .non rfl
  |rt d=>exact λv j=>lv p a H' s1 b v j
  |bk ρ=>exact p.elim
  |ct ρ=>exact p.elim
def isFields:Data->Bool
 | .fields _=>true
 |_=>false
def plainK(K:PySem.W.Frag):Bool:=K.all λp=>p.2.cls != .type "list"&&!(p.2.cls == .none&&isFields p.2.data)
def sameData:Data->Bool
 | .fields vs=>sameName vs
 |_=>false
def codesK(q:Program)(K:PySem.W.Frag):Bool:=K.all λp=>p.2.cls != .type "code" || !(sameData p.2.data) || (recsOf q).any λd=>match PySem.W.nsIn K mainGlobals d.name with
 |some (some (.ref a))=>(match K.lookup a with
  |some ⟨_,_,.func fd,_⟩=>fd.code == .ref p.1
  |_=>false)
 |_=>false
def yq:∀{K:PySem.W.Frag} {a:Addr} {o:Obj},K.lookup a=some o->(a,o)∈K
 |[],_,_,h=>by cases h
 | (b,u)::K,a,o,h=>by
  rw[vZ]at h;cases z:a == b with
  |true=>rw[z]at h;cases h;rw[v8.mp z];exact wQ
  |false=>rw[z]at h;exact wO _ (yq h)
def qgx{K:PySem.W.Frag}(h:plainK K=true){a:Addr}{o:Obj}(e:K.lookup a=some o):o.cls≠.type "list"/\¬(o.cls=.none/\isFields o.data=true):=by
 unfold plainK at h;rw[wn]at h;have:=h _ (yq e);simp only[wP,bne_iff_ne,uH,xS,ww]at this;refine⟨this.1,λ⟨b,c⟩=>?_⟩;rcases this.2 with z|z
 .exact z b
 .rw [c]at z;cases z
def qar{K:PySem.W.Frag}{c t:Addr}(h:codeTab K c t=true):∃o vs,K.lookup c=some o/\o.cls=.type "code"/\o.data=.fields vs/\vs[11]?=some (.ref t)/\sameName vs=true:=by
 unfold codeTab at h;split at h
 .rename_i cls d vs sl j
  simp only[wP,v8]at h;obtain⟨⟨e1,l⟩,i⟩:=h;split at i
  .rename_i a b r s u v w x y m f n A B p
   simp only[wP,v8,bne_iff_ne]at i;obtain⟨⟨C,q⟩,ne⟩:=i;subst q;exact⟨_,vs,j,e1,rfl,f,l⟩
  .cases i
 .cases h
def qiq{K:PySem.W.Frag}(T:Top q b i mg mb h)(j:K.In h)(l:codesK q K=true)(e:codeTab K c t=true):
  h.get? t=some {cls:=.none,data:=.fields #[]}/\isCodeTable h t:=by
 obtain⟨o,vs,n,cl,m,p,sn⟩:=qar e;unfold codesK at l;rw[wn]at l;have:=l _ (yq n);simp only[Bool.or_eq_true,bne_iff_ne,List.any_eq_true]at this;rcases this with (z|z)|⟨d,hd,hz⟩
 .exact absurd cl z
 .rw [m]at z;rw[show sameData (.fields vs)=true from sn]at z;cases z
 .split at hz
  .rename_i a hn
   split at hz
   .rename_i oc od fd sl w
    have f:fd.code=.ref c:=by simpa using hz
    obtain⟨H,o',x,I,J,e1,y,A,r,L,B⟩:=T.tab d hd;have C:=PySem.W.mg_of j T.g hn;rw[C]at e1;cases e1;have:=j _ _ w;rw[y]at this;cases this;cases A;rw[f]at r;cases r;obtain⟨⟨E,M,s,N,u,v⟩,F⟩:=B;have:=j _ _ n;rw[s]at this;cases this;rw[m]at u;cases u;rw[p]at v;cases v;exact⟨F,c,_,_,s,cl,m,p⟩
   .cases hz
  .cases hz
def tabOf(K:PySem.W.Frag)(b:Addr):Bool:=K.any λp=>codeTab K p.1 b
def qa6{K:PySem.W.Frag}{b:Addr}:tabOf K b=true ↔ ∃c,codeTab K c b=true:=by
 unfold tabOf;rw[List.any_eq_true];constructor
 .rintro ⟨p,_,h⟩;exact⟨p.1,h⟩
 .rintro ⟨c,h⟩
  obtain⟨o,vs,a,_⟩:=qar h;exact⟨(c,o),yq a,h⟩
def entryH(K:PySem.W.Frag)(a:Addr)(vs:List Value)(ns:List Int):Hp:=λb=>if b=a then some (.frz {cls:=.type "list",data:=.seq vs.toArray} (.lst (ns.map V.int)))else if tabOf K b=true then some (.tbl #[])else none
def qe3{K:PySem.W.Frag}{k:Nat}{f:Shared}{vs:List Value}(T:Top q A L mg mb f.heap)(O:K.In f.heap)(hp:plainK K=true)(Q:codesK q K=true)(hg:f.gens=#[])(ha:f.heap.get? a=some {cls:=.type "list",data:=.seq vs.toArray})(hi:IntsAre vs ns)(hl:ns.length<=sizeLine)(hr:Room k callerA)(F:∀base:Heap,K.In base->base.Ns mainGlobals mg->FnOk P w K mg base CX0 k fa fd [x] sp)(B:∀(s:Shared) (u:Value),BindsTo s fd ⟨[u],[]⟩ [(x,u)])(S:∀H:Hp,H a=some (.frz {cls:=.type "list",data:=.seq vs.toArray} (.lst (ns.map V.int)))->sp [.ref a] H (λv _=>v=.bl true) λ_ _ _=>False):
  codeAny (model P w) callerA (.call (.ref fa) ⟨[.ref a],[]⟩) (λr s'=>r=.ok (.ret (.bool true))/\OldK f.heap s'.heap/\s'.os=f.os/\AllBare s'.gens) f:=by
 have rv:=qa1 hi;have I:∀{b:Addr},tabOf K b=true->f.heap.get? b=some {cls:=.none,data:=.fields #[]}/\isCodeTable f.heap b:=λ{b} h=>by
  obtain⟨c,e⟩:=qa6.mp h;exact qiq T O Q e
 have na:tabOf K a≠true:=λh=>by
  have:=(I h).1;rw[ha]at this;cases this
 generalize U:entryH K a vs ns=H;have X:H a=some (.frz {cls:=.type "list",data:=.seq vs.toArray} (.lst (ns.map V.int))):=by rw[<-U];unfold entryH;rw[wN rfl]
 have Y:∀{b:Addr},tabOf K b=true->H b=some (.tbl #[]):=λ{b} h=>by
  rw[<-U];unfold entryH;rw[wT (λ(z:b=a)=>na (by rw[<-z];exact h)),wN h]
 have j:∀{b:Addr} {u:HO},H b=some u->(b=a/\u=.frz {cls:=.type "list",data:=.seq vs.toArray} (.lst (ns.map V.int)))\/(tabOf K b=true/\u=.tbl #[]):=λ{b u} e=>by
  rw[<-U]at e;unfold entryH at e;split at e
  .rename_i z;cases e;exact .inl ⟨z,rfl⟩
  .split at e
   .rename_i z;cases e;exact .inr ⟨z,rfl⟩
   .cases e
 have hok:HOk P w H f.heap:=λb u e=>by
  rcases j e with ⟨rfl,rfl⟩|⟨h,rfl⟩
  .exact ⟨ha,by rw[wE];exact hl,vs,_,rv,ha⟩
  .exact ⟨(I h).1,trivial⟩
 have i:∀{b:Addr} {o:Obj},f.heap.get? b=some o->H b=none->(hidT f.heap H).get? b=some o:=λe n=>qfk e n
 have Z:∀{b:Addr} {o:Obj} {es:Array DictEntry} {J:Nat},f.heap.get? b=some o->o.data=.dict es J->H b=none:=λ{b o es J} e d=>by
  cases z:H b with
  |none=>rfl
  |some u =>
   rcases j z with ⟨rfl,rfl⟩|⟨h,rfl⟩
   .rw [ha]at e;cases e;cases (show Data.seq vs.toArray _=Data.dict es J from d)
   .rw [(I h).1]at e;cases e;cases (show Data.fields #[]=Data.dict es J from d)
 have l:∀{b:Addr} {m:Str->Option Value},f.heap.Ns b m->(hidT f.heap H).Ns b m:=λ{b m} ⟨o,es,J,e,d,r⟩=>⟨o,es,J,i e (Z e d),d,r⟩
 have M:K.In (hidT f.heap H):=λb o e=>i (O b o e) (by
  cases z:H b with
  |none=>rfl
  |some u =>
   obtain⟨p1,p2⟩:=qgx hp e;have e':=O b o e;rcases j z with ⟨rfl,rfl⟩|⟨h,rfl⟩
   .rw [ha]at e';cases e';exact absurd rfl p1
   .rw [(I h).1]at e';cases e';exact absurd ⟨rfl,rfl⟩ p2)
 have bm:∃bm ob,mg "__builtins__"=some (.ref bm)/\bm≠builtinsNs/\(hidT f.heap H).get? bm=some ob/\ob.cls=.type "module"/\ob.dict=some builtinsNs/\ob.data=.plain:=by
  obtain⟨bm,ob,e1,C,E,N,e5,e6⟩:=T.bmain;refine⟨bm,ob,e1,C,i E ?_,N,e5,e6⟩;cases z:H bm with
  |none=>rfl
  |some u =>
   rcases j z with ⟨rfl,rfl⟩|⟨h,rfl⟩
   .rw [ha]at E;cases E;exact absurd (show Value.type "list"=Value.type "module" from N) (by decide)
   .rw [(I h).1]at E;cases E;exact absurd N (by decide)
 have hM:Mod K mg (hidT f.heap H):=⟨M,l T.g,⟨mb,l T.b,T.builtins⟩,(let ⟨mc,h1,h2⟩:=T.nolimit;⟨mc,l h1,h2⟩),bm⟩;have e0:Env0 P w K mg (hidT f.heap H) callerA [] f H:=⟨rfl,hM,λb o e=>qhD e,ul (qeC _ _),trivial,λb hb=>absurd (show b∈([]:List Addr)from hb) (by simp),hok,.of_eq hg,λc t z=>⟨_,Y (qa6.mpr ⟨c,z⟩)⟩⟩;refine codeAny_mono ((F _ M (l T.g)).run callerA [] f H ⟨[.ref a],[]⟩ [.ref a] [.ref a] _ _ hr e0 (B f (.ref a)) (.cons rfl .nil) (S H X)) λr s' h=>?_
 cases r with
 |error e=>exact(show False from h).elim
 |ok fl =>
  cases fl with
  |next=>exact False.elim h
  |brk=>exact False.elim h
  |cont=>exact False.elim h
  |ret u =>
   obtain⟨v,H',os,bare,un,p,r',q'⟩:=h;have q':v=.bl true:=q';subst q';obtain rfl:u=Value.bool true:=r';have old:∀b o,f.heap.get? b=some o->asItWas f.heap s'.heap b o/\∃o',s'.heap.get? b=some o':=λb o e=>by
    cases z:H b with
    |none =>
     have:=un.keep b o e z (by intro y;exact absurd (show b∈([]:List Addr)from y) (by simp)) (by simp);exact⟨.inl this,_,this⟩
    |some u =>
     rcases j z with ⟨rfl,rfl⟩|⟨h,rfl⟩
     .have z2:=un.frzs _ _ _ z
      obtain⟨C,_⟩:=p _ _ z2;rw[ha]at e;cases e;exact⟨.inl C,_,C⟩
     .obtain ⟨more,z2⟩:=un.tbls _ _ z
      obtain⟨C,_⟩:=p _ _ z2;obtain⟨E,N⟩:=I h;rw[E]at e;cases e;exact⟨.inr (.inl ⟨N,rfl,#[],more,rfl,C⟩),_,C⟩
   exact⟨rfl,⟨λb o e=>(old b o e).1,λb o e=>(old b o e).2⟩,os,bare.bare⟩
def qko{l:PySem.W.OpenLaw}{n k:Nat}{q:Program}{c:List Str}{XP:(Str->Option Value)->Heap->Prop}{E:World->Heap->Prop}{d:DefRec}{K:Params->PySem.W.Frag}{x:Str}{g:List D->Sr->Res D}(hn:l.most=some n)(y:n<=sizeLine)(A:d.params.defaults=[])(N:Room k callerA)(O:∀(w:World) (h:Heap),E w h->(K w.params).In h)(Q:∀P,plainK (K P)=true)(B:∀P,codesK q (K P)=true)(F:∀(w:World) (mg:Str->Option Value) (m:Addr) (h:Heap),(K w.params).In h->h.Ns mainGlobals mg->mg d.name=some (.ref m) ->
   ∃fd:FuncData,(∀(s:Shared) (u:Value),BindsTo s fd ⟨[u],[]⟩ [(x,u)])/\∀base:Heap,(K w.params).In base->base.Ns mainGlobals mg->FnOk l.prog w (K w.params) mg base CX0 k m fd [x] (SpD 1 g))(S:∀ns:List Int,ns.length<=n->∃I,g [.lst (ns.map .int)] []=.ok (.bl true) I):
  PySem.W.WalkO q c XP E l.row.toRowW d [] (λf vs=>PySem.call f vs):=by
 refine Att.attach_call hn A λw s₀ J mg mb m o pm cd doc a vs ns G Y ho hd L C j i b U=>?_
 have M:=O w _ Y;obtain⟨fd,X,Z⟩:=F w mg m _ M G.T.g C;refine qe3 G.T M (Q _) (B _) U j i (vA b y) N Z X λH hS=>?_
 obtain⟨I,e⟩:=S ns b;have dd:∀p:List Int,Dens [] H (p.map .int) (p.map V.int):=λp=>by
  induction p with
  |nil=>rfl
  |cons x r ih=>exact⟨_,_,rfl,rfl,ih⟩
 refine⟨rfl,[],[],[.lst (ns.map .int)],⟨rfl,.nil,λn a so e1 _=>by simp at e1⟩,⟨_,_,rfl,⟨a,ns.map V.int,rfl,by simp,.inr ⟨_,hS⟩,dd ns⟩,rfl⟩,?_⟩;rw[e];exact λv a0 H' _ _ hv=>hv
def m2{k:Nat}(r:Room (k+2) A):Room k A:=r.mono (by lia)
def m1{k:Nat}(r:Room (k+1) A):Room k A:=r.mono (by lia)
def qkp:bootBuiltins "len"=some (.builtin "len"):=by decide +kernel
def qkq:bootBuiltins "min"=some (.builtin "min"):=by decide +kernel
def qkr:bootBuiltins "max"=some (.builtin "max"):=by decide +kernel
def qks:bootBuiltins "abs"=some (.builtin "abs"):=by decide +kernel
def qe4:bootBuiltins "divmod"=some (.builtin "divmod"):=by decide +kernel
def qe5:bootBuiltins "sorted"=some (.builtin "sorted"):=by decide +kernel
def qkt:bootBuiltins "sum"=some (.builtin "sum"):=by decide +kernel
def qir:bootBuiltins "list"=some (.type "list"):=by decide +kernel
def qgy:bootBuiltins "tuple"=some (.type "tuple"):=by decide +kernel
def qku:bootBuiltins "str"=some (.type "str"):=by decide +kernel
section
variable{X:Cx}{F:Fs}{pos p:Pos}{e:Expr}{es:List Expr}{cs:CEs}
theorem q8(gb:Gb X.mg)(ha:QA X (e::es) (TL (evs F cs)))(b:Gl X "len":=by rfl)(c:sE X e es:=by rfl)(a:bT X es pos:=by rfl):QE X (.Call (.Name "len" p) (e::es) [] pos) (T (ev F (.blt .len cs))):=by
 delta QE;delta QA at ha;exact(qap .len qlL gb.len qkp ha b (by decide) (by decide) c a)
theorem qjg(gb:Gb X.mg)(ha:QA X (e::es) (TL (evs F cs)))(b:X.calm=true:=by rfl)(c:Gl X "min":=by rfl)(d:sE X e es:=by rfl)(a:bT X es pos:=by rfl):QE X (.Call (.Name "min" p) (e::es) [] pos) (T (ev F (.blt .min2 cs))):=by
 delta QE;delta QA at ha;exact(qap .min2 (qlN b) gb.min qkq ha c (by decide) (by decide) d a)
theorem qma(gb:Gb X.mg)(ha:QA X (e::es) (TL (evs F cs)))(b:X.calm=true:=by rfl)(c:Gl X "max":=by rfl)(d:sE X e es:=by rfl)(a:bT X es pos:=by rfl):QE X (.Call (.Name "max" p) (e::es) [] pos) (T (ev F (.blt .max2 cs))):=by
 delta QE;delta QA at ha;exact(qap .max2 (qlO b) gb.max qkr ha c (by decide) (by decide) d a)
theorem qd0(gb:Gb X.mg)(ha:QA X (e::es) (TL (evs F cs)))(b:Gl X "abs":=by rfl)(c:sE X e es:=by rfl)(a:bT X es pos:=by rfl):QE X (.Call (.Name "abs" p) (e::es) [] pos) (T (ev F (.blt .abs cs))):=by
 delta QE;delta QA at ha;exact(qap .abs qlM gb.abs qks ha b (by decide) (by decide) c a)
theorem qgz(gb:Gb X.mg)(ha:QA X (e::es) (TL (evs F cs)))(b:Gl X "divmod":=by rfl)(c:sE X e es:=by rfl)(a:bT X es pos:=by rfl):QE X (.Call (.Name "divmod" p) (e::es) [] pos) (T (ev F (.blt .divmod cs))):=by
 delta QE;delta QA at ha;exact(qap .divmod qfV gb.divmod qe4 ha b (by decide) (by decide) c a)
theorem qcn(m:Bool)(gb:Gb X.mg)(ha:QA X (e::es) (TL (evs F cs)))(b:X.calm=true:=by rfl)(c:Gl X "sorted":=by rfl)(d:sE X e es:=by rfl)(a:bT X es pos:=by rfl):QE X (.Call (.Name "sorted" p) (e::es) [] pos) (T (ev F (.blt (.sorted m) cs))):=by
 delta QE;delta QA at ha;exact(qap (.sorted m) (qgt m b) gb.sorted qe5 ha c (by decide) (by decide) d a)
theorem qmb(gb:Gb X.mg)(ha:QA X (e::es) (TL (evs F cs)))(b:X.calm=true:=by rfl)(c:Gl X "sum":=by rfl)(d:sE X e es:=by rfl)(a:bT X es pos:=by rfl):QE X (.Call (.Name "sum" p) (e::es) [] pos) (T (ev F (.blt .sum cs))):=by
 delta QE;delta QA at ha;exact(qap .sum (qlQ b) gb.sum qkt ha c (by decide) (by decide) d a)
theorem qas(m:Bool)(gb:Gb X.mg)(ha:QA X (e::es) (TL (evs F cs)))(b:Gl X "list":=by rfl)(c:sE X e es:=by rfl)(a:bT X es pos:=by rfl):QE X (.Call (.Name "list" p) (e::es) [] pos) (T (ev F (.blt (.list m) cs))):=by
 delta QE;delta QA at ha;exact(qgw (.list m) (qj8 m) gb.list qir ha b (by decide) (by decide) c a)
theorem yX(gb:Gb X.mg)(ha:QA X (e::es) (TL (evs F cs)))(b:Gl X "tuple":=by rfl)(c:sE X e es:=by rfl)(a:bT X es pos:=by rfl):QE X (.Call (.Name "tuple" p) (e::es) [] pos) (T (ev F (.blt .tuple cs))):=by
 delta QE;delta QA at ha;exact(qgw .tuple qh3 gb.tuple qgy ha b (by decide) (by decide) c a)
end
def qJ{P:Program}{w:World}{K:PySem.W.Frag}{mg:Str->Option Value}{base:Heap}{k N i:Nat}{F G:Fs}{x:Str}{st:Stmt}{f c T':Addr}{fd:FuncData}{a:CF}{ns ps:List Str}(U:FunT K x st f fd c T')(S:FnScope ns ps (defScope st))(j:ps.length=a.np)(hn:ns.length=a.nn)(b:a.np<=a.nn)(l:G i=callC F N a)(body:∀(A:Around) (outer:List Env) (s:Shared) (H:Hp) (E:XK),Room k (A.deeper (envOfC x (defScope st) s.heap.objs.size f (.ref c)))->QSs (cxOf CX0 P w K mg base ns x (defScope st) f (.ref c) A outer s H E).nox (defBody st) (TSm (exs F N a.body))):
  FnOk P w K mg base CX0 (k+1) f fd ps (SpD ps.length (G i)):=by
 obtain⟨oc,od,kV,doc,pm,an,ct,osl,rfl,m,d⟩:=U.ex;refine qi5 m d S (λvs H Q E h=>h.1) λA outer s H vs Q E n h=>⟨_,(body A outer s H E n).un.nox,?_⟩
 rw[l]at h;exact qip j hn b h
def qK{P:Program}{w:World}{K:PySem.W.Frag}{mg:Str->Option Value}{base:Heap}{i:Nat}{G:Fs}{f:Addr}{fd:FuncData}{ps:List Str}(a:G i=λ_ _=>.no){k:Nat}:
  FnOk P w K mg base CX0 k f fd ps (SpD ps.length (G i)):=by
 refine⟨λvs H Q E h=>h.1,λA outer s H args us vs Q E _ _ _ _ h=>?_⟩;obtain⟨_,ι,S,ds,_,_,p⟩:=h;rw[a]at p;exact p.elim
def DefIn(K:PySem.W.Frag)(mg:Str->Option Value)(x:Str)(st:Stmt)(ps:List Str):Prop:=∃(f:Addr) (fd:FuncData) (c t:Addr),mg x=some (.ref f)/\FunT K x st f fd c t/\Binds K fd ps []
def DefIn.fn{P:Program}{w:World}{K:PySem.W.Frag}{mg:Str->Option Value}{base:Heap}{k i:Nat}{F:Fs}{x:Str}{st:Stmt}{ps:List Str}(u:DefIn K mg x st ps)(h:∀f fd c t,FunT K x st f fd c t->FnOk P w K mg base CX0 k f fd ps (SpD ps.length (F i))):FnAt P w K mg base k F i x ps:=by
 obtain⟨f,fd,c,t,hm,U,a⟩:=u;exact⟨f,fd,hm,U.kp,a,h f fd c t U⟩
def len0{us:List Value}(h:us.length=0):us=[]:=List.eq_nil_of_length_eq_zero h
def lenS{us:List Value}{n:Nat}(h:us.length=n+1):∃a r,us=a::r/\r.length=n:=by
 cases us with
 |nil=>cases h
 |cons a r=>exact⟨a,r,rfl,Nat.succ.inj h⟩
def len1{us:List Value}(h:us.length=1):∃b,us=[b]:=by
 obtain⟨a,_,rfl,q⟩:=lenS h;cases len0 q;exact⟨a,rfl⟩
def len2{us:List Value}(h:us.length=2):∃b c,us=[b,c]:=by
 obtain⟨a,r,rfl,q⟩:=lenS h;obtain⟨d,rfl⟩:=len1 q;exact⟨a,d,rfl⟩
def len3{us:List Value}(h:us.length=3):∃b c d,us=[b,c,d]:=by
 obtain⟨a,r,rfl,q⟩:=lenS h;obtain⟨f,b1,rfl⟩:=len2 q;exact⟨a,f,b1,rfl⟩
def tabIn(vs:Array Value)(c T':Addr):Bool:=match(vs.getD 11 Value.none:Value),(vs.getD 18 Value.none:Value),(vs.getD 7 Value.none:Value),(vs.getD 9 Value.none:Value),(vs.getD 10 Value.none:Value)with
  | .ref a,.str _ _,.int _ _,.bool _,.int _ _=>(a == T'&&c != T')&&sameName vs
  |_,_,_,_,_=>false
def qkv{K:PySem.W.Frag}(f:K.lookup c=some ⟨.type "code",d,.fields vs,sl⟩)(b:vs[11]?=some (.ref t))(h:tabIn vs c t=true):codeTab K c t=true:=by
 unfold codeTab;rw[f];simp only[b];unfold tabIn at h;split at h
 .rename_i a n o p q r s e1 i j l m
  simp only[e1,i,j,l,m];simpa[and_comm]using h
 .cases h
def qz{K:PySem.W.Frag}{h:Heap}{mg:Str->Option Value}(X:K.In h)(G:h.Ns mainGlobals mg){x:Str}{st:Stmt}{ps:List Str}{f c t:Addr}{oc kV doc pm ct:Value}{od an:Option Addr}{osl:Array (Option Value)}{d2:Option Addr}{vs:Array Value}{b:Array (Option Value)}(a:PySem.W.nsIn K mainGlobals x=some (some (.ref f)))(l:K.lookup f=some ⟨oc,od,.func (PySem.W.fnOf x x (defArgs st) (defBody st) (defScope st) .none kV doc pm an (.ref c) ct),osl⟩)(j:PySem.W.codeIn K (.ref c) x=true)(m:K.lookup c=some ⟨.type "code",d2,.fields vs,b⟩)(d:vs[11]?=some (.ref t))(n:tabIn vs c t=true)(kp:PySem.W.keepIn K (.ref f)=true)(o:∀(kV doc pm:Value) (an:Option Addr) (i ct:Value) (us:List Value),us.length=ps.length->bindArgs (PySem.W.fnOf x x (defArgs st) (defBody st) (defScope st) .none kV doc pm an i ct) ⟨us,[]⟩=pure (ps.zip us)):DefIn K mg x st ps :=
 ⟨f,_,c,t,PySem.W.mg_of X G a,⟨⟨oc,od,kV,doc,pm,an,ct,osl,rfl,l,j⟩,qkv m d n,kp⟩,.all (o kV doc pm an (.ref c) ct)⟩
def qat{K:PySem.W.Frag}(X:K.In h)(G:h.Ns mainGlobals mg){i:Int}(a:PySem.W.nsIn K mainGlobals x=some (some v))(e:v=.int i t):∃t:Tok,mg x=some (.int i t):=⟨t,by rw[PySem.W.mg_of X G a,e]⟩
section
variable{X:Cx}{F:Fs}{N:Nat}{pos:Pos}
theorem qd1(i j:Nat){kt k2 pt2}(ha:QA X [a,b] (TL (evs F (.cons d (.cons f .nil)))))(E:X.calm=true:=by rfl)(I:nodupB X.N=true:=by rfl)(hi:X.N[i]?=some x:=by rfl)(J:X.N[j]?=some y:=by rfl)(o:i≠j:=by decide)(K:X.env.scope.names.lookup x=some .local:=by rfl)(L:X.env.scope.names.lookup y=some .local:=by rfl)(M:swappedStores [.Tuple [.Name x m,.Name y n] kt pt] (.Tuple [a,b] k2 pt2) X.env=pure (some [x,y]):=by rfl)(q:swapsWithSole [.Tuple [.Name x m,.Name y n] kt pt] (.Tuple [a,b] k2 pt2) pos.line X.env=pure false:=by rfl):
  QS X (.Assign [.Tuple [.Name x m,.Name y n] kt pt] (.Tuple [a,b] k2 pt2) pos) (TSm (ex F N (.set (.tup (.cons (.var i) (.cons (.var j) .nil))) (.tup (.cons d (.cons f .nil)))))):=by
 delta QS;delta QA at ha;refine PSimp (qjH E (zg I) hi J o K L ha M q) λU W H h=>?_
 obtain⟨ι,S,ρ,C,st,p⟩:=h;refine⟨ι,S,ρ,C,st,?_⟩;have c:∀{l S'},evs F (.cons d (.cons f .nil)) ρ S=.ok l S'->l.length=2:=λz=>yW z
 simp only[ex,ev]at p;cases z:evs F (.cons d (.cons f .nil)) ρ S with
 |no=>rw[z]at p;exact p
 |err=>rw[z]at p;exact p
 |ok l S1 =>
  rw[z]at p;have O:=c z
  match l,O with
  |[d1,d2],_ =>
   have q:([d1,d2]:List D).length<=sizeLine:=by simp[sizeLine]
   simp only[Res.bind,q,v9,asg,asgs]at p;intro vs s P s1 u Q;obtain⟨v,r,rfl,A,w,Y,rfl,B,rfl⟩:=Q;exact⟨v,w,rfl,p s P s1 u _ (((C.mono s1).set A).set B)⟩
theorem qkw(gb:Gb X.mg)(ha:QA X (e::es) (TL (evs F cs)))(b:Gl X "str":=by rfl)(c:sE X e es:=by rfl)(a:bT X es pos:=by rfl):QE X (.Call (.Name "str" p) (e::es) [] pos) (T (ev F (.blt .str cs))):=by
 delta QE;delta QA at ha;exact(qgw .str qlP gb.str qku ha b (by decide) (by decide) c a)
end
end R
namespace R
open PySem PySem.Spec L2 SeqAt
open PyProof.Rows hiding St
section
variable{X:Cx}{F:Fs}{N:Nat}{pos:Pos}
theorem qgA{nt:Nat}:mLcG m fr nt (mRef (ev F c)) (asg F t) (tsts F b) (ev F a)=ev F (.lcR m fr nt a t c b):=by
 funext ρ S;unfold mLcG mRef;simp only[ev];cases ev F c ρ S with
 |ok d S1 =>
  cases hr:refL d S1 <;> simp only[Res.bind,hr]
 |err=>rfl
 |no=>rfl
theorem qmc(m:Bool)(fr:List Nat)(xs ts:List Str)(hi:QE X iter (T (ev F c)))(rt:∀cl C fp s H,QG (compCx X sc cl C (xs++ts) fp s H) tg (TGt (asg F t)))(ri:∀cl C fp s H,QTl (compCx X sc cl C (xs++ts) fp s H) ifs (TB (tsts F a)))(re:∀cl C fp s H,QE (compCx X sc cl C (xs++ts) fp s H) elt (T (ev F b)))(d:X.calm=true:=by rfl)(f:∀x,foldedSetIterable iter X.env x=pure x:=by intro _;rfl)(h:cscB X.env.scope.names X.N sc fr xs ts=true:=by rfl):QE X (.ListComp elt [⟨tg,iter,ifs,0⟩] sc pos) (T (ev F (.lcR m fr ts.length b t c a))):=by
 rw[<-qgA];delta QE;delta QE at hi;delta QG at rt;delta QTl at ri;delta QE at re;exact(qjf d (ql0 hi) f (yO h) ⟨rt,ri,re⟩)
end
def accL(us:Array Value)(c:Nat):Obj:={cls:=.type "list",dict:=none,data:=.seq us c,slots:=#[]}
section
variable{X:Cx}{sc:Scope}{cl:List (Str×Addr)}{C:Addr}{code:Value}{N':List Str}{fp:List Addr}{ge:Expr}{it a:Addr}{o:Obj}{s4:Shared}{H4:Hp}{J:It}{tn:Nat->Heap->Prop}{ds:List D}{gu:Sr->Prop}{g:D->En->Sr->Res En}{mt:En->Sr->Res Bool}{me:En->Sr->Res D}
theorem qis{R:Result->Shared->Prop}(hh:X.A.handled=none)(hd:X.A.depth<recursionLimit)(hg:∀h:Heap,h.get? a=some o->h.IsGen a s4.gens.size)(tk:∀i h h',tn i h->(∀b∈fp,∀o,h.get? b=some o->h'.get? b=some o)->tn i h')(hp:s4.heap.objs.size<=p)(M:a≠p):∀(k i:Nat) (ρ:En) (l:List D) (xs:List V) (us:Array Value) (S:Sr) (ι:List Addr) (H:Hp) (s:Shared) (c:Nat) {d:D} {K:Sr},l.length<=sizeLine->ds.length<k+i->Dens ι H l xs->Vals xs us.toList ->
  Cs (genCx X sc cl C code N' fp ge it (a,o) s4 H4) J tn fp ds gu X.A.in4.in1 g mt me s4.gens.size k i ρ S ι H [(p,accL us c)] s->genLoopG gu g mt me (stepG .tuple) (finG .tuple) (ds.drop i) ρ (.tup l) S=.ok d K ->
  (∀j f H' z N n r c',d=.tup N->N.length<=sizeLine->Dens f H' N n->Vals n (Array.toList r)->Inv (genCx X sc cl C code N' fp ge it (a,o) s4 H4) [(p,accL r c')] j H' (z.setGen s4.gens.size .running)->GK s4.gens z.gens->Stp ι H f H'->Sto f H' K->R (.ok (.ret (.ref p))) z) ->
  codeAny (model X.prog X.w) X.A.in1.in1 (.builtin "list.extend.loop" ⟨[.ref p,.ref a,.ref p],[]⟩) R s:=by
 intro k;induction k with
 |zero =>
  intro i ρ l xs us S ι H s c d K _ hk _ _ O _ _;have:=O.sus.le;lia
 |succ k ih =>
  intro i ρ l xs us S ι H s c d K hl hk P Q O e hR;refine vQ F.entry_extend_loop ?_;rw[vB F.plain_extend_loop];refine wA (m:=pyNext (.ref a)) (wpAny_of_in1 (qdQ (X:=genCx X sc cl C code N' fp ge it (a,o) s4 H4) (A:=X.A.in4) hh hd wQ hg rfl rfl O (qga e) (λS2 f H' j z L Iz U q st=>?_) λi' ρ' v S2 f H' y u z L q dv ry Cz=>?_))
  .have q2:=yK e
   rw[L]at q2;cases q2;exact wC (hR j f H' z l xs us c rfl hl (Dens.mono q l P) Q Iz U q st)
  .have q2:=yK e
   have hi:=qai _ _ _ _ L;rw[L]at q2;simp only[gen1,stepG]at q2;by_cases B:l.length<sizeLine
   .rw [wN B]at q2
    have E:z.heap.get? p=some (accL us c):=by
     obtain⟨σ,I,_⟩:=Cz.sus.inv;exact(I.pin (p,accL us c) (wU _ (wV.mpr rfl))).1
    have hsz:us.size=l.length:=by rw[P.length,Q.length,vc]
    show wpAny _ _ (updateSeq p (·.push u) >>= _) _ _ _;refine wA (wpAny_updateSeq E rfl (wC ⟨vm F.plain_extend_loop _,?_⟩) (by rw[hsz];exact hl) (by show(us.push u).size<=sizeLine+1;rw[Array.size_push,hsz];lia));refine ih i' ρ' (l++[v]) (xs++[y]) (us.push u) S2 f H' _ _ (by rw[wI,wZ];lia) (by lia) ((Dens.mono q l P).snoc dv) ?_ (qdR (t:=z.toks) Cz tk hp (λq hq=>?_) (λb x hb ex=>(wW _ _ (Ne.symm hb)).trans ex) (vD _ E rfl) λv z=>by cases z) q2 λW Y H2 z2 l2 x2 u2 c2 ec el d2 v2 I2 U s2 Z=>hR W Y H2 z2 l2 x2 u2 c2 ec el d2 v2 I2 U (q.trans s2) Z
    .rw [Array.toList_push]
     exact Vals.append Q (.cons ry .nil)
    .have a0:q=(a,o):=by
      have:q∈[(a,o)]:=hq;simpa using this
     subst a0;exact M
   .rw [wT B]at q2
    cases q2
end
section
variable{X:Cx}{pos gp:Pos}
theorem qkx(hc:X.calm=true)(hd:X.A.depth<recursionLimit)(hok:X.calm=true->X.A.handled=none):GCall X .tuple (.type "tuple"):=by
 intro pins s σ H ι a ds gu g mt me ρ S Q gh h;obtain⟨sc,cl,C,code,N',fp,ge,it,o,Y,H4,J,tn,Z,cs,hf,tk,out⟩:=gh;obtain⟨d,S',e,q⟩:=qdS h;have hh:=(cs 0).sus.inv;obtain⟨i,I,_⟩:=hh;have ha:s.heap.get? a=some o:=(I.pin (a,o) (ws _ wQ)).1;have lt:Y.heap.objs.size<=s.heap.objs.size:=I.sz;have B:a≠s.heap.objs.size:=wa (wG ha);have O:∀(Q2:List Value->Shared->Prop) (E:Value->Shared->Prop),(∀i j H' z K l c N,d=.tup K->K.length<=sizeLine->Dens j H' K l->Vals l (Array.toList c)->Inv (genCx X sc cl C code N' fp ge it (a,o) Y H4) [(s.heap.objs.size,accL c N)] i H' (z.setGen Y.gens.size .running)->GK Y.gens z.gens->Stp ι H j H'->Sto j H' S'->Q2 c.toList z) ->
   wpAny (model X.prog X.w) X.A.in1.in1 (collect (.ref a)) Q2 E s:=by
  intro Q2 E hQ;unfold collect;refine wA (wpAny_runValue (vQ xR ?_));rw[vB xQ _];refine wA (m:=newList []) (w6 (wC ⟨vm uG _,vQ F.entry_list_iadd ?_⟩));rw[vB uG _];have P:(s.heap.push {cls:=.type "list",data:=.seq ([]:List Value).toArray}).get? a=some o:=wB _ ha;have U:({s with heap:=s.heap.push {cls:=.type "list",data:=.seq ([]:List Value).toArray}}:Shared).TypeIs (.ref a) "generator":=(Z _ P).typeIs;show wpAny _ X.A.in1.in1.in1 (Builtin.List.listExtendWith (.ref s.heap.objs.size) (.ref a) (.ref s.heap.objs.size)) _ _ _;unfold Builtin.List.listExtendWith;refine wA (uj U ?_);have h1:Builtin.List.listSameRef (.ref s.heap.objs.size) (.ref a)=false:=by simp[Builtin.List.listSameRef,Ne.symm B]
  have h2:(Value.type "generator" == Value.type "list")=false:=by decide
  have h3:(Value.type "generator" == Value.type "tuple")=false:=by decide
  simp only[h1,h2,h3,Bool.or_false,wi,uO];refine wA (wpAny_pyIter_gen (Z _ P) ?_);refine wA (vE ?_);unfold Builtin.List.listLengthHint;refine wA (wpAny_specialOf U F.gen_no_len ?_);show wpAny _ X.A.in1.in1.in1 (specialOf (Value.ref a) (Str.ofString "__length_hint__") >>= _) _ _ _;refine wA (wpAny_specialOf U F.gen_no_hint ?_);refine wC ?_;show wpAny _ X.A.in1.in1.in1 (rule "list.extend.makes-room" >>= λ_=>Builtin.List.listTouch (.ref s.heap.objs.size) >>= λ_ =>
   again (.builtin "list.extend.loop" ⟨[.ref s.heap.objs.size,.ref a,.ref s.heap.objs.size],[]⟩)) _ _ _
  refine wA (u4 ?_);have n:(s.heap.push {cls:=.type "list",data:=.seq ([]:List Value).toArray}).get? s.heap.objs.size=some {cls:=.type "list",data:=.seq ([]:List Value).toArray}:=wH _ rfl;refine wA ?_;show wpAny _ X.A.in1.in1.in1 (updateSeq s.heap.objs.size (·.push .none) >>= λ_=>updateSeq s.heap.objs.size (·.pop)) _ _ _;refine wA (wpAny_updateSeq n rfl ?_);have r:=vD (Obj.mapSeq (·.push Value.none)) n rfl;refine wpAny_updateSeq r rfl ?_;have L:=vD (Obj.mapSeq (·.pop)) r rfl;refine wC ⟨vm F.plain_extend_loop _,?_⟩;have C1:=qie (t:=s.toks) (cs (ds.length+1)) tk hf (u:={cls:=.type "list",data:=.seq ([]:List Value).toArray}) (wH _ rfl) λv z=>by cases z
  have C2:=qdR (t:=s.toks) C1 tk lt (λq hq=>by
   have a0:q=(a,o):=by
    have:q∈[(a,o)]:=hq;simpa using this
   subst a0;exact B) (λb x hb ex=>(wW _ _ (Ne.symm hb)).trans ((wW _ _ (Ne.symm hb)).trans ex)) L λv z=>by cases z
  refine qis (hok hc) hd Z tk (p:=s.heap.objs.size) lt B (ds.length+1) 0 ρ [] [] #[] S ι H _ _ (vN _) (by lia) rfl .nil C2 e λi j H' z K l c N ed el dd vv Iz gk s1 M=>?_
  have a1:z.heap.get? s.heap.objs.size=some (accL c N):=(Iz.pin (s.heap.objs.size,accL c N) (wU _ (wV.mpr rfl))).1;show wpAny _ _ (load s.heap.objs.size >>= _) _ _ z;exact wA (wpAny_load a1 (wC (hQ i j H' z K l c N ed el dd vv Iz gk s1 M)))
 have new:codeAny (model X.prog X.w) X.A.in1 (.call (.builtin "tuple.__new__") ⟨[.type "tuple",.ref a],[]⟩) (wants (λobj f=>f.TypeIs obj "tuple"/\EP X pins σ Q obj f) X.xe) s:=by
  refine codeAny_of_tree (?_:wpAny _ X.A.in1.in1 (do checkBuiltinCall "tuple.__new__" ⟨[.type "tuple",.ref a],[]⟩;again (.builtin "tuple.__new__" ⟨[.type "tuple",.ref a],[]⟩)) _ _ s);refine wA (wpAny_of_eq (F.newCall_tuple_1 _) (wC ⟨vm ux _,vQ F.entry_tuple_new ?_⟩));rw[vB ux];have k1:=sub_tuple_self;have k2:=init_tuple_lookup;have k3:=madeHere_tuple;have U:s.TypeIs (.ref a) "generator":=(Z _ ha).typeIs;wp_walk using uj U,O;intro i j H' z K l c N ed el dd vv Iz gk s1 M;refine wA (m:=Builtin.Tuple.tupleExact c.toList.toArray) ?_;unfold Builtin.Tuple.tupleExact;have hsz:c.size=K.length:=by rw[dd.length,vv.length,vc]
  refine w6 (wC ?_) (by
   have:c.toList.toArray.size<=sizeLine:=by rw[uc,hsz];exact el
   exact this)
  have e2:c.toList.toArray=c:=uc ..;rw[e2];subst ed;have I2:=out _ i H' z Iz gk;have W:H' z.heap.objs.size=none:=I2.hok.fresh (wJ _);refine⟨⟨_,wH _ rfl,rfl⟩,.ref _,upd H' z.heap.objs.size (.tup l),I2.laid (t':=z.toks) (λb o e=>wB _ e) (wJ _) ⟨?_,c.toList,vv,⟨_,wH _ rfl,rfl,0,by simp⟩,λo q=>by rw[wH _ rfl]at q;cases q;rfl⟩,rfl,zC M dd (λv a2 H2 s2 a3 dv=>q v a2 H2 (s1.trans s2) a3 dv) _ W⟩;rw[<-dd.length];exact el
 refine callType_codes u8 (F.typeCall_tuple_1 _) F.entry_object_init new λobj f y=>?_
 exact⟨y.1,F.args_object_init_2 obj _,object_init_meets u8.init.lookup u8.made (by decide) X.prog X.w X.A.in1 _ f ⟨y.1,rfl,y.2⟩⟩
theorem qd2{p:Pos}{tg elt iter:Expr}{ifs:List Expr}{sc:Scope}{fr:List Nat}{xs ts:List Str}{mi:En->Sr->Res (List D×(Sr->Prop))}{g:D->En->Sr->Res En}{mt:En->Sr->Res Bool}{me:En->Sr->Res D}{c T':Addr}(m:X.calm=true)(b:X.A.depth<recursionLimit)(hok:X.calm=true->X.A.handled=none)(i:Gl X "tuple")(hm:X.mg "tuple"=none)(hi:PI X tg iter (TIg mi))(n:∀x,genFold iter X.env x=pure x)(C':CSc X sc fr xs ts)(o:sc.names.lookup (".0":Str)=some NameKind.local)(j:sc.isCoroutine=false)(d:X.env.code=.ref c)(f:codeTab X.K c T'=true)(B:BlkG X sc (xs++ts) tg iter ifs elt gp g mt me):
  PE X (.Call (.Name "tuple" p) [.GeneratorExp elt [⟨tg,iter,ifs,0⟩] sc gp] [] pos) (T (mGenG .tuple fr ts.length mi g mt me)):=by
 intro pins s r H Q I u;have w:bootBuiltins "tuple"=some (.type "tuple"):=by decide +kernel
 refine Call_ (yB I i hm w ?_ (by decide) (by decide));obtain⟨ι,S,ρ,y,st,h⟩:=u;dsimp only[mGenG]at h;cases z:mi ρ S with
 |no=>rw[z]at h;exact h.elim
 |err=>rw[z]at h;exact h.elim
 |ok C S1 =>
  obtain⟨ds,gu⟩:=C;rw[z,Res.bind_ok]at h;refine va (e:=.GeneratorExp elt [⟨tg,iter,ifs,0⟩] sc gp) (rest:=[]) ?_ rfl rfl;refine vg (thn (qb8 m b hi n C' o j d f B I y st z) λv s' ⟨a,l,H',ev,q,E⟩=>?_);subst ev;exact u6 (qkx m b hok pins s' r H' l a ds gu g mt me _ S1 Q E (Pst.from h q))
theorem qky{p:Pos}{tg elt iter:Expr}{ifs:List Expr}{sc:Scope}{fr:List Nat}{xs ts:List Str}{mi:En->Sr->Res (List D)}{g:D->En->Sr->Res En}{mt:En->Sr->Res Bool}{me:En->Sr->Res D}{c T':Addr}(i:X.calm=true)(a:X.A.depth<recursionLimit)(hok:X.calm=true->X.A.handled=none)(f:Gl X "tuple")(hm:X.mg "tuple"=none)(hi:PI X tg iter (TIt mi))(j:∀x,genFold iter X.env x=pure x)(C':CSc X sc fr xs ts)(l:sc.names.lookup (".0":Str)=some NameKind.local)(h:sc.isCoroutine=false)(b:X.env.code=.ref c)(d:codeTab X.K c T'=true)(B:BlkG X sc (xs++ts) tg iter ifs elt gp g mt me):
  PE X (.Call (.Name "tuple" p) [.GeneratorExp elt [⟨tg,iter,ifs,0⟩] sc gp] [] pos) (T (mGen .tuple fr ts.length mi g mt me)):=by
 rw[<-qgb];exact qd2 i a hok f hm (pi_g hi) j C' l h b d B
end
section
variable{X:Cx}{F:Fs}{N:Nat}{pos:Pos}
theorem qco(fr:List Nat)(xs ts:List Str){k:Nat}(m:Room k X.A)(gb:Gb X.mg)(a:X.env.code=.ref c)(b:codeTab X.K c T'=true)(hi:QI X tg iter (TIt (evI F it)))(rt:∀cl C code fp it o s H,QG (genCx X sc cl C code (xs++ts) fp (.GeneratorExp elt [⟨tg,iter,ifs,0⟩] sc d) it o s H) tg (TGt (asg F t)))(ri:∀cl C code fp it o s H,QTl (genCx X sc cl C code (xs++ts) fp (.GeneratorExp elt [⟨tg,iter,ifs,0⟩] sc d) it o s H) ifs (TB (tsts F j)))(re:∀cl C code fp it o s H,QE (genCx X sc cl C code (xs++ts) fp (.GeneratorExp elt [⟨tg,iter,ifs,0⟩] sc d) it o s H) elt (T (ev F l)))(n:X.calm=true:=by rfl)(f:Gl X "tuple":=by rfl)(q:∀x,genFold iter X.env x=pure x:=by intro _;rfl)(h:cscB X.env.scope.names X.N sc fr xs ts=true:=by rfl)(r:sc.names.lookup (".0":Str)=some NameKind.local:=by rfl)(i:sc.isCoroutine=false:=by rfl):QE X (.Call (.Name "tuple" p) [.GeneratorExp elt [⟨tg,iter,ifs,0⟩] sc d] [] pos) (T (ev F (.gen .tuple fr ts.length l t it j))):=by
 delta QE;delta QI at hi;delta QG at rt;delta QTl at ri;delta QE at re;exact(qky n m.depth (λ_=>m.hd) f gb.tuple hi q (yO h) r i a b ⟨rt,ri,re⟩)
end
section
variable{X:Cx}{pos:Pos}{tg:Expr}
def mX(m:En->Sr->Res D):En->Sr->Res (List D×(Sr->Prop)):=λρ S=>(m ρ S).bind λx S1=>match refX x S1 with
 |some p=>.ok p S1
 |none=>.no
theorem i_X(h:PE X e (T m)):PI X tg e (TIg (mX m)):=PIimp (qbq h) λs H R o=>by
 obtain⟨ι,S,ρ,q,st,p⟩:=o;refine⟨ι,S,ρ,q,st,?_⟩;dsimp only[mX]at p;cases z:m ρ S with
 |no=>rw[z]at p;exact p
 |err=>rw[z]at p;exact p
 |ok d S1 =>
  rw[z,Res.bind_ok]at p;intro v c f s1 b i;cases d with
  |ref n =>
   obtain⟨a,rfl,ha⟩:=i;cases zn:S1[n]? with
   |none=>simp only[refX,zn]at p
   |some so =>
    cases so with
    |lst l =>
     simp only[refX,zn]at p;obtain⟨_,xs,r,_⟩:=b.obj n a _ ha zn;exact .inl ⟨a,rfl,⟨xs,.inl (.inl r)⟩,p c f _ s1 b (qdM ha)⟩
    |dic l=>simp only[refX,zn]at p
    |dis l=>simp only[refX,zn]at p
  |tup l =>
   obtain⟨a,xs,rfl,hn,ha,j⟩:=i;exact .inr ⟨a,rfl,⟨xs,.inl (.inl ha)⟩,p c f _ s1 b (qf0 hn ha j).g⟩
  |lst l =>
   obtain⟨a,xs,rfl,hn,ha,j⟩:=i;exact .inl ⟨a,rfl,⟨xs,.inl ha⟩,p c f _ s1 b (qfZ hn ha j).g⟩
  |_=>exact p.elim
end
section
variable{X:Cx}{F:Fs}{N:Nat}{pos:Pos}
theorem qkz(hi:QE X iter (T (ev F c)))(b:QG X tg (TGt (asg F t)))(f:QSs X body (TSm (exs F N a)))(h:PassesOwn (model X.prog X.w) X.A X.env X.xe:=by exact PassesOwn.never)(i:X.calm=true:=by rfl)(j:∀x,foldedSetIterable iter X.env x=pure x:=by intro _;rfl):QS X (.For tg iter body [] pos) (TSm (ex F N (.forX t c a))):=by
 have e:ex F N (.forX t c a)=λρ S=>(mX (ev F c) ρ S).bind λp S1=>endG p.2 (forLoop (λd ρ S=>(grd p.2 S (asg F t d ρ S)).bind λρ1 S1=>exs F N a ρ1 S1) p.1 ρ S1):=by
  funext ρ S;unfold mX;simp only[ex];cases ev F c ρ S with
  |ok d S1 =>
   cases hr:refX d S1 <;> simp only[Res.bind,hr]
  |err=>rfl
  |no=>rfl
 rw[e];delta QS;delta QE at hi;delta QG at b;delta QSs at f;exact(qf1 h i (i_X hi) b f j)
theorem qit{nt:Nat}:mGenG w fr nt (mX (ev F c)) (asg F t) (tsts F b) (ev F a)=ev F (.genX w fr nt a t c b):=by
 funext ρ S;unfold mGenG mX;simp only[ev];cases ev F c ρ S with
 |ok d S1 =>
  cases hr:refX d S1 <;> simp only[Res.bind,hr]
 |err=>rfl
 |no=>rfl
theorem qa7(fr:List Nat)(xs ts:List Str){k:Nat}(n:Room k X.A)(gb:Gb X.mg)(a:X.env.code=.ref c)(b:codeTab X.K c T'=true)(hi:QE X iter (T (ev F j)))(rt:∀cl C code fp it o s H,QG (genCx X sc cl C code (xs++ts) fp (.GeneratorExp elt [⟨tg,iter,ifs,0⟩] sc d) it o s H) tg (TGt (asg F t)))(ri:∀cl C code fp it o s H,QTl (genCx X sc cl C code (xs++ts) fp (.GeneratorExp elt [⟨tg,iter,ifs,0⟩] sc d) it o s H) ifs (TB (tsts F l)))(re:∀cl C code fp it o s H,QE (genCx X sc cl C code (xs++ts) fp (.GeneratorExp elt [⟨tg,iter,ifs,0⟩] sc d) it o s H) elt (T (ev F m)))(q:X.calm=true:=by rfl)(f:Gl X "tuple":=by rfl)(r:∀x,genFold iter X.env x=pure x:=by intro _;rfl)(h:cscB X.env.scope.names X.N sc fr xs ts=true:=by rfl)(u:sc.names.lookup (".0":Str)=some NameKind.local:=by rfl)(i:sc.isCoroutine=false:=by rfl):QE X (.Call (.Name "tuple" p) [.GeneratorExp elt [⟨tg,iter,ifs,0⟩] sc d] [] pos) (T (ev F (.genX .tuple fr ts.length m t j l))):=by
 delta QE;delta QE at hi;delta QG at rt;delta QTl at ri;delta QE at re;rw[<-qit];exact(qd2 q n.depth (λ_=>n.hd) f gb.tuple (i_X hi) r (yO h) u i a b ⟨rt,ri,re⟩)
end
structure Mk (H0:Hp) (D:Addr) (as:List Addr) (H:Hp):Prop where
 nd:as.Nodup
 nD:D∉as
 new:∀p∈as,H0 p=none/\H p=some (.lst [])
 out:H D=some (.lst (as.map .ref))
 oth:∀b,b≠D->b∉as->H b=H0 b
def Mk.start{H0:Hp}{D:Addr}:Mk H0 D [] (upd H0 D (.lst [])) :=
 ⟨.nil,by simp,by simp,qH,λb h _=>qp h⟩
def Mk.step{H0 H:Hp}{D p:Addr}{as:List Addr}(m:Mk H0 D as H)(h:H p=none):Mk H0 D (as++[p]) (upd (upd H p (.lst [])) D (.lst (as.map .ref++[.ref p]))):=by
 have c:p≠D:=λz=>by rw[z,m.out]at h;cases h
 have d:p∉as:=λz=>by rw[(m.new p z).2]at h;cases h
 refine⟨?_,?_,λq n=>?_,by rw[qH];simp,λb l f=>?_⟩
 .rw [vV]
  exact⟨m.nd,by simp,λa ha b o e=>d (by rw[wV.mp o]at e;rw[<-e];exact ha)⟩
 .simp only[wb,wV,not_or]
  exact⟨m.nD,Ne.symm c⟩
 .rcases wb.mp n with z|z
  .have i:q≠D:=λe=>m.nD (e ▸ z)
   have j:q≠p:=λe=>d (e ▸ z)
   exact⟨(m.new q z).1,by rw[qp i,qp j];exact(m.new q z).2⟩
  .obtain rfl:=wV.mp z
   exact⟨by rw[<-m.oth q c d];exact h,by rw[qp c];exact qH⟩
 .simp only[wb,wV,not_or]at f
  rw[qp l,qp f.2];exact m.oth b l f.1
def Mk.stp{ι:List Addr}{H0 H:Hp}{D:Addr}{as:List Addr}(m:Mk H0 D as H)(b:H0 D=none):Stp ι H0 (ι++as++[D]) H where
 pre:=by rw[wk];exact List.prefix_append _ _
 new:=λa h=>by
  simp only[wb,wV]at h;rcases h with (h|h)|h
  .exact .inl h
  .exact .inr (m.new a h).1
  .rw [h];exact .inr b
 keep:=λa o e _ _=>by
  rw[m.oth a (λz=>by rw[z,b]at e;cases e) (λz=>by rw[(m.new a z).1]at e;cases e)];exact e
 there:=λa h=>by
  by_cases c:a=D
  .rw [c,m.out];simp
  .by_cases d:a∈as
   .rw [(m.new a d).2];simp
   .rw [m.oth a c d];exact h
def qa8:∀(as:List Addr) (n:Nat),(∀i,i<as.length->ι[n+i]?=as[i]?)->Dens ι H ((List.range as.length).map λi=>D.ref (n+i)) (as.map .ref)
 |[],_,_=>rfl
 |a::r,n,h=>by
  have e:(List.range (a::r).length).map (λi=>D.ref (n+i))=D.ref n::(List.range r.length).map λi=>D.ref (n+1+i):=by
   rw[w4,List.range_succ_eq_map,wd,wj];congr 1;exact vO λi _=>by simp only[Function.comp_apply];congr 1;lia
  rw[e];refine⟨.ref a,r.map .ref,rfl,⟨a,rfl,by simpa using h 0 (by simp)⟩,qa8 r (n+1) λi hi=>?_⟩;have:=h (i+1) (by simpa using hi);rw[show n+1+i=n+(i+1) by lia,this];simp
def Mk.sto{ι:List Addr}{H0 H:Hp}{D:Addr}{as:List Addr}{S:Sr}(m:Mk H0 D as H)(l:H0 D=none)(st:Sto ι H0 S):
  Sto (ι++as++[D]) H (S++List.replicate as.length (.lst [])++[.lst ((List.range as.length).map λi=>.ref (S.length+i))]):=by
 have sp:=m.stp (ι:=ι) l;have f:∀a∈ι,a≠D/\a∉as:=λa ha=>⟨λz=>st.there ha (by rw[z];exact l),λz=>st.there ha (m.new a z).1⟩
 have nd:(ι++as++[D]).Nodup:=by
  rw[vV,vV];refine⟨⟨st.nd,m.nd,λa ha b j e=>(f a ha).2 (e ▸ j)⟩,by simp,λa ha b j e=>?_⟩;rw[wV.mp j]at e;subst e;rcases wb.mp ha with z|z
  .exact (f _ z).1 rfl
  .exact m.nD z
 refine⟨by simp[st.len],nd,λn a so e1 c=>?_⟩;by_cases hn:n<ι.length
 .rw [wk,wL hn]at e1
  rw[wk,wL (by rw[<-st.len];exact hn)]at c;have:=f a (w9 e1);exact(st.obj n a so e1 c).mono sp (m.oth a this.1 this.2)
 .by_cases o:n<ι.length+as.length
  .have h:=e1
   rw[wL (by simp;lia),wM (by lia)]at e1;rw[wL (by simp[<-st.len];lia),wM (by rw[<-st.len];lia),vH]at c;split at c
   .cases c
    exact⟨⟨n,h,rfl⟩,[],(m.new a (w9 e1)).2,rfl⟩
   .cases c
  .have p:=(wF.mp e1).1
   simp at p;have q:n=ι.length+as.length:=by lia
   subst q;have h:=e1;rw[wM (by simp)]at e1;rw[wM (by simp[<-st.len])]at c;simp[<-st.len]at e1 c;subst e1 c;refine⟨⟨_,h,qE λd hd=>?_⟩,_,m.out,?_⟩
   .obtain ⟨i,hi,rfl⟩:=wp.mp hd
    exact wS (by have:=vu.mp hi;lia)
   .refine qa8 as ι.length λi hi=>?_
    rw[wL (by simp;lia),wM (by lia)];congr 1;lia
section
variable{X:Cx}{pos:Pos}
theorem qgB{F J:Pos}{iter:Expr}{sc:Scope}{j:Nat}(n:X.xe=λ_ _=>False)(hc:X.calm=true)(L:X.ex=fp)(M:X.pn=[])(T':Turn X.prog X.w X.K (.Name t F) (Itt X.K a) fp it tn)(hg:PG X (.Name t F) (gName j))(N:H0 c=none)(ha:H0 a=some (.tup xs))(hl:xs.length<=sizeLine)(I:Inv X [] σ H s)(m0:Mk H0 c [] H)(h0:tn 0 s.heap)(O:∀b∈fp,H b=none)(fin:∀(q:St) (H':Hp) (as:List Addr) (s':Shared),Inv X [] q H' s'->Mk H0 c as H'->as.length=xs.length->R (.ok .next) s'):
  codeAny (model X.prog X.w) X.A (.compLoop (.ListComp (.List [] J) [⟨.Name t F,iter,[],0⟩] sc pos) 0 (.ref it) (.ref c) X.env) R s:=by
 refine codeAny_loop rfl (λk s'=>∃(q:St) (H':Hp) (as:List Addr),k=xs.length-as.length/\as.length<=xs.length/\Inv X [] q H' s'/\tn as.length s'.heap/\(∀b∈fp,H' b=none)/\Mk H0 c as H') ?_
  xs.length ⟨σ,H,[],by simp,vN _,I,h0,O,m0⟩
 rintro k s1 ⟨f,C,as,rfl,hi,I1,t1,f1,m1⟩;have d:∀{H':Hp},(∀b∈fp,H' b=none)->∀b∈fp,FpOk X [] H' b:=λhn b v=>by
  have h:b∈X.ex:=by rw[L];exact v
  exact⟨hn b v,(I.ok.exf b h).1,λz=>I.ok.exfs b h z,.inl h,(I.ok.exf b h).2,λp l=>by rw[M]at l;exact absurd l (by simp)⟩
 have P:a≠c:=λz=>by rw[z,N]at ha;cases ha
 have Q:∀{S:List Addr} {H':Hp},Mk H0 c S H'->H' a=some (.tup xs):=λm=>by
  rw[m.oth a P (λz=>by rw[(m.new a z).1]at ha;cases ha)];exact ha
 have sq:SqT X.K C a xs:=.inl (.inl (Q m1));show wpAny _ X.A ((compTurn (.ListComp (.List [] J) [⟨.Name t F,iter,[],0⟩] sc pos) 0 (.ref it) (.ref c) X.env).onRaise (λx=>do noteFrame x X.env;theTreesLotGoes x)) _ _ s1;refine wpAny_noted ?_;rw[compTurn_list];refine wA (v4 (wA ?_));by_cases E:as.length<xs.length
 .refine thnF (T'.item X rfl rfl rfl hc as.length [] s1 f C _ I1 (d f1) t1 ⟨xs,xs[as.length],sq,wD E⟩) λr s2 ⟨u,U,h2⟩=>?_
  subst U;refine wA (thnF h2 λ_ s3 ⟨x,H3,I3,r3,y3,t3,f3⟩=>?_);obtain rfl:H3=C:=y3.1;have W:=I3.pinned (d f3) (T'.obj _ _ t3);refine wA (wo (hg _ s3 f _ x u (λi B=>B=H3) W r3 rfl) (λ_ s4 ⟨i,B,I4,e4⟩=>?_) λ_ _ z=>by rw[n]at z;exact z.elim);subst e4;refine wA (wC ?_);refine wA (wA (wo (qfw (pos:=J) j7 _ s4 i _ (λy H6=>∃p,y=.ref p/\B p=none/\H6=upd B p (.lst [])) I4 ⟨vN _,λp l=>⟨p,rfl,l,rfl⟩⟩) (λy' s6 ⟨y,H6,I6,ry,p,ey,l,e6⟩=>?_) λ_ _ z=>by rw[n]at z;exact z.elim));subst ey e6;have Y:c≠p:=λz=>by rw[<-z,m1.out]at l;cases l
  have Z:upd B p (.lst []) c=some (.lst (as.map .ref)):=by rw[qp Y];exact m1.out
  refine wA (wo (jD (X:=X) _ s6 i _ (.ref c) [.ref p] (.ref c) [y'] (λ_ H7=>H7=upd (upd B p (.lst [])) c (.lst (as.map .ref++[.ref p]))) I6 rfl (.cons ry .nil) ⟨c,as.map .ref,.ref p,rfl,rfl,Z,by rw[wE];exact wX E hl,rfl⟩) (λ_ s7 ⟨_,H7,I7,_,e7⟩=>?_) λ_ _ z=>by rw[n]at z;exact z.elim);subst e7;have m7:=m1.step l;refine wC (wC ⟨rfl,xs.length-(as++[p]).length,by simp;lia,i,_,as++[p],rfl,by simp;lia,I7.unpinned,?_,λb v=>?_,m7⟩)
  .rw [wI,wZ]
   exact T'.keep _ _ _ t3 λb v o eo=>(I7.pin (b,o) (wU _ (wU _ (q9 v eo)))).1
  .obtain ⟨o,eo,_⟩:=T'.obj _ _ t3 b v
   exact(I7.pin (b,o) (wU _ (wU _ (q9 v eo)))).2.1
 .have a0:as.length=xs.length:=by lia
  refine thnF (T'.done X rfl rfl rfl hc as.length [] s1 f C _ I1 (d f1) t1 ⟨xs,sq,by lia⟩) λr s2 ⟨U,I2⟩=>?_
  subst U;exact wC (fin f C as s2 I2 m1 a0)
end
def mLls(m:En->Sr->Res D):En->Sr->Res D:=λρ S=>(m ρ S).bind λx S1=>match x with
 | .tup l=>newLls l.length S1
 |_=>.no
section
variable{X:Cx}{pos:Pos}
theorem qgC{E lp:Pos}(hc:X.calm=true)(hi:PE X iter (T m))(hs:∀x,foldedSetIterable iter X.env x=pure x)(C':CSc X sc [] [] [t])(hg:∀cl C fp s H,PG (compCx X sc cl C ([]++[t]) fp s H) (.Name t E) (gName 0))(I:Inv X pins F H s)(hw:T (mLls m) F H Q)(fin:∀(D C:Addr) (H':Hp) (s':Shared) (m:Str->Option Value),s'.heap.Ns C m->C≠X.env.locals->(∀x c,X.env.cells.lookup x=some c->c≠C)->(H' C=none/\X.s₀.heap.objs.size<=C/\∀p∈X.pn++pins,p.1≠C)->(∀h',Heap.SameBut C s'.heap h'->Inv X pins F H' {s' with heap:=h' })->Q (.ref D) H'->compPost (model X.prog X.w) X.A X.xe use Q' (.ref D) C (.ok .next) s'):
  wpAny (model X.prog X.w) X.A (comprehension (.ListComp (.List [] lp) [⟨.Name t E,iter,[],0⟩] sc pos) sc X.env (firstIterPos [⟨.Name t E,iter,[],0⟩] pos) (newList []) false (eval iter X.env) use) Q' X.xe s:=by
 obtain⟨ι,S,ρ,er,st,p⟩:=hw;dsimp only[mLls]at p;cases z:m ρ S with
 |no=>rw[z]at p;exact p.elim
 |err=>rw[z]at p;exact p.elim
 |ok dx S1 =>
 rw[z,Res.bind_ok]at p;obtain⟨l,rfl⟩:∃l,dx=.tup l:=by
  cases dx with
  |tup l=>exact⟨l,rfl⟩
  |_=>exact p.elim
 dsimp only[newLls]at p;by_cases j:l.length<=sizeLine
 rotate_left
 .rw [wT j]at p;exact p.elim
 rw[wN j]at p;obtain⟨cl,CL⟩:=j0 (X:=X) (sc:=sc) λx hx hf=>I.ok.has x.1 (C'.frees x hx hf)
 refine wpAny_comprehension_free rfl hs CL.eq C'.kind C'.names ?_;refine thn (qbq (tg:=.Name t E) hi pins s F H (λJ H2=>∃n a ys,Stp ι H n H2/\Sto n H2 S1/\J=Itt X.K a/\H2 a=some (.tup ys)/\ys.length=l.length) I ⟨ι,S,ρ,er,st,?_⟩) λxv s1 h1=>thn h1 λa5 s2 h2=>?_
 .rw [z]
  intro v U H' q W hv;obtain⟨a,ys,rfl,hn,ha,dl⟩:=hv;exact .inr ⟨a,rfl,⟨ys,.inl (.inl ha)⟩,U,a,ys,q,W,rfl,ha,dl.length.symm⟩
 obtain⟨it,fp,tn,J,H2,e,I2,T',t2,f2,n,a,ys,q2,r,eJ,Y,L⟩:=h2;subst eJ;subst e;refine w6 ?_;have u:H2 s2.heap.objs.size=none:=I2.hok.fresh (wJ _);have M:∀b∈fp,b<s2.heap.objs.size:=λb d=>by
  obtain⟨o,f,_⟩:=T'.obj _ _ t2 b d;exact wG f
 have B:Inv X pins F (upd H2 s2.heap.objs.size (.lst [])) {s2 with heap:=s2.heap.push {cls:=.type "list",dict:=none,data:=.seq ([]:List Value).toArray}} :=
  I2.laid (t':=s2.toks) (λb o e=>wB _ e) (wJ _) ⟨vN _,[],0,.nil,wH _ rfl⟩
 have Z:∀b∈fp,FpOk X pins (upd H2 s2.heap.objs.size (.lst [])) b:=λb d=>⟨by rw[qp (wa (M b d))];exact(f2 b d).1,(f2 b d).2⟩
 generalize N:({s2 with heap:=s2.heap.push {cls:=.type "list",dict:=none,data:=.seq ([]:List Value).toArray}}:Shared)=s3 at B ⊢;have O:∀b∈fp,b<s3.heap.objs.size:=λb d=>by
  rw[<-N];show b<(s2.heap.push _).objs.size;rw[vW];exact uF (M b d)
 have t3:tn 0 s3.heap:=T'.keep _ _ _ t2 λb d o f=>by rw[<-N];exact wB _ f
 refine wpAny_newFunctionEnv C'.nocell (by intro y hy;simp at hy) (λh4 a0 a1=>?_) C'.kind;have h:∀b o,s3.heap.get? b=some o->h4.get? b=some o:=λb o f=>a1.extBut b o (wa (wG f)) (wB _ f)
 have I4:=qag (tk:=s3.toks+([]:List (Str×Value)).length) B C'.kind C'.nocell CL Z O C'.frs a0 h;have t4:tn 0 h4:=T'.keep _ _ _ t3 λb d o f=>h b o f
 have i:codeAny (model X.prog X.w) X.A (.compLoop (.ListComp (.List [] lp) [⟨.Name t E,iter,[],0⟩] sc pos) 0 (.ref it) (.ref s2.heap.objs.size) (compEnvC sc cl s3.heap.objs.size X.env)) (compPost (model X.prog X.w) X.A X.xe use Q' (.ref s2.heap.objs.size) s3.heap.objs.size) {s3 with heap:=h4,toks:=s3.toks+([]:List (Str×Value)).length}:=by
  refine qgB (X:=compCx X sc cl s3.heap.objs.size ([]++[t]) fp s3 (upd H2 s2.heap.objs.size (.lst []))) (pos:=pos) rfl hc rfl rfl T' (hg _ _ _ _ _) u Y (by rw[L];exact j) I4 Mk.start t4 (λb d=>(Z b d).1) λa6 H' as s' J' mk a2=>?_
  obtain⟨m',a3,_⟩:=J'.loc;refine fin s2.heap.objs.size s3.heap.objs.size H' s' m' a3 (vR B.lt) (λx c ec ez=>?_) ⟨J'.free,B.sz,λq hq ez=>by have:=wG (B.pin q hq).1;rw[ez]at this;exact absurd this (wh _)⟩ (λh5 a4=>qah B Z J' a4) ?_
  .obtain ⟨v,o,f,_⟩:=B.cell x c ec
   rw[ez]at f;exact absurd (wG f) (wh _)
  .have el:as.length=l.length:=a2.trans L
   have P:=mk.sto u r;rw[el]at P;refine p (.ref s2.heap.objs.size) _ H' (q2.trans (mk.stp u)) P ⟨_,rfl,?_⟩;rw[wM (by simp[r.len,el])];simp[r.len,el]
 exact codeAny_compStart_list i (T'.self _ 0 _ _ _ t4 i)
theorem qgD{i:Nat}{h c:Pos}(W:X.calm=true)(hi:PE X iter (T u))(Y:∀x,foldedSetIterable iter X.env x=pure x)(C':CSc X sc [] [] [t])(Z:∀cl C fp s H,PG (compCx X sc cl C ([]++[t]) fp s H) (.Name t n) (gName 0))(hN:X.N.Nodup)(hy:X.N[i]?=some y)(P:X.env.scope.names.lookup y=some .local)(w:swapsWith (.ListComp (.List [] r) [⟨.Name t n,iter,[],0⟩] sc pos) (some (.Name y h)) c.line X.env=pure true):
  PS X (.Assign [.Name y h] (.ListComp (.List [] r) [⟨.Name t n,iter,[],0⟩] sc pos) c) (TSm λρ S=>(mLls u ρ S).bind λd S1=>.ok (.nx (ρ.set i (some d))) S1):=λpins s B H D I hw=>by
 obtain⟨ι,S,ρ,Q,st,p⟩:=hw;rw[exec_Assign_Name_used _ _ _ _ w];refine wA (v4 (wA ?_));show wpAny _ X.A (do let _ <-comprehension (.ListComp (.List [] r) [⟨.Name t n,iter,[],0⟩] sc pos) sc X.env _ (newList []) false (eval iter X.env) (some (assign (.Name y h) X.env))) _ _ s;have hT:T (mLls u) B H (λv E=>D.nx (B.set i (some v)) E):=⟨ι,S,ρ,Q,st,PsF.bind p λa S1 F E b s1 J ra p1=>p1 F E (Stp.refl _ _) J _ ((Q.mono s1).set ra)⟩;refine wA (wo (qgC (use:=some (assign (.Name y h) X.env)) (Q':=λ_ s'=>SP X pins D .next s') W hi Y C' Z I hT λU C H' s' m hn j l f hI q=>?_) (λ_ s' hq=>wC (wC hq)) λ_ _ e=>e);show wpAny _ X.A (assign (.Name y h) X.env (.ref U)) _ _ _;have I0:Inv X pins B H' s':=by
  have:=hI s'.heap (Heap.SameBut.refl ..);exact this
 refine wpAny_assign_Name (jB I0 hN hy (.inl P) (v:=.ref U) rfl (λs'' K L=>?_) (.inr P));obtain⟨a,sb,ha⟩:=L;have M:C≠a:=by
  rcases ha with z|z
  .rw [z];exact j
  .exact λq=>l y a z q.symm
 refine⟨m,hn.sameBut sb M,λh' O=>?_⟩;have I3:=K.turned (h':=h') (t':=s''.toks) (it:=C) (λb o hb e=>O.extBut b o hb e) f.1 j (.inr f.2.1) l f.2.2;exact⟨_,H',I3,q⟩
end
section
variable{X:Cx}{F:Fs}{N:Nat}{pos:Pos}
theorem qgE(i:Nat)(a:nodupB X.N=true:=by rfl)(hi:X.N[i]?=some x:=by rfl)(b:Loc X.env.scope x:=by first|exact Or.inl rfl|exact Or.inr rfl)(c:X.fn x=true\/X.env.scope.names.lookup x=some .local:=by first|exact .inl rfl|exact .inr rfl):PG X (.Name x pos) (gName i):=qdx (zg a) hi b c
theorem qcp(i:Nat){l a:Pos}(hi:QE X iter (T (ev F c)))(m:∀cl C fp s H,PG (compCx X sc cl C ([]++[t]) fp s H) (.Name t b) (gName 0))(n:X.calm=true:=by rfl)(o:∀x,foldedSetIterable iter X.env x=pure x:=by intro _;rfl)(h:cscB X.env.scope.names X.N sc [] [] [t]=true:=by rfl)(p:nodupB X.N=true:=by rfl)(q:X.N[i]?=some y:=by rfl)(r:X.env.scope.names.lookup y=some .local:=by rfl)(f:swapsWith (.ListComp (.List [] j) [⟨.Name t b,iter,[],0⟩] sc pos) (some (.Name y l)) a.line X.env=pure true:=by rfl):
  QS X (.Assign [.Name y l] (.ListComp (.List [] j) [⟨.Name t b,iter,[],0⟩] sc pos) a) (TSm (ex F N (.set (.var i) (.lls c)))):=by
 have e:ex F N (.set (.var i) (.lls c))=λρ S=>(mLls (ev F c) ρ S).bind λd S1=>.ok (.nx (ρ.set i (some d))) S1:=by
  funext ρ S;unfold mLls;simp only[ex,asg,ev]
  all_goals (cases ev F c ρ S with
   |ok d S1=>cases d <;> rfl
   |err=>rfl
   |no=>rfl)
 rw[e];delta QS;delta QE at hi;exact(qgD n hi o (yO h) m (zg p) q r f)
end
variable{X:Cx}
end R
namespace R
open PySem PySem.Spec L2
open PyProof.Rows hiding St
namespace EX
abbrev fr1(l:List Env):List Addr:=l.filterMap (·.frame)
structure Kpt (S:List Addr) (e:Addr) (T:Option Addr) (h h':Heap):Prop where
 size:h.objs.size<=h'.objs.size
 slot:∀b o,b≠e->some b≠T->h.get? b=some o->∃sl,h'.get? b=some {o with slots:=sl}
 keep:∀b o,b≠e->some b≠T->b∉S->h.get? b=some o->h'.get? b=some o
def Fl(h:Heap)(e:Addr)(c:Value)(T:Addr):Prop:=∃a vs b ts,h.get? e=some a/\a.cls=c/\a.data=.fields vs/\vs[1]?=some (.ref T)/\T≠e/\h.get? T=some b/\b.data=.fields ts/\ts[3]?=some .none
section
variable{M:Model}{A:Around}{E:Value->Shared->Prop}{s:Shared}{base:Heap}
theorem jJ{i:Value}{j:Bool}(F:A.frames=some (env::outer))(K:s.heap.FunFrames base (env::outer))(P:env.frame=some L)(N:s.heap.get? e=some B)(hd:B.data=.fields vs)(hsz:1<vs.size)(h:∀h' T,s.heap.objs.size<=T->Kpt (fr1 (env::outer)) e none s.heap h'->Fl h' e B.cls T->Q () {s with heap:=h' }):
  wpAny M A (do let a <-frameOf env;let pl <-entryPlaceOf L j;let b <-EntryCells.newEntry i a .none (rawInt L) .none pl;setField (.ref e) 1 b) (λ_ s'=>wpAny M A (setFlight (.ref e) none) Q E s') E s:=by
 have v:e∉(env::outer).filterMap (·.frame):=λhm=>by
  obtain⟨_,o,C,H⟩:=K.mem hm;rw[N]at C;injection C with C;subst C;exact H vs hd
 refine wA (wpAny_frameOf_fun F K P λc d=>?_);refine wA (wpAny_entryPlaceOf λpl w=>?_);unfold EntryCells.newEntry newFields;refine wA (w6 ?_ (w.sizeOk5 _ _ _ _ _));have l:c.get? e=some B:=(d.2.1 e v).trans N;have m:=wB (h:=c) {cls:=.type "traceback",dict:=none,data:=.fields ([i,.ref L,.none,rawInt L,.none]++(if pl.isEmpty then List.replicate 6 Value.none else pl)).toArray} l;refine vi m hd hsz ?_;have q:c.objs.size≠e:=vR (wG l);have f:=w1 hd (·.setIfInBounds 1 (Value.ref c.objs.size));have n:=vD (Obj.mapFields (·.setIfInBounds 1 (Value.ref c.objs.size))) m (uB f);have p:=(wW (c.push {cls:=.type "traceback",dict:=none,data:=.fields ([i,.ref L,.none,rawInt L,.none]++(if pl.isEmpty then List.replicate 6 Value.none else pl)).toArray})
  (Obj.mapFields (·.setIfInBounds 1 (Value.ref c.objs.size))) (Ne.symm q)).trans (wH c rfl)
 unfold setFlight;refine wA (wx n f (x:=.ref c.objs.size) (by simp[hsz]) ?_);rw[wN (show(Value.ref c.objs.size != Value.none)=true from by simp)];refine vi p rfl (by simp only[wK,wI,w4,vb] <;> omega) (h _ c.objs.size (ul d.1.symm) ⟨?_,λb o r _ I=>?_,λb o r _ J I=>?_⟩ ?_)
 .rw [v0,v0,vW,d.1];exact Nat.le_succ _
 .obtain ⟨sl,O⟩:=d.2.2 b o I
  have u:c.objs.size≠b:=vR (wG O);exact⟨sl,by rw[wW _ _ u,wW _ _ (Ne.symm r)];exact wB _ O⟩
 .have y:c.get? b=some o:=(d.2.1 b J).trans I
  have u:c.objs.size≠b:=vR (wG y);rw[wW _ _ u,wW _ _ (Ne.symm r)];exact wB _ y
 .refine ⟨_,_,_,_,?_,Obj.cls_mapFields _ _,f,by simp[hsz],q,vD _ p (uB (w1 rfl _)),w1 rfl _,by first|(simp;done)|(rcases w with rfl|⟨_,_,_,_,_,_,_,rfl⟩ <;> simp)⟩
  rw[wW _ _ q];exact n
theorem leave1(b:A.frames=some (env::outer))(i:s.heap.FunFrames base (env::outer))(c:env.frame=some L)(d:s.heap.get? e=some a)(hd:a.data=.fields vs)(f:vs[1]?=some .none)(h:∀h' T,s.heap.objs.size<=T->Kpt (fr1 (env::outer)) e none s.heap h'->Fl h' e a.cls T->Q () {s with heap:=h' }):wpAny M A (leaving env (.ref e)) Q E s:=by
 unfold leaving noteFrame;simp only[c];refine wA (wA (wx d hd f ?_));rw[wT (by decide)];exact jJ b i c d hd (vI.mp f).1 h
theorem leave2(p:A.frames=some (env::outer))(F:s.heap.FunFrames base (env::outer))(w:env.frame=some L)(H:Fl s.heap e c m)(h:∀h' T,s.heap.objs.size<=T->Kpt (fr1 (env::outer)) e (some m) s.heap h'->Fl h' e c T->Q () {s with heap:=h' }):wpAny M A (leaving env (.ref e)) Q E s:=by
 obtain⟨I,vs,J,ts,x,n,hd,y,r,u,i,B⟩:=H;subst n;unfold leaving noteFrame;simp only[w];refine wA (wA (wx x hd y ?_));rw[wN (show(Value.ref m != Value.none)=true from by simp)];refine wA (wx u i B ?_);rw[wT (show ¬((Value.none == rawInt L)=true)from by simp[rawInt])];refine wA (vi u i (vI.mp B).1 ?_);have other:∀b,b≠m->(s.heap.update m (Obj.mapFields (·.setIfInBounds 3 Value.none))).get? b=s.heap.get? b:=λb a=>wW _ _ (Ne.symm a)
 have d:∀b o,s.heap.get? b=some o->(∀vs,o.data≠.fields vs)->b≠m:=λb o a j q=>by
  rw[q,u]at a;injection a with a;subst a;exact j ts i
 refine jJ p (F.of_keeps λb o a j=>⟨o,(other b (d b o a j)).trans a,rfl⟩) w ((other e (Ne.symm r)).trans x) hd (vI.mp y).1 λh' T C k f=>h h' T ?_ ⟨?_,λb o a l e=>?_,λb o a l v e=>?_⟩ f
 .rw [v0]at C;exact C
 .have:=k.size;rw[v0]at this;exact this
 .exact k.slot b o a (by simp) ((other b λz=>l (by rw[z])).trans e)
 .exact k.keep b o a (by simp) v ((other b λz=>l (by rw[z])).trans e)
end
end EX
namespace EX
def qgF{h h':Heap}(x:HOk P w H h)(k:∀b o,H b≠none->h.get? b=some o->h'.get? b=some o):HOk P w H h':=λa o e =>
 (x a o e).stay (λb u q z=>k b u (by rcases q with rfl|q <;> simp[*]) z) (λ_ q=>q) λ_ _ q=>q
def there(x:ObjOk P w H h a o):∃u,h.get? a=some u:=by
 cases o with
 |lst xs=>obtain⟨_,_,_,_,e⟩:=x;exact⟨_,e⟩
 |tup xs=>obtain⟨_,_,_,p,_⟩:=x;obtain⟨_,e,_⟩:=p;exact⟨_,e⟩
 |dK kvs=>obtain⟨_,_,_,_,o,_,_,e,_⟩:=x;exact⟨_,e⟩
 |dT kvs=>obtain⟨_,_,_,_,o,_,_,e,_⟩:=x;exact⟨_,e⟩
 |set S n=>obtain⟨o,_,_,_,e,_⟩:=x;exact⟨_,e⟩
 |ins C dx fs=>obtain⟨_,_,_,e,_⟩:=x;exact⟨_,e⟩
 |own y=>obtain⟨_,e⟩:=x;exact⟨_,e⟩
 |xd fs=>obtain⟨_,⟨_,_,_,e,_⟩,_⟩:=x;exact⟨_,e⟩
 |rng lo hi=>obtain⟨_,_,_,e⟩:=x;exact⟨_,e⟩
 |frz ob u=>obtain⟨e,_⟩:=x;exact⟨_,e⟩
 |tbl ps=>exact⟨_,(show h.get? a=some _ from x.1)⟩
 |met f y=>exact⟨_,(show h.get? a=some _ from x)⟩
 |ext b=>obtain⟨_,⟨_,e⟩,_⟩:=x;exact⟨_,e⟩
def gone(x:HOk P w H h)(e:h.get? a=none):H a=none:=by
 cases q:H a with
 |none=>rfl
 |some o =>
  obtain⟨u,z⟩:=there (x a o q);rw[e]at z;cases z
def CXR(P:Program)(w:World):CXT:=λouter H s E e s'=>∃a C T H',e=.ref a/\s'.os=s.os/\GK s.gens s'.gens/\Un (frs outer) [] H H' s.heap s'.heap/\HOk P w H' s'.heap /\
 Fl s'.heap a (.ref C) T/\s.heap.get? a=none/\s.heap.get? T=none/\H' a=none/\H' T=none/\E (.ref a) (some C) H'
structure IsDef (X:Cx) (E:XK):Prop where
 xe:∀e s',X.xe e s'=wpAny (model X.prog X.w) X.A (leaving X.env e) (λ_ s''=>CXR X.prog X.w X.outer X.H₀ X.s₀ E e s'') (λe' s''=>CXR X.prog X.w X.outer X.H₀ X.s₀ E e' s'') s'
 stk:X.stack=X.env::X.outer
 fr:X.env.frame=some X.env.locals
 ex:X.ex=[]
def isDef{P:Program}{w:World}{K:PySem.W.Frag}{mg:Str->Option Value}{base:Heap}{N:List Str}{a:Str}{scope:Scope}{f:Addr}{b:Value}{A:Around}{outer:List Env}{s:Shared}{H:Hp}{E:XK}:
  IsDef (cxOf (CXR P w) P w K mg base N a scope f b A outer s H E) E:=⟨λ_ _=>rfl,rfl,rfl,rfl⟩
section
variable{X:Cx}{E:XK}{pins:List (Addr×Obj)}{σ:St}{H:Hp}{s:Shared}
theorem qcq(D:IsDef X E)(I:Inv X pins σ H s){a C T:Addr}{i:Option Addr}{j h':Heap}(un:∀b o,s.heap.get? b=some o->j.get? b=some o)(k:Kpt (fr1 (X.env::X.outer)) a i j h')(f:Fl h' a (.ref C) T)(m:X.s₀.heap.get? a=none)(u:∀b,i=some b->X.s₀.heap.get? b=none)(p:H a=none)(v:∀b,i=some b->H b=none)(x:j.objs.size<=T)(e:E (.ref a) (some C) H):
  CXR X.prog X.w X.outer X.H₀ X.s₀ E (.ref a) {s with heap:=h' }:=by
 have c:∀b o,X.s₀.heap.get? b=some o->b≠a/\some b≠i:=λb o q=>⟨λz=>by subst z;exact absurd (m.symm.trans q) (by simp),λz=>absurd ((u b z.symm).symm.trans q) (by simp)⟩
 have d:∀b,b∉X.ex:=λb z=>by rw[D.ex]at z;cases z
 have y:∀b o,X.s₀.heap.get? b=some o->b∉frs X.outer->b∉fr1 (X.env::X.outer):=λb o q n z=>by
  unfold fr1 at z;rw[vn,D.fr]at z;rcases wR.mp z with z|z
  .subst z;exact absurd (wG q) (Nat.not_lt.mpr I.ok.above)
  .exact n z
 have B:=I.base;have r:s.heap.get? T=none:=by
  cases q:s.heap.get? T with
  |none=>rfl
  |some o=>exact absurd (wG (un _ _ q)) (Nat.not_lt.mpr x)
 refine⟨a,C,T,H,rfl,I.os,I.bare,⟨?_,?_,?_,?_,B.tups,B.frzs,B.tbls⟩,?_,f,m,?_,p,gone I.hok r,e⟩
 .exact λb o q n nb _=>k.keep b o (c b o q).1 (c b o q).2 (y b o q nb) (un _ _ (B.keep b o q n nb (d b)))
 .intro b o q n nb _
  obtain⟨sl,z⟩:=B.slot b o q n nb (d b);obtain⟨h,l⟩:=k.slot b _ (c b o q).1 (c b o q).2 (un _ _ z);exact⟨h,l⟩
 .exact λb o q n _=>B.free b o q n (d b)
 .intro b o q _
  obtain⟨o',z⟩:=B.there b o q (d b);obtain⟨h,l⟩:=k.slot b _ (c b o q).1 (c b o q).2 (un _ _ z);exact⟨_,l⟩
 .refine qgF I.hok λb o n q=>k.keep b o (λz=>n (z ▸ p)) (λz=>n (v b z.symm)) (λz=>n (I.stkFree b (by rw[D.stk];exact z))) (un _ _ q)
 .cases q:X.s₀.heap.get? T with
  |none=>rfl
  |some o =>
   obtain⟨o',z⟩:=B.there T o q (d T);rw[r]at z;cases z
theorem qgG(D:IsDef X E)(I:Inv X pins σ H s)(hm:Heap.MadeExcOf s.heap a e (.ref C) args)(d:E (.ref e) (some C) H):
  X.xe (.ref e) {s with heap:=a}:=by
 rw[D.xe];obtain⟨t,h,_,_⟩:=hm.there;have i:s.heap.FunFrames X.base (X.env::X.outer):=D.stk ▸ I.stack;have c:a.FunFrames X.base (X.env::X.outer):=i.of_keeps λb o j _=>⟨o,hm.keeps b o j,rfl⟩
 have l:X.s₀.heap.get? e=none:=by
  cases q:X.s₀.heap.get? e with
  |none=>rfl
  |some o =>
   obtain⟨o',z⟩:=I.base.there e o q (by rw[D.ex];simp);rw[hm.new]at z;cases z
 have m:H e=none:=gone I.hok hm.new;exact leave1 (s:={s with heap:=a}) (by rw[I.ok.frames,D.stk]) c D.fr h rfl (by simp) λh' T n k f =>
  qcq D I hm.keeps k f l (λ_ z=>by cases z) m (λ_ z=>by cases z) n d
theorem passR(D:IsDef X E)(j:∀a C H',h a C H'->E a C H'):Passes (CXR X.prog X.w) X h:=by
 intro pins σ H s e s' I l;obtain⟨a,C,A,H',rfl,os,m,un,hok,p,r,u,v,HT,q⟩:=l;obtain⟨x,g,d,t,c⟩:=s';obtain rfl:c=s.os:=os;have i:=I.call (h':=x) (g':=g) (d':=d) (t':=t) (ch:=[]) un hok m (λb z=>absurd z (by simp));rw[D.xe];have up:∀b,s.heap.get? b=none->X.s₀.heap.get? b=none:=λb n=>by
  cases q:X.s₀.heap.get? b with
  |none=>rfl
  |some o =>
   obtain⟨o',z⟩:=I.base.there b o q (by rw[D.ex];simp);rw[n]at z;cases z
 exact leave2 (by rw[I.ok.frames,D.stk]) (D.stk ▸ i.stack) D.fr p λh' T y k f =>
  qcq D i (λ_ _ z=>z) k f (up _ r) (λb z=>by cases z;exact up _ u) v (λb z=>by cases z;exact HT) y (j _ _ _ q)
end
end EX
namespace EX
section
variable{X:Cx}{E:XK}{x:Str}{C:Addr}{e:Expr}{es:List Expr}{t:TA}{p cpos pos:Pos}{B Bn newId nid initId inN:String}{bm bmN:List Value}
def tRaise(E:XK)(C:Addr)(t:TA):TS:=λ_ c H=>t c H λvs b=>vs.length<=sizeLine/\∀a,b a=none->E (.ref a) (some C) b
theorem qgH(D:IsDef X E)(n:X.calm=true)(u:Gl X x)(O:OwnCls x C bm newId X.mg X.base)(v:ExcBaseFacts Bn newId inN bmN)(c:bm.contains (.type Bn)=true)(l:ExcBaseFacts B nid initId bm)(ha:PA X (e::es) t)(d:dB x:=by decide)(m:sE X e es:=by rfl)(f:(backTo cpos (starEach es X.env)).any (·.1)=false:=by rfl):
  PS X (.Raise (some (.Call (.Name x p) (e::es) [] cpos)) none pos) (tRaise E C t):=by
 intro pins s w H Q I h;have M:OwnCls x C bm newId X.mg s.heap:=O.keeps λb o q=>(I.bs b o q).1
 obtain⟨tl,N,nm,q,bs,hdct,sn,sub,ab,col,dd,k0,k1,k2,k3,k5,mN,A,F,i,T⟩:=O.obj;refine wpAny_Raise_call_subU (C:=C) (nm:=nm) (q:=q) (N:=N) (bs:=bs) (bm:=tl) (hdct:=hdct) (sn:=sn) (sub:=sub) (ab:=ab) (col:=col) (dd:=dd) (k0:=k0) (k1:=k1) (k2:=k2) (k3:=k3) (k5:=k5)
  v c l (mN:=mN) (T.hasType l.hasBase) (I.ok.hd n) (by rw[m];show(false || (backTo cpos (starEach es X.env)).any (·.1))=false;rw[f];rfl) i (jk I u O.bound ⟨rfl,?_⟩ d)
 have h':=ha cpos pins s w H _ I h;rw[m]at h' ⊢;refine Calls.evalArgs_plain (wo h' (λus s1 J=>?_) λ_ _ y=>y);obtain⟨vs,P,j,r,K,L⟩:=J;have kp:∀b o,X.base.get? b=some o->s1.heap.get? b=some o:=λb o q=>(j.bs b o q).1
 exact⟨rfl,by have:=r.length;simp only[<-this]at *;exact K,kp _ _ A,F.keeps kp,T.keeps kp,λS a hm=>qgG D j hm (L a (gone j.hok hm.new))⟩
end
end EX
namespace EX
section
variable{M:Model}{A:Around}{E:Value->Shared->Prop}{s:Shared}{base:Heap}
theorem note2(p:A.frames=some (env::outer))(F:s.heap.FunFrames base (env::outer))(w:env.frame=some L)(H:Fl s.heap e c m)(h:∀h' T,s.heap.objs.size<=T->Kpt (fr1 (env::outer)) e (some m) s.heap h'->Fl h' e c T->Q () {s with heap:=h' }):
  wpAny M A (noteFrame (.ref e) env) (λ_ s'=>wpAny M A (setFlight (.ref e) none) Q E s') E s:=by
 obtain⟨I,vs,J,ts,x,n,hd,y,r,u,i,B⟩:=H;subst n;unfold noteFrame;simp only[w];refine wA (wx x hd y ?_);rw[wN (show(Value.ref m != Value.none)=true from by simp)];refine wA (wx u i B ?_);rw[wT (show ¬((Value.none == rawInt L)=true)from by simp[rawInt])];refine wA (vi u i (vI.mp B).1 ?_);have other:∀b,b≠m->(s.heap.update m (Obj.mapFields (·.setIfInBounds 3 Value.none))).get? b=s.heap.get? b:=λb a=>wW _ _ (Ne.symm a)
 have d:∀b o,s.heap.get? b=some o->(∀vs,o.data≠.fields vs)->b≠m:=λb o a j q=>by
  rw[q,u]at a;injection a with a;subst a;exact j ts i
 refine jJ p (F.of_keeps λb o a j=>⟨o,(other b (d b o a j)).trans a,rfl⟩) w ((other e (Ne.symm r)).trans x) hd (vI.mp y).1 λh' T C k f=>h h' T ?_ ⟨?_,λb o a l e=>?_,λb o a l v e=>?_⟩ f
 .rw [v0]at C;exact C
 .have:=k.size;rw[v0]at this;exact this
 .exact k.slot b o a (by simp) ((other b λz=>l (by rw[z])).trans e)
 .exact k.keep b o a (by simp) v ((other b λz=>l (by rw[z])).trans e)
end
end EX
end R
namespace R
open PySem PySem.Calls PySem.Spec
open PyProof.Rows hiding St
namespace EX
section
variable{M:Model}{A:Around}{E:Value->Shared->Prop}
variable{nm q nm' q':Str}{C N C' N':Addr}{bs bm bs' bm':List Value}{hdct hdct':Bool}{sn sn':List Str}{sub sub':List Value}{ab ab':Bool}{col col':Option Bool}{dd dd':Option Addr}{k0 k1 k2 k3 k5 k0' k1' k2' k3' k5':Option Value}{newId newId':String}
theorem qcr{b:Bool}{h:Heap}{g:Array GenState}{d:Drawn}{t:Nat}{os:OsState}{e:Addr}{l:Obj}{Q:Bool->Shared->Prop}(m:h.get? C=some (excClassObj nm q C N bs bm hdct sn sub ab col dd k0 k1 k2 k3 k5 newId))(c:h.get? C'=some (excClassObj nm' q' C' N' bs' bm' hdct' sn' sub' ab' col' dd' k0' k1' k2' k3' k5' newId'))(n:h.get? e=some l)(i:l.cls=.ref C)(a:bm'.contains (.type "BaseException")=true)(o:(Value.ref C::bm).contains (.ref C')=b)(p:Q b ⟨h,g,d,t,os⟩):wpAny M A (excMatches (.ref e) (.ref C')) Q E ⟨h,g,d,t,os⟩:=by
 have j:(Value.ref C'::bm').contains (.type "BaseException")=true:=by rw[List.contains_cons,a,Bool.or_true]
 have f:=tc_notTuple;unfold excMatches;cases b <;> (repeat (first|(with_reducible refine wpAny_loadPart_at n ?_;rw[i])|with_reducible refine wpAny_loadPart_at c ?_|(with_reducible refine wpAny_isSubtype_exc c ?_;rw[j])|(with_reducible refine wpAny_isSubtype_exc m ?_;rw[o])|wp_step)) <;> exact p
end
end EX
namespace EX
def IsExc(h:Heap)(C:Addr)(bm:List Value):Prop:=bm.contains (.type "BaseException")=true /\
 ∃N nm q bs hdct sn sub ab col dd k0 k1 k2 k3 k5 a,h.get? C=some (excClassObj nm q C N bs bm hdct sn sub ab col dd k0 k1 k2 k3 k5 a)
def IsExc.keeps{h h':Heap}(x:IsExc h C bm)(k:∀b o,h.get? b=some o->h'.get? b=some o):IsExc h' C bm:=by
 obtain⟨a,N,nm,q,bs,hdct,sn,sub,ab,col,dd,k0,k1,k2,k3,k5,c,e⟩:=x;exact⟨a,N,nm,q,bs,hdct,sn,sub,ab,col,dd,k0,k1,k2,k3,k5,c,k _ _ e⟩
section
variable{prog:Program}{w:World}{A:Around}{E:Value->Shared->Prop}{s:Shared}{env:Env}
theorem qbz{e C C':Addr}{bm bm':List Value}{b:Bool}{t:Expr}{n:Str}{j:Stmt}{i:List Stmt}{pos:Pos}{rest:List ExceptHandler}{Q:Flow->Shared->Prop}(K:(Value.ref C::bm).contains (.ref C')=b)(h:wpAny (model prog w) (A.mark (some (.ref e))) (eval t env) (λc a=>c=.ref C'/\IsExc a.heap C bm/\IsExc a.heap C' bm'/\(∃x,a.heap.get? e=some x/\x.cls=.ref C) /\
   if b then wpAny (model prog w) (A.mark (some (.ref e))) (setFlight (.ref e) none) (λ_ m =>
     wpAny (model prog w) (A.mark (some (.ref e))) (storeName env n (.ref e)) (λ_ o =>
      wpAny (model prog w) (A.mark (some (.ref e))) (execs (j::i) env)
       (λf p=>wpAny (model prog w) A (do bindName env n .none;unbindBehindTheSuite env n pos) (λ_ r=>Q f r) E p)
       (AsSuiteRaised (model prog w) (A.mark (some (.ref e))) env n pos (notedBy (model prog w) (A.mark (some (.ref e))) env (cameBackBy (model prog w) A env E))) o) (notedBy (model prog w) (A.mark (some (.ref e))) env (cameBackBy (model prog w) A env E)) m) (notedBy (model prog w) (A.mark (some (.ref e))) env (cameBackBy (model prog w) A env E)) a
   else wpAny (model prog w) A (handleBy (.ref e) env rest) Q E a) (notedBy (model prog w) (A.mark (some (.ref e))) env (cameBackBy (model prog w) A env E)) s):
  wpAny (model prog w) A (handleBy (.ref e) env (.ExceptHandler (some t) (some n) (j::i) pos::rest)) Q E s:=by
 refine wpAny_handleBy_cons (codeAny_handlers_test (wo h (λc a u=>?_) λ_ _ y=>y)) (by intro q;cases q);obtain⟨rfl,⟨_,N,nm,q,bs,hdct,sn,sub,ab,col,dd,k0,k1,k2,k3,k5,ni,L⟩,⟨l,N',M,q',O,B,P,H,S,I,U,W,X,Y,Z,a0,a1,F⟩,⟨x,he,v⟩,J⟩:=u;obtain⟨hh,g,d,tk,os⟩:=a;refine qcr L F he v l K ?_;cases b with
 |true=>exact codeAny_handlers_suite_as J
 |false=>exact J
end
end EX
end R
namespace R
open PySem PySem.Spec L2
open PyProof.Rows hiding St
namespace EX
section
variable{X:Cx}{pins:List (Addr×Obj)}{σ:St}{H0 H:Hp}{s0 s:Shared}
theorem qd3(P:X.stack=X.env::X.outer)(E:X.ex=[])(F:X.env.frame=some X.env.locals)(J:Inv X pins σ H0 s0)(I:Inv X pins σ H s)(Q:Fl s.heap a c d)(K:s0.heap.get? a=none)(L:s0.heap.get? d=none)(S:H a=none)(HT:H d=none)(k:Kpt (fr1 (X.env::X.outer)) a (some d) s.heap h'):
  Inv X pins σ H {s with heap:=h' }:=by
 obtain⟨oe,vs,oT,ts,U,_,hd,_,_,W,w,_⟩:=Q;have f:∀b o,s.heap.get? b=some o->(∀vs,o.data≠.fields vs)->∃sl,h'.get? b=some {o with slots:=sl}:=λb o q n =>
  k.slot b o (λz=>by subst z;rw[U]at q;cases q;exact n _ hd) (λz=>by cases z;rw[W]at q;cases q;exact n _ w) q
 have h:∀b v,s.heap.IsCell b v->h'.IsCell b v:=λb v ⟨o,q,e⟩=>by
  obtain⟨sl,z⟩:=f b o q (λvs z=>by rw[e]at z;cases z);exact⟨_,z,e⟩
 have up:∀b o,X.s₀.heap.get? b=some o->b≠a/\some b≠some d:=λb o q=>by
  obtain⟨o',z⟩:=J.base.there b o q (by rw[E];simp);exact⟨λy=>(by subst y;rw[K]at z;cases z),λy=>(by cases y;rw[L]at z;cases z)⟩
 have Y:∀b o,X.s₀.heap.get? b=some o->b∉frs X.outer->b∉fr1 (X.env::X.outer):=λb o q n z=>by
  unfold fr1 at z;rw[vn,F]at z;rcases wR.mp z with z|z
  .subst z;exact absurd (wG q) (Nat.not_lt.mpr I.ok.above)
  .exact n z
 have xi:∀b,b∉X.ex:=λb z=>by rw[E]at z;cases z
 have B:=I.base;refine⟨I.ok,I.os,I.bare,⟨?_,?_,?_,?_,B.tups,B.frzs,B.tbls⟩,?_,?_,I.free,I.freeC,?_,?_,I.len⟩
 .exact λb o q n nb nx=>k.keep b o (up b o q).1 (up b o q).2 (Y b o q nb) (B.keep b o q n nb nx)
 .intro b o q n nb nx
  obtain⟨sl,z⟩:=B.slot b o q n nb nx;obtain⟨j,A⟩:=k.slot b _ (up b o q).1 (up b o q).2 z;exact⟨j,A⟩
 .exact B.free
 .intro b o q nx
  obtain⟨o',z⟩:=B.there b o q nx;obtain⟨j,A⟩:=k.slot b _ (up b o q).1 (up b o q).2 z;exact⟨_,A⟩
 .obtain ⟨m,⟨o,es,Z,q,l,r1,r2⟩,lk⟩:=I.loc
  obtain⟨sl,z⟩:=f _ o q (λvs z=>by rw[l]at z;cases z);refine⟨m,⟨_,es,Z,z,l,r1,r2⟩,λi x v a1 a2 a3=>?_⟩;obtain⟨u,rv,lo⟩:=lk i x v a1 a2 a3;refine⟨u,rv,?_⟩;rcases lo with y|⟨y,C,y1,y2⟩
  .exact .inl y
  .exact .inr ⟨y,C,y1,h _ _ y2⟩
 .intro x C q
  obtain⟨v,z⟩:=I.cell x C q;exact⟨v,h _ _ z⟩
 .intro p M
  obtain⟨r,_⟩:=J.pin p M;obtain⟨q,n1,N,O,n4⟩:=I.pin p M;refine⟨k.keep _ _ (λy=>?_) (λy=>?_) (λz=>?_) q,n1,N,O,n4⟩
  .rw [y,K]at r;cases r
  .rw [Option.some.inj y,L]at r;cases r
  .unfold fr1 at z
   rw[vn,F]at z;rcases wR.mp z with z|z
   .exact N z
   .exact O z
 .exact qgF I.hok λb o n q=>k.keep b o (λz=>n (z ▸ S)) (λz=>n (by cases z;exact HT)) (λz=>n (I.stkFree b (by rw[P];exact z))) q
theorem caught(c:X.stack=X.env::X.outer)(B:X.ex=[])(l:X.env.frame=some X.env.locals){E:Value->Shared->Prop}(I:Inv X pins σ H s)(F:CXR X.prog X.w X.stack H s m e s')(h:∀a C T H' s'',e=.ref a->Inv X pins σ H' s''->Fl s''.heap a (.ref C) T->H' a=none->H' T=none->s.heap.get? a=none->s.heap.get? T=none->m (.ref a) (some C) H'->Q () s''):
  wpAny (model X.prog X.w) X.A (noteFrame e X.env) (λ_ s2=>wpAny (model X.prog X.w) X.A (setFlight e none) Q E s2) E s':=by
 obtain⟨a,C,N,H',rfl,os,J,un,hok,n,p,K,r,HT,q⟩:=F;obtain⟨u,g,d,t,i⟩:=s';obtain rfl:i=s.os:=os;have j:=I.call (h':=u) (g':=g) (d':=d) (t':=t) (ch:=[]) un hok J (λb z=>absurd z (by simp));refine note2 (by rw[I.ok.frames,c]) (c ▸ j.stack) l n λh' T L k f=>?_
 have M:=qd3 c B l I j n p K r HT k;have v:∀x:Heap,(∀b o,x.get? b=some o->∃o',u.get? b=some o')->x.get? T=none:=λx up=>by
  cases y:x.get? T with
  |none=>rfl
  |some o =>
   obtain⟨o',z⟩:=up _ _ y;exact absurd (wG z) (Nat.not_lt.mpr L)
 exact h a C T H' _ rfl M f r (gone j.hok (v _ λb o y=>⟨o,y⟩)) p (v _ λb o y=>un.there b o y (by simp)) q
end
end EX
namespace EX
section
variable{X:Cx}{pins:List (Addr×Obj)}{σ:St}{H:Hp}{s:Shared}
theorem goes{i:Nat}(I:Inv X pins σ H s)(S:X.N.Nodup)(hi:X.N[i]?=some n)(U:X.env.kindOf n=some .local)(h:∀s',Inv X pins (σ.set i none) H s'->Heap.SameBut X.env.locals s.heap s'.heap->Q () s'):wpAny M A (do bindName X.env n .none;unbindBehindTheSuite X.env n pos) Q E s:=by
 obtain⟨m,hn,W⟩:=id I.loc;have u:(X.env.scope.kind == .class || (X.env.scope.kind == .module&&X.env.locals != X.env.globals))=false:=by rw[I.ok.kind];rfl
 have x:i<σ.length:=by rw[I.len];exact(wF.mp hi).1
 have cne:=I.cne;have f:∀{a:Addr} {h':Heap},(∃o,s.heap.get? a=some o/\H a=none)->Heap.SameBut a s.heap h'->HOk X.prog X.w H h':=λ{a h'} ha r b ob e=>by
  obtain⟨_,_,l⟩:=ha;refine(I.hok b ob e).stay (λc P C q=>(r.2 c ?_).trans q) (λ_ q=>q) λ_ _ q=>q
  rintro rfl;rcases C with rfl|C
  .rw [l]at e;cases e
  .rw [l]at C;cases C
 refine wpAny_nameGoes_keeps U hn u λh' v J r=>?_
 obtain⟨Y,_,_,K,_⟩:=id hn;refine h _ ⟨I.ok,I.os,I.bare,⟨λb o e n L B=>?_,λb o e n L B=>?_,I.base.free,λb o e B=>?_,I.base.tups,I.base.frzs,I.base.tbls⟩,⟨_,J,λj y Z e1 F e3=>?_⟩,λy c e=>?_,I.free,I.freeC,λp hp=>?_,f ⟨Y,K,I.free⟩ r,by simpa using I.len⟩ r
 .exact (r.2 b (wa (wX (wG e) I.ok.above))).trans (I.base.keep b o e n L B)
 .obtain ⟨sl,e1⟩:=I.base.slot b o e n L B
  exact⟨sl,(r.2 b (wa (wX (wG e) I.ok.above))).trans e1⟩
 .obtain ⟨o',e1⟩:=I.base.there b o e B
  exact⟨o',(r.2 b (wa (wX (wG e) I.ok.above))).trans e1⟩
 .by_cases O:j=i
  .subst O
   rw[vS x]at F;cases F
  .rw [vj (Ne.symm O)]at F
   obtain⟨u',r',q⟩:=W j y Z e1 F e3;refine⟨u',r',?_⟩;rcases q with ⟨k,e⟩|⟨k,c,e,z⟩
   .refine .inl ⟨k,?_⟩
    have:y≠n:=λe=>O (j5 S e1 (e ▸ hi))
    simp[this,e]
   .exact .inr ⟨k,c,e,z.sameBut r (cne y c e)⟩
 .obtain ⟨P,z⟩:=I.cell y c e
  exact⟨P,z.sameBut r (cne y c e)⟩
 .obtain ⟨e,n,ne,nf,d⟩:=I.pin p hp
  exact⟨(r.2 p.1 ne).trans e,n,ne,nf,d⟩
end
end EX
namespace EX
def XP(X:Cx)(pins:List (Addr×Obj))(E:St->XK)(e:Value)(s':Shared):Prop:=∃a H s,Inv X pins a H s/\CXR X.prog X.w X.stack H s (E a) e s'
abbrev TX:=Ends->(St->XK)->St->Hp->Prop
def PX(X:Cx)(st:Stmt)(t:TX):Prop :=
 ∀(pins:List (Addr×Obj)) (s:Shared) (a:St) (H:Hp) (D:Ends) (E:St->XK),Inv X pins a H s->t D E a H->wpAny (model X.prog X.w) X.A (exec st X.env) (SP X pins D) (XP X pins E) s
def PXs(X:Cx)(st:List Stmt)(t:TX):Prop :=
 ∀(pins:List (Addr×Obj)) (s:Shared) (a:St) (H:Hp) (D:Ends) (E:St->XK),Inv X pins a H s->t D E a H->wpAny (model X.prog X.w) X.A (execs st X.env) (SP X pins D) (XP X pins E) s
section
variable{X:Cx}{k:Nat}{f:Addr}{fd:FuncData}{ps:List Str}{sp:Sp}{dvs:List V}{ds:List Value}{x:Str}{p pos pos':Pos}{e:Expr}{es:List Expr}{t:TA}
theorem qmd(F:FnOk X.prog X.w X.K X.mg X.base (CXR X.prog X.w) k f fd ps sp)(d:Room k X.A)(i:Binds X.K fd ps ds)(hd:Vals dvs ds)(I:Inv X pins b H s)(r:Vals vs us)(h:sp (vs++dvs) H Q E):wpAny (model X.prog X.w) X.A (call (.ref f) us) (EP X pins b Q) (λe s'=>CXR X.prog X.w X.stack H s E e s') s:=by
 have c:Vals (vs++dvs) (us++ds):=r.append hd;have j:(us++ds).length=ps.length:=by rw[<-c.length];exact F.len _ _ _ _ h
 refine wpAny_call (codeAny_mono (F.run X.A X.stack s H ⟨us,[]⟩ (us++ds) (vs++dvs) Q E d I.env0 (i s us I.kIn j) c h) λr s' a=>?_);cases r with
 |error e=>exact a
 |ok l =>
  cases l with
  |ret u=>exact I.after a
  |next=>exact False.elim a
  |brk=>exact False.elim a
  |cont=>exact False.elim a
def tCallX(sp:Sp)(dvs:List V)(t:TA):TX:=λD E a H=>t a H λvs b=>sp (vs++dvs) b (λ_ H2=>D.nx a H2) (E a)
theorem qiu(F:FnOk X.prog X.w X.K X.mg X.base (CXR X.prog X.w) k f fd ps sp)(j:Room k X.A)(l:Gl X x)(hm:X.mg x=some (.ref f))(m:PySem.W.keepIn X.K (.ref f)=true)(n:Binds X.K fd ps ds)(hd:Vals dvs ds)(ha:PA X.nox (e::es) t)(c:dB x:=by decide)(o:sE X e es:=by rfl)(d:bT X es pos:=by rfl)(u:swapsWith (.Call (.Name x p) (e::es) [] pos) none pos'.line X.env=pure false:=by rfl):
  PX X (.Expr (.Call (.Name x p) (e::es) [] pos) pos') (tCallX sp dvs t):=by
 intro pins s a H D E I h;refine wpAny_Expr_any (Q:=SP X pins D) ?_ I.quiet u;refine wo (Q:=EP X pins a (λ_ H2=>D.nx a H2)) ?_ (λv s1 ⟨x,i,b,y,q1⟩=>⟨a,i,b,q1⟩) (λ_ _ z=>z);refine uT (jk I l hm ?_ c);refine PySem.W.callWith_K (h₀:=X.base) I.ok.mod.kin m (wo (ha pos pins s a H _ (I.wish _) h) (λus s1 ⟨vs,i,b,r,q⟩=>⟨b.unwish.kIn,?_⟩) λ_ _ z=>False.elim z) o d;exact wo (qmd F j n hd b.unwish r q) (λ_ _ z=>z) λe s' z=>⟨a,i,s1,b.unwish,z⟩
theorem qiv{st:Stmt}{t:TX}(h:PX X st t):PXs X [st] t:=by
 intro pins s a H D E I b;refine wpAny_execs_cons (wo (h pins s a H D E I b) (λf s' q=>?_) λ_ _ z=>z);cases f with
 |next=>exact ue q
 |brk=>exact q
 |cont=>exact q
 |ret u=>exact q
end
end EX
namespace EX
section
variable{X:Cx}{pins:List (Addr×Obj)}{σ:St}{H H0:Hp}{s s0:Shared}
theorem track(i:Inv X pins σ H0 s0)(F:X.ex=[])(I:Inv X pins σ H s){a C T:Addr}(J:Fl s.heap a (.ref C) T)(j:s0.heap.get? a=none)(K:H a=none):Inv X pins σ (upd H a (.ext (Errs a C))) s:=by
 obtain⟨l,vs,Q,ts,f,d,hd,_⟩:=J;have nd:∀b o,s.heap.get? b=some o->(∀vs,o.data≠.fields vs)->b≠a:=λb o q n z=>by subst z;rw[f]at q;cases q;exact n _ hd
 have up:∀b,b≠a->upd H a (.ext (Errs a C)) b=H b:=λb n=>by simp[upd,n]
 have L:∀b o,X.s₀.heap.get? b=some o->b≠a:=λb o q z=>by
  subst z;obtain⟨o',y⟩:=i.base.there b o q (by rw[F];simp);rw[j]at y;cases y
 have B:=I.base;have old:∀b o,H b=some o->upd H a (.ext (Errs a C)) b=some o:=λb o q=>by rw[up b λz=>by subst z;rw[K]at q;cases q];exact q
 refine⟨I.ok,I.os,I.bare,⟨B.keep,B.slot,?_,B.there,?_,?_,?_⟩,I.loc,I.cell,?_,?_,?_,?_,I.len⟩
 .exact λb o q n nx=>by rw[up b (L b o q)];exact B.free b o q n nx
 .exact λb xs q=>old _ _ (B.tups b xs q)
 .exact λb o u q=>old _ _ (B.frzs b o u q)
 .exact λb ps q=>let ⟨m,z⟩:=B.tbls b ps q;⟨m,old _ _ z⟩
 .obtain ⟨m,⟨o,es,S,q,h,_⟩,_⟩:=I.loc
  rw[up _ (nd _ o q λvs z=>by rw[h]at z;cases z)];exact I.free
 .intro x c q
  obtain⟨v,o,z,e⟩:=I.cell x c q;rw[up _ (nd _ o z λvs y=>by rw[e]at y;cases y)];exact I.freeC x c q
 .intro p w
  obtain⟨A,_⟩:=i.pin p w;obtain⟨q,M,N,O,P⟩:=I.pin p w;exact⟨q,by rw[up _ λz=>by rw[z,j]at A;cases A];exact M,N,O,P⟩
 .intro b o q
  by_cases E:b=a
  .subst E
   have:o=.ext (Errs b C):=by simp[upd]at q;exact q.symm
   subst this;exact⟨⟨l,vs,f,d,hd⟩,⟨l,f⟩,λU W ⟨o,vs,e,r⟩ k=>⟨o,vs,k _ e,r⟩⟩
  .rw [up b E]at q
   exact(I.hok b o q).stay (λ_ _ _ z=>z) (λc z=>old _ _ z) λc xs z=>old _ _ z
theorem landed{M:Model}{A:Around}{E:Value->Shared->Prop}{Q:Unit->Shared->Prop}(u:X.stack=X.env::X.outer)(v:X.ex=[])(w:X.env.frame=some X.env.locals)(x:Inv X pins σ H0 s0)(I:Inv X pins σ H s){a C T:Addr}(m:Fl s.heap a (.ref C) T)(y:s0.heap.get? a=none)(B:s0.heap.get? T=none)(F:H a=none)(HT:H T=none)(h:∀s',Inv X pins σ H s'->Fl s'.heap a (.ref C) T->Q () s'):wpAny M A (setFlight (.ref a) none) Q E s:=by
 obtain⟨J,vs,N,ts,n,f,hd,p,i,r,c,K⟩:=id m;unfold setFlight;refine wA (wx n hd p ?_);rw[wN (show(Value.ref T != Value.none)=true from by simp)];have j:=(vI.mp K).1;refine vi r c j ?_;have other:∀b,b≠T->(s.heap.update T (Obj.mapFields (·.setIfInBounds 3 Value.none))).get? b=s.heap.get? b:=λb L=>wW _ _ (Ne.symm L)
 have l:=vD (Obj.mapFields (·.setIfInBounds 3 Value.none)) r (uB (w1 c _));refine h _ (qd3 u v w x I m y B F HT ⟨?_,λb o nb d q=>⟨o.slots,?_⟩,λb o nb d _ q=>?_⟩) ?_
 .exact ul (v0 ..).symm
 .exact (other b λz=>d (by rw[z])).trans q
 .exact (other b λz=>d (by rw[z])).trans q
 .exact ⟨J,vs,_,_,(other a (Ne.symm i)).trans n,f,hd,p,i,l,w1 c _,by simp[j]⟩
end
end EX
namespace EX
abbrev inS(X:Cx)(A':Around)(xe':Value->Shared->Prop):Cx:={X with A:=A',calm:=false,xe:=xe' }
section
variable{X:Cx}{pins:List (Addr×Obj)}{σ:St}{H:Hp}{s:Shared}{A':Around}{xe':Value->Shared->Prop}
theorem okS(ok:X.Ok)(a:A'.frames=X.A.frames):(inS X A' xe').Ok :=
 ⟨ok.mod,ok.kind,ok.glob,ok.blt,ok.above,ok.inj,ok.has,ok.cab,nofun,a.trans ok.frames,ok.stk,ok.exf,ok.bs,ok.bsz,ok.noex,ok.exfs,ok.funs,ok.frf,ok.tab⟩
theorem toS(I:Inv X pins σ H s)(a:A'.frames=X.A.frames):Inv (inS X A' xe') pins σ H s:=⟨okS I.ok a,I.os,I.bare,I.base,I.loc,I.cell,I.free,I.freeC,I.pin,I.hok,I.len⟩
theorem ofS(ok:X.Ok)(I:Inv (inS X A' xe') pins σ H s):Inv X pins σ H s:=⟨ok,I.os,I.bare,I.base,I.loc,I.cell,I.free,I.freeC,I.pin,I.hok,I.len⟩
end
section
variable{X:Cx}{C':Addr}{bm':List Value}{body suite:List Stmt}{b₀:Stmt}{n x:Str}{p hp pos:Pos}{i:Nat}{tb:TX}{ts:TS}
def tTry(base:Heap)(C':Addr)(i:Nat)(tb:TX)(ts:TS):TS:=λD f H=>tb D (λb e c H'=>∃a C bm,e=.ref a/\c=some C/\IsExc base C bm/\(Value.ref C::bm).contains (.ref C')=true /\
 ts {nx:=λd H2=>D.nx (d.set i none) H2,rt:=λ_ _=>False} (b.set i (some (.ref a))) (upd H' a (.ext (Errs a C)))) f H
theorem qkA(F:X.stack=X.env::X.outer)(d:X.ex=[])(J:X.env.frame=some X.env.locals)(hc:X.calm=true)(K:X.N.Nodup)(hi:X.N[i]?=some n)(U:X.env.kindOf n=some .local)(L:X.env.scope.names.lookup n=some .local)(W:Gl X x)(hm:X.mg x=some (.ref C'))(j:IsExc X.base C' bm')(Y:PXs X body tb)(l:∀M m,M.frames=X.A.frames->PSs (inS X M m) (b₀::suite) ts)(o:dB x:=by decide):
  PS X (.Try body [.ExceptHandler (some (.Name x p)) (some n) (b₀::suite) hp] [] [] pos) (tTry X.base C' i tb ts):=by
 intro pins s Z H D I h;refine wpAny_Try_except (wo (Y pins s Z H D _ I h) (λf s1 q=>?_) λe s' q=>?_)
 .cases f with
  |next=>exact ue q
  |brk=>exact q
  |cont=>exact q
  |ret u=>exact q
 .obtain ⟨a0,H1,s1,r,q⟩:=q
  refine caught F d J r q λa C T H2 s2 he c O P HT Q nT w=>?_
  subst he;obtain⟨a',C1,bm,e1,e2,hC,y,ht⟩:=w;cases e1;cases e2;have B:(X.A.mark (some (.ref a))).frames=X.A.frames:=rfl;refine qbz (C:=C) (C':=C') (bm:=bm) (bm':=bm') (b:=true) y ?_;refine jk (X:=inS X (X.A.mark (some (.ref a))) X.xe) (toS c B) W hm ⟨rfl,hC.keeps c.bk,j.keeps c.bk,?_,?_⟩ o
  .obtain ⟨oe,vs,oT,tz,z1,z2,_⟩:=O
   exact⟨oe,z1,z2⟩
  .rw [wN rfl]
   refine landed F d J r c O Q nT P HT λs3 I3 E=>?_
   have I4:=track r d I3 E Q P;refine yA (v:=.ref a) I4 K hi (.inl L) rfl (λs5 S=>?_) (.inr L);refine wo (l (X.A.mark (some (.ref a))) _ B pins s5 _ _ _ (toS S B) ht) (λf s6 z=>?_) λ_ _ z=>z
   cases f with
   |next =>
    obtain⟨a1,H6,I6,q6⟩:=z;exact goes (ofS S.ok I6) K hi U λs7 I7 _=>⟨_,_,I7,q6⟩
   |brk=>obtain⟨_,_,_,q⟩:=z;exact q.elim
   |cont=>obtain⟨_,_,_,q⟩:=z;exact q.elim
   |ret u=>obtain⟨_,_,_,_,_,q⟩:=z;exact q.elim
end
end EX
namespace EX
def excRow(K:PySem.W.Frag)(C:Addr):Option (List Value):=match K.lookup C with
 |some ⟨.type "type",_,.cls cd,sl⟩=>(match cd.mro,sl.toList with
  | .ref C'::bm,[_,_,_,_,some (.builtin n),_]=>if C' == C&&!cd.hasDel&&bm.contains (.type "BaseException")then some bm else none
  |_,_=>none)
 |_=>none
def qau{K:PySem.W.Frag}(X:K.In h)(q:excRow K C=some bm):IsExc h C bm:=by
 unfold excRow at q;split at q
 .rename_i dd f sl i
  split at q
  .rename_i C' bm' k0 k1 k2 k3 n k5 hm c
   split at q
   .rename_i d
    cases q;simp only[wP,v8,uH]at d;obtain⟨⟨rfl,a⟩,j⟩:=d;obtain⟨nm,bs,m,ns,p,hd,sn,sub,ab,col,o⟩:=f;dsimp only at hm a;subst hm a;have b:sl=#[k0,k1,k2,k3,some (.builtin n),k5]:=by
     obtain⟨l⟩:=sl;simp only at c;rw[c]
    subst b;exact⟨j,_,_,_,_,_,_,_,_,_,_,_,_,_,_,_,_,X _ _ i⟩
   .cases q
  .cases q
 .cases q
end EX
namespace EX
section
variable{X:Cx}{st:Stmt}{rest a b:List Stmt}{c:Expr}{tc:TT}{t u:TX}{v:TS}{pos:Pos}
def tIfX(c:TT)(t u:TX):TX:=λD E d H=>c d H λb f=>if b=true then t D E d f else u D E d f
theorem qme(l:PT X.nox c tc)(ha:PXs X a t)(m:PXs X b u):PX X (.If c a b pos) (tIfX tc t u):=by
 intro pins s f H D E I h;refine wpAny_If (wo (l pins s f H _ (I.wish _) h) (λd s1 ⟨i,j,q1⟩=>?_) λ_ _ z=>False.elim z);cases d with
 |true=>exact ha pins s1 f i D E j.unwish q1
 |false=>exact m pins s1 f i D E j.unwish q1
end
end EX
namespace EX
open PySem.W PySem.Calls PySem.Builtin PySem.Builtin.ObjectAttr PySem.Builtin.Getset_descriptor
section
variable{prog:Program}{w:World}{A:Around}{E:Value->Shared->Prop}{s:Shared}{K:Frag}{a C:Addr}
theorem yh(I:Errs a C h):Looks M h (typeOf (.ref a)) (.ref C):=by
 obtain⟨o,vs,b,c,_⟩:=I;exact c ▸ (Looks.ld b).andThen .now
theorem qgI(X:K.In s.heap)(I:Errs a C s.heap)(hm:mroIn K C (.type "object")=some true)(h:R (.ok (.ret (.ref C))) s):codeAny (model prog w) A (.call (.builtin "getset_descriptor.__get__") ⟨[.builtin "object.__class__",.ref a,b],[]⟩) R s:=by
 obtain⟨c,g,d,t,os⟩:=s;have f:=yh (M:=model prog w) I;have i:=looks_mroIn (M:=model prog w) X hm;refine codeAny_call_builtin KF.slot_gs.plain KF.entry_gs (KF.slot_gs.check _ _ _ _ _ _ _ _ KF.type_class (KF.args_gs _ _ _) ?_);unfold Builtin.«getset_descriptor.__get__» descrGet;rw[dga_obj];refine wA (wC ?_);unfold descrGetter descrCheckInstance descrNameAndClass isInstance;simp only[KF.owner_class]
 repeat lk
 refine⟨Code.quiet_builtin _ (by decide +kernel),vQ KF.entry_class ?_⟩;unfold Builtin.«object.__class__» shownTypeOf
 repeat lk
 exact h
structure ErrK (K:Frag) (C:Addr):Prop where
 ga:findIn K (.ref C) "__getattribute__"=some (some (.builtin "BaseException.__getattribute__"))
 no:findIn K (.ref C) "__getattr__"=some none
 cls:findIn K (.ref C) "__class__"=some (some (.builtin "object.__class__"))
 get:specialIn K (.builtin "object.__class__") "__get__"=some (some (.builtin "getset_descriptor.__get__"))
 tk:takesIn K (.builtin "object.__class__")=some true
 obj:mroIn K C (.type "object")=some true
 be:mroIn K C (.type "BaseException")=some true
 ic:(clsIn K C).isSome=true
theorem qe6(X:K.In h)(Z:ErrK K C):Looks M h (find (.ref a) (.ref C) "__class__") (.bind (.builtin "getset_descriptor.__get__") (.builtin "object.__class__")):=by
 refine(looks_findIn X Z.cls).andThen ((show Looks M h (getOf (some (.builtin "object.__class__"))) _ from looks_specialIn X Z.get).andThen ?_);exact(show Looks M h (dataDescriptor? (some (.builtin "object.__class__")) (some (.builtin "getset_descriptor.__get__"))) (some (.builtin "getset_descriptor.__get__",.builtin "object.__class__"))from(looks_takesIn X Z.tk).andThen .now).andThen (Looks.tag .now)
theorem qc9{tk:Tok}(X:K.In s.heap)(I:Errs a C s.heap)(Z:ErrK K C)(b:Q (.done (.ret (.ref C))) s):
  wpAny (model prog w) A (Builtin.«object.__getattribute__» ⟨[.ref a,.str "__class__" tk],[]⟩) Q E s:=by
 have c:=yh (M:=model prog w) I;have d:=qe6 (a:=a) (M:=model prog w) X Z;obtain⟨f,g,h,t,os⟩:=s;unfold Builtin.«object.__getattribute__»;refine wA (wC (wA (wC (wA (c.at (wA (d.at ?_)))))));show wpAny _ _ (holding [.builtin "object.__class__"] (call (.builtin "getset_descriptor.__get__") [.builtin "object.__class__",.ref a,.ref C]) >>= ret) _ _ _;exact wA (vE (wpAny_call (qgI X I Z.obj (wC b))))
theorem qda(X:K.In s.heap)(I:Errs a C s.heap)(Z:ErrK K C)(h:Q () s):wpAny M A (checkBuiltinCall "BaseException.__getattribute__" ⟨[.ref a,b],[]⟩) Q E s:=by
 have d:builtinKind "BaseException.__getattribute__"=some .slot:=by decide +kernel
 have c:splitId "BaseException.__getattribute__"=some ("BaseException","__getattribute__"):=by decide +kernel
 have ha:=F.args_bexc_ga (.ref a) b;have f:Looks M s.heap (isInstance (.ref a) (.type "BaseException")) true:=(yh I).andThen (looks_mroIn X Z.be);obtain⟨i,g,j,t,os⟩:=s;simp only[checkBuiltinCall,d,c];refine wA (f.at ?_)
 repeat (any_goals (first|assumption|wp_step))
theorem qe7{tk:Tok}(X:K.In s.heap)(I:Errs a C s.heap)(Z:ErrK K C)(b:R (.ok (.ret (.ref C))) s):
  codeAny (model prog w) A (.call (.builtin "BaseException.__getattribute__") ⟨[.ref a,.str "__class__" tk],[]⟩) R s :=
 codeAny_call_builtin PySem.F.attr_ValueError.ga.plain F.entry_bexc_ga (qda X I Z (qc9 X I Z b))
theorem qdb(X:K.In s.heap)(I:Errs a C s.heap)(Z:ErrK K C)(b:Q (some (.ref C)) {s with toks:=s.toks+1}):wpAny (model prog w) A (getAttr? (.ref a) "__class__") Q E s:=by
 obtain⟨c,g,d,t,os⟩:=s;have f:=yh (M:=model prog w) I;have h:=looks_findIn (M:=model prog w) X Z.ga;have i:=looks_findIn (M:=model prog w) X Z.no;have j:=PySem.F.attr_ValueError.ga.bind (.ref a);unfold getAttr? getAttrBy? getAttrBy;refine wA (wpAny_mkText (wA (uS (vE (wA (f.at (wA (h.at ?_))))))));have l:(onTheHeap (Value.ref C)&&Value.builtin "BaseException.__getattribute__" == Value.builtin "object.__getattribute__")=false:=by
  have:(Value.builtin "BaseException.__getattribute__" == Value.builtin "object.__getattribute__")=false:=by decide +kernel
  rw[this];rfl
 show wpAny _ _ (if(onTheHeap (Value.ref C)&&Value.builtin "BaseException.__getattribute__" == Value.builtin "object.__getattribute__")=true then _ else _) _ _ _;rw[l];refine wA (show wpAny _ _ (typeLookup (.ref C) "__getattr__") _ _ _ from i.at ?_);refine wA (uS (vE ?_));show wpAny _ _ (boundAndCalled _ _ _) _ _ _;unfold boundAndCalled;rw[j];refine wA (wC (wpAny_call (qe7 (s:=⟨c,g,d,t+1,os⟩) X I Z ?_)));exact handed_on rfl (wC b)
theorem qgJ(Z:ErrK K C):KitX K (.ref a) (.ref C) (λh=>Errs a C h) where
 ty:=λM h _ I=>yh I
 it:=λ_ _ X _=>by
  have b:=Z.ic;unfold clsIn at b;split at b
  .rename_i j d' c d f
   intro o Q' p s' k q;unfold isType loadHead;exact wA (wpAny_loadPart (k _ _ (X _ _ f)) (wC q))
  .cases b
 ne:=λh l dd m n sl X i=>by
  have b:=Z.ic;refine Bool.eq_false_iff.mpr λq=>?_
  have e:C=l:=Value.ref.inj (v8.mp q);subst e;unfold clsIn at b;split at b
  .rename_i j d' c d f
   have z:=(X _ _ f).symm.trans i;cases z
  .cases b
 ca:=λX I k=>qdb X I Z k
end
end EX
end R
namespace R
open PySem PySem.Spec L2 SeqAt
open PyProof.Rows hiding St
namespace EX
def PsX{f h:Type}(R:List Addr->Hp->f->h->Prop)(r:Res f)(ι:List Addr)(H:Hp)(Q:h->Hp->Prop)(E:XK):Prop:=match r with
 | .ok a d=>∀b c H',Stp ι H c H'->Sto c H' d->R c H' a b->Q b H'
 | .err (.exc C) d=>∀a c H',Stp ι H c H'->Sto c H' d->H' a=none->E (.ref a) (some C) H'
 |_=>False
def PsX.from(h:PsX R r ι H Q E)(s:Stp ι H d H'):PsX R r d H' Q E:=by
 cases r with
 |ok a S=>exact λb c H2 t st q=>h b c H2 (s.trans t) st q
 |err x S =>
  cases x with
  |exc C=>exact λa c H2 t st q=>h a c H2 (s.trans t) st q
  |_=>exact h
 |no=>exact h
def PsX.bind{d j l m:Type}{R:List Addr->Hp->d->j->Prop}{n:List Addr->Hp->l->m->Prop}{r:Res d}{f:d->Sr->Res l}{ι:List Addr}{H:Hp}{Q:m->Hp->Prop}{K:j->Hp->Prop}{E:XK}(h:PsX n (r.bind f) ι H Q E)(k:∀a o c H' b,Stp ι H c H'->Sto c H' o->R c H' a b->PsX n (f a o) c H' Q E->K b H'):PsX R r ι H K E:=by
 cases r with
 |ok a S=>exact λb i H2 t st q=>k a S i H2 b t st q (PsX.from h t)
 |err x S =>
  cases x with
  |exc C=>exact h
  |_=>exact h
 |no=>exact h
def PsFX(r:Res _root_.R.Fl)(ι:List Addr)(H:Hp)(D:Ends)(E:XK):Prop:=match r with
 | .ok f c=>PsF (.ok f c) ι H D
 | .err (.exc C) c=>∀a b H',Stp ι H b H'->Sto b H' c->H' a=none->E (.ref a) (some C) H'
 |_=>False
def PsFX.from{r:Res _root_.R.Fl}{ι b:List Addr}{H H':Hp}{D:Ends}{E:XK}(h:PsFX r ι H D E)(s:Stp ι H b H'):PsFX r b H' D E:=by
 cases r with
 |ok f S=>exact PsF.from (show PsF (.ok f S) ι H D from h) s
 |err x S =>
  cases x with
  |exc C=>exact λa c H2 t st q=>h a c H2 (s.trans t) st q
  |_=>exact h
 |no=>exact h
def PsFX.bind{d j:Type}{R:List Addr->Hp->d->j->Prop}{r:Res d}{f:d->Sr->Res _root_.R.Fl}{ι:List Addr}{H:Hp}{D:Ends}{K:j->Hp->Prop}{E:XK}(h:PsFX (r.bind f) ι H D E)(k:∀a l c H' b,Stp ι H c H'->Sto c H' l->R c H' a b->PsFX (f a l) c H' D E->K b H'):PsX R r ι H K E:=by
 cases r with
 |ok a S=>exact λb i H2 t st q=>k a S i H2 b t st q (PsFX.from h t)
 |err x S =>
  cases x with
  |exc C=>exact h
  |_=>exact h
 |no=>exact h
def PsFX.ok{r:Res _root_.R.Fl}{ι:List Addr}{H:Hp}{D:Ends}{E:XK}(h:PsFX (noE r) ι H D E):PsF r ι H D:=by
 cases r with
 |ok f S=>exact h
 |err x S=>exact h.elim
 |no=>exact h.elim
def TGX{a b:Type}(R:List Addr->Hp->a->b->Prop)(m:En->Sr->Res a)(E:XK):St->Hp->(b->Hp->Prop)->Prop:=λc H Q=>∃ι S ρ,EnR ι H ρ c/\Sto ι H S/\PsX R (m ρ S) ι H Q E
def TGX.b1{d n o q:Type}{R:List Addr->Hp->d->n->Prop}{r:List Addr->Hp->o->q->Prop}{m:En->Sr->Res d}{f:En->d->Sr->Res o}{i:St}{H:Hp}{Q:q->Hp->Prop}{K:n->Hp->Prop}{E:XK}(h:TGX r (λρ S=>(m ρ S).bind λa S1=>f ρ a S1) E i H Q)(k:∀ι S ρ a b c,EnR ι c ρ i->Sto ι c S->R ι c a b->PsX r (f ρ a S) ι c Q E->K b c):TGX R m E i H K:=by
 obtain⟨ι,S,ρ,u,st,h⟩:=h;exact⟨ι,S,ρ,u,st,PsX.bind h λa v j H' b s l w p=>k j v ρ a b H' (u.mono s) l w p⟩
def TSX(m:En->Sr->Res _root_.R.Fl)(E:XK):TS:=λD a H=>∃ι S ρ,EnR ι H ρ a/\Sto ι H S/\PsFX (m ρ S) ι H D E
def SpX(np:Nat)(g:List D->Sr->Res D):Sp:=λvs H Q E=>vs.length=np/\∃ι S ds,Sto ι H S/\Dens ι H ds vs/\PsX Den (g ds S) ι H Q E
def FnAtX(P:Program)(w:World)(K:PySem.W.Frag)(mg:Str->Option Value)(base:Heap)(k:Nat)(F:Fs)(i:Nat)(x:Str)(ps:List Str):Prop :=
 ∃f fd,mg x=some (.ref f)/\PySem.W.keepIn K (.ref f)=true/\Binds K fd ps []/\FnOk P w K mg base (CXR P w) k f fd ps (SpX ps.length (F i))
section
variable{X:Cx}{F:Fs}{N:Nat}{pos:Pos}{E:XK}
theorem PAnox(h:PA X.nox es t):PA X es t:=λpos pins s a H Q I b=>wo (h pos pins s a H Q (I.wish _) b) (λus s1 ⟨vs,c,d,r,q⟩=>⟨vs,c,d.unwish,r,q⟩) λ_ _ z=>False.elim z
theorem PSnox{st:Stmt}{t:TS}(h:PS X.nox st t):PS X st t:=λpins s a H D I b=>wo (h pins s a H D (I.wish _) b) (λ_ _ q=>q.unwish) λ_ _ z=>False.elim z
theorem zL:PSs X [] (TSX (exs F N .nil) E):=PSsimp qdv λD a H b=>by
 obtain⟨ι,S,ρ,c,st,p⟩:=b;exact p ι H (Stp.refl _ _) st a c
theorem qV{st:Stmt}{rest:List Stmt}{c:CS}{cs:CSs}(l:PS X st (TSX (ex F N c) E))(m:PSs X rest (TSX (exs F N cs) E)):PSs X (st::rest) (TSX (exs F N (.cons c cs)) E):=PSsimp (qbS l m) λD r H n=>by
 obtain⟨ι,S,ρ,o,st,p⟩:=n;refine⟨ι,S,ρ,o,st,?_⟩;unfold exs at p;cases z:ex F N c ρ S with
 |no=>rw[z]at p;exact p
 |err x S1 =>
  rw[z]at p;cases x with
  |exc C=>exact p
  |_=>exact p
 |ok f S1 =>
  rw[z]at p;intro b j s1 h;cases f with
  |nx ρ1=>exact λi a=>⟨b,S1,ρ1,a,h,PsFX.from p s1⟩
  |bk ρ1=>exact λi a=>p b j s1 h i a
  |ct ρ1=>exact λi a=>p b j s1 h i a
  |rt d=>exact λv q=>p b j s1 h v q
theorem qav{st:Stmt}{c:CS}(h:QS X.nox st (TSm (ex F N c))):PS X st (TSX (ex F N (.cal c)) E):=by
 delta QS at h;refine PSnox (PSimp h λD d H a=>?_);obtain⟨ι,S,ρ,b,st,p⟩:=a;unfold ex at p;exact⟨ι,S,ρ,b,st,PsFX.ok p⟩
theorem x_expr(i:PE X e (TGX Den (ev F c) E))(j:swapsWith e none pos.line X.env=pure false:=by rfl):PS X (.Expr e pos) (TSX (ex F N (.expr c)) E):=PSimp (qdw i j) λD l H m=>by
 obtain⟨ι,S,ρ,h,st,p⟩:=m;unfold ex at p;exact⟨ι,S,ρ,h,st,PsFX.bind p λa S1 d n b s1 f q o=>o d n (Stp.refl _ _) f l (h.mono s1)⟩
theorem x_set(i:Nat)(l:PE X e (TGX Den (ev F c) E))(m:nodupB X.N=true:=by rfl)(hi:X.N[i]?=some x:=by rfl)(n:Loc X.env.scope x:=by first|exact Or.inl rfl|exact Or.inr rfl)(o:swapsWith e (some (.Name x d)) pos.line X.env=pure false:=by rfl)(q:X.fn x=true\/X.env.scope.names.lookup x=some .local:=by first|exact .inl rfl|exact .inr rfl):
  PS X (.Assign [.Name x d] e pos) (TSX (ex F N (.set (.var i) c)) E):=PSimp (qfo (zg m) hi n l o q) λD w H r=>by
 obtain⟨ι,S,ρ,j,st,p⟩:=r;unfold ex at p;exact⟨ι,S,ρ,j,st,PsFX.bind p λa S1 f s b s1 h u v=>v f s (Stp.refl _ _) h _ ((j.mono s1).set u)⟩
theorem x_if(n:PT X c (TGX EqR (tst F i) E))(ha:PSs X a (TSX (exs F N j) E))(o:PSs X b (TSX (exs F N l) E)):PS X (.If c a b pos) (TSX (ex F N (.ifs i j l)) E):=PSimp (qi4 n ha o) λD s H q=>by
 obtain⟨ι,S,ρ,h,st,p⟩:=q;unfold ex at p;refine⟨ι,S,ρ,h,st,PsFX.bind p λa S1 d u b s1 f r m=>?_⟩;cases (show a=b from r);cases a with
 |true=>rw[wN rfl];exact⟨d,S1,ρ,h.mono s1,f,m⟩
 |false=>rw[wT (by decide)];exact⟨d,S1,ρ,h.mono s1,f,m⟩
theorem qgK(h:QT X.nox c (TB (tst F a))):PT X c (TGX EqR (tst F (.cal a)) E):=by
 delta QT at h;refine(PTimp h λi H Q b=>?_).nox;obtain⟨ι,S,ρ,d,st,p⟩:=b;unfold tst at p;refine⟨ι,S,ρ,d,st,?_⟩;cases z:tst F a ρ S with
 |ok f S1=>rw[z]at p;exact p
 |err x S1=>rw[z]at p;exact p.elim
 |no=>rw[z]at p;exact p.elim
theorem qmf(h:PE X e (TGX Den (ev F c) E))(j:∀d,isTrue e X.env d=(do let v <-d;standAt e.pos;holding [v] (truthy v)):=by intro _;rfl):PT X e (TGX EqR (tst F (.val c)) E) :=
 PTimp (qbU h j) λl H Q f=>by
  have f:TGX EqR (λρ S=>(ev F c ρ S).bind λx S1=>ofO (truD S1 x) S1) E l H Q:=by
   obtain⟨ι,S,ρ,i,st,p⟩:=f;unfold tst at p;exact⟨ι,S,ρ,i,st,p⟩
  refine TGX.b1 f λι S ρ a b m i st n p=>?_
  cases z:truD S a with
  |none=>rw[z]at p;exact p.elim
  |some k=>rw[z]at p;exact⟨k,qdH st z n,p k ι m (Stp.refl _ _) st rfl⟩
theorem qmg{e:Expr}{c:CB}(h:PT X e (TGX EqR (tst F c) E)):PT X (.UnaryOp .Not e pos) (TGX EqR (tst F (.not c)) E) :=
 PTimp (qfl h) λn H Q i=>by
  obtain⟨ι,S,ρ,j,st,p⟩:=i;unfold tst at p;refine⟨ι,S,ρ,j,st,PsX.bind p λa o d H' b s f l m=>?_⟩;cases (show a=b from l);exact m _ d H' (Stp.refl _ _) f rfl
theorem qaw(D:IsDef X E){k i:Nat}{x:Str}{ps:List Str}{e:Expr}{es:List Expr}{cs:CEs}{p:Pos}(h:FnAtX X.prog X.w X.K X.mg X.base k F i x ps)(n:Room k X.A)(ha:QA X.nox (e::es) (TL (evs F cs)))(a:∀ρ S,noE (evs F cs ρ S)=evs F cs ρ S)(o:Gl X x:=by rfl)(q:cs.len=ps.length:=by rfl)(b:dB x:=by decide)(r:sE X e es:=by rfl)(c:bT X es pos:=by rfl):PE X (.Call (.Name x p) (e::es) [] pos) (TGX Den (ev F (.call i cs)) E):=by
 delta QA at ha;obtain⟨f,fd,hm,s,u,v⟩:=h;refine PEimp (qdy v n o hm s u (dvs:=[]) .nil (passR D λ_ _ _ z=>z) (PAnox ha) b r c) λC H Q y=>?_
 obtain⟨ι,S,ρ,B,st,p⟩:=y;refine⟨ι,S,ρ,B,st,?_⟩;unfold ev at p;cases z:evs F cs ρ S with
 |no=>rw[z]at p;exact p.elim
 |err x S1=>have:=a ρ S;rw[z]at this;cases this
 |ok l S1 =>
  rw[z]at p;intro xs d I s1 j m;refine⟨?_,d,S1,l,j,by simpa using m,PsX.from p s1⟩;rw[vY,<-m.length];exact(yW z).trans q
theorem qd4(D:IsDef X E){p d:Pos}(O:OwnCls x C bm b X.mg X.base)(v:ExcBaseFacts s b h i)(j:bm.contains (.type s)=true)(w:ExcBaseFacts B f c bm)(ha:QA X.nox (e::es) (TL (evs F cs)))(m:∀ρ S,∃l,evs F cs ρ S=.ok l S)(y:cs.len<=1000)(A:X.calm=true:=by rfl)(I:Gl X x:=by rfl)(n:dB x:=by decide)(J:sE X e es:=by rfl)(o:(backTo d (starEach es X.env)).any (·.1)=false:=by rfl):
  PS X (.Raise (some (.Call (.Name x p) (e::es) [] d)) none pos) (TSX (ex F N (.raise C)) E):=by
 delta QA at ha;refine PSimp (qgH D A I O v j w (PAnox ha) n J o) λD Q H K=>?_
 obtain⟨ι,S,ρ,L,st,p⟩:=K;unfold ex at p;obtain⟨l,u⟩:=m ρ S;refine⟨ι,S,ρ,L,st,?_⟩;rw[u];intro xs q M s1 r P;refine⟨?_,λa ha=>p a q M s1 r ha⟩;rw[<-P.length,yW u,vT];lia
end
def qgL{c:CF}{ns ps:List Str}{vs:List V}(b:ps.length=c.np)(hn:ns.length=c.nn)(f:vs.length=ps.length)(a:Dens ι H ds vs):EnR ι H (ds.map some++List.replicate (c.nn-c.np) none) (start ns vs):=by
 have h:ds.length=c.np:=by rw[a.length,f,b]
 unfold L2.start;have e1:ns.length-vs.length=c.nn-c.np:=by rw[hn,f,b]
 rw[e1];refine⟨by simp[a.length],λi d e=>?_⟩;by_cases hi:i<ds.length
 .rw [wL (by simpa using hi),w8,wD hi]at e
  cases e;obtain⟨x,j,l⟩:=a.get (wD hi);refine⟨x,?_,l⟩;rw[wL (by rw[wE,<-a.length];exact hi),w8,j];rfl
 .rw [wM (by simpa using hi),vH]at e
  split at e <;> cases e
def qd5(st:Sto ι H S)(q:PsX Den (leave keeps S.length d S1) ι H Q E):∀a H',Stp ι H a H'->Sto a H' S1->∀v,Den a H' d v->Q v H':=by
 intro a H' s1 b v c;unfold leave at q;split at q
 .exact q v a H' s1 b c
 .split at q
  .exact q v a H' s1 b c
  .split at q
   .rename_i h
    have e:=s1.take_eq;have f:ι.length=S.length:=st.len;refine q v (a.take S.length) H' (by rw[<-f];exact s1.less) (b.less _) (Den.less d h c)
   .split at q
    .rename_i d' hd
     have f:ι.length=S.length:=st.len;exact q v (a.take S.length) H' (by rw[<-f];exact s1.less) (b.less _) (Den.frz b d hd c)
    .exact q.elim
def qgM{N:Nat}{c:CF}{ns ps:List Str}(l:ps.length=c.np)(hn:ns.length=c.nn)(o:c.np<=c.nn)(h:SpX ps.length (callC F N c) vs H Q E):TSX (exs F N c.body) E {nx:=λ_ H'=>Q .non H',rt:=Q} (start ns vs) H:=by
 obtain⟨m,ι,S,ds,st,n,p⟩:=h;have i:ds.length=c.np:=by rw[n.length,m,l]
 unfold callC at p;rw[wN i]at p;refine⟨ι,S,_,qgL l hn m n,st,?_⟩;cases z:exs F N c.body (ds.map some++List.replicate (c.nn-c.np) none) S with
 |ok f S1 =>
  rw[z]at p;cases f with
  |nx ρ1=>exact λa j s1 b q r=>qd5 st p a j s1 b .non rfl
  |rt d=>exact λa j s1 b v s=>qd5 st p a j s1 b v s
  |bk _=>exact p.elim
  |ct _=>exact p.elim
 |err x S1 =>
  rw[z]at p;cases x with
  |exc C=>exact p
  |_=>exact p
 |no=>rw[z]at p;exact p.elim
def jK{P:Program}{w:World}{K:PySem.W.Frag}{mg:Str->Option Value}{base:Heap}{k N i:Nat}{F G:Fs}{x:Str}{st:Stmt}{f c T':Addr}{fd:FuncData}{a:CF}{ns ps:List Str}(U:FunT K x st f fd c T')(S:FnScope ns ps (defScope st))(j:ps.length=a.np)(hn:ns.length=a.nn)(b:a.np<=a.nn)(l:G i=callC F N a)(body:∀(A:Around) (outer:List Env) (s:Shared) (H:Hp) (E:XK),Room k (A.deeper (envOfC x (defScope st) s.heap.objs.size f (.ref c)))->PSs (cxOf (CXR P w) P w K mg base ns x (defScope st) f (.ref c) A outer s H E) (defBody st) (TSX (exs F N a.body) E)):
  FnOk P w K mg base (CXR P w) (k+1) f fd ps (SpX ps.length (G i)):=by
 obtain⟨oc,od,kV,doc,pm,an,ct,osl,rfl,m,d⟩:=U.ex;refine qi5 m d S (λvs H Q E h=>h.1) λA outer s H vs Q E n h=>⟨_,body A outer s H E n,?_⟩
 rw[l]at h;exact qgM j hn b h
def jL{P:Program}{w:World}{K:PySem.W.Frag}{mg:Str->Option Value}{base:Heap}{i:Nat}{G:Fs}{f:Addr}{fd:FuncData}{ps:List Str}(a:G i=λ_ _=>.no){k:Nat}:
  FnOk P w K mg base (CXR P w) k f fd ps (SpX ps.length (G i)):=by
 refine⟨λvs H Q E h=>h.1,λA outer s H args us vs Q E _ _ _ _ h=>?_⟩;obtain⟨_,ι,S,ds,_,_,p⟩:=h;rw[a]at p;exact p.elim
def DefIn.fnX{P:Program}{w:World}{K:PySem.W.Frag}{mg:Str->Option Value}{base:Heap}{k i:Nat}{F:Fs}{x:Str}{st:Stmt}{ps:List Str}(u:DefIn K mg x st ps)(h:∀f fd c t,FunT K x st f fd c t->FnOk P w K mg base (CXR P w) k f fd ps (SpX ps.length (F i))):FnAtX P w K mg base k F i x ps:=by
 obtain⟨f,fd,c,t,hm,U,a⟩:=u;exact⟨f,fd,hm,U.kp,a,h f fd c t U⟩
end EX
namespace EX
def TXm(m:En->Sr->Res _root_.R.Fl):TX:=λD E a H=>∃ι S ρ,EnR ι H ρ a/\Sto ι H S/\PsFX (m ρ S) ι H D (E a)
def EnR.un(e:EnR ι H ρ a)(i:Nat):EnR ι H (ρ.set i none) (a.set i none):=by
 refine⟨by simp[e.len],λj x q=>?_⟩;by_cases z:i=j
 .subst z
  by_cases b:i<ρ.length
  .rw [vS b]at q;cases q
  .rw [xK (by simpa using b)]at q;cases q
 .rw [vj z]at q ⊢
  exact e.get j x q
section
variable{X:Cx}{F:Fs}{N:Nat}{pos:Pos}
theorem qbA{k i:Nat}{p c:Pos}(h:FnAtX X.prog X.w X.K X.mg X.base k F i x ps)(B:Room k X.A)(ha:QA X.nox (e::es) (TL (evs F cs)))(d:∀ρ S,noE (evs F cs ρ S)=evs F cs ρ S)(C:Gl X x:=by rfl)(J:cs.len=ps.length:=by rfl)(j:dB x:=by decide)(L:sE X e es:=by rfl)(m:bT X es pos:=by rfl)(M:swapsWith (.Call (.Name x p) (e::es) [] pos) none c.line X.env=pure false:=by rfl):
  PX X (.Expr (.Call (.Name x p) (e::es) [] pos) c) (TXm (ex F N (.expr (.call i cs)))):=by
 delta QA at ha;obtain⟨f,fd,hm,O,P,Q⟩:=h;intro pins s u H D E I U;refine qiu Q B C hm O P (dvs:=[]) .nil ha j L m M pins s u H D E I ?_;obtain⟨ι,S,ρ,v,st,p⟩:=U;refine⟨ι,S,ρ,v,st,?_⟩;unfold ex ev at p;cases z:evs F cs ρ S with
 |no=>rw[z]at p;exact p.elim
 |err x S1=>have:=d ρ S;rw[z]at this;cases this
 |ok l S1 =>
  rw[z]at p;intro xs n Y s1 o y;refine⟨?_,n,S1,l,o,by simpa using y,?_⟩
  .rw [vY,<-y.length]
   exact(yW z).trans J
  .exact PsFX.bind (PsFX.from p s1) λa S2 q H2 b s2 r Z W=>W q H2 (Stp.refl _ _) r u (v.mono (s1.trans s2))
theorem qax{st:Stmt}{c:CS}(h:PX X st (TXm (ex F N c))):PXs X [st] (TXm (exs F N (.cons c .nil))):=λpins s a H D E I b=>qiv h pins s a H D E I (by
 obtain⟨ι,S,ρ,d,st,p⟩:=b;refine⟨ι,S,ρ,d,st,?_⟩;unfold exs at p;cases z:ex F N c ρ S with
 |no=>rw[z]at p;exact p
 |err x S1=>rw[z]at p;cases x <;> exact p
 |ok f S1=>rw[z]at p;cases f <;> exact p)
theorem y_if(n:QT X.nox c (TB (tst F i)))(ha:PXs X a (TXm (exs F N l)))(o:PXs X b (TXm (exs F N m))):PX X (.If c a b pos) (TXm (ex F N (.ifs (.cal i) l m))):=by
 delta QT at n;refine λpins s q H D E I r=>qme n ha o pins s q H D E I ?_
 obtain⟨ι,S,ρ,j,st,p⟩:=r;refine⟨ι,S,ρ,j,st,?_⟩;unfold ex tst at p;cases z:tst F i ρ S with
 |no=>rw[z]at p;exact p.elim
 |err x S1=>rw[z]at p;exact p.elim
 |ok f S1 =>
  rw[z]at p;intro b d u s1 h e;cases (show f=b from e);cases f with
  |true=>rw[wN rfl];exact⟨d,S1,ρ,j.mono s1,h,PsFX.from p s1⟩
  |false=>rw[wT (by decide)];exact⟨d,S1,ρ,j.mono s1,h,PsFX.from p s1⟩
theorem qmh{p M:Pos}(i:Nat)(hm:X.mg x=some (.ref C'))(u:IsExc X.base C' bm')(O:∀C,lookA C t=some true->∃bm,IsExc X.base C bm/\(Value.ref C::bm).contains (.ref C')=true)(P:PXs X body (TXm (exs F N s)))(v:∀r l,r.frames=X.A.frames->QSs (inS X r l) (j::c) (TSm (exs F N cs)))(Q:X.stack=X.env::X.outer:=by rfl)(U:X.ex=[]:=by rfl)(W:X.env.frame=some X.env.locals:=by rfl)(Y:X.calm=true:=by rfl)(Z:nodupB X.N=true:=by rfl)(hi:X.N[i]?=some n:=by rfl)(hk:X.env.kindOf n=some .local:=by rfl)(hl:X.env.scope.names.lookup n=some .local:=by rfl)(hg:Gl X x:=by rfl)(w:dB x:=by decide):
  QS X (.Try body [.ExceptHandler (some (.Name x p)) (some n) (j::c) M] [] [] pos) (TSm (ex F N (.tryX t i s cs))):=by
 delta QS;refine PSimp (qkA Q U W Y (zg Z) hi hk hl hg hm u P (ts:=TSm (exs F N cs)) (λr l h=>(v r l h).un) w) λD σ H hw=>?_
 obtain⟨ι,S,ρ,L,st,p⟩:=hw;refine⟨ι,S,ρ,L,st,?_⟩;unfold ex at p;cases z:exs F N s ρ S with
 |no=>rw[z]at p;exact p.elim
 |ok f S1=>rw[z]at p;exact p
 |err y S1 =>
  rw[z]at p;cases y with
  |exc C =>
   dsimp only at p;cases q:lookA C t with
   |none=>rw[q]at p;exact p.elim
   |some b =>
    rw[q]at p;cases b with
    |false=>exact p.elim
    |true =>
     dsimp only at p;intro a d B s1 o ha;obtain⟨bm,h1,h2⟩:=O C q;refine⟨a,C,bm,rfl,rfl,h1,h2,?_⟩;have na:a∉d:=o.fresh ha;have s2:Stp d B d (upd B a (.ext (Errs a C))):=Stp.laid ha _;have E:Sto d (upd B a (.ext (Errs a C))) S1:=o.laid ha _;refine⟨d,S1,ρ.set i (some (.exc C)),((L.mono s1).mono s2).set ⟨a,rfl,na,by simp[upd]⟩,E,?_⟩;have m:=PsF.from p (s1.trans s2);cases z2:exs F N cs (ρ.set i (some (.exc C))) S1 with
     |no=>rw[z2]at m;exact m.elim
     |err=>rw[z2]at m;exact m.elim
     |ok f S2 =>
      rw[z2]at m;cases f with
      |nx ρ1=>exact λI H3 s3 J a0 K=>m I H3 s3 J _ (EnR.un K i)
      |_=>exact m.elim
  |_=>exact p.elim
end
end EX
namespace EX
section
variable{X:Cx}{F:Fs}{N:Nat}{pos:Pos}
theorem qgN(d:∀u,RelV y u->u=c):CallR X (.builtin "isinstance") (λxs H Q=>∃a C b,xs=[.ref a,y]/\H a=some (.ext (Errs a C))/\ErrK X.K C/\PySem.W.kitOne X.K (.ref C) c=some b/\Q (.bl b) H):=by
 intro pins s o H xs us Q I r h;obtain⟨a,C,b,rfl,f,i,j,q⟩:=h;obtain⟨u,p,rfl,l,m⟩:=vals2 r;cases l;cases d _ m;obtain⟨n,_⟩:=(show ObjOk X.prog X.w H s.heap a (.ext (Errs a C))from I.hok a _ f);exact vL (qgJ i) I.kIn n j (λz=>nomatch z) λtk=>⟨.bl b,H,I.tok _,rfl,q⟩
theorem qjh{p f:Pos}(s:Gl X "isinstance")(hm:X.mg "isinstance"=none)(hn:PE X (.Name nm f) (λ_ H Q=>Q y H))(v:∀u,RelV y u->u=m)(w:∀C b,lookA C t=some b->ErrK X.K C/\PySem.W.kitOne X.K (.ref C) m=some b)(ha:PE X a (T (ev F c)))(n:starEach [a,.Name nm f] X.env=(false,eval a X.env)::starEach [.Name nm f] X.env)(h:starEach [.Name nm f] X.env=(false,eval (.Name nm f) X.env)::starEach [] X.env)(i:(backTo pos (starEach [.Name nm f] X.env)).any (·.1)=false):
  PE X (.Call (.Name "isinstance" p) [a,.Name nm f] [] pos) (T (ev F (.isx t c))):=by
 refine PEimp (j8 (qgN v) s hm qb4 (yT ha (yT hn j7 h) n) (by decide) (by decide) n i) λA H Q j=>?_
 have j:T (λρ S=>(ev F c ρ S).bind λx S1=>ofO ((isxD t x).map .bl) S1) A H Q:=by
  obtain⟨ι,S,ρ,o,st,p⟩:=j;unfold ev at p;exact⟨ι,S,ρ,o,st,p⟩
 refine TG.b1 j λι S ρ a b B o st E p=>?_
 obtain⟨d,e,q⟩:=Pst.ofO p st;cases a with
 |exc C =>
  obtain⟨r,z,rfl⟩:=xG.mp e;obtain⟨I,rfl,_,l⟩:=E;obtain⟨J,L⟩:=w C r z;exact⟨I,C,r,rfl,l,J,L,q _ ι B (Stp.refl _ _) st rfl⟩
 |_=>cases e
theorem yi(t:List (Addr×Bool)){p c:Pos}(gb:Gb X.mg)(hm:X.mg nm=some (.ref C'))(j:∀C b,lookA C t=some b->ErrK X.K C/\PySem.W.kitOne X.K (.ref C) (.ref C')=some b)(ha:QE X a (T (ev F i)))(l:Gl X "isinstance":=by rfl)(d:Gl X nm:=by rfl)(hd:dB nm:=by decide)(m:starEach [a,.Name nm c] X.env=(false,eval a X.env)::starEach [.Name nm c] X.env:=by rfl)(f:starEach [.Name nm c] X.env=(false,eval (.Name nm c) X.env)::starEach [] X.env:=by rfl)(h:(backTo pos (starEach [.Name nm c] X.env)).any (·.1)=false:=by rfl):
  QE X (.Call (.Name "isinstance" p) [a,.Name nm c] [] pos) (T (ev F (.isx t i))):=by
 delta QE;delta QE at ha;exact qjh l gb.isinstance (qdt (v:=.ref C') d hm rfl hd) (λu r=>by cases r;rfl) j ha m f h
theorem qkB(t:List (Addr×Bool)){p c:Pos}(gb:Gb X.mg)(hm:X.mg nm=none)(j:bootBuiltins nm=some (.type ty))(l:∀C b,lookA C t=some b->ErrK X.K C/\PySem.W.kitOne X.K (.ref C) (.type ty)=some b)(ha:QE X a (T (ev F i)))(m:Gl X "isinstance":=by rfl)(d:Gl X nm:=by rfl)(hn:nm≠"__name__":=by decide)(hd:dB nm:=by decide)(n:starEach [a,.Name nm c] X.env=(false,eval a X.env)::starEach [.Name nm c] X.env:=by rfl)(f:starEach [.Name nm c] X.env=(false,eval (.Name nm c) X.env)::starEach [] X.env:=by rfl)(h:(backTo pos (starEach [.Name nm c] X.env)).any (·.1)=false:=by rfl):
  QE X (.Call (.Name "isinstance" p) [a,.Name nm c] [] pos) (T (ev F (.isx t i))):=by
 delta QE;delta QE at ha;exact qjh m gb.isinstance (qdu (v:=.ty ty) d hm j rfl hn hd) (λu r=>by cases r;rfl) l ha n f h
end
end EX
end R
namespace R
open PySem PySem.Spec L2 SeqAt
open PyProof.Rows hiding St
open PySem.W (Frag excIn tailIn nsOkIn nsIn)
open EX
section
variable{X:Cx}{F:Fs}{N:Nat}{pos:Pos}
theorem qd6{st:Stmt}{C:Addr}:QS X st (TSm (ex F N (.raise C))):=by
 delta QS;exact PSimp qbT λD b H a=>let ⟨_,_,_,_,_,p⟩:=a;p
theorem qay{st:Stmt}{c:CS}(h:QS X st (TSm (ex F N c))):QS X st (TSm (ex F N (.cal c))):=by
 delta QS;delta QS at h;refine PSimp h λD d H a=>?_
 obtain⟨ι,S,ρ,b,st,p⟩:=a;unfold ex at p;refine⟨ι,S,ρ,b,st,?_⟩;cases z:ex F N c ρ S with
 |ok f S1=>rw[z]at p;exact p
 |err x S1=>rw[z]at p;exact p.elim
 |no=>rw[z]at p;exact p.elim
theorem qji(h:QT X e (TB (tst F c))):QT X e (TB (tst F (.cal c))):=by
 delta QT;delta QT at h;refine PTimp h λd H Q a=>?_
 obtain⟨ι,S,ρ,b,st,p⟩:=a;unfold tst at p;refine⟨ι,S,ρ,b,st,?_⟩;cases z:tst F c ρ S with
 |ok f S1=>rw[z]at p;exact p
 |err x S1=>rw[z]at p;exact p.elim
 |no=>rw[z]at p;exact p.elim
theorem yr:∀(ρ:En) (S:Sr),noE (evs F .nil ρ S)=evs F .nil ρ S:=λ_ _=>rfl
theorem zd{i:Nat}(h:∀ρ S,noE (evs F cs ρ S)=evs F cs ρ S):∀ρ S,noE (evs F (.cons (.var i) cs) ρ S)=evs F (.cons (.var i) cs) ρ S:=by
 intro ρ S;unfold evs ev varE;have:=h ρ S;split
 .rw [Res.bind_ok]
  cases z:evs F cs ρ S with
  |ok l S1=>rfl
  |err x S1=>rw[z]at this;cases this
  |no=>rfl
 .rfl
variable{p:Pos}{e:Expr}{es:List Expr}{cs:CEs}
end
def zz{Q:Addr->Bool->Prop}:∀C b,lookA C []=some b->Q C b:=λ_ _ h=>by cases h
def qB{Q:Addr->Bool->Prop}{c:Addr}{b:Bool}{r:List (Addr×Bool)}(h:Q c b)(d:∀C b,lookA C r=some b->Q C b):∀C a,lookA C ((c,b)::r)=some a->Q C a:=λC a q=>by
 unfold lookA at q;split at q
 .rename_i z;cases q;subst z;exact h
 .exact d C a q
def qmi{Q:Addr->Prop}{r:List (Addr×Bool)}(h:∀C b,lookA C r=some b->b=true->Q C):∀C,lookA C r=some true->Q C:=λC q=>h C true q rfl
def zI{K:Frag}(X:K.In h)(G:h.Ns mainGlobals mg)(a:nsIn K mainGlobals x=some (some v))(e:v=u):mg x=some u:=e ▸ PySem.W.mg_of X G a
def qgO{K:Frag}(X:K.In h)(hm:mg x=some (.ref C))(q:excIn K C b a=true):OwnCls x C b a mg h:=⟨hm,by
 revert q;unfold excIn;intro q;split at q
 .rename_i y j sl l
  split at q
  .rename_i D bm m n o p nn r d es
   cases j with|mk nm bs s ns A hd sn sub ab col u=>?_
   simp only[wP,v8,uH]at q;have v:sl=#[m,n,o,p,some (.builtin nn),r]:=by cases sl;exact congrArg _ es
   have q1:=q.1.1.1.1.1;have q2:=q.1.1.1.1.2;have f:=q.1.1.1.2;have w:=q.1.1.2;have c:=q.1.2;have i:=q.2;dsimp only at d f c i;subst q1 q2 f d v;exact⟨_,_,_,_,_,_,_,_,_,_,_,_,_,_,_,_,_,X _ _ l,.of_isNs (PySem.W.isNs_of_in X c),PySem.W.nsMap_none_of_in X c i,PySem.W.tail_of_in X w⟩
  .cases q
 .cases q⟩
end R
namespace R
open PySem PySem.Spec L2 SeqAt
open PyProof.Rows hiding St
namespace EX
def TR(m:En->Sr->Res D)(E:XK):St->Hp->Prop:=λa H=>TGX Den m E a H λ_ _=>False
def PsX.mono(h:PsX R r ι H Q E)(k:∀b H,Q b H->Q' b H):PsX R r ι H Q' E:=by
 cases r with
 |ok a S=>exact λb c H2 t st q=>k _ _ (h b c H2 t st q)
 |err x S =>
  cases x with
  |exc C=>exact h
  |_=>exact h
 |no=>exact h
def TR.up(h:TR m E a H)(Q:V->Hp->Prop):TGX Den m E a H Q:=by
 obtain⟨ι,S,ρ,b,st,p⟩:=h;exact⟨ι,S,ρ,b,st,PsX.mono p λ_ _ z=>z.elim⟩
section
variable{X:Cx}{F:Fs}{N:Nat}{pos:Pos}{E:XK}{m:En->Sr->Res D}
theorem q_of(h:PE X e (TGX Den m E)):PE X e (λa H _=>TR m E a H):=PEimp h λa H Q b=>TR.up b Q
theorem qd7(h:PE X e (λa H _=>TR m E a H))(b:sE X e es:=by rfl):PA X (e::es) (λa H _=>TR m E a H):=by
 intro pos pins s a H Q I c;rw[b];show wpAny _ _ (spliced ((false,eval e X.env)::backTo pos (starEach es X.env))) _ _ s;exact vg (wo (h pins s a H (λ_ _=>False) I c) (λu s1 ⟨x,d,f,i,q1⟩=>q1.elim) λ_ _ z=>z)
theorem qjj(hm:X.mg x=none)(f:bootBuiltins x=some (.type ty))(ha:PA X (e::es) (λa H _=>TR m E a H))(h:Gl X x:=by rfl)(hn:x≠"__name__":=by decide)(b:dB x:=by decide)(i:sE X e es:=by rfl)(c:bT X es pos:=by rfl):PE X (.Call (.Name x p) (e::es) [] pos) (λa H _=>TR m E a H) :=
 PEimp (qaY (r:=λ_ _ _=>False) (λ_ _ _ _ _ _ _ _ _ d=>d.elim) h hm f ha hn b i c) λa H Q d=>d
theorem qmj(h:PE X iter (λb H _=>TR m E b H))(a:X.A.depth<recursionLimit)(d:∀x,genFold iter X.env x=pure x:=by intro _;rfl)(f:cscB X.env.scope.names X.N sc fr xs ts=true:=by rfl)(i:sc.names.lookup (".0":Str)=some NameKind.local:=by rfl)(c:sc.isCoroutine=false:=by rfl):PE X (.GeneratorExp elt [⟨tg,iter,ifs,0⟩] sc pos) (λb H _=>TR m E b H):=by
 intro pins s b H Q I j;have C':CSc X sc fr xs ts:=yO f;obtain⟨cl,l⟩:=j0 (X:=X) (sc:=sc) λx n o=>I.ok.has x.1 (C'.frees x n o)
 refine wpAny_GeneratorExp_make c l.eq C'.nocell i C'.kind a ?_ d;exact wo (h pins s b H (λ_ _=>False) I j) (λu s1 ⟨x,p,q,r,q1⟩=>q1.elim) λ_ _ z=>z
theorem qmk(h:PE X e (λa H _=>TR m E a H)):PS X (.Return (some e) pos) (λ_ a H=>TR m E a H):=PSimp (qfm h) λD a H b=>b
theorem qml{st:Stmt}{c:CE}{s:CS}(h:QS X.nox st (TSm (ex F N s)))(i:PS X st (λ_ a H=>TR (ev F c) E a H)):PS X st (TSX (ex F N (.grd c s)) E):=by
 delta QS at h;intro pins b a H D I j;obtain⟨ι,S,ρ,f,st,p⟩:=j;unfold ex at p;cases z:ev F c ρ S with
 |ok d S1 =>
  rw[z]at p;exact PSnox h pins b a H D I ⟨ι,S,ρ,f,st,PsFX.ok p⟩
 |err x S1 =>
  rw[z]at p;refine i pins b a H D I ⟨ι,S,ρ,f,st,?_⟩;rw[z];cases x with
  |exc C=>exact p
  |_=>exact p.elim
 |no=>rw[z]at p;exact p.elim
theorem qmm{st:Stmt}{c:CE}{s:CS}(h:QS X st (TSm (ex F N s))):QS X st (TSm (ex F N (.grd c s))):=by
 delta QS;delta QS at h;refine PSimp h λD i H a=>?_
 obtain⟨ι,S,ρ,b,st,p⟩:=a;unfold ex at p;refine⟨ι,S,ρ,b,st,?_⟩;cases z:ev F c ρ S with
 |ok d S1 =>
  rw[z]at p;cases z2:ex F N s ρ S with
  |ok f S2=>rw[z2]at p;exact p
  |err x S2=>rw[z2]at p;exact p.elim
  |no=>rw[z2]at p;exact p.elim
 |err x S1=>rw[z]at p;exact p.elim
 |no=>rw[z]at p;exact p.elim
end
end EX
end R
namespace RP
open R
def c_0:CF:=⟨1,1,false,.cons (.ret (.and (.isi .int (.var 0)) (.not (.isi .bool (.var 0))))) .nil⟩
def c_1:CF:=⟨3,3,false,.cons (.ret (.and (.call 0 (.cons (.var 0) .nil)) (.chain .le .le (.var 1) (.var 0) (.var 2)))) .nil⟩
def c_2:CF:=⟨2,2,false,.cons (.whileS (.val (.var 1)) (.cons (.set (.tup (.cons (.var 0) (.cons (.var 1) .nil))) (.tup (.cons (.var 1) (.cons (.bin .mod (.var 0) (.var 1)) .nil)))) .nil)) (.cons (.ret (.var 0)) .nil)⟩
def c_3:CF:=⟨2,3,false,.cons (.set (.var 2) (.call 2 (.cons (.blt .abs (.cons (.var 0) .nil)) (.cons (.var 1) .nil)))) (.cons (.ret (.tup (.cons (.bin .fdiv (.var 0) (.var 2)) (.cons (.bin .fdiv (.var 1) (.var 2)) .nil)))) .nil)⟩
def c_4:CF:=⟨1,3,false,.cons (.ifs (.or (.not (.val (.isi .tuple (.var 0)))) (.val (.cmp .ne (.blt .len (.cons (.var 0) .nil)) (.cst (.int 2))))) (.cons (.ret (.cst (.bl false))) .nil) .nil) (.cons (.set (.tup (.cons (.var 1) (.cons (.var 2) .nil))) (.var 0)) (.cons (.ifs (.or (.not (.val (.call 0 (.cons (.var 1) .nil)))) (.or (.not (.val (.call 0 (.cons (.var 2) .nil)))) (.val (.cmp .lt (.var 2) (.cst (.int 1)))))) (.cons (.ret (.cst (.bl false))) .nil) .nil) (.cons (.ret (.cmp .eq (.call 2 (.cons (.blt .abs (.cons (.var 1) .nil)) (.cons (.var 2) .nil))) (.cst (.int 1)))) .nil)))⟩
def c_5:CF:=⟨1,1,false,.cons (.ret (.and (.call 4 (.cons (.var 0) .nil)) (.cmp .ge (.idx (.var 0) (.cst (.int 0))) (.cst (.int 0))))) .nil⟩
def c_6:CF:=⟨2,2,false,.cons (.ret (.cmp .lt (.bin .mul (.idx (.var 0) (.cst (.int 0))) (.idx (.var 1) (.cst (.int 1)))) (.bin .mul (.idx (.var 1) (.cst (.int 0))) (.idx (.var 0) (.cst (.int 1)))))) .nil⟩
def c_7:CF:=⟨1,4,false,.cons (.set (.tup (.cons (.var 1) (.cons (.var 2) .nil))) (.tup (.cons (.cst (.int 0)) (.cons (.cst (.int 1)) .nil)))) (.cons (.forX (.var 3) (.var 0) (.cons (.set (.tup (.cons (.var 1) (.cons (.var 2) .nil))) (.call 3 (.cons (.bin .add (.bin .mul (.var 1) (.idx (.var 3) (.cst (.int 1)))) (.bin .mul (.idx (.var 3) (.cst (.int 0))) (.var 2))) (.cons (.bin .mul (.var 2) (.idx (.var 3) (.cst (.int 1)))) .nil)))) .nil)) (.cons (.ret (.tup (.cons (.var 1) (.cons (.var 2) .nil)))) .nil))⟩
def c_8:CF:=⟨2,2,false,.cons (.ret (.call 3 (.cons (.idx (.var 0) (.cst (.int 0))) (.cons (.bin .mul (.idx (.var 0) (.cst (.int 1))) (.var 1)) .nil)))) .nil⟩
def c_9:CF:=⟨1,3,false,.cons (.ifs (.or (.not (.val (.isi .tuple (.var 0)))) (.val (.cmp .ne (.blt .len (.cons (.var 0) .nil)) (.cst (.int 2))))) (.cons (.ret (.cst (.bl false))) .nil) .nil) (.cons (.set (.tup (.cons (.var 1) (.cons (.var 2) .nil))) (.var 0)) (.cons (.ret (.and (.call 10 (.cons (.var 1) .nil)) (.call 11 (.cons (.var 2) (.cons (.blt .len (.cons (.var 1) .nil)) .nil))))) .nil))⟩
def c_10:CF:=⟨1,1,false,.cons (.ifs (.or (.not (.val (.isi .tuple (.var 0)))) (.not (.val (.chain .le .le (.cst (.int 1)) (.blt .len (.cons (.var 0) .nil)) (.cst (.int 12)))))) (.cons (.ret (.cst (.bl false))) .nil) .nil) (.cons (.ret (.gen .all [] 1 (.call 1 (.cons (.var 0) (.cons (.cst (.int 1)) (.cons (.cst (.int 100)) .nil)))) (.var 0) (.seq (.var 0)) .nil)) .nil)⟩
def c_11:CF:=⟨2,2,false,.cons (.ifs (.or (.not (.val (.isi .tuple (.var 0)))) (.val (.cmp .gt (.blt .len (.cons (.var 0) .nil)) (.cst (.int 30))))) (.cons (.ret (.cst (.bl false))) .nil) .nil) (.cons (.ifs (.not (.val (.gen .all [1] 1 (.call 12 (.cons (.var 1) (.cons (.var 0) .nil))) (.var 1) (.seq (.var 0)) .nil))) (.cons (.ret (.cst (.bl false))) .nil) .nil) (.cons (.ret (.call 15 (.cons (.lc false [] 2 (.var 0) (.tup (.cons (.var 0) (.cons (.var 1) .nil))) (.seq (.var 0)) .nil) .nil))) .nil))⟩
def c_12:CF:=⟨2,4,false,.cons (.ifs (.or (.not (.val (.isi .tuple (.var 0)))) (.val (.cmp .ne (.blt .len (.cons (.var 0) .nil)) (.cst (.int 2))))) (.cons (.ret (.cst (.bl false))) .nil) .nil) (.cons (.set (.tup (.cons (.var 2) (.cons (.var 3) .nil))) (.var 0)) (.cons (.ret (.and (.call 13 (.cons (.var 2) (.cons (.var 1) .nil))) (.call 1 (.cons (.var 3) (.cons (.cst (.int 1)) (.cons (.cst (.int 1000000)) .nil)))))) .nil))⟩
def c_13:CF:=⟨2,2,false,.cons (.ret (.and (.call 14 (.cons (.var 0) (.cons (.var 1) .nil))) (.cmp .le (.blt .len (.cons (.var 0) .nil)) (.cst (.int 4))))) .nil⟩
def c_14:CF:=⟨2,2,false,.cons (.ifs (.or (.not (.val (.isi .tuple (.var 0)))) (.not (.val (.var 0)))) (.cons (.ret (.cst (.bl false))) .nil) .nil) (.cons (.ret (.and (.gen .all [1] 1 (.call 1 (.cons (.var 1) (.cons (.cst (.int 0)) (.cons (.bin .sub (.var 0) (.cst (.int 1))) .nil)))) (.var 1) (.seq (.var 0)) .nil) (.call 15 (.cons (.var 0) .nil)))) .nil)⟩
def c_15:CF:=⟨1,1,false,.cons (.ret (.gen .all [] 2 (.cmp .lt (.var 0) (.var 1)) (.tup (.cons (.var 0) (.cons (.var 1) .nil))) (.zip (.var 0) (.slc (.var 0) (.some (.cst (.int 1))) .none)) .nil)) .nil⟩
def c_16:CF:=⟨1,1,false,.cons (.ifs (.cal (.not (.val (.call 9 (.cons (.var 0) .nil))))) (.cons (.raise 37) .nil) .nil) .nil⟩
def c_17:CF:=⟨2,3,false,.cons (.expr (.call 16 (.cons (.var 0) .nil))) (.cons (.cal (.set (.var 2) (.idx (.var 0) (.cst (.int 1))))) (.cons (.ifs (.cal (.or (.not (.val (.isi .tuple (.var 1)))) (.val (.cmp .ne (.blt .len (.cons (.var 1) .nil)) (.blt .len (.cons (.var 2) .nil)))))) (.cons (.cal (.ret (.cst (.bl false)))) .nil) .nil) (.cons (.cal (.ret (.gen .all [] 2 (.call 18 (.cons (.var 0) (.cons (.var 1) .nil))) (.tup (.cons (.var 0) (.cons (.var 1) .nil))) (.zip (.var 2) (.var 1)) .nil))) .nil)))⟩
def c_18:CF:=⟨2,4,false,.cons (.set (.tup (.cons (.var 2) (.cons (.var 3) .nil))) (.var 0)) (.cons (.ifs (.or (.not (.val (.isi .tuple (.var 1)))) (.val (.cmp .ne (.blt .len (.cons (.var 1) .nil)) (.blt .len (.cons (.var 2) .nil))))) (.cons (.ret (.cst (.bl false))) .nil) .nil) (.cons (.ret (.and (.gen .all [] 1 (.call 5 (.cons (.var 0) .nil)) (.var 0) (.seq (.var 1)) .nil) (.cmp .eq (.call 7 (.cons (.var 1) .nil)) (.tup (.cons (.var 3) (.cons (.cst (.int 1)) .nil)))))) .nil))⟩
def c_19:CF:=⟨2,2,false,.cons (.ifs (.not (.val (.call 17 (.cons (.var 0) (.cons (.var 1) .nil))))) (.cons (.raise 61) .nil) .nil) .nil⟩
def c_20:CF:=⟨2,8,false,.cons (.expr (.call 19 (.cons (.var 0) (.cons (.var 1) .nil)))) (.cons (.cal (.set (.var 2) (.lls (.idx (.var 0) (.cst (.int 0)))))) (.cons (.cal (.forS (.tup (.cons (.tup (.cons (.var 3) (.cons (.var 4) .nil))) (.cons (.var 5) .nil))) (.zip (.idx (.var 0) (.cst (.int 1))) (.var 1)) (.cons (.forS (.tup (.cons (.var 6) (.cons (.var 7) .nil))) (.zip (.var 3) (.var 5)) (.cons (.expr (.app (.idx (.var 2) (.var 6)) (.var 7))) .nil)) .nil))) (.cons (.cal (.ret (.genX .tuple [] 1 (.call 7 (.cons (.var 0) .nil)) (.var 0) (.var 2) .nil))) .nil)))⟩
def c_21:CF:=⟨2,2,false,.cons (.grd (.call 20 (.cons (.var 0) (.cons (.var 1) .nil))) (.ret (.gen .tuple [] 2 (.call 8 (.cons (.var 0) (.cons (.var 1) .nil))) (.tup (.cons (.var 0) (.cons (.var 1) .nil))) (.zip (.call 20 (.cons (.var 0) (.cons (.var 1) .nil))) (.idx (.var 0) (.cst (.int 0)))) .nil))) .nil⟩
def c_22:CF:=⟨2,3,false,.cons (.set (.var 2) (.call 21 (.cons (.var 0) (.cons (.var 1) .nil)))) (.cons (.cal (.ret (.gen .all [2] 2 (.call 23 (.cons (.idx (.var 1) (.cst (.int 0))) (.cons (.var 2) (.cons (.var 0) .nil)))) (.tup (.cons (.var 1) (.cons (.var 2) .nil))) (.zip (.idx (.var 0) (.cst (.int 1))) (.var 1)) .nil))) .nil)⟩
def c_23:CF:=⟨3,4,false,.cons (.set (.var 3) (.lc false [] 2 (.var 0) (.tup (.cons (.var 0) (.cons (.var 1) .nil))) (.zip (.var 0) (.var 1)) (.cons (.val (.cmp .gt (.idx (.var 1) (.cst (.int 0))) (.cst (.int 0)))) .nil))) (.cons (.never) .nil)⟩
def c_24:CF:=⟨1,1,false,.cons (.ret (.bin .mod (.bin .mul (.bin .mod (.var 0) (.bin .pow (.cst (.int 10)) (.cst (.int 60)))) (.cst (.int 915965594177219015054603514932384110774149374281672134266497))) (.bin .pow (.cst (.int 10)) (.cst (.int 60))))) .nil⟩
def c_25:CF:=⟨2,5,true,.cons (.set (.var 2) (.cst (.int 0))) (.cons (.forS (.var 3) (.seq (.lst false (.cons (.bin .add (.var 1) (.cst (.int 1))) (.cons (.var 1) .nil)))) (.cons (.set (.var 4) (.idx (.bin .add (.slc (.var 0) (.some (.var 3)) (.some (.bin .add (.var 3) (.cst (.int 1))))) (.lst false (.cons (.bin .add (.bin .add (.bin .mul (.cst (.int 5701)) (.var 3)) (.cst (.int 43))) (.bin .mul (.cst (.int 7)) (.idx (.bin .add (.var 0) (.lst false (.cons (.cst (.int 0)) .nil))) (.cst (.int 0))))) .nil))) (.cst (.int 0)))) (.cons (.set (.var 2) (.bin .add (.bin .mul (.var 2) (.bin .pow (.cst (.int 10)) (.cst (.int 60)))) (.call 24 (.cons (.var 4) .nil)))) .nil))) (.cons (.ret (.lst true (.cons (.var 2) .nil))) .nil))⟩
def c_26:CF:=⟨2,3,false,.cons (.set (.tup (.cons (.sub (.var 0) (.cst (.int 0))) (.cons (.var 2) .nil))) (.blt .divmod (.cons (.idx (.var 0) (.cst (.int 0))) (.cons (.var 1) .nil)))) (.cons (.ret (.var 2)) .nil)⟩
def c_27:CF:=⟨2,4,false,.cons (.set (.tup (.cons (.var 2) (.cons (.var 3) .nil))) (.tup (.cons (.blt .abs (.cons (.var 0) .nil)) (.cons (.blt .abs (.cons (.var 1) .nil)) .nil)))) (.cons (.whileS (.val (.cmp .ne (.var 3) (.cst (.int 0)))) (.cons (.set (.tup (.cons (.var 2) (.cons (.var 3) .nil))) (.tup (.cons (.var 3) (.cons (.bin .mod (.var 2) (.var 3)) .nil)))) .nil)) (.cons (.ifs (.val (.cmp .lt (.var 1) (.cst (.int 0)))) (.cons (.set (.var 2) (.bin .sub (.cst (.int 0)) (.var 2))) .nil) .nil) (.cons (.ret (.tup (.cons (.bin .fdiv (.var 0) (.var 2)) (.cons (.bin .fdiv (.var 1) (.var 2)) .nil)))) .nil)))⟩
def c_28:CF:=⟨2,5,false,.cons (.set (.var 2) (.idx (.lst false (.cons (.cst (.int 2)) (.cons (.cst (.int 2)) (.cons (.cst (.int 2)) (.cons (.cst (.int 3)) (.cons (.cst (.int 3)) (.cons (.cst (.int 1)) (.cons (.cst (.int 4)) (.cons (.cst (.int 2)) .nil))))))))) (.call 26 (.cons (.var 0) (.cons (.cst (.int 8)) .nil))))) (.cons (.set (.var 3) (.rng (some true) (.cons (.var 1) .nil))) (.cons (.set (.var 4) (.lc false [3,0] 1 (.popAt (.var 0) (.call 26 (.cons (.var 1) (.cons (.blt .len (.cons (.var 0) .nil)) .nil)))) (.var 2) (.rng (.cons (.blt .min2 (.cons (.var 2) (.cons (.var 1) .nil))) .nil)) .nil)) (.cons (.ret (.blt .tuple (.cons (.blt (.sorted false) (.cons (.var 4) .nil)) .nil))) .nil)))⟩
def c_29:CF:=⟨3,8,false,.cons (.set (.var 3) (.bin .add (.cst (.int 1)) (.call 26 (.cons (.var 0) (.cons (.var 1) .nil))))) (.cons (.set (.var 4) (.bin .mul (.lst false (.cons (.cst (.int 1)) .nil)) (.var 3))) (.cons (.ifs (.val (.cmp .eq (.call 26 (.cons (.var 0) (.cons (.cst (.int 3)) .nil))) (.cst (.int 0)))) (.cons (.set (.var 4) (.lc false [0] 1 (.bin .add (.cst (.int 1)) (.call 26 (.cons (.var 0) (.cons (.cst (.int 5)) .nil)))) (.var 1) (.rng (.cons (.var 3) .nil)) .nil)) .nil) .nil) (.cons (.set (.var 5) (.dic true)) (.cons (.forS (.var 6) (.rng (.cons (.call 26 (.cons (.var 0) (.cons (.bin .add (.var 2) (.cst (.int 1))) .nil))) .nil)) (.cons (.set (.var 7) (.call 28 (.cons (.var 0) (.cons (.var 3) .nil)))) (.cons (.set (.sub (.var 5) (.var 7)) (.bin .add (.cst (.int 1)) (.call 26 (.cons (.var 0) (.cons (.cst (.int 9)) .nil))))) .nil))) (.cons (.ret (.tup (.cons (.blt .tuple (.cons (.var 4) .nil)) (.cons (.blt .tuple (.cons (.lc false [5] 1 (.tup (.cons (.var 1) (.cons (.idx (.var 0) (.var 1)) .nil))) (.var 1) (.seq (.blt (.sorted false) (.cons (.var 5) .nil))) .nil) .nil)) .nil)))) .nil)))))⟩
def c_30:CF:=⟨2,2,false,.cons (.ret (.call 27 (.cons (.bin .add (.bin .mul (.idx (.var 0) (.cst (.int 0))) (.idx (.var 1) (.cst (.int 1)))) (.bin .mul (.idx (.var 1) (.cst (.int 0))) (.idx (.var 0) (.cst (.int 1))))) (.cons (.bin .mul (.idx (.var 0) (.cst (.int 1))) (.idx (.var 1) (.cst (.int 1)))) .nil)))) .nil⟩
def c_31:CF:=⟨2,7,false,.cons (.set (.var 2) (.lst true .nil)) (.cons (.forS (.tup (.cons (.var 3) (.cons (.var 4) .nil))) (.seq (.idx (.var 1) (.cst (.int 1)))) (.cons (.set (.var 5) (.call 26 (.cons (.var 0) (.cons (.cst (.int 3)) .nil)))) (.cons (.set (.var 6) (.binM .mul (.lst false (.cons (.cst (.int 1)) .nil)) (.blt .len (.cons (.var 3) .nil)))) (.cons (.ifs (.val (.cmp .eq (.var 5) (.cst (.int 0)))) (.cons (.set (.var 6) (.binM .mul (.lst false (.cons (.cst (.int 0)) .nil)) (.blt .len (.cons (.var 3) .nil)))) (.cons (.set (.sub (.var 6) (.call 26 (.cons (.var 0) (.cons (.blt .len (.cons (.var 3) .nil)) .nil)))) (.cst (.int 1))) .nil)) .nil) (.cons (.ifs (.val (.cmp .eq (.var 5) (.cst (.int 2)))) (.cons (.set (.var 6) (.lc true [0] 1 (.call 26 (.cons (.var 0) (.cons (.cst (.int 3)) .nil))) (.var 1) (.seq (.var 3)) .nil)) (.cons (.set (.sub (.var 6) (.neg (.cst (.int 1)))) (.bin .add (.cst (.int 1)) (.idx (.var 6) (.neg (.cst (.int 1)))))) .nil)) .nil) (.cons (.expr (.app (.var 2) (.blt .tuple (.cons (.lcR false [4,6] 1 (.call 27 (.cons (.bin .mul (.var 0) (.var 2)) (.cons (.blt .sum (.cons (.var 1) .nil)) .nil))) (.var 2) (.var 6) .nil) .nil)))) .nil)))))) (.cons (.ret (.blt .tuple (.cons (.var 2) .nil))) .nil))⟩
def c_32:CF:=⟨2,8,false,.cons (.set (.var 2) (.binM .mul (.lst false (.cons (.tup (.cons (.cst (.int 0)) (.cons (.cst (.int 1)) .nil))) .nil)) (.blt .len (.cons (.idx (.var 0) (.cst (.int 0))) .nil)))) (.cons (.forS (.tup (.cons (.tup (.cons (.var 3) (.cons (.var 4) .nil))) (.cons (.var 5) .nil))) (.zip (.idx (.var 0) (.cst (.int 1))) (.var 1)) (.cons (.forS (.tup (.cons (.var 6) (.cons (.var 7) .nil))) (.zip (.var 3) (.var 5)) (.cons (.set (.sub (.var 2) (.var 6)) (.call 30 (.cons (.idx (.var 2) (.var 6)) (.cons (.var 7) .nil)))) .nil)) .nil)) (.cons (.ret (.blt .tuple (.cons (.var 2) .nil))) .nil))⟩
def c_33:CF:=⟨2,5,false,.cons (.set (.tup (.cons (.var 2) (.cons (.var 3) .nil))) (.var 1)) (.cons (.set (.var 4) (.lst false (.cons (.tup (.cons (.bin .add (.bin .mul (.cst (.int 2)) (.var 2)) (.bin .mul (.cst (.int 2)) (.var 3))) (.cons (.bin .mul (.cst (.int 2)) (.var 3)) .nil))) (.cons (.tup (.cons (.bin .sub (.bin .sub (.cst (.int 0)) (.var 2)) (.cst (.int 1))) (.cons (.var 3) .nil))) (.cons (.lst false (.cons (.var 2) (.cons (.var 3) .nil))) (.cons (.tup (.cons (.var 2) (.cons (.var 3) (.cons (.cst (.int 1)) .nil)))) .nil)))))) (.cons (.set (.var 4) (.bin .add (.var 4) (.lst false (.cons (.tup (.cons (.var 2) .nil)) (.cons (.var 2) (.cons (.cst .non) (.cons (.cst (.bl true)) (.cons (.tup (.cons (.cst (.int 0)) (.cons (.cst (.int 2)) .nil))) (.cons (.tup (.cons (.cst (.int 1)) (.cons (.cst (.int 0)) .nil))) (.cons (.tup (.cons (.var 2) (.cons (.cst (.bl true)) .nil))) (.cons (.tup (.cons (.cst (.bl true)) (.cons (.bin .mul (.cst (.int 2)) (.var 3)) .nil))) (.cons (.tup (.cons (.var 2) (.cons (.cst .non) .nil))) .nil)))))))))))) (.cons (.set (.var 4) (.bin .add (.var 4) (.lst false (.cons (.tup (.cons (.blt .str (.cons (.var 2) .nil)) (.cons (.var 3) .nil))) (.cons (.tup (.cons (.tup (.cons (.var 2) (.cons (.var 3) .nil))) .nil)) (.cons (.tup .nil) (.cons (.tup (.cons (.cst (.int 0)) (.cons (.cst (.int 0)) .nil))) (.cons (.cst (.str (PySem.Str.ofString "1"))) (.cons (.dic false) (.cons (.lst false .nil) (.cons (.tup (.cons (.var 2) (.cons (.lst false (.cons (.var 3) .nil)) .nil))) .nil))))))))))) (.cons (.set (.var 4) (.bin .add (.var 4) (.lst false (.cons (.tup (.cons (.tup (.cons (.var 2) .nil)) (.cons (.var 3) .nil))) (.cons (.tup (.cons (.cst .non) (.cons (.cst (.int 1)) .nil))) (.cons (.tup (.cons (.cst (.bl false)) (.cons (.cst (.int 1)) .nil))) (.cons (.tup (.cons (.cst (.int 0)) (.cons (.bin .sub (.cst (.int 0)) (.cst (.int 1))) .nil))) (.cons (.tup (.cons (.cst (.int 3)) (.cons (.cst (.int 6)) .nil))) .nil)))))))) (.cons (.ret (.idx (.var 4) (.call 26 (.cons (.var 0) (.cons (.cst (.int 26)) .nil))))) .nil)))))⟩
def c_34:CF:=⟨2,3,false,.cons (.set (.var 2) (.lst false (.cons (.isx [(61,false),(37,true)] (.var 0)) (.cons (.isx [(61,false),(37,false)] (.var 0)) (.cons (.isx [(61,true),(37,false)] (.var 0)) (.cons (.isx [(61,false),(37,false)] (.var 0)) .nil)))))) (.cons (.set (.var 2) (.bin .add (.var 2) (.lst false (.cons (.isx [(61,false),(37,false)] (.var 0)) (.cons (.isx [(61,false),(37,false)] (.var 0)) (.cons (.isx [(61,false),(37,false)] (.var 0)) (.cons (.isx [(61,false),(37,false)] (.var 0)) .nil))))))) (.cons (.set (.var 2) (.bin .add (.var 2) (.lst false (.cons (.isx [(61,false),(37,false)] (.var 0)) (.cons (.isx [(61,false),(37,false)] (.var 0)) (.cons (.isx [(61,false),(37,false)] (.var 0)) (.cons (.isx [(61,false),(37,false)] (.var 0)) .nil))))))) (.cons (.ifs (.or (.not (.val (.isx [(61,true),(37,true)] (.var 0)))) (.not (.val (.isx [(61,true),(37,true)] (.var 0))))) (.cons (.ret (.cst (.bl false))) .nil) .nil) (.cons (.ret (.cmp .eq (.var 2) (.lc false [1] 1 (.cmp .eq (.var 1) (.var 0)) (.var 1) (.rng (.cons (.cst (.int 12)) .nil)) .nil))) .nil))))⟩
def c_35:CF:=⟨3,5,false,.cons (.set (.var 3) (.cst .non)) (.cons (.tryX [(61,true),(37,true)] 4 (.cons (.ifs (.cal (.val (.cmp .eq (.var 0) (.cst (.int 0))))) (.cons (.expr (.call 17 (.cons (.var 1) (.cons (.var 2) .nil)))) .nil) (.cons (.ifs (.cal (.val (.cmp .eq (.var 0) (.cst (.int 1))))) (.cons (.expr (.call 20 (.cons (.var 1) (.cons (.var 2) .nil)))) .nil) (.cons (.ifs (.cal (.val (.cmp .eq (.var 0) (.cst (.int 2))))) (.cons (.expr (.call 21 (.cons (.var 1) (.cons (.var 2) .nil)))) .nil) (.cons (.expr (.call 22 (.cons (.var 1) (.cons (.var 2) .nil)))) .nil)) .nil)) .nil)) .nil) (.cons (.set (.var 3) (.var 4)) .nil)) (.cons (.ret (.var 3)) .nil))⟩
def c_36:CF:=⟨2,9,false,.cons (.set (.tup (.cons (.var 2) (.cons (.var 3) .nil))) (.var 1)) (.cons (.set (.var 4) (.call 26 (.cons (.var 0) (.cons (.blt .len (.cons (.var 2) .nil)) .nil)))) (.cons (.set (.var 5) (.idx (.lst false (.cons (.cst (.int 0)) (.cons (.cst (.int 101)) (.cons (.cst (.bl true)) (.cons (.cst .non) (.cons (.cst (.str (PySem.Str.ofString "1"))) (.cons (.tup (.cons (.cst (.int 1)) .nil)) (.cons (.bin .sub (.cst (.int 0)) (.cst (.int 1))) (.cons (.lst false (.cons (.cst (.int 1)) .nil)) .nil))))))))) (.call 26 (.cons (.var 0) (.cons (.cst (.int 8)) .nil))))) (.cons (.set (.var 6) (.lst true (.cons (.tup (.cons (.bin .add (.bin .add (.slc (.var 2) .none (.some (.var 4))) (.tup (.cons (.var 5) .nil))) (.slc (.var 2) (.some (.bin .add (.var 4) (.cst (.int 1)))) .none)) (.cons (.var 3) .nil))) (.cons (.tup (.cons (.blt (.list false) (.cons (.var 2) .nil)) (.cons (.var 3) .nil))) (.cons (.tup (.cons (.var 2) (.cons (.blt (.list false) (.cons (.var 3) .nil)) .nil))) (.cons (.tup (.cons (.var 2) .nil)) .nil)))))) (.cons (.expr (.app (.var 6) (.lst false (.cons (.var 2) (.cons (.var 3) .nil))))) (.cons (.set (.var 6) (.binM .add (.var 6) (.lst false (.cons (.tup (.cons (.tup .nil) (.cons (.tup .nil) .nil))) (.cons (.tup (.cons (.var 2) (.cons (.var 3) (.cons (.tup .nil) .nil)))) (.cons (.cst .non) (.cons (.tup (.cons (.var 2) (.cons (.bin .add (.var 3) (.tup (.cons (.tup (.cons (.tup (.cons (.blt .len (.cons (.var 2) .nil)) .nil)) (.cons (.cst (.int 1)) .nil))) .nil))) .nil))) .nil))))))) (.cons (.expr (.app (.var 6) (.tup (.cons (.var 2) (.cons (.bin .add (.var 3) (.tup (.cons (.tup (.cons (.tup (.cons (.cst (.int 0)) (.cons (.cst (.int 0)) .nil))) (.cons (.cst (.int 1)) .nil))) .nil))) .nil))))) (.cons (.set (.var 6) (.binM .add (.var 6) (.lst false (.cons (.tup (.cons (.var 2) (.cons (.bin .add (.var 3) (.tup (.cons (.tup (.cons (.tup .nil) (.cons (.cst (.int 1)) .nil))) .nil))) .nil))) (.cons (.tup (.cons (.bin .mul (.var 2) (.cst (.int 13))) (.cons (.var 3) .nil))) (.cons (.tup (.cons (.var 2) (.cons (.cst .non) .nil))) (.cons (.var 2) .nil))))))) (.cons (.forS (.tup (.cons (.var 7) (.cons (.var 8) .nil))) (.seq (.slc (.var 3) .none (.some (.cst (.int 1))))) (.cons (.set (.var 6) (.binM .add (.var 6) (.lst false (.cons (.tup (.cons (.var 2) (.cons (.bin .add (.tup (.cons (.tup (.cons (.var 7) (.cons (.cst (.int 0)) .nil))) .nil)) (.slc (.var 3) (.some (.cst (.int 1))) .none)) .nil))) (.cons (.tup (.cons (.var 2) (.cons (.bin .add (.tup (.cons (.tup (.cons (.var 7) (.cons (.bin .add (.bin .pow (.cst (.int 10)) (.cst (.int 6))) (.cst (.int 1))) .nil))) .nil)) (.slc (.var 3) (.some (.cst (.int 1))) .none)) .nil))) .nil))))) (.cons (.set (.var 6) (.binM .add (.var 6) (.lst false (.cons (.tup (.cons (.var 2) (.cons (.bin .add (.tup (.cons (.tup (.cons (.var 7) (.cons (.cst (.bl true)) .nil))) .nil)) (.slc (.var 3) (.some (.cst (.int 1))) .none)) .nil))) (.cons (.tup (.cons (.var 2) (.cons (.bin .add (.tup (.cons (.tup (.cons (.blt (.list false) (.cons (.var 7) .nil)) (.cons (.var 8) .nil))) .nil)) (.slc (.var 3) (.some (.cst (.int 1))) .none)) .nil))) .nil))))) (.cons (.set (.var 6) (.binM .add (.var 6) (.lst false (.cons (.tup (.cons (.var 2) (.cons (.bin .add (.var 3) (.slc (.var 3) (.some (.neg (.cst (.int 1)))) .none)) .nil))) (.cons (.tup (.cons (.var 2) (.cons (.bin .add (.tup (.cons (.tup (.cons (.var 7) .nil)) .nil)) (.slc (.var 3) (.some (.cst (.int 1))) .none)) .nil))) (.cons (.tup (.cons (.var 2) (.cons (.bin .add (.tup (.cons (.lst false (.cons (.var 7) (.cons (.var 8) .nil))) .nil)) (.slc (.var 3) (.some (.cst (.int 1))) .none)) .nil))) .nil)))))) .nil)))) (.cons (.ret (.idx (.var 6) (.call 26 (.cons (.var 0) (.cons (.blt .len (.cons (.var 6) .nil)) .nil))))) .nil)))))))))⟩
def c_37:CF:=⟨2,9,false,.cons (.set (.var 2) (.lst true (.cons (.blt (.list false) (.cons (.var 1) .nil)) (.cons (.cst .non) (.cons (.bin .add (.var 1) (.tup (.cons (.tup .nil) .nil))) (.cons (.cst (.int 7)) (.cons (.cst (.str (PySem.Str.ofString ""))) (.cons (.dic false) (.cons (.bin .add (.var 1) (.tup (.cons (.cst .non) .nil))) (.cons (.cst (.bl true)) .nil)))))))))) (.cons (.set (.var 3) (.call 26 (.cons (.var 0) (.cons (.bin .add (.blt .len (.cons (.var 1) .nil)) (.cst (.int 1))) .nil)))) (.cons (.forS (.var 4) (.seq (.slc (.var 1) (.some (.var 3)) (.some (.bin .add (.var 3) (.cst (.int 1)))))) (.cons (.set (.var 5) (.call 26 (.cons (.var 0) (.cons (.blt .len (.cons (.var 4) .nil)) .nil)))) (.cons (.set (.var 6) (.bin .add (.bin .add (.slc (.var 4) .none (.some (.var 5))) (.tup (.cons (.call 30 (.cons (.idx (.var 4) (.var 5)) (.cons (.tup (.cons (.cst (.int 1)) (.cons (.cst (.int 9)) .nil))) .nil))) .nil))) (.slc (.var 4) (.some (.bin .add (.var 5) (.cst (.int 1)))) .none))) (.cons (.set (.var 7) (.bin .add (.bin .add (.slc (.var 4) .none (.some (.var 5))) (.tup (.cons (.call 33 (.cons (.var 0) (.cons (.idx (.var 4) (.var 5)) .nil))) .nil))) (.slc (.var 4) (.some (.bin .add (.var 5) (.cst (.int 1)))) .none))) (.cons (.set (.var 8) (.lst false (.cons (.var 6) (.cons (.var 6) (.cons (.slc (.var 4) (.some (.cst (.int 1))) .none) (.cons (.blt (.list false) (.cons (.var 4) .nil)) (.cons (.bin .add (.var 4) (.tup (.cons (.tup (.cons (.cst (.int 0)) (.cons (.cst (.int 1)) .nil))) .nil))) (.cons (.cst .non) .nil)))))))) (.cons (.ifs (.val (.cmp .ne (.var 7) (.var 4))) (.cons (.set (.var 8) (.bin .add (.var 8) (.lst false (.cons (.var 7) (.cons (.var 7) (.cons (.var 7) .nil)))))) .nil) .nil) (.cons (.set (.var 2) (.binM .add (.var 2) (.lc false [1,3] 1 (.bin .add (.bin .add (.slc (.var 0) .none (.some (.var 1))) (.tup (.cons (.var 2) .nil))) (.slc (.var 0) (.some (.bin .add (.var 1) (.cst (.int 1)))) .none)) (.var 2) (.seq (.var 8)) .nil))) (.cons (.expr (.app (.var 2) (.bin .add (.slc (.var 1) .none (.some (.var 3))) (.slc (.var 1) (.some (.bin .add (.var 3) (.cst (.int 1)))) .none)))) .nil)))))))) (.cons (.ret (.idx (.var 2) (.call 26 (.cons (.var 0) (.cons (.blt .len (.cons (.var 2) .nil)) .nil))))) .nil)))⟩
def yz:CF:=⟨1,9,false,.cons (.forS (.var 1) (.rng (.cons (.cst (.int 0)) (.cons (.blt .max2 (.cons (.cst (.int 1)) (.cons (.blt .min2 (.cons (.blt .len (.cons (.var 0) .nil)) (.cons (.cst (.int 16)) .nil))) .nil))) (.cons (.cst (.int 2)) .nil)))) (.cons (.set (.var 2) (.call 29 (.cons (.call 25 (.cons (.var 0) (.cons (.var 1) .nil))) (.cons (.cst (.int 7)) (.cons (.cst (.int 12)) .nil))))) (.cons (.set (.var 3) (.call 25 (.cons (.var 0) (.cons (.bin .add (.var 1) (.cst (.int 1))) .nil)))) (.cons (.set (.var 4) (.call 31 (.cons (.var 3) (.cons (.var 2) .nil)))) (.cons (.forS (.var 5) (.rng (.cons (.cst (.int 3)) .nil)) (.cons (.set (.tup (.cons (.var 6) (.cons (.var 7) .nil))) (.tup (.cons (.call 36 (.cons (.var 3) (.cons (.var 2) .nil))) (.cons (.call 37 (.cons (.var 3) (.cons (.var 4) .nil))) .nil)))) (.cons (.forS (.var 8) (.rng (.cons (.cst (.int 4)) .nil)) (.cons (.ifs (.not (.val (.call 34 (.cons (.call 35 (.cons (.var 8) (.cons (.var 6) (.cons (.idx (.lst false (.cons (.var 4) (.cons (.var 7) .nil))) (.bin .mod (.var 8) (.cst (.int 2)))) .nil)))) (.cons (.cst (.int 0)) .nil))))) (.cons (.ret (.cst (.bl false))) .nil) .nil) (.cons (.ifs (.and (.val (.cmp .gt (.var 8) (.cst (.int 0)))) (.not (.val (.call 34 (.cons (.call 35 (.cons (.var 8) (.cons (.var 2) (.cons (.var 7) .nil)))) (.cons (.cst (.int 2)) .nil)))))) (.cons (.ret (.cst (.bl false))) .nil) .nil) .nil))) .nil))) (.cons (.ifs (.or (.val (.cmp .ne (.call 20 (.cons (.var 2) (.cons (.var 4) .nil))) (.call 32 (.cons (.var 2) (.cons (.var 4) .nil))))) (.val (.cmp .isn (.call 17 (.cons (.var 2) (.cons (.var 4) .nil))) (.cst (.bl true))))) (.cons (.ret (.cst (.bl false))) .nil) .nil) .nil)))))) (.cons (.ret (.cst (.bl true))) .nil)⟩
def prg:List CF:=[c_0,c_1,c_2,c_3,c_4,c_5,c_6,c_7,c_8,c_9,c_10,c_11,c_12,c_13,c_14,c_15,c_16,c_17,c_18,c_19,c_20,c_21,c_22,c_23,c_24,c_25,c_26,c_27,c_28,c_29,c_30,c_31,c_32,c_33,c_34,c_35,c_36,c_37,yz]
end RP
namespace RP
open PySem PySem.Spec L2 SeqAt R R.EX
open PyProof.Rows hiding St
def top(i:Nat):Stmt:=PySem.Challenge.pw_weblayers_k10_webs_and_layings_refused.main.body.getD i (.Pass ⟨0,0,0,0⟩)
structure Pre (K:PySem.W.Frag) (mg:Str->Option Value):Prop where
 gb:Gb mg
 g_MOST_COST:∃t:Tok,mg "MOST_COST"=some (.int 100 t)
 g_MOST_PLACES:∃t:Tok,mg "MOST_PLACES"=some (.int 12 t)
 g_MOST_PLACES_OF_TIE:∃t:Tok,mg "MOST_PLACES_OF_TIE"=some (.int 4 t)
 g_MOST_TIES:∃t:Tok,mg "MOST_TIES"=some (.int 30 t)
 g_MOST_WEIGHT:∃t:Tok,mg "MOST_WEIGHT"=some (.int 1000000 t)
 x_NoArrows:mg "NoArrows"=some (.ref 117)
 x_NoCall:mg "NoCall"=some (.ref 181)
 x_NoKept:mg "NoKept"=some (.ref 201)
 x_NoLaying:mg "NoLaying"=some (.ref 61)
 x_NoMeasure:mg "NoMeasure"=some (.ref 73)
 x_NoNumber:mg "NoNumber"=some (.ref 141)
 x_NoPart:mg "NoPart"=some (.ref 49)
 x_NoRoad:mg "NoRoad"=some (.ref 93)
 x_NoSize:mg "NoSize"=some (.ref 105)
 x_NoText:mg "NoText"=some (.ref 161)
 x_NoThread:mg "NoThread"=some (.ref 129)
 x_NoWeb:mg "NoWeb"=some (.ref 37)
 x_WebError:mg "WebError"=some (.ref 24)
 x_ValueError:mg "ValueError"=none
 er_NoLaying:R.EX.excRow K 61=some [.ref 24,.type "ValueError",.type "Exception",.type "BaseException",.type "object"]
 er_NoWeb:R.EX.excRow K 37=some [.ref 24,.type "ValueError",.type "Exception",.type "BaseException",.type "object"]
 er_WebError:R.EX.excRow K 24=some [.type "ValueError",.type "Exception",.type "BaseException",.type "object"]
 ei_NoLaying:PySem.W.excIn K 61 [.type "ValueError",.type "Exception",.type "BaseException",.type "object"] "ValueError.__new__"=true
 ek_NoLaying:R.EX.ErrK K 61
 ki_NoLaying_NoArrows:PySem.W.kitOne K (.ref 61) (.ref 117)=some false
 ki_NoLaying_NoCall:PySem.W.kitOne K (.ref 61) (.ref 181)=some false
 ki_NoLaying_NoKept:PySem.W.kitOne K (.ref 61) (.ref 201)=some false
 ki_NoLaying_NoLaying:PySem.W.kitOne K (.ref 61) (.ref 61)=some true
 ki_NoLaying_NoMeasure:PySem.W.kitOne K (.ref 61) (.ref 73)=some false
 ki_NoLaying_NoNumber:PySem.W.kitOne K (.ref 61) (.ref 141)=some false
 ki_NoLaying_NoPart:PySem.W.kitOne K (.ref 61) (.ref 49)=some false
 ki_NoLaying_NoRoad:PySem.W.kitOne K (.ref 61) (.ref 93)=some false
 ki_NoLaying_NoSize:PySem.W.kitOne K (.ref 61) (.ref 105)=some false
 ki_NoLaying_NoText:PySem.W.kitOne K (.ref 61) (.ref 161)=some false
 ki_NoLaying_NoThread:PySem.W.kitOne K (.ref 61) (.ref 129)=some false
 ki_NoLaying_NoWeb:PySem.W.kitOne K (.ref 61) (.ref 37)=some false
 ki_NoLaying_ValueError:PySem.W.kitOne K (.ref 61) (.type "ValueError")=some true
 ki_NoLaying_WebError:PySem.W.kitOne K (.ref 61) (.ref 24)=some true
 ei_NoWeb:PySem.W.excIn K 37 [.type "ValueError",.type "Exception",.type "BaseException",.type "object"] "ValueError.__new__"=true
 ek_NoWeb:R.EX.ErrK K 37
 ki_NoWeb_NoArrows:PySem.W.kitOne K (.ref 37) (.ref 117)=some false
 ki_NoWeb_NoCall:PySem.W.kitOne K (.ref 37) (.ref 181)=some false
 ki_NoWeb_NoKept:PySem.W.kitOne K (.ref 37) (.ref 201)=some false
 ki_NoWeb_NoLaying:PySem.W.kitOne K (.ref 37) (.ref 61)=some false
 ki_NoWeb_NoMeasure:PySem.W.kitOne K (.ref 37) (.ref 73)=some false
 ki_NoWeb_NoNumber:PySem.W.kitOne K (.ref 37) (.ref 141)=some false
 ki_NoWeb_NoPart:PySem.W.kitOne K (.ref 37) (.ref 49)=some false
 ki_NoWeb_NoRoad:PySem.W.kitOne K (.ref 37) (.ref 93)=some false
 ki_NoWeb_NoSize:PySem.W.kitOne K (.ref 37) (.ref 105)=some false
 ki_NoWeb_NoText:PySem.W.kitOne K (.ref 37) (.ref 161)=some false
 ki_NoWeb_NoThread:PySem.W.kitOne K (.ref 37) (.ref 129)=some false
 ki_NoWeb_NoWeb:PySem.W.kitOne K (.ref 37) (.ref 37)=some true
 ki_NoWeb_ValueError:PySem.W.kitOne K (.ref 37) (.type "ValueError")=some true
 ki_NoWeb_WebError:PySem.W.kitOne K (.ref 37) (.ref 24)=some true
 u_0:DefIn K mg "is_whole" (top 15) ["thing"]
 u_1:DefIn K mg "is_whole_within" (top 16) ["thing","least","most"]
 u_2:DefIn K mg "common_divisor" (top 17) ["one","other"]
 u_3:DefIn K mg "lowest" (top 18) ["top","bottom"]
 u_4:DefIn K mg "is_number" (top 19) ["thing"]
 u_5:DefIn K mg "is_amount" (top 20) ["thing"]
 u_7:DefIn K mg "total" (top 22) ["amounts"]
 u_8:DefIn K mg "parted" (top 23) ["one","divisor"]
 u_9:DefIn K mg "is_web" (top 30) ["thing"]
 u_10:DefIn K mg "are_costs" (top 31) ["thing"]
 u_11:DefIn K mg "are_ties" (top 32) ["thing","many"]
 u_12:DefIn K mg "is_tie" (top 33) ["thing","many"]
 u_13:DefIn K mg "are_tied_places" (top 34) ["thing","many"]
 u_14:DefIn K mg "are_places" (top 35) ["thing","many"]
 u_15:DefIn K mg "is_rising" (top 36) ["things"]
 u_16:DefIn K mg "need_web" (top 37) ["thing"]
 u_17:DefIn K mg "is_laying" (top 39) ["web","thing"]
 u_18:DefIn K mg "lays_tie" (top 40) ["tie","thing"]
 u_19:DefIn K mg "need_laying" (top 41) ["web","thing"]
 u_20:DefIn K mg "loads" (top 42) ["web","laying"]
 u_21:DefIn K mg "heights" (top 43) ["web","laying"]
 u_22:DefIn K mg "is_level" (top 44) ["web","laying"]
 u_23:DefIn K mg "lies_low" (top 45) ["places","amounts","high"]
 u_24:DefIn K mg "_law_mixed" (top 47) ["_law_cell"]
 u_25:DefIn K mg "_law_pack" (top 48) ["_law_script","_law_k"]
 u_26:DefIn K mg "_law_take" (top 49) ["_law_pack_here","_law_size"]
 u_27:DefIn K mg "_law_low" (top 50) ["_law_top","_law_bottom"]
 u_28:DefIn K mg "_law_places" (top 51) ["_law_pack_here","_law_many"]
 u_29:DefIn K mg "_law_web" (top 52) ["_law_pack_here","_law_most","_law_ties"]
 u_30:DefIn K mg "_law_more" (top 53) ["_law_one","_law_other"]
 u_31:DefIn K mg "_law_laying" (top 54) ["_law_pack_here","_law_web_here"]
 u_32:DefIn K mg "_law_loads" (top 55) ["_law_web_here","_law_laying_here"]
 u_33:DefIn K mg "_law_odd_amount" (top 56) ["_law_pack_here","_law_one"]
 u_34:DefIn K mg "_law_only" (top 57) ["_law_e","_law_at"]
 u_35:DefIn K mg "_law_caught" (top 58) ["_law_asked","_law_web_here","_law_laying_here"]
 u_36:DefIn K mg "_law_no_web" (top 59) ["_law_pack_here","_law_web_here"]
 u_37:DefIn K mg "_law_no_laying" (top 60) ["_law_pack_here","_law_laying_here"]
 u_38:DefIn K mg "law" (top 61) ["_law_script"]
structure All (P:Program) (w:World) (K:PySem.W.Frag) (mg:Str->Option Value) (base:Heap) (k:Nat) (F:Fs):Prop where
 h_0:FnAt P w K mg base k F 0 "is_whole" ["thing"]
 h_1:FnAt P w K mg base k F 1 "is_whole_within" ["thing","least","most"]
 h_2:FnAt P w K mg base k F 2 "common_divisor" ["one","other"]
 h_3:FnAt P w K mg base k F 3 "lowest" ["top","bottom"]
 h_4:FnAt P w K mg base k F 4 "is_number" ["thing"]
 h_5:FnAt P w K mg base k F 5 "is_amount" ["thing"]
 h_7:FnAt P w K mg base k F 7 "total" ["amounts"]
 h_8:FnAt P w K mg base k F 8 "parted" ["one","divisor"]
 h_9:FnAt P w K mg base k F 9 "is_web" ["thing"]
 h_10:FnAt P w K mg base k F 10 "are_costs" ["thing"]
 h_11:FnAt P w K mg base k F 11 "are_ties" ["thing","many"]
 h_12:FnAt P w K mg base k F 12 "is_tie" ["thing","many"]
 h_13:FnAt P w K mg base k F 13 "are_tied_places" ["thing","many"]
 h_14:FnAt P w K mg base k F 14 "are_places" ["thing","many"]
 h_15:FnAt P w K mg base k F 15 "is_rising" ["things"]
 h_16:FnAt P w K mg base k F 16 "need_web" ["thing"]
 h_17:FnAt P w K mg base k F 17 "is_laying" ["web","thing"]
 h_18:FnAt P w K mg base k F 18 "lays_tie" ["tie","thing"]
 h_19:FnAt P w K mg base k F 19 "need_laying" ["web","thing"]
 h_20:FnAt P w K mg base k F 20 "loads" ["web","laying"]
 h_21:FnAt P w K mg base k F 21 "heights" ["web","laying"]
 h_22:FnAt P w K mg base k F 22 "is_level" ["web","laying"]
 h_23:FnAt P w K mg base k F 23 "lies_low" ["places","amounts","high"]
 h_24:FnAt P w K mg base k F 24 "_law_mixed" ["_law_cell"]
 h_25:FnAt P w K mg base k F 25 "_law_pack" ["_law_script","_law_k"]
 h_26:FnAt P w K mg base k F 26 "_law_take" ["_law_pack_here","_law_size"]
 h_27:FnAt P w K mg base k F 27 "_law_low" ["_law_top","_law_bottom"]
 h_28:FnAt P w K mg base k F 28 "_law_places" ["_law_pack_here","_law_many"]
 h_29:FnAt P w K mg base k F 29 "_law_web" ["_law_pack_here","_law_most","_law_ties"]
 h_30:FnAt P w K mg base k F 30 "_law_more" ["_law_one","_law_other"]
 h_31:FnAt P w K mg base k F 31 "_law_laying" ["_law_pack_here","_law_web_here"]
 h_32:FnAt P w K mg base k F 32 "_law_loads" ["_law_web_here","_law_laying_here"]
 h_33:FnAt P w K mg base k F 33 "_law_odd_amount" ["_law_pack_here","_law_one"]
 h_34:FnAt P w K mg base k F 34 "_law_only" ["_law_e","_law_at"]
 h_35:FnAt P w K mg base k F 35 "_law_caught" ["_law_asked","_law_web_here","_law_laying_here"]
 h_36:FnAt P w K mg base k F 36 "_law_no_web" ["_law_pack_here","_law_web_here"]
 h_37:FnAt P w K mg base k F 37 "_law_no_laying" ["_law_pack_here","_law_laying_here"]
 h_38:FnAt P w K mg base k F 38 "law" ["_law_script"]
 x_16:FnAtX P w K mg base k F 16 "need_web" ["thing"]
 x_17:FnAtX P w K mg base k F 17 "is_laying" ["web","thing"]
 x_19:FnAtX P w K mg base k F 19 "need_laying" ["web","thing"]
 x_20:FnAtX P w K mg base k F 20 "loads" ["web","laying"]
 x_21:FnAtX P w K mg base k F 21 "heights" ["web","laying"]
 x_22:FnAtX P w K mg base k F 22 "is_level" ["web","laying"]
def sc_0:FnScope ["thing"] ["thing"] (defScope (top 15)):=⟨rfl,rfl,rfl,by decide +kernel,rfl,by decide +kernel,by decide +kernel⟩
def sc_1:FnScope ["thing","least","most"] ["thing","least","most"] (defScope (top 16)):=⟨rfl,rfl,rfl,by decide +kernel,rfl,by decide +kernel,by decide +kernel⟩
def sc_2:FnScope ["one","other"] ["one","other"] (defScope (top 17)):=⟨rfl,rfl,rfl,by decide +kernel,rfl,by decide +kernel,by decide +kernel⟩
def sc_3:FnScope ["top","bottom","divisor"] ["top","bottom"] (defScope (top 18)):=⟨rfl,rfl,rfl,by decide +kernel,rfl,by decide +kernel,by decide +kernel⟩
def sc_4:FnScope ["thing","top","bottom"] ["thing"] (defScope (top 19)):=⟨rfl,rfl,rfl,by decide +kernel,rfl,by decide +kernel,by decide +kernel⟩
def sc_5:FnScope ["thing"] ["thing"] (defScope (top 20)):=⟨rfl,rfl,rfl,by decide +kernel,rfl,by decide +kernel,by decide +kernel⟩
def sc_7:FnScope ["amounts","top","bottom","one"] ["amounts"] (defScope (top 22)):=⟨rfl,rfl,rfl,by decide +kernel,rfl,by decide +kernel,by decide +kernel⟩
def sc_8:FnScope ["one","divisor"] ["one","divisor"] (defScope (top 23)):=⟨rfl,rfl,rfl,by decide +kernel,rfl,by decide +kernel,by decide +kernel⟩
def sc_9:FnScope ["thing","costs","ties"] ["thing"] (defScope (top 30)):=⟨rfl,rfl,rfl,by decide +kernel,rfl,by decide +kernel,by decide +kernel⟩
def sc_10:FnScope ["thing"] ["thing"] (defScope (top 31)):=⟨rfl,rfl,rfl,by decide +kernel,rfl,by decide +kernel,by decide +kernel⟩
def sc_11:FnScope ["thing","many"] ["thing","many"] (defScope (top 32)):=⟨rfl,rfl,rfl,by decide +kernel,rfl,by decide +kernel,by decide +kernel⟩
def sc_12:FnScope ["thing","many","places","heavy"] ["thing","many"] (defScope (top 33)):=⟨rfl,rfl,rfl,by decide +kernel,rfl,by decide +kernel,by decide +kernel⟩
def sc_13:FnScope ["thing","many"] ["thing","many"] (defScope (top 34)):=⟨rfl,rfl,rfl,by decide +kernel,rfl,by decide +kernel,by decide +kernel⟩
def sc_14:FnScope ["thing","many"] ["thing","many"] (defScope (top 35)):=⟨rfl,rfl,rfl,by decide +kernel,rfl,by decide +kernel,by decide +kernel⟩
def sc_15:FnScope ["things"] ["things"] (defScope (top 36)):=⟨rfl,rfl,rfl,by decide +kernel,rfl,by decide +kernel,by decide +kernel⟩
def sc_16:FnScope ["thing"] ["thing"] (defScope (top 37)):=⟨rfl,rfl,rfl,by decide +kernel,rfl,by decide +kernel,by decide +kernel⟩
def sc_17:FnScope ["web","thing","ties"] ["web","thing"] (defScope (top 39)):=⟨rfl,rfl,rfl,by decide +kernel,rfl,by decide +kernel,by decide +kernel⟩
def sc_18:FnScope ["tie","thing","places","heavy"] ["tie","thing"] (defScope (top 40)):=⟨rfl,rfl,rfl,by decide +kernel,rfl,by decide +kernel,by decide +kernel⟩
def sc_19:FnScope ["web","thing"] ["web","thing"] (defScope (top 41)):=⟨rfl,rfl,rfl,by decide +kernel,rfl,by decide +kernel,by decide +kernel⟩
def sc_20:FnScope ["web","laying","lying","places","heavy","amounts","place","amount"] ["web","laying"] (defScope (top 42)):=⟨rfl,rfl,rfl,by decide +kernel,rfl,by decide +kernel,by decide +kernel⟩
def sc_21:FnScope ["web","laying"] ["web","laying"] (defScope (top 43)):=⟨rfl,rfl,rfl,by decide +kernel,rfl,by decide +kernel,by decide +kernel⟩
def sc_22:FnScope ["web","laying","high"] ["web","laying"] (defScope (top 44)):=⟨rfl,rfl,rfl,by decide +kernel,rfl,by decide +kernel,by decide +kernel⟩
def sc_23:FnScope ["places","amounts","high","bearing"] ["places","amounts","high"] (defScope (top 45)):=⟨rfl,rfl,rfl,by decide +kernel,rfl,by decide +kernel,by decide +kernel⟩
def sc_24:FnScope ["_law_cell"] ["_law_cell"] (defScope (top 47)):=⟨rfl,rfl,rfl,by decide +kernel,rfl,by decide +kernel,by decide +kernel⟩
def sc_25:FnScope ["_law_script","_law_k","_law_found","_law_at","_law_cell"] ["_law_script","_law_k"] (defScope (top 48)):=⟨rfl,rfl,rfl,by decide +kernel,rfl,by decide +kernel,by decide +kernel⟩
def sc_26:FnScope ["_law_pack_here","_law_size","_law_digit"] ["_law_pack_here","_law_size"] (defScope (top 49)):=⟨rfl,rfl,rfl,by decide +kernel,rfl,by decide +kernel,by decide +kernel⟩
def sc_27:FnScope ["_law_top","_law_bottom","_law_one","_law_other"] ["_law_top","_law_bottom"] (defScope (top 50)):=⟨rfl,rfl,rfl,by decide +kernel,rfl,by decide +kernel,by decide +kernel⟩
def sc_28:FnScope ["_law_pack_here","_law_many","_law_size","_law_left","_law_found"] ["_law_pack_here","_law_many"] (defScope (top 51)):=⟨rfl,rfl,rfl,by decide +kernel,rfl,by decide +kernel,by decide +kernel⟩
def sc_29:FnScope ["_law_pack_here","_law_most","_law_ties","_law_many","_law_costs","_law_known","_law_turn","_law_some"] ["_law_pack_here","_law_most","_law_ties"] (defScope (top 52)):=⟨rfl,rfl,rfl,by decide +kernel,rfl,by decide +kernel,by decide +kernel⟩
def sc_30:FnScope ["_law_one","_law_other"] ["_law_one","_law_other"] (defScope (top 53)):=⟨rfl,rfl,rfl,by decide +kernel,rfl,by decide +kernel,by decide +kernel⟩
def sc_31:FnScope ["_law_pack_here","_law_web_here","_law_found","_law_some","_law_mass","_law_pick","_law_shares"] ["_law_pack_here","_law_web_here"] (defScope (top 54)):=⟨rfl,rfl,rfl,by decide +kernel,rfl,by decide +kernel,by decide +kernel⟩
def sc_32:FnScope ["_law_web_here","_law_laying_here","_law_found","_law_some","_law_mass","_law_shares","_law_place","_law_one"] ["_law_web_here","_law_laying_here"] (defScope (top 55)):=⟨rfl,rfl,rfl,by decide +kernel,rfl,by decide +kernel,by decide +kernel⟩
def sc_33:FnScope ["_law_pack_here","_law_one","_law_top","_law_bottom","_law_some"] ["_law_pack_here","_law_one"] (defScope (top 56)):=⟨rfl,rfl,rfl,by decide +kernel,rfl,by decide +kernel,by decide +kernel⟩
def sc_34:FnScope ["_law_e","_law_at","_law_found"] ["_law_e","_law_at"] (defScope (top 57)):=⟨rfl,rfl,rfl,by decide +kernel,rfl,by decide +kernel,by decide +kernel⟩
def sc_35:FnScope ["_law_asked","_law_web_here","_law_laying_here","_law_caught_here","_law_e"] ["_law_asked","_law_web_here","_law_laying_here"] (defScope (top 58)):=⟨rfl,rfl,rfl,by decide +kernel,rfl,by decide +kernel,by decide +kernel⟩
def sc_36:FnScope ["_law_pack_here","_law_web_here","_law_costs","_law_ties","_law_at","_law_odd","_law_bad","_law_some","_law_mass"] ["_law_pack_here","_law_web_here"] (defScope (top 59)):=⟨rfl,rfl,rfl,by decide +kernel,rfl,by decide +kernel,by decide +kernel⟩
def sc_37:FnScope ["_law_pack_here","_law_laying_here","_law_some","_law_at","_law_shares","_law_place","_law_more_here","_law_odd","_law_parts"] ["_law_pack_here","_law_laying_here"] (defScope (top 60)):=⟨rfl,rfl,rfl,by decide +kernel,rfl,by decide +kernel,by decide +kernel⟩
def sc_38:FnScope ["_law_script","_law_k","_law_web_here","_law_pack_here","_law_laying_here","_law_turn","_law_bad","_law_odd","_law_asked"] ["_law_script"] (defScope (top 61)):=⟨rfl,rfl,rfl,by decide +kernel,rfl,by decide +kernel,by decide +kernel⟩
section
variable{P:Program}{w:World}{K:PySem.W.Frag}{mg:Str->Option Value}{base:Heap}{k n:Nat}{F:Fs}{f c t:Addr}{A:Around}{outer:List Env}{s:Shared}{H:Hp}{E:XK}
abbrev Bdy(P:Program)(w:World)(K:PySem.W.Frag)(mg:Str->Option Value)(base:Heap)(n:Nat)(F:Fs)(f c:Addr)(A:Around)(outer:List Env)(s:Shared)(H:Hp)(E:XK)(N:List Str)(x:Str)(i:Nat)(b:CSs):Prop:=QSs (cxOf CX0 P w K mg base N x (defScope (top i)) f (.ref c) A outer s H E).nox (defBody (top i)) (TSm (exs F n b))
abbrev Rm(k:Nat)(A:Around)(s:Shared)(f c:Addr)(x:Str)(i:Nat):Prop:=Room (k+2) (A.deeper (envOfC x (defScope (top i)) s.heap.objs.size f (.ref c)))
abbrev BdyX(P:Program)(w:World)(K:PySem.W.Frag)(mg:Str->Option Value)(base:Heap)(n:Nat)(F:Fs)(f c:Addr)(A:Around)(outer:List Env)(s:Shared)(H:Hp)(E:XK)(N:List Str)(x:Str)(i:Nat)(b:CSs):Prop:=PSs (cxOf (CXR P w) P w K mg base N x (defScope (top i)) f (.ref c) A outer s H E) (defBody (top i)) (TSX (exs F n b) E)
variable(p:Pre K mg)(kb:K.In base)(a:All P w K mg base k F)(tab:codeTab K c t=true)
include p kb a tab
theorem b_0(b:Rm k A s f c "is_whole" 15):Bdy P w K mg base n F f c A outer s H E ["thing"] "is_whole" 15 c_0.body :=
 qf (qw (jV (yM .int p.gb (qc 0)) (yL (ql6 (yM .bool p.gb (qc 0)))))) qh
theorem b_1(b:Rm k A s f c "is_whole_within" 16):Bdy P w K mg base n F f c A outer s H E ["thing","least","most"] "is_whole_within" 16 c_1.body :=
 qf (qw (jV (qi a.h_0 (m2 b) (qb (qc 0) qd)) (yL (qim .le .le b (qc 1) (qc 0) (qc 2))))) qh
theorem b_2(b:Rm k A s f c "common_divisor" 17):Bdy P w K mg base n F f c A outer s H E ["one","other"] "common_divisor" 17 c_2.body :=
 qf (qdZ (zt (qc 1)) (qf (qd1 0 1 (qb (qc 1) (qb (qk .mod (qc 0) (qc 1)) qd))) qh)) (qf (qw (qc 0)) qh)
theorem b_3(b:Rm k A s f c "lowest" 18):Bdy P w K mg base n F f c A outer s H E ["top","bottom","divisor"] "lowest" 18 c_3.body :=
 qf (qD 2 (qi a.h_2 (m2 b) (qb (qd0 p.gb (qb (qc 0) qd)) (qb (qc 1) qd)))) (qf (qw (ql (qb (qk .fdiv (qc 0) (qc 2)) (qb (qk .fdiv (qc 1) (qc 2)) qd)))) qh)
theorem b_4(b:Rm k A s f c "is_number" 19):Bdy P w K mg base n F f c A outer s H E ["thing","top","bottom"] "is_number" 19 c_4.body :=
 qf (z_if (Qpt (w_or (zv (zt (yM .tuple p.gb (qc 0)))) (yx (zu .ne b (q8 p.gb (qb (qc 0) qd)) qg)))) (qf (qw qO) qh) qh) (qf (yg (qc 0) (qU (qm (qo 1) (qm (qo 2) qT)))) (qf (z_if (Qpt (w_or (zv (zt (qi a.h_0 (m2 b) (qb (qc 1) qd)))) (w_or (zv (zt (qi a.h_0 (m2 b) (qb (qc 2) qd)))) (yx (zu .lt b (qc 2) qg))))) (qf (qw qO) qh) qh) (qf (qw (qao .eq b (qi a.h_2 (m2 b) (qb (qd0 p.gb (qb (qc 1) qd)) (qb (qc 2) qd))) qg)) qh)))
theorem b_5(b:Rm k A s f c "is_amount" 20):Bdy P w K mg base n F f c A outer s H E ["thing"] "is_amount" 20 c_5.body :=
 qf (qw (jV (qi a.h_4 (m2 b) (qb (qc 0) qd)) (yL (qao .ge b (qG b (qc 0) qg) qg)))) qh
theorem b_7(b:Rm k A s f c "total" 22):Bdy P w K mg base n F f c A outer s H E ["amounts","top","bottom","one"] "total" 22 c_7.body :=
 qf (yg (ql (qb qg (qb qg qd))) (qU (qm (qo 1) (qm (qo 2) qT)))) (qf (qkz (qc 0) (qo 3) (qf (yg (qi a.h_3 (m2 b) (qb (qk .add (qk .mul (qc 1) (qG b (qc 3) qg)) (qk .mul (qG b (qc 3) qg) (qc 2))) (qb (qk .mul (qc 2) (qG b (qc 3) qg)) qd))) (qU (qm (qo 1) (qm (qo 2) qT)))) qh)) (qf (qw (ql (qb (qc 1) (qb (qc 2) qd)))) qh))
theorem b_8(b:Rm k A s f c "parted" 23):Bdy P w K mg base n F f c A outer s H E ["one","divisor"] "parted" 23 c_8.body :=
 qf (qw (qi a.h_3 (m2 b) (qb (qG b (qc 0) qg) (qb (qk .mul (qG b (qc 0) qg) (qc 1)) qd)))) qh
theorem b_9(b:Rm k A s f c "is_web" 30):Bdy P w K mg base n F f c A outer s H E ["thing","costs","ties"] "is_web" 30 c_9.body :=
 qf (z_if (Qpt (w_or (zv (zt (yM .tuple p.gb (qc 0)))) (yx (zu .ne b (q8 p.gb (qb (qc 0) qd)) qg)))) (qf (qw qO) qh) qh) (qf (yg (qc 0) (qU (qm (qo 1) (qm (qo 2) qT)))) (qf (qw (jV (qi a.h_10 (m2 b) (qb (qc 1) qd)) (yL (qi a.h_11 (m2 b) (qb (qc 2) (qb (q8 p.gb (qb (qc 1) qd)) qd)))))) qh))
theorem b_10(b:Rm k A s f c "are_costs" 31):Bdy P w K mg base n F f c A outer s H E ["thing"] "are_costs" 31 c_10.body :=
 qf (z_if (Qpt (w_or (zv (zt (yM .tuple p.gb (qc 0)))) (yx (zv (qin .le .le b qg (q8 p.gb (qb (qc 0) qd)) (qan (p.g_MOST_PLACES).choose_spec)))))) (qf (qw qO) qh) qh) (qf (qw (yp [] [] ["one"] b p.gb rfl tab (yy (qc 0)) (λ_ _ _ _ _ _ _ _=>qo 0) (λ_ _ _ _ _ _ _ _=>zk) (λ_ _ _ _ _ _ _ _=>qi a.h_1 (m1 (qP b)) (qb (qc 0) (qb qg (qb (qan (p.g_MOST_COST).choose_spec) qd)))))) qh)
theorem b_11(b:Rm k A s f c "are_ties" 32):Bdy P w K mg base n F f c A outer s H E ["thing","many"] "are_ties" 32 c_11.body :=
 qf (z_if (Qpt (w_or (zv (zt (yM .tuple p.gb (qc 0)))) (yx (zu .gt b (q8 p.gb (qb (qc 0) qd)) (qan (p.g_MOST_TIES).choose_spec))))) (qf (qw qO) qh) qh) (qf (z_if (zv (zt (yp [1] ["many"] ["one"] b p.gb rfl tab (yy (qc 0)) (λ_ _ _ _ _ _ _ _=>qo 1) (λ_ _ _ _ _ _ _ _=>zk) (λ_ _ _ _ _ _ _ _=>qi a.h_12 (m1 (qP b)) (qb (qc 1) (qb (qc 0) qd)))))) (qf (qw qO) qh) qh) (qf (qw (qi a.h_15 (m2 b) (qb (k_lc false [] [] ["places","heavy"] (yy (qc 0)) (λ_ _ _ _ _=>qU (qm (qo 0) (qm (qo 1) qT))) (λ_ _ _ _ _=>zk) (λ_ _ _ _ _=>qc 0)) qd))) qh))
theorem b_12(b:Rm k A s f c "is_tie" 33):Bdy P w K mg base n F f c A outer s H E ["thing","many","places","heavy"] "is_tie" 33 c_12.body :=
 qf (z_if (Qpt (w_or (zv (zt (yM .tuple p.gb (qc 0)))) (yx (zu .ne b (q8 p.gb (qb (qc 0) qd)) qg)))) (qf (qw qO) qh) qh) (qf (yg (qc 0) (qU (qm (qo 2) (qm (qo 3) qT)))) (qf (qw (jV (qi a.h_13 (m2 b) (qb (qc 2) (qb (qc 1) qd))) (yL (qi a.h_1 (m2 b) (qb (qc 3) (qb qg (qb (qan (p.g_MOST_WEIGHT).choose_spec) qd))))))) qh))
theorem b_13(b:Rm k A s f c "are_tied_places" 34):Bdy P w K mg base n F f c A outer s H E ["thing","many"] "are_tied_places" 34 c_13.body :=
 qf (qw (jV (qi a.h_14 (m2 b) (qb (qc 0) (qb (qc 1) qd))) (yL (qao .le b (q8 p.gb (qb (qc 0) qd)) (qan (p.g_MOST_PLACES_OF_TIE).choose_spec))))) qh
theorem b_14(b:Rm k A s f c "are_places" 35):Bdy P w K mg base n F f c A outer s H E ["thing","many"] "are_places" 35 c_14.body :=
 qf (z_if (Qpt (w_or (zv (zt (yM .tuple p.gb (qc 0)))) (yx (zv (zt (qc 0)))))) (qf (qw qO) qh) qh) (qf (qw (jV (yp [1] ["many"] ["one"] b p.gb rfl tab (yy (qc 0)) (λ_ _ _ _ _ _ _ _=>qo 1) (λ_ _ _ _ _ _ _ _=>zk) (λ_ _ _ _ _ _ _ _=>qi a.h_1 (m1 (qP b)) (qb (qc 1) (qb qg (qb (qk .sub (qc 0) qg) qd))))) (yL (qi a.h_15 (m2 b) (qb (qc 0) qd))))) qh)
theorem b_15(b:Rm k A s f c "is_rising" 36):Bdy P w K mg base n F f c A outer s H E ["things"] "is_rising" 36 c_15.body :=
 qf (qw (yp [] [] ["one","other"] b p.gb rfl tab (zR p.gb (qc 0) (zh (qc 0) (k_os qg) (k_on))) (λ_ _ _ _ _ _ _ _=>qU (qm (qo 0) (qm (qo 1) qT))) (λ_ _ _ _ _ _ _ _=>zk) (λ_ _ _ _ _ _ _ _=>qao .lt (qP b) (qc 0) (qc 1)))) qh
theorem b_16(b:Rm k A s f c "need_web" 37):Bdy P w K mg base n F f c A outer s H E ["thing"] "need_web" 37 c_16.body :=
 qf (z_if (qji (zv (zt (qi a.h_9 (m2 b) (qb (qc 0) qd))))) (qf (qd6) qh) qh) qh
theorem qmn(b:Rm k A s f c "need_web" 37):BdyX P w K mg base n F f c A outer s H E ["thing"] "need_web" 37 c_16.body :=
 qV (x_if (qgK (zv (zt (qi a.h_9 (m2 b) (qb (qc 0) qd))))) (qV (qd4 isDef (qgO kb p.x_NoWeb p.ei_NoWeb) uI rfl uI (qb qcl qd) (λ_ _=>⟨_,rfl⟩) (by decide)) (zL)) (zL)) (zL)
theorem b_17(b:Rm k A s f c "is_laying" 39):Bdy P w K mg base n F f c A outer s H E ["web","thing","ties"] "is_laying" 39 c_17.body :=
 qf (yN (qi a.h_16 (m2 b) (qb (qc 0) qd))) (qf (qay (qD 2 (qG b (qc 0) qg))) (qf (z_if (qji (Qpt (w_or (zv (zt (yM .tuple p.gb (qc 1)))) (yx (zu .ne b (q8 p.gb (qb (qc 1) qd)) (q8 p.gb (qb (qc 2) qd))))))) (qf (qay (qw qO)) qh) qh) (qf (qay (qw (yp [] [] ["tie","amounts"] b p.gb rfl tab (zR p.gb (qc 2) (qc 1)) (λ_ _ _ _ _ _ _ _=>qU (qm (qo 0) (qm (qo 1) qT))) (λ_ _ _ _ _ _ _ _=>zk) (λ_ _ _ _ _ _ _ _=>qi a.h_18 (m1 (qP b)) (qb (qc 0) (qb (qc 1) qd)))))) qh)))
theorem qmo(b:Rm k A s f c "is_laying" 39):BdyX P w K mg base n F f c A outer s H E ["web","thing","ties"] "is_laying" 39 c_17.body :=
 qV (x_expr (qaw isDef a.x_16 (m2 b) (qb (qc 0) qd) (zd (yr)))) (qV (qav (qD 2 (qG b (qc 0) qg))) (qV (x_if (qgK (Qpt (w_or (zv (zt (yM .tuple p.gb (qc 1)))) (yx (zu .ne b (q8 p.gb (qb (qc 1) qd)) (q8 p.gb (qb (qc 2) qd))))))) (qV (qav (qw qO)) (zL)) (zL)) (qV (qav (qw (yp [] [] ["tie","amounts"] b p.gb rfl tab (zR p.gb (qc 2) (qc 1)) (λ_ _ _ _ _ _ _ _=>qU (qm (qo 0) (qm (qo 1) qT))) (λ_ _ _ _ _ _ _ _=>zk) (λ_ _ _ _ _ _ _ _=>qi a.h_18 (m1 (qP b)) (qb (qc 0) (qb (qc 1) qd)))))) (zL))))
theorem b_18(b:Rm k A s f c "lays_tie" 40):Bdy P w K mg base n F f c A outer s H E ["tie","thing","places","heavy"] "lays_tie" 40 c_18.body :=
 qf (yg (qc 0) (qU (qm (qo 2) (qm (qo 3) qT)))) (qf (z_if (Qpt (w_or (zv (zt (yM .tuple p.gb (qc 1)))) (yx (zu .ne b (q8 p.gb (qb (qc 1) qd)) (q8 p.gb (qb (qc 2) qd)))))) (qf (qw qO) qh) qh) (qf (qw (jV (yp [] [] ["one"] b p.gb rfl tab (yy (qc 1)) (λ_ _ _ _ _ _ _ _=>qo 0) (λ_ _ _ _ _ _ _ _=>zk) (λ_ _ _ _ _ _ _ _=>qi a.h_5 (m1 (qP b)) (qb (qc 0) qd))) (yL (qao .eq b (qi a.h_7 (m2 b) (qb (qc 1) qd)) (ql (qb (qc 3) (qb qg qd))))))) qh))
theorem b_19(b:Rm k A s f c "need_laying" 41):Bdy P w K mg base n F f c A outer s H E ["web","thing"] "need_laying" 41 c_19.body :=
 qf (z_if (zv (zt (qi a.h_17 (m2 b) (qb (qc 0) (qb (qc 1) qd))))) (qf (qd6) qh) qh) qh
theorem qmp(b:Rm k A s f c "need_laying" 41):BdyX P w K mg base n F f c A outer s H E ["web","thing"] "need_laying" 41 c_19.body :=
 qV (x_if (qmg (qmf (qaw isDef a.x_17 (m2 b) (qb (qc 0) (qb (qc 1) qd)) (zd (zd (yr)))))) (qV (qd4 isDef (qgO kb p.x_NoLaying p.ei_NoLaying) uI rfl uI (qb qcl qd) (λ_ _=>⟨_,rfl⟩) (by decide)) (zL)) (zL)) (zL)
theorem b_20(b:Rm k A s f c "loads" 42):Bdy P w K mg base n F f c A outer s H E ["web","laying","lying","places","heavy","amounts","place","amount"] "loads" 42 c_20.body :=
 qf (yN (qi a.h_19 (m2 b) (qb (qc 0) (qb (qc 1) qd)))) (qf (qay (qcp 2 (qG b (qc 0) qg) (λ_ _ _ _ _=>qgE 0))) (qf (qay (zS (zR p.gb (qG b (qc 0) qg) (qc 1)) (qU (qm (qU (qm (qo 3) (qm (qo 4) qT))) (qm (qo 5) qT))) (qf (zS (zR p.gb (qc 3) (qc 5)) (qU (qm (qo 6) (qm (qo 7) qT))) (qf (yN (qa5 (qG b (qc 2) (qc 6)) (qc 7))) qh)) qh))) (qf (qay (qw (qa7 [] [] ["amounts"] b p.gb rfl tab (qc 2) (λ_ _ _ _ _ _ _ _=>qo 0) (λ_ _ _ _ _ _ _ _=>zk) (λ_ _ _ _ _ _ _ _=>qi a.h_7 (m1 (qP b)) (qb (qc 0) qd))))) qh)))
theorem qmq(b:Rm k A s f c "loads" 42):BdyX P w K mg base n F f c A outer s H E ["web","laying","lying","places","heavy","amounts","place","amount"] "loads" 42 c_20.body :=
 qV (x_expr (qaw isDef a.x_19 (m2 b) (qb (qc 0) (qb (qc 1) qd)) (zd (zd (yr))))) (qV (qav (qcp 2 (qG b (qc 0) qg) (λ_ _ _ _ _=>qgE 0))) (qV (qav (zS (zR p.gb (qG b (qc 0) qg) (qc 1)) (qU (qm (qU (qm (qo 3) (qm (qo 4) qT))) (qm (qo 5) qT))) (qf (zS (zR p.gb (qc 3) (qc 5)) (qU (qm (qo 6) (qm (qo 7) qT))) (qf (yN (qa5 (qG b (qc 2) (qc 6)) (qc 7))) qh)) qh))) (qV (qav (qw (qa7 [] [] ["amounts"] b p.gb rfl tab (qc 2) (λ_ _ _ _ _ _ _ _=>qo 0) (λ_ _ _ _ _ _ _ _=>zk) (λ_ _ _ _ _ _ _ _=>qi a.h_7 (m1 (qP b)) (qb (qc 0) qd))))) (zL))))
theorem b_21(b:Rm k A s f c "heights" 43):Bdy P w K mg base n F f c A outer s H E ["web","laying"] "heights" 43 c_21.body :=
 qf (qmm (qw (qco [] [] ["load","cost"] b p.gb rfl tab (zR p.gb (qi a.h_20 (m2 b) (qb (qc 0) (qb (qc 1) qd))) (qG b (qc 0) qg)) (λ_ _ _ _ _ _ _ _=>qU (qm (qo 0) (qm (qo 1) qT))) (λ_ _ _ _ _ _ _ _=>zk) (λ_ _ _ _ _ _ _ _=>qi a.h_8 (m1 (qP b)) (qb (qc 0) (qb (qc 1) qd)))))) qh
theorem qmr(b:Rm k A s f c "heights" 43):BdyX P w K mg base n F f c A outer s H E ["web","laying"] "heights" 43 c_21.body :=
 qV (qml (qw (qco [] [] ["load","cost"] b p.gb rfl tab (zR p.gb (qi a.h_20 (m2 b) (qb (qc 0) (qb (qc 1) qd))) (qG b (qc 0) qg)) (λ_ _ _ _ _ _ _ _=>qU (qm (qo 0) (qm (qo 1) qT))) (λ_ _ _ _ _ _ _ _=>zk) (λ_ _ _ _ _ _ _ _=>qi a.h_8 (m1 (qP b)) (qb (qc 0) (qb (qc 1) qd))))) (qmk (qjj (ty:="tuple") p.gb.tuple (by decide +kernel) (qd7 (qmj (fr:=[]) (xs:=[]) (ts:=["load","cost"]) (qjj (ty:="zip") p.gb.zip (by decide +kernel) (qd7 (q_of (qaw isDef a.x_20 (m2 b) (qb (qc 0) (qb (qc 1) qd)) (zd (zd (yr))))))) b.depth))))) (zL)
theorem b_22(b:Rm k A s f c "is_level" 44):Bdy P w K mg base n F f c A outer s H E ["web","laying","high"] "is_level" 44 c_22.body :=
 qf (qD 2 (qi a.h_21 (m2 b) (qb (qc 0) (qb (qc 1) qd)))) (qf (qay (qw (yp [2] ["high"] ["tie","amounts"] b p.gb rfl tab (zR p.gb (qG b (qc 0) qg) (qc 1)) (λ_ _ _ _ _ _ _ _=>qU (qm (qo 1) (qm (qo 2) qT))) (λ_ _ _ _ _ _ _ _=>zk) (λ_ _ _ _ _ _ _ _=>qi a.h_23 (m1 (qP b)) (qb (qG (qP b) (qc 1) qg) (qb (qc 2) (qb (qc 0) qd))))))) qh)
theorem qms(b:Rm k A s f c "is_level" 44):BdyX P w K mg base n F f c A outer s H E ["web","laying","high"] "is_level" 44 c_22.body :=
 qV (x_set 2 (qaw isDef a.x_21 (m2 b) (qb (qc 0) (qb (qc 1) qd)) (zd (zd (yr))))) (qV (qav (qw (yp [2] ["high"] ["tie","amounts"] b p.gb rfl tab (zR p.gb (qG b (qc 0) qg) (qc 1)) (λ_ _ _ _ _ _ _ _=>qU (qm (qo 1) (qm (qo 2) qT))) (λ_ _ _ _ _ _ _ _=>zk) (λ_ _ _ _ _ _ _ _=>qi a.h_23 (m1 (qP b)) (qb (qG (qP b) (qc 1) qg) (qb (qc 2) (qb (qc 0) qd))))))) (zL))
theorem b_23(b:Rm k A s f c "lies_low" 45):Bdy P w K mg base n F f c A outer s H E ["places","amounts","high","bearing"] "lies_low" 45 c_23.body :=
 qf (qby 3 false [] [] ["place","amount"] (zR p.gb (qc 0) (qc 1)) (λ_ _ _ _ _=>qU (qm (qo 0) (qm (qo 1) qT))) (λ_ _ _ _ _=>qkn (zu .gt b (qG b (qc 1) qg) qg) zk) (λ_ _ _ _ _=>qc 0)) (qf (qio) qh)
theorem b_24(b:Rm k A s f c "_law_mixed" 47):Bdy P w K mg base n F f c A outer s H E ["_law_cell"] "_law_mixed" 47 c_24.body :=
 qf (qw (qk .mod (qk .mul (qk .mod (qc 0) (qk .pow qg qg)) qg) (qk .pow qg qg))) qh
theorem b_25(b:Rm k A s f c "_law_pack" 48):Bdy P w K mg base n F f c A outer s H E ["_law_script","_law_k","_law_found","_law_at","_law_cell"] "_law_pack" 48 c_25.body :=
 qf (qD 2 qg) (qf (zS (yy (qM false (qb (qk .add (qc 1) qg) (qb (qc 1) qd)))) (qo 3) (qf (qD 4 (qG b (qk .add (zh (qc 0) (k_os (qc 3)) (k_os (qk .add (qc 3) qg))) (qM false (qb (qk .add (qk .add (qk .mul qg (qc 3)) qg) (qk .mul qg (qG b (qk .add (qc 0) (qM false (qb qg qd))) qg))) qd))) qg)) (qf (qD 2 (qk .add (qk .mul (qc 2) (qk .pow qg qg)) (qi a.h_24 (m2 b) (qb (qc 4) qd)))) qh))) (qf (qw (qM true (qb (qc 2) qd))) qh))
theorem b_26(b:Rm k A s f c "_law_take" 49):Bdy P w K mg base n F f c A outer s H E ["_law_pack_here","_law_size","_law_digit"] "_law_take" 49 c_26.body :=
 qf (yg (qgz p.gb (qb (qG b (qc 0) qg) (qb (qc 1) qd))) (qU (qm (qcm b (qc 0) qg) (qm (qo 2) qT)))) (qf (qw (qc 2)) qh)
theorem b_27(b:Rm k A s f c "_law_low" 50):Bdy P w K mg base n F f c A outer s H E ["_law_top","_law_bottom","_law_one","_law_other"] "_law_low" 50 c_27.body :=
 qf (qd1 2 3 (qb (qd0 p.gb (qb (qc 0) qd)) (qb (qd0 p.gb (qb (qc 1) qd)) qd))) (qf (qdZ (zu .ne b (qc 3) qg) (qf (qd1 2 3 (qb (qc 3) (qb (qk .mod (qc 2) (qc 3)) qd))) qh)) (qf (z_if (zu .lt b (qc 1) qg) (qf (qD 2 (qk .sub qg (qc 2))) qh) qh) (qf (qw (ql (qb (qk .fdiv (qc 0) (qc 2)) (qb (qk .fdiv (qc 1) (qc 2)) qd)))) qh)))
theorem b_28(b:Rm k A s f c "_law_places" 51):Bdy P w K mg base n F f c A outer s H E ["_law_pack_here","_law_many","_law_size","_law_left","_law_found"] "_law_places" 51 c_28.body :=
 qf (qD 2 (qG b (qM false (qb qg (qb qg (qb qg (qb qg (qb qg (qb qg (qb qg (qb qg qd))))))))) (qi a.h_26 (m2 b) (qb (qc 0) (qb qg qd))))) (qf (qD 3 (qkl true p.gb (qb (qc 1) qd))) (qf (qby 4 false [3,0] ["_law_left","_law_pack_here"] ["_law_turn"] (qaq p.gb (qb (qjg p.gb (qb (qc 2) (qb (qc 1) qd))) qd)) (λ_ _ _ _ _=>qo 2) (λ_ _ _ _ _=>zk) (λ_ _ _ _ _=>ql7 (qc 0) (qi a.h_26 (m2 b) (qb (qc 1) (qb (q8 p.gb (qb (qc 0) qd)) qd))))) (qf (qw (yX p.gb (qb (qcn false p.gb (qb (qc 4) qd)) qd))) qh)))
theorem b_29(b:Rm k A s f c "_law_web" 52):Bdy P w K mg base n F f c A outer s H E ["_law_pack_here","_law_most","_law_ties","_law_many","_law_costs","_law_known","_law_turn","_law_some"] "_law_web" 52 c_29.body :=
 qf (qD 3 (qk .add qg (qi a.h_26 (m2 b) (qb (qc 0) (qb (qc 1) qd))))) (qf (qD 4 (qk .mul (qM false (qb qg qd)) (qc 3))) (qf (z_if (zu .eq b (qi a.h_26 (m2 b) (qb (qc 0) (qb qg qd))) qg) (qf (qby 4 false [0] ["_law_pack_here"] ["_law_place"] (qaq p.gb (qb (qc 3) qd)) (λ_ _ _ _ _=>qo 1) (λ_ _ _ _ _=>zk) (λ_ _ _ _ _=>qk .add qg (qi a.h_26 (m2 b) (qb (qc 0) (qb qg qd))))) qh) qh) (qf (qD 5 (qgv true)) (qf (zS (qaq p.gb (qb (qi a.h_26 (m2 b) (qb (qc 0) (qb (qk .add (qc 2) qg) qd))) qd)) (qo 6) (qf (qD 7 (qi a.h_28 (m2 b) (qb (qc 0) (qb (qc 3) qd)))) (qf (yg (qk .add qg (qi a.h_26 (m2 b) (qb (qc 0) (qb qg qd)))) (qcm b (qc 5) (qc 7))) qh))) (qf (qw (ql (qb (yX p.gb (qb (qc 4) qd)) (qb (yX p.gb (qb (k_lc false [5] ["_law_known"] ["_law_some"] (yy (qcn false p.gb (qb (qc 5) qd))) (λ_ _ _ _ _=>qo 1) (λ_ _ _ _ _=>zk) (λ_ _ _ _ _=>ql (qb (qc 1) (qb (qG b (qc 0) (qc 1)) qd)))) qd)) qd)))) qh)))))
theorem b_30(b:Rm k A s f c "_law_more" 53):Bdy P w K mg base n F f c A outer s H E ["_law_one","_law_other"] "_law_more" 53 c_30.body :=
 qf (qw (qi a.h_27 (m2 b) (qb (qk .add (qk .mul (qG b (qc 0) qg) (qG b (qc 1) qg)) (qk .mul (qG b (qc 1) qg) (qG b (qc 0) qg))) (qb (qk .mul (qG b (qc 0) qg) (qG b (qc 1) qg)) qd)))) qh
theorem b_31(b:Rm k A s f c "_law_laying" 54):Bdy P w K mg base n F f c A outer s H E ["_law_pack_here","_law_web_here","_law_found","_law_some","_law_mass","_law_pick","_law_shares"] "_law_laying" 54 c_31.body :=
 qf (qD 2 (qM true qd)) (qf (zS (yy (qG b (qc 1) qg)) (qU (qm (qo 3) (qm (qo 4) qT))) (qf (qD 5 (qi a.h_26 (m2 b) (qb (qc 0) (qb qg qd)))) (qf (qD 6 (yo .mul (qM false (qb qg qd)) (q8 p.gb (qb (qc 3) qd)))) (qf (z_if (zu .eq b (qc 5) qg) (qf (qD 6 (yo .mul (qM false (qb qg qd)) (q8 p.gb (qb (qc 3) qd)))) (qf (yg qg (qcm b (qc 6) (qi a.h_26 (m2 b) (qb (qc 0) (qb (q8 p.gb (qb (qc 3) qd)) qd))))) qh)) qh) (qf (z_if (zu .eq b (qc 5) qg) (qf (qD 6 (k_lc true [0] ["_law_pack_here"] ["_law_place"] (yy (qc 3)) (λ_ _ _ _ _=>qo 1) (λ_ _ _ _ _=>zk) (λ_ _ _ _ _=>qi a.h_26 (m2 b) (qb (qc 0) (qb qg qd))))) (qf (yg (qk .add qg (qG b (qc 6) (qgu qg))) (qcm b (qc 6) (qgu qg))) qh)) qh) (qf (yN (qa5 (qc 2) (yX p.gb (qb (qmc false [4,6] ["_law_mass","_law_shares"] ["_law_one"] (qc 6) (λ_ _ _ _ _=>qo 2) (λ_ _ _ _ _=>zk) (λ_ _ _ _ _=>qi a.h_27 (m2 b) (qb (qk .mul (qc 0) (qc 2)) (qb (qmb p.gb (qb (qc 1) qd)) qd)))) qd)))) qh)))))) (qf (qw (yX p.gb (qb (qc 2) qd))) qh))
theorem b_32(b:Rm k A s f c "_law_loads" 55):Bdy P w K mg base n F f c A outer s H E ["_law_web_here","_law_laying_here","_law_found","_law_some","_law_mass","_law_shares","_law_place","_law_one"] "_law_loads" 55 c_32.body :=
 qf (qD 2 (yo .mul (qM false (qb (ql (qb qg (qb qg qd))) qd)) (q8 p.gb (qb (qG b (qc 0) qg) qd)))) (qf (zS (zR p.gb (qG b (qc 0) qg) (qc 1)) (qU (qm (qU (qm (qo 3) (qm (qo 4) qT))) (qm (qo 5) qT))) (qf (zS (zR p.gb (qc 3) (qc 5)) (qU (qm (qo 6) (qm (qo 7) qT))) (qf (yg (qi a.h_30 (m2 b) (qb (qG b (qc 2) (qc 6)) (qb (qc 7) qd))) (qcm b (qc 2) (qc 6))) qh)) qh)) (qf (qw (yX p.gb (qb (qc 2) qd))) qh))
theorem b_33(b:Rm k A s f c "_law_odd_amount" 56):Bdy P w K mg base n F f c A outer s H E ["_law_pack_here","_law_one","_law_top","_law_bottom","_law_some"] "_law_odd_amount" 56 c_33.body :=
 qf (yg (qc 1) (qU (qm (qo 2) (qm (qo 3) qT)))) (qf (qD 4 (qM false (qb (ql (qb (qk .add (qk .mul qg (qc 2)) (qk .mul qg (qc 3))) (qb (qk .mul qg (qc 3)) qd))) (qb (ql (qb (qk .sub (qk .sub qg (qc 2)) qg) (qb (qc 3) qd))) (qb (qM false (qb (qc 2) (qb (qc 3) qd))) (qb (ql (qb (qc 2) (qb (qc 3) (qb qg qd)))) qd)))))) (qf (qD 4 (qk .add (qc 4) (qM false (qb (ql (qb (qc 2) qd)) (qb (qc 2) (qb zX (qb qO (qb (ql (qb qg (qb qg qd))) (qb (ql (qb qg (qb qg qd))) (qb (ql (qb (qc 2) (qb qO qd))) (qb (ql (qb qO (qb (qk .mul qg (qc 3)) qd))) (qb (ql (qb (qc 2) (qb zX qd))) qd)))))))))))) (qf (qD 4 (qk .add (qc 4) (qM false (qb (ql (qb (qkw p.gb (qb (qc 2) qd)) (qb (qc 3) qd))) (qb (ql (qb (ql (qb (qc 2) (qb (qc 3) qd))) qd)) (qb (ql qd) (qb (ql (qb qg (qb qg qd))) (qb qcl (qb (qgv false) (qb (qM false qd) (qb (ql (qb (qc 2) (qb (qM false (qb (qc 3) qd)) qd))) qd))))))))))) (qf (qD 4 (qk .add (qc 4) (qM false (qb (ql (qb (ql (qb (qc 2) qd)) (qb (qc 3) qd))) (qb (ql (qb zX (qb qg qd))) (qb (ql (qb qO (qb qg qd))) (qb (ql (qb qg (qb (qk .sub qg qg) qd))) (qb (ql (qb qg (qb qg qd))) qd)))))))) (qf (qw (qG b (qc 4) (qi a.h_26 (m2 b) (qb (qc 0) (qb qg qd))))) qh)))))
theorem b_34(b:Rm k A s f c "_law_only" 57):Bdy P w K mg base n F f c A outer s H E ["_law_e","_law_at","_law_found"] "_law_only" 57 c_34.body :=
 qf (qD 2 (qM false (qb (yi [(61,false),(37,true)] p.gb p.x_NoWeb (qB ⟨p.ek_NoLaying,p.ki_NoLaying_NoWeb⟩ (qB ⟨p.ek_NoWeb,p.ki_NoWeb_NoWeb⟩ (zz))) (qc 0)) (qb (yi [(61,false),(37,false)] p.gb p.x_NoPart (qB ⟨p.ek_NoLaying,p.ki_NoLaying_NoPart⟩ (qB ⟨p.ek_NoWeb,p.ki_NoWeb_NoPart⟩ (zz))) (qc 0)) (qb (yi [(61,true),(37,false)] p.gb p.x_NoLaying (qB ⟨p.ek_NoLaying,p.ki_NoLaying_NoLaying⟩ (qB ⟨p.ek_NoWeb,p.ki_NoWeb_NoLaying⟩ (zz))) (qc 0)) (qb (yi [(61,false),(37,false)] p.gb p.x_NoMeasure (qB ⟨p.ek_NoLaying,p.ki_NoLaying_NoMeasure⟩ (qB ⟨p.ek_NoWeb,p.ki_NoWeb_NoMeasure⟩ (zz))) (qc 0)) qd)))))) (qf (qD 2 (qk .add (qc 2) (qM false (qb (yi [(61,false),(37,false)] p.gb p.x_NoRoad (qB ⟨p.ek_NoLaying,p.ki_NoLaying_NoRoad⟩ (qB ⟨p.ek_NoWeb,p.ki_NoWeb_NoRoad⟩ (zz))) (qc 0)) (qb (yi [(61,false),(37,false)] p.gb p.x_NoSize (qB ⟨p.ek_NoLaying,p.ki_NoLaying_NoSize⟩ (qB ⟨p.ek_NoWeb,p.ki_NoWeb_NoSize⟩ (zz))) (qc 0)) (qb (yi [(61,false),(37,false)] p.gb p.x_NoArrows (qB ⟨p.ek_NoLaying,p.ki_NoLaying_NoArrows⟩ (qB ⟨p.ek_NoWeb,p.ki_NoWeb_NoArrows⟩ (zz))) (qc 0)) (qb (yi [(61,false),(37,false)] p.gb p.x_NoThread (qB ⟨p.ek_NoLaying,p.ki_NoLaying_NoThread⟩ (qB ⟨p.ek_NoWeb,p.ki_NoWeb_NoThread⟩ (zz))) (qc 0)) qd))))))) (qf (qD 2 (qk .add (qc 2) (qM false (qb (yi [(61,false),(37,false)] p.gb p.x_NoNumber (qB ⟨p.ek_NoLaying,p.ki_NoLaying_NoNumber⟩ (qB ⟨p.ek_NoWeb,p.ki_NoWeb_NoNumber⟩ (zz))) (qc 0)) (qb (yi [(61,false),(37,false)] p.gb p.x_NoText (qB ⟨p.ek_NoLaying,p.ki_NoLaying_NoText⟩ (qB ⟨p.ek_NoWeb,p.ki_NoWeb_NoText⟩ (zz))) (qc 0)) (qb (yi [(61,false),(37,false)] p.gb p.x_NoCall (qB ⟨p.ek_NoLaying,p.ki_NoLaying_NoCall⟩ (qB ⟨p.ek_NoWeb,p.ki_NoWeb_NoCall⟩ (zz))) (qc 0)) (qb (yi [(61,false),(37,false)] p.gb p.x_NoKept (qB ⟨p.ek_NoLaying,p.ki_NoLaying_NoKept⟩ (qB ⟨p.ek_NoWeb,p.ki_NoWeb_NoKept⟩ (zz))) (qc 0)) qd))))))) (qf (z_if (Qpt (w_or (zv (zt (yi [(61,true),(37,true)] p.gb p.x_WebError (qB ⟨p.ek_NoLaying,p.ki_NoLaying_WebError⟩ (qB ⟨p.ek_NoWeb,p.ki_NoWeb_WebError⟩ (zz))) (qc 0)))) (yx (zv (zt (qkB [(61,true),(37,true)] p.gb p.x_ValueError (by decide +kernel) (qB ⟨p.ek_NoLaying,p.ki_NoLaying_ValueError⟩ (qB ⟨p.ek_NoWeb,p.ki_NoWeb_ValueError⟩ (zz))) (qc 0))))))) (qf (qw qO) qh) qh) (qf (qw (qao .eq b (qc 2) (k_lc false [1] ["_law_at"] ["_law_k"] (qaq p.gb (qb qg qd)) (λ_ _ _ _ _=>qo 1) (λ_ _ _ _ _=>zk) (λ_ _ _ _ _=>qao .eq b (qc 1) (qc 0))))) qh))))
theorem b_35(b:Rm k A s f c "_law_caught" 58):Bdy P w K mg base n F f c A outer s H E ["_law_asked","_law_web_here","_law_laying_here","_law_caught_here","_law_e"] "_law_caught" 58 c_35.body :=
 qf (qD 3 zX) (qf (qmh (t:=[(61,true),(37,true)]) 4 p.x_WebError (qau kb p.er_WebError) (qmi (qB (λ_=>⟨_,qau kb p.er_NoLaying,by decide +kernel⟩) (qB (λ_=>⟨_,qau kb p.er_NoWeb,by decide +kernel⟩) (zz)))) (qax (y_if (zu .eq b (qc 0) qg) (qax (qbA a.x_17 (m2 b) (qb (qc 1) (qb (qc 2) qd)) (zd (zd (yr))))) (qax (y_if (zu .eq b (qc 0) qg) (qax (qbA a.x_20 (m2 b) (qb (qc 1) (qb (qc 2) qd)) (zd (zd (yr))))) (qax (y_if (zu .eq b (qc 0) qg) (qax (qbA a.x_21 (m2 b) (qb (qc 1) (qb (qc 2) qd)) (zd (zd (yr))))) (qax (qbA a.x_22 (m2 b) (qb (qc 1) (qb (qc 2) qd)) (zd (zd (yr))))))))))) (λ_ _ _=>qf (qD 3 (qc 4)) qh)) (qf (qw (qc 3)) qh))
theorem b_36(b:Rm k A s f c "_law_no_web" 59):Bdy P w K mg base n F f c A outer s H E ["_law_pack_here","_law_web_here","_law_costs","_law_ties","_law_at","_law_odd","_law_bad","_law_some","_law_mass"] "_law_no_web" 59 c_36.body :=
 qf (yg (qc 1) (qU (qm (qo 2) (qm (qo 3) qT)))) (qf (qD 4 (qi a.h_26 (m2 b) (qb (qc 0) (qb (q8 p.gb (qb (qc 2) qd)) qd)))) (qf (qD 5 (qG b (qM false (qb qg (qb qg (qb qO (qb zX (qb qcl (qb (ql (qb qg qd)) (qb (qk .sub qg qg) (qb (qM false (qb qg qd)) qd))))))))) (qi a.h_26 (m2 b) (qb (qc 0) (qb qg qd))))) (qf (qD 6 (qM true (qb (ql (qb (qk .add (qk .add (zh (qc 2) (k_on) (k_os (qc 4))) (ql (qb (qc 5) qd))) (zh (qc 2) (k_os (qk .add (qc 4) qg)) (k_on))) (qb (qc 3) qd))) (qb (ql (qb (qas false p.gb (qb (qc 2) qd)) (qb (qc 3) qd))) (qb (ql (qb (qc 2) (qb (qas false p.gb (qb (qc 3) qd)) qd))) (qb (ql (qb (qc 2) qd)) qd)))))) (qf (yN (qa5 (qc 6) (qM false (qb (qc 2) (qb (qc 3) qd))))) (qf (qD 6 (yo .add (qc 6) (qM false (qb (ql (qb (ql qd) (qb (ql qd) qd))) (qb (ql (qb (qc 2) (qb (qc 3) (qb (ql qd) qd)))) (qb zX (qb (ql (qb (qc 2) (qb (qk .add (qc 3) (ql (qb (ql (qb (ql (qb (q8 p.gb (qb (qc 2) qd)) qd)) (qb qg qd))) qd))) qd))) qd))))))) (qf (yN (qa5 (qc 6) (ql (qb (qc 2) (qb (qk .add (qc 3) (ql (qb (ql (qb (ql (qb qg (qb qg qd))) (qb qg qd))) qd))) qd))))) (qf (qD 6 (yo .add (qc 6) (qM false (qb (ql (qb (qc 2) (qb (qk .add (qc 3) (ql (qb (ql (qb (ql qd) (qb qg qd))) qd))) qd))) (qb (ql (qb (qk .mul (qc 2) qg) (qb (qc 3) qd))) (qb (ql (qb (qc 2) (qb zX qd))) (qb (qc 2) qd))))))) (qf (zS (yy (zh (qc 3) (k_on) (k_os qg))) (qU (qm (qo 7) (qm (qo 8) qT))) (qf (qD 6 (yo .add (qc 6) (qM false (qb (ql (qb (qc 2) (qb (qk .add (ql (qb (ql (qb (qc 7) (qb qg qd))) qd)) (zh (qc 3) (k_os qg) (k_on))) qd))) (qb (ql (qb (qc 2) (qb (qk .add (ql (qb (ql (qb (qc 7) (qb (qk .add (qk .pow qg qg) qg) qd))) qd)) (zh (qc 3) (k_os qg) (k_on))) qd))) qd))))) (qf (qD 6 (yo .add (qc 6) (qM false (qb (ql (qb (qc 2) (qb (qk .add (ql (qb (ql (qb (qc 7) (qb qO qd))) qd)) (zh (qc 3) (k_os qg) (k_on))) qd))) (qb (ql (qb (qc 2) (qb (qk .add (ql (qb (ql (qb (qas false p.gb (qb (qc 7) qd)) (qb (qc 8) qd))) qd)) (zh (qc 3) (k_os qg) (k_on))) qd))) qd))))) (qf (qD 6 (yo .add (qc 6) (qM false (qb (ql (qb (qc 2) (qb (qk .add (qc 3) (zh (qc 3) (k_os (qgu qg)) (k_on))) qd))) (qb (ql (qb (qc 2) (qb (qk .add (ql (qb (ql (qb (qc 7) qd)) qd)) (zh (qc 3) (k_os qg) (k_on))) qd))) (qb (ql (qb (qc 2) (qb (qk .add (ql (qb (qM false (qb (qc 7) (qb (qc 8) qd))) qd)) (zh (qc 3) (k_os qg) (k_on))) qd))) qd)))))) qh)))) (qf (qw (qG b (qc 6) (qi a.h_26 (m2 b) (qb (qc 0) (qb (q8 p.gb (qb (qc 6) qd)) qd))))) qh)))))))))
theorem b_37(b:Rm k A s f c "_law_no_laying" 60):Bdy P w K mg base n F f c A outer s H E ["_law_pack_here","_law_laying_here","_law_some","_law_at","_law_shares","_law_place","_law_more_here","_law_odd","_law_parts"] "_law_no_laying" 60 c_37.body :=
 qf (qD 2 (qM true (qb (qas false p.gb (qb (qc 1) qd)) (qb zX (qb (qk .add (qc 1) (ql (qb (ql qd) qd))) (qb qg (qb qcl (qb (qgv false) (qb (qk .add (qc 1) (ql (qb zX qd))) (qb qO qd)))))))))) (qf (qD 3 (qi a.h_26 (m2 b) (qb (qc 0) (qb (qk .add (q8 p.gb (qb (qc 1) qd)) qg) qd)))) (qf (zS (yy (zh (qc 1) (k_os (qc 3)) (k_os (qk .add (qc 3) qg)))) (qo 4) (qf (qD 5 (qi a.h_26 (m2 b) (qb (qc 0) (qb (q8 p.gb (qb (qc 4) qd)) qd)))) (qf (qD 6 (qk .add (qk .add (zh (qc 4) (k_on) (k_os (qc 5))) (ql (qb (qi a.h_30 (m2 b) (qb (qG b (qc 4) (qc 5)) (qb (ql (qb qg (qb qg qd))) qd))) qd))) (zh (qc 4) (k_os (qk .add (qc 5) qg)) (k_on)))) (qf (qD 7 (qk .add (qk .add (zh (qc 4) (k_on) (k_os (qc 5))) (ql (qb (qi a.h_33 (m2 b) (qb (qc 0) (qb (qG b (qc 4) (qc 5)) qd))) qd))) (zh (qc 4) (k_os (qk .add (qc 5) qg)) (k_on)))) (qf (qD 8 (qM false (qb (qc 6) (qb (qc 6) (qb (zh (qc 4) (k_os qg) (k_on)) (qb (qas false p.gb (qb (qc 4) qd)) (qb (qk .add (qc 4) (ql (qb (ql (qb qg (qb qg qd))) qd))) (qb zX qd)))))))) (qf (z_if (zu .ne b (qc 7) (qc 4)) (qf (qD 8 (qk .add (qc 8) (qM false (qb (qc 7) (qb (qc 7) (qb (qc 7) qd)))))) qh) qh) (qf (qD 2 (yo .add (qc 2) (k_lc false [1,3] ["_law_laying_here","_law_at"] ["_law_one"] (yy (qc 8)) (λ_ _ _ _ _=>qo 2) (λ_ _ _ _ _=>zk) (λ_ _ _ _ _=>qk .add (qk .add (zh (qc 0) (k_on) (k_os (qc 1))) (ql (qb (qc 2) qd))) (zh (qc 0) (k_os (qk .add (qc 1) qg)) (k_on)))))) (qf (yN (qa5 (qc 2) (qk .add (zh (qc 1) (k_on) (k_os (qc 3))) (zh (qc 1) (k_os (qk .add (qc 3) qg)) (k_on))))) qh)))))))) (qf (qw (qG b (qc 2) (qi a.h_26 (m2 b) (qb (qc 0) (qb (q8 p.gb (qb (qc 2) qd)) qd))))) qh)))
theorem b_38(b:Rm k A s f c "law" 61):Bdy P w K mg base n F f c A outer s H E ["_law_script","_law_k","_law_web_here","_law_pack_here","_law_laying_here","_law_turn","_law_bad","_law_odd","_law_asked"] "law" 61 yz.body :=
 qf (zS (qaq p.gb (qb qg (qb (qma p.gb (qb qg (qb (qjg p.gb (qb (q8 p.gb (qb (qc 0) qd)) (qb qg qd))) qd))) (qb qg qd)))) (qo 1) (qf (qD 2 (qi a.h_29 (m2 b) (qb (qi a.h_25 (m2 b) (qb (qc 0) (qb (qc 1) qd))) (qb qg (qb qg qd))))) (qf (qD 3 (qi a.h_25 (m2 b) (qb (qc 0) (qb (qk .add (qc 1) qg) qd)))) (qf (qD 4 (qi a.h_31 (m2 b) (qb (qc 3) (qb (qc 2) qd)))) (qf (zS (qaq p.gb (qb qg qd)) (qo 5) (qf (qd1 6 7 (qb (qi a.h_36 (m2 b) (qb (qc 3) (qb (qc 2) qd))) (qb (qi a.h_37 (m2 b) (qb (qc 3) (qb (qc 4) qd))) qd))) (qf (zS (qaq p.gb (qb qg qd)) (qo 8) (qf (z_if (zv (zt (qi a.h_34 (m2 b) (qb (qi a.h_35 (m2 b) (qb (qc 8) (qb (qc 6) (qb (qG b (qM false (qb (qc 4) (qb (qc 7) qd))) (qk .mod (qc 8) qg)) qd)))) (qb qg qd))))) (qf (qw qO) qh) qh) (qf (z_if (Qpt (ql8 (zu .gt b (qc 8) qg) (qkm (zv (zt (qi a.h_34 (m2 b) (qb (qi a.h_35 (m2 b) (qb (qc 8) (qb (qc 2) (qb (qc 7) qd)))) (qb qg qd)))))))) (qf (qw qO) qh) qh) qh))) qh))) (qf (z_if (Qpt (w_or (zu .ne b (qi a.h_20 (m2 b) (qb (qc 2) (qb (qc 4) qd))) (qi a.h_32 (m2 b) (qb (qc 2) (qb (qc 4) qd)))) (yx (zu .isn b (qi a.h_17 (m2 b) (qb (qc 2) (qb (qc 4) qd))) qO)))) (qf (qw qO) qh) qh) qh)))))) (qf (qw qO) qh)
end
section
variable{P:Program}{w:World}{K:PySem.W.Frag}{mg:Str->Option Value}{base:Heap}{k N d:Nat}(p:Pre K mg)(kb:K.In base)(a:All P w K mg base k (run prg N d)){f:Addr}{fd:FuncData}{c t:Addr}
include p kb a
theorem o_0(U:FunT K "is_whole" (top 15) f fd c t):FnOk P w K mg base CX0 (k+3) f fd ["thing"] (SpD 1 (run prg N (d+1) 0)):=qJ (G:=run prg N (d+1)) (i:=0) U sc_0 rfl rfl (by decide) rfl λA outer s H E b=>b_0 p kb a U.tab b
theorem o_1(U:FunT K "is_whole_within" (top 16) f fd c t):FnOk P w K mg base CX0 (k+3) f fd ["thing","least","most"] (SpD 3 (run prg N (d+1) 1)):=qJ (G:=run prg N (d+1)) (i:=1) U sc_1 rfl rfl (by decide) rfl λA outer s H E b=>b_1 p kb a U.tab b
theorem o_2(U:FunT K "common_divisor" (top 17) f fd c t):FnOk P w K mg base CX0 (k+3) f fd ["one","other"] (SpD 2 (run prg N (d+1) 2)):=qJ (G:=run prg N (d+1)) (i:=2) U sc_2 rfl rfl (by decide) rfl λA outer s H E b=>b_2 p kb a U.tab b
theorem o_3(U:FunT K "lowest" (top 18) f fd c t):FnOk P w K mg base CX0 (k+3) f fd ["top","bottom"] (SpD 2 (run prg N (d+1) 3)):=qJ (G:=run prg N (d+1)) (i:=3) U sc_3 rfl rfl (by decide) rfl λA outer s H E b=>b_3 p kb a U.tab b
theorem o_4(U:FunT K "is_number" (top 19) f fd c t):FnOk P w K mg base CX0 (k+3) f fd ["thing"] (SpD 1 (run prg N (d+1) 4)):=qJ (G:=run prg N (d+1)) (i:=4) U sc_4 rfl rfl (by decide) rfl λA outer s H E b=>b_4 p kb a U.tab b
theorem o_5(U:FunT K "is_amount" (top 20) f fd c t):FnOk P w K mg base CX0 (k+3) f fd ["thing"] (SpD 1 (run prg N (d+1) 5)):=qJ (G:=run prg N (d+1)) (i:=5) U sc_5 rfl rfl (by decide) rfl λA outer s H E b=>b_5 p kb a U.tab b
theorem o_7(U:FunT K "total" (top 22) f fd c t):FnOk P w K mg base CX0 (k+3) f fd ["amounts"] (SpD 1 (run prg N (d+1) 7)):=qJ (G:=run prg N (d+1)) (i:=7) U sc_7 rfl rfl (by decide) rfl λA outer s H E b=>b_7 p kb a U.tab b
theorem o_8(U:FunT K "parted" (top 23) f fd c t):FnOk P w K mg base CX0 (k+3) f fd ["one","divisor"] (SpD 2 (run prg N (d+1) 8)):=qJ (G:=run prg N (d+1)) (i:=8) U sc_8 rfl rfl (by decide) rfl λA outer s H E b=>b_8 p kb a U.tab b
theorem o_9(U:FunT K "is_web" (top 30) f fd c t):FnOk P w K mg base CX0 (k+3) f fd ["thing"] (SpD 1 (run prg N (d+1) 9)):=qJ (G:=run prg N (d+1)) (i:=9) U sc_9 rfl rfl (by decide) rfl λA outer s H E b=>b_9 p kb a U.tab b
theorem o_10(U:FunT K "are_costs" (top 31) f fd c t):FnOk P w K mg base CX0 (k+3) f fd ["thing"] (SpD 1 (run prg N (d+1) 10)):=qJ (G:=run prg N (d+1)) (i:=10) U sc_10 rfl rfl (by decide) rfl λA outer s H E b=>b_10 p kb a U.tab b
theorem o_11(U:FunT K "are_ties" (top 32) f fd c t):FnOk P w K mg base CX0 (k+3) f fd ["thing","many"] (SpD 2 (run prg N (d+1) 11)):=qJ (G:=run prg N (d+1)) (i:=11) U sc_11 rfl rfl (by decide) rfl λA outer s H E b=>b_11 p kb a U.tab b
theorem o_12(U:FunT K "is_tie" (top 33) f fd c t):FnOk P w K mg base CX0 (k+3) f fd ["thing","many"] (SpD 2 (run prg N (d+1) 12)):=qJ (G:=run prg N (d+1)) (i:=12) U sc_12 rfl rfl (by decide) rfl λA outer s H E b=>b_12 p kb a U.tab b
theorem o_13(U:FunT K "are_tied_places" (top 34) f fd c t):FnOk P w K mg base CX0 (k+3) f fd ["thing","many"] (SpD 2 (run prg N (d+1) 13)):=qJ (G:=run prg N (d+1)) (i:=13) U sc_13 rfl rfl (by decide) rfl λA outer s H E b=>b_13 p kb a U.tab b
theorem o_14(U:FunT K "are_places" (top 35) f fd c t):FnOk P w K mg base CX0 (k+3) f fd ["thing","many"] (SpD 2 (run prg N (d+1) 14)):=qJ (G:=run prg N (d+1)) (i:=14) U sc_14 rfl rfl (by decide) rfl λA outer s H E b=>b_14 p kb a U.tab b
theorem o_15(U:FunT K "is_rising" (top 36) f fd c t):FnOk P w K mg base CX0 (k+3) f fd ["things"] (SpD 1 (run prg N (d+1) 15)):=qJ (G:=run prg N (d+1)) (i:=15) U sc_15 rfl rfl (by decide) rfl λA outer s H E b=>b_15 p kb a U.tab b
theorem o_16(U:FunT K "need_web" (top 37) f fd c t):FnOk P w K mg base CX0 (k+3) f fd ["thing"] (SpD 1 (run prg N (d+1) 16)):=qJ (G:=run prg N (d+1)) (i:=16) U sc_16 rfl rfl (by decide) rfl λA outer s H E b=>b_16 p kb a U.tab b
theorem qmt(U:FunT K "need_web" (top 37) f fd c t):FnOk P w K mg base (CXR P w) (k+3) f fd ["thing"] (SpX 1 (run prg N (d+1) 16)):=jK (G:=run prg N (d+1)) (i:=16) U sc_16 rfl rfl (by decide) rfl λA outer s H E b=>qmn p kb a U.tab b
theorem o_17(U:FunT K "is_laying" (top 39) f fd c t):FnOk P w K mg base CX0 (k+3) f fd ["web","thing"] (SpD 2 (run prg N (d+1) 17)):=qJ (G:=run prg N (d+1)) (i:=17) U sc_17 rfl rfl (by decide) rfl λA outer s H E b=>b_17 p kb a U.tab b
theorem qmu(U:FunT K "is_laying" (top 39) f fd c t):FnOk P w K mg base (CXR P w) (k+3) f fd ["web","thing"] (SpX 2 (run prg N (d+1) 17)):=jK (G:=run prg N (d+1)) (i:=17) U sc_17 rfl rfl (by decide) rfl λA outer s H E b=>qmo p kb a U.tab b
theorem o_18(U:FunT K "lays_tie" (top 40) f fd c t):FnOk P w K mg base CX0 (k+3) f fd ["tie","thing"] (SpD 2 (run prg N (d+1) 18)):=qJ (G:=run prg N (d+1)) (i:=18) U sc_18 rfl rfl (by decide) rfl λA outer s H E b=>b_18 p kb a U.tab b
theorem o_19(U:FunT K "need_laying" (top 41) f fd c t):FnOk P w K mg base CX0 (k+3) f fd ["web","thing"] (SpD 2 (run prg N (d+1) 19)):=qJ (G:=run prg N (d+1)) (i:=19) U sc_19 rfl rfl (by decide) rfl λA outer s H E b=>b_19 p kb a U.tab b
theorem qmv(U:FunT K "need_laying" (top 41) f fd c t):FnOk P w K mg base (CXR P w) (k+3) f fd ["web","thing"] (SpX 2 (run prg N (d+1) 19)):=jK (G:=run prg N (d+1)) (i:=19) U sc_19 rfl rfl (by decide) rfl λA outer s H E b=>qmp p kb a U.tab b
theorem o_20(U:FunT K "loads" (top 42) f fd c t):FnOk P w K mg base CX0 (k+3) f fd ["web","laying"] (SpD 2 (run prg N (d+1) 20)):=qJ (G:=run prg N (d+1)) (i:=20) U sc_20 rfl rfl (by decide) rfl λA outer s H E b=>b_20 p kb a U.tab b
theorem qmw(U:FunT K "loads" (top 42) f fd c t):FnOk P w K mg base (CXR P w) (k+3) f fd ["web","laying"] (SpX 2 (run prg N (d+1) 20)):=jK (G:=run prg N (d+1)) (i:=20) U sc_20 rfl rfl (by decide) rfl λA outer s H E b=>qmq p kb a U.tab b
theorem o_21(U:FunT K "heights" (top 43) f fd c t):FnOk P w K mg base CX0 (k+3) f fd ["web","laying"] (SpD 2 (run prg N (d+1) 21)):=qJ (G:=run prg N (d+1)) (i:=21) U sc_21 rfl rfl (by decide) rfl λA outer s H E b=>b_21 p kb a U.tab b
theorem qmx(U:FunT K "heights" (top 43) f fd c t):FnOk P w K mg base (CXR P w) (k+3) f fd ["web","laying"] (SpX 2 (run prg N (d+1) 21)):=jK (G:=run prg N (d+1)) (i:=21) U sc_21 rfl rfl (by decide) rfl λA outer s H E b=>qmr p kb a U.tab b
theorem o_22(U:FunT K "is_level" (top 44) f fd c t):FnOk P w K mg base CX0 (k+3) f fd ["web","laying"] (SpD 2 (run prg N (d+1) 22)):=qJ (G:=run prg N (d+1)) (i:=22) U sc_22 rfl rfl (by decide) rfl λA outer s H E b=>b_22 p kb a U.tab b
theorem qmy(U:FunT K "is_level" (top 44) f fd c t):FnOk P w K mg base (CXR P w) (k+3) f fd ["web","laying"] (SpX 2 (run prg N (d+1) 22)):=jK (G:=run prg N (d+1)) (i:=22) U sc_22 rfl rfl (by decide) rfl λA outer s H E b=>qms p kb a U.tab b
theorem o_23(U:FunT K "lies_low" (top 45) f fd c t):FnOk P w K mg base CX0 (k+3) f fd ["places","amounts","high"] (SpD 3 (run prg N (d+1) 23)):=qJ (G:=run prg N (d+1)) (i:=23) U sc_23 rfl rfl (by decide) rfl λA outer s H E b=>b_23 p kb a U.tab b
theorem o_24(U:FunT K "_law_mixed" (top 47) f fd c t):FnOk P w K mg base CX0 (k+3) f fd ["_law_cell"] (SpD 1 (run prg N (d+1) 24)):=qJ (G:=run prg N (d+1)) (i:=24) U sc_24 rfl rfl (by decide) rfl λA outer s H E b=>b_24 p kb a U.tab b
theorem o_25(U:FunT K "_law_pack" (top 48) f fd c t):FnOk P w K mg base CX0 (k+3) f fd ["_law_script","_law_k"] (SpD 2 (run prg N (d+1) 25)):=qJ (G:=run prg N (d+1)) (i:=25) U sc_25 rfl rfl (by decide) rfl λA outer s H E b=>b_25 p kb a U.tab b
theorem o_26(U:FunT K "_law_take" (top 49) f fd c t):FnOk P w K mg base CX0 (k+3) f fd ["_law_pack_here","_law_size"] (SpD 2 (run prg N (d+1) 26)):=qJ (G:=run prg N (d+1)) (i:=26) U sc_26 rfl rfl (by decide) rfl λA outer s H E b=>b_26 p kb a U.tab b
theorem o_27(U:FunT K "_law_low" (top 50) f fd c t):FnOk P w K mg base CX0 (k+3) f fd ["_law_top","_law_bottom"] (SpD 2 (run prg N (d+1) 27)):=qJ (G:=run prg N (d+1)) (i:=27) U sc_27 rfl rfl (by decide) rfl λA outer s H E b=>b_27 p kb a U.tab b
theorem o_28(U:FunT K "_law_places" (top 51) f fd c t):FnOk P w K mg base CX0 (k+3) f fd ["_law_pack_here","_law_many"] (SpD 2 (run prg N (d+1) 28)):=qJ (G:=run prg N (d+1)) (i:=28) U sc_28 rfl rfl (by decide) rfl λA outer s H E b=>b_28 p kb a U.tab b
theorem o_29(U:FunT K "_law_web" (top 52) f fd c t):FnOk P w K mg base CX0 (k+3) f fd ["_law_pack_here","_law_most","_law_ties"] (SpD 3 (run prg N (d+1) 29)):=qJ (G:=run prg N (d+1)) (i:=29) U sc_29 rfl rfl (by decide) rfl λA outer s H E b=>b_29 p kb a U.tab b
theorem o_30(U:FunT K "_law_more" (top 53) f fd c t):FnOk P w K mg base CX0 (k+3) f fd ["_law_one","_law_other"] (SpD 2 (run prg N (d+1) 30)):=qJ (G:=run prg N (d+1)) (i:=30) U sc_30 rfl rfl (by decide) rfl λA outer s H E b=>b_30 p kb a U.tab b
theorem o_31(U:FunT K "_law_laying" (top 54) f fd c t):FnOk P w K mg base CX0 (k+3) f fd ["_law_pack_here","_law_web_here"] (SpD 2 (run prg N (d+1) 31)):=qJ (G:=run prg N (d+1)) (i:=31) U sc_31 rfl rfl (by decide) rfl λA outer s H E b=>b_31 p kb a U.tab b
theorem o_32(U:FunT K "_law_loads" (top 55) f fd c t):FnOk P w K mg base CX0 (k+3) f fd ["_law_web_here","_law_laying_here"] (SpD 2 (run prg N (d+1) 32)):=qJ (G:=run prg N (d+1)) (i:=32) U sc_32 rfl rfl (by decide) rfl λA outer s H E b=>b_32 p kb a U.tab b
theorem o_33(U:FunT K "_law_odd_amount" (top 56) f fd c t):FnOk P w K mg base CX0 (k+3) f fd ["_law_pack_here","_law_one"] (SpD 2 (run prg N (d+1) 33)):=qJ (G:=run prg N (d+1)) (i:=33) U sc_33 rfl rfl (by decide) rfl λA outer s H E b=>b_33 p kb a U.tab b
theorem o_34(U:FunT K "_law_only" (top 57) f fd c t):FnOk P w K mg base CX0 (k+3) f fd ["_law_e","_law_at"] (SpD 2 (run prg N (d+1) 34)):=qJ (G:=run prg N (d+1)) (i:=34) U sc_34 rfl rfl (by decide) rfl λA outer s H E b=>b_34 p kb a U.tab b
theorem o_35(U:FunT K "_law_caught" (top 58) f fd c t):FnOk P w K mg base CX0 (k+3) f fd ["_law_asked","_law_web_here","_law_laying_here"] (SpD 3 (run prg N (d+1) 35)):=qJ (G:=run prg N (d+1)) (i:=35) U sc_35 rfl rfl (by decide) rfl λA outer s H E b=>b_35 p kb a U.tab b
theorem o_36(U:FunT K "_law_no_web" (top 59) f fd c t):FnOk P w K mg base CX0 (k+3) f fd ["_law_pack_here","_law_web_here"] (SpD 2 (run prg N (d+1) 36)):=qJ (G:=run prg N (d+1)) (i:=36) U sc_36 rfl rfl (by decide) rfl λA outer s H E b=>b_36 p kb a U.tab b
theorem o_37(U:FunT K "_law_no_laying" (top 60) f fd c t):FnOk P w K mg base CX0 (k+3) f fd ["_law_pack_here","_law_laying_here"] (SpD 2 (run prg N (d+1) 37)):=qJ (G:=run prg N (d+1)) (i:=37) U sc_37 rfl rfl (by decide) rfl λA outer s H E b=>b_37 p kb a U.tab b
theorem o_38(U:FunT K "law" (top 61) f fd c t):FnOk P w K mg base CX0 (k+3) f fd ["_law_script"] (SpD 1 (run prg N (d+1) 38)):=qJ (G:=run prg N (d+1)) (i:=38) U sc_38 rfl rfl (by decide) rfl λA outer s H E b=>b_38 p kb a U.tab b
theorem qgP:All P w K mg base (k+3) (run prg N (d+1)) where
 h_0:=p.u_0.fn λ_ _ _ _ U=>o_0 p kb a U
 h_1:=p.u_1.fn λ_ _ _ _ U=>o_1 p kb a U
 h_2:=p.u_2.fn λ_ _ _ _ U=>o_2 p kb a U
 h_3:=p.u_3.fn λ_ _ _ _ U=>o_3 p kb a U
 h_4:=p.u_4.fn λ_ _ _ _ U=>o_4 p kb a U
 h_5:=p.u_5.fn λ_ _ _ _ U=>o_5 p kb a U
 h_7:=p.u_7.fn λ_ _ _ _ U=>o_7 p kb a U
 h_8:=p.u_8.fn λ_ _ _ _ U=>o_8 p kb a U
 h_9:=p.u_9.fn λ_ _ _ _ U=>o_9 p kb a U
 h_10:=p.u_10.fn λ_ _ _ _ U=>o_10 p kb a U
 h_11:=p.u_11.fn λ_ _ _ _ U=>o_11 p kb a U
 h_12:=p.u_12.fn λ_ _ _ _ U=>o_12 p kb a U
 h_13:=p.u_13.fn λ_ _ _ _ U=>o_13 p kb a U
 h_14:=p.u_14.fn λ_ _ _ _ U=>o_14 p kb a U
 h_15:=p.u_15.fn λ_ _ _ _ U=>o_15 p kb a U
 h_16:=p.u_16.fn λ_ _ _ _ U=>o_16 p kb a U
 h_17:=p.u_17.fn λ_ _ _ _ U=>o_17 p kb a U
 h_18:=p.u_18.fn λ_ _ _ _ U=>o_18 p kb a U
 h_19:=p.u_19.fn λ_ _ _ _ U=>o_19 p kb a U
 h_20:=p.u_20.fn λ_ _ _ _ U=>o_20 p kb a U
 h_21:=p.u_21.fn λ_ _ _ _ U=>o_21 p kb a U
 h_22:=p.u_22.fn λ_ _ _ _ U=>o_22 p kb a U
 h_23:=p.u_23.fn λ_ _ _ _ U=>o_23 p kb a U
 h_24:=p.u_24.fn λ_ _ _ _ U=>o_24 p kb a U
 h_25:=p.u_25.fn λ_ _ _ _ U=>o_25 p kb a U
 h_26:=p.u_26.fn λ_ _ _ _ U=>o_26 p kb a U
 h_27:=p.u_27.fn λ_ _ _ _ U=>o_27 p kb a U
 h_28:=p.u_28.fn λ_ _ _ _ U=>o_28 p kb a U
 h_29:=p.u_29.fn λ_ _ _ _ U=>o_29 p kb a U
 h_30:=p.u_30.fn λ_ _ _ _ U=>o_30 p kb a U
 h_31:=p.u_31.fn λ_ _ _ _ U=>o_31 p kb a U
 h_32:=p.u_32.fn λ_ _ _ _ U=>o_32 p kb a U
 h_33:=p.u_33.fn λ_ _ _ _ U=>o_33 p kb a U
 h_34:=p.u_34.fn λ_ _ _ _ U=>o_34 p kb a U
 h_35:=p.u_35.fn λ_ _ _ _ U=>o_35 p kb a U
 h_36:=p.u_36.fn λ_ _ _ _ U=>o_36 p kb a U
 h_37:=p.u_37.fn λ_ _ _ _ U=>o_37 p kb a U
 h_38:=p.u_38.fn λ_ _ _ _ U=>o_38 p kb a U
 x_16:=R.EX.DefIn.fnX p.u_16 λ_ _ _ _ U=>qmt p kb a U
 x_17:=R.EX.DefIn.fnX p.u_17 λ_ _ _ _ U=>qmu p kb a U
 x_19:=R.EX.DefIn.fnX p.u_19 λ_ _ _ _ U=>qmv p kb a U
 x_20:=R.EX.DefIn.fnX p.u_20 λ_ _ _ _ U=>qmw p kb a U
 x_21:=R.EX.DefIn.fnX p.u_21 λ_ _ _ _ U=>qmx p kb a U
 x_22:=R.EX.DefIn.fnX p.u_22 λ_ _ _ _ U=>qmy p kb a U
omit kb a
theorem qgQ:All P w K mg base 0 (run prg N 0) where
 h_0:=p.u_0.fn λ_ _ _ _ _=>qK (i:=0) rfl
 h_1:=p.u_1.fn λ_ _ _ _ _=>qK (i:=1) rfl
 h_2:=p.u_2.fn λ_ _ _ _ _=>qK (i:=2) rfl
 h_3:=p.u_3.fn λ_ _ _ _ _=>qK (i:=3) rfl
 h_4:=p.u_4.fn λ_ _ _ _ _=>qK (i:=4) rfl
 h_5:=p.u_5.fn λ_ _ _ _ _=>qK (i:=5) rfl
 h_7:=p.u_7.fn λ_ _ _ _ _=>qK (i:=7) rfl
 h_8:=p.u_8.fn λ_ _ _ _ _=>qK (i:=8) rfl
 h_9:=p.u_9.fn λ_ _ _ _ _=>qK (i:=9) rfl
 h_10:=p.u_10.fn λ_ _ _ _ _=>qK (i:=10) rfl
 h_11:=p.u_11.fn λ_ _ _ _ _=>qK (i:=11) rfl
 h_12:=p.u_12.fn λ_ _ _ _ _=>qK (i:=12) rfl
 h_13:=p.u_13.fn λ_ _ _ _ _=>qK (i:=13) rfl
 h_14:=p.u_14.fn λ_ _ _ _ _=>qK (i:=14) rfl
 h_15:=p.u_15.fn λ_ _ _ _ _=>qK (i:=15) rfl
 h_16:=p.u_16.fn λ_ _ _ _ _=>qK (i:=16) rfl
 h_17:=p.u_17.fn λ_ _ _ _ _=>qK (i:=17) rfl
 h_18:=p.u_18.fn λ_ _ _ _ _=>qK (i:=18) rfl
 h_19:=p.u_19.fn λ_ _ _ _ _=>qK (i:=19) rfl
 h_20:=p.u_20.fn λ_ _ _ _ _=>qK (i:=20) rfl
 h_21:=p.u_21.fn λ_ _ _ _ _=>qK (i:=21) rfl
 h_22:=p.u_22.fn λ_ _ _ _ _=>qK (i:=22) rfl
 h_23:=p.u_23.fn λ_ _ _ _ _=>qK (i:=23) rfl
 h_24:=p.u_24.fn λ_ _ _ _ _=>qK (i:=24) rfl
 h_25:=p.u_25.fn λ_ _ _ _ _=>qK (i:=25) rfl
 h_26:=p.u_26.fn λ_ _ _ _ _=>qK (i:=26) rfl
 h_27:=p.u_27.fn λ_ _ _ _ _=>qK (i:=27) rfl
 h_28:=p.u_28.fn λ_ _ _ _ _=>qK (i:=28) rfl
 h_29:=p.u_29.fn λ_ _ _ _ _=>qK (i:=29) rfl
 h_30:=p.u_30.fn λ_ _ _ _ _=>qK (i:=30) rfl
 h_31:=p.u_31.fn λ_ _ _ _ _=>qK (i:=31) rfl
 h_32:=p.u_32.fn λ_ _ _ _ _=>qK (i:=32) rfl
 h_33:=p.u_33.fn λ_ _ _ _ _=>qK (i:=33) rfl
 h_34:=p.u_34.fn λ_ _ _ _ _=>qK (i:=34) rfl
 h_35:=p.u_35.fn λ_ _ _ _ _=>qK (i:=35) rfl
 h_36:=p.u_36.fn λ_ _ _ _ _=>qK (i:=36) rfl
 h_37:=p.u_37.fn λ_ _ _ _ _=>qK (i:=37) rfl
 h_38:=p.u_38.fn λ_ _ _ _ _=>qK (i:=38) rfl
 x_16:=R.EX.DefIn.fnX p.u_16 λ_ _ _ _ _=>jL (i:=16) rfl
 x_17:=R.EX.DefIn.fnX p.u_17 λ_ _ _ _ _=>jL (i:=17) rfl
 x_19:=R.EX.DefIn.fnX p.u_19 λ_ _ _ _ _=>jL (i:=19) rfl
 x_20:=R.EX.DefIn.fnX p.u_20 λ_ _ _ _ _=>jL (i:=20) rfl
 x_21:=R.EX.DefIn.fnX p.u_21 λ_ _ _ _ _=>jL (i:=21) rfl
 x_22:=R.EX.DefIn.fnX p.u_22 λ_ _ _ _ _=>jL (i:=22) rfl
omit p
theorem qgR(p:Pre K mg)(kb:K.In base):∀d:Nat,All P w K mg base (3*d) (run prg N d)
 |0=>qgQ p
 |d+1=>qgP p kb (qgR p kb d)
end
end RP
namespace RP
open R
section
variable{α:Type}{g:α->D}
theorem j3{n:Nat}{bind:D->En->Sr->Res En}{test:En->Sr->Res Bool}{elt:En->Sr->Res D}{b:α->Bool}{v:α->D}(R:En->Prop){S:Sr}(hn:S.length=n):∀(ds:List α) (a:List D) (ρ:En),a.length+ds.length<=PySem.sizeLine->R ρ ->
  (∀d∈ds,∀(ρ:En) (m:List D),R ρ->∃ρ1,bind (g d) ρ (S++[.lst m])=.ok ρ1 (S++[.lst m])/\R ρ1/\test ρ1 (S++[.lst m])=.ok (b d) (S++[.lst m])/\(b d=true->elt ρ1 (S++[.lst m])=.ok (v d) (S++[.lst m])/\refsLt 0 (v d)=true)) ->
  ∃ρ',lcLoop n bind test elt (ds.map g) ρ (S++[.lst a])=.ok ρ' (S++[.lst (a++(ds.filter b).map v)])
 |[],a,ρ,_,_,_=>⟨ρ,by simp[lcLoop]⟩
 |d::ds,a,ρ,hl,hR,H=>by
  obtain⟨ρ1,e1,c,h,i⟩:=H d wQ ρ a hR;simp only[w4]at hl;rw[wd];unfold lcLoop;rw[e1,Res.bind_ok,h,Res.bind_ok];cases z:b d with
  |true =>
   obtain⟨j,l⟩:=i z;have o:appD (S++[.lst a]) (.ref n) (v d)=.ok .non (S++[.lst (a++[v d])]):=by
    subst hn;have f:a.length<PySem.sizeLine:=by lia
    simp[appD,l,f]
   rw[wN rfl,j,Res.bind_ok,o,Res.bind_ok];obtain⟨ρ',e⟩:=j3 R hn ds (a++[v d]) ρ1 (by simp;lia) c λd' hd=>H d' (wO _ hd)
   exact⟨ρ',by rw[e];simp[z]⟩
  |false =>
   rw[wT (by simp)];obtain⟨ρ',e⟩:=j3 R hn ds a ρ1 (by lia) c λd' hd=>H d' (wO _ hd)
   exact⟨ρ',by rw[e];simp[z]⟩
theorem qd8{nt:Nat}(xs:List α)(b:α->Bool)(v:α->D)(R:En->Prop)(a:evI F it ρ S=.ok ds S1)(hd:ds=xs.map g)(c:R (frE ρ fr nt))(f:xs.length<=PySem.sizeLine)(H:∀d∈xs,∀(ρ:En) (m:List D),R ρ->∃ρ1,asg F tg (g d) ρ (S1++[.lst m])=.ok ρ1 (S1++[.lst m])/\R ρ1/\tsts F ifs ρ1 (S1++[.lst m])=.ok (b d) (S1++[.lst m])/\(b d=true->ev F elt ρ1 (S1++[.lst m])=.ok (v d) (S1++[.lst m])/\refsLt 0 (v d)=true)):
  ev F (.lc false fr nt elt tg it ifs) ρ S=.ok (.lst ((xs.filter b).map v)) S1:=by
 obtain⟨ρ',e⟩:=j3 (n:=S1.length) (bind:=λd ρ S=>asg F tg d ρ S) (test:=λρ S=>tsts F ifs ρ S) (elt:=λρ S=>ev F elt ρ S) R rfl xs [] _ (by simpa using f) c H;simp only[ev,a,Res.bind,hd,e,lcEnd];simp
theorem qd9{bind:D->En->Sr->Res En}{test:En->Sr->Res Bool}{elt:En->Sr->Res D}{p:α->Bool}(R:En->Prop){S:Sr}:∀(ds:List α) (ρ:En),R ρ ->
  (∀d∈ds,∀ρ:En,R ρ->∃ρ1,bind (g d) ρ S=.ok ρ1 S/\R ρ1/\test ρ1 S=.ok true S/\elt ρ1 S=.ok (.bl (p d)) S) ->
  genLoop bind test elt (stepG .all) (finG .all) (ds.map g) ρ .non S=.ok (.bl (ds.all p)) S
 |[],ρ,_,_=>by simp[genLoop,finG]
 |d::ds,ρ,hR,H=>by
  obtain⟨ρ1,e1,a,b,c⟩:=H d wQ ρ hR;rw[wd];unfold genLoop;rw[e1,Res.bind_ok,b,Res.bind_ok,wN rfl,c,Res.bind_ok];cases z:p d with
  |true=>simp only[stepG];rw[qd9 R ds ρ1 a λd' hd=>H d' (wO _ hd)];simp[z]
  |false=>simp[stepG,z]
theorem yt{nt:Nat}(xs:List α)(p:α->Bool)(R:En->Prop)(f:evI F it ρ S=.ok ds S1)(hd:ds=xs.map g)(h:R (frE ρ fr nt))(H:∀d∈xs,∀ρ:En,R ρ->∃ρ1,asg F tg (g d) ρ S1=.ok ρ1 S1/\R ρ1/\ev F elt ρ1 S1=.ok (.bl (p d)) S1):
  ev F (.gen .all fr nt elt tg it .nil) ρ S=.ok (.bl (xs.all p)) S1:=by
 simp only[ev,f,Res.bind,hd,startG];exact qd9 R xs _ h λd hd ρ i=>let ⟨ρ1,a,b,c⟩:=H d hd ρ i;⟨ρ1,a,b,rfl,c⟩
end
abbrev Tie:=List Int×Int
def tieD(t:Tie):D:=.tup [tupI t.1,.int t.2]
structure Wb where
 costs:List Int
 ties:List Tie
def webD(w:Wb):D:=.tup [tupI w.costs,.tup (w.ties.map tieD)]
structure PlOk (n:Nat) (p:List Int):Prop where
 ne:p≠[]
 rng:∀x∈p,0<=x/\x<n
 up:p.Pairwise (· < ·)
structure WbOk (w:Wb):Prop where
 c1:1<=w.costs.length
 c2:w.costs.length<=12
 c3:∀c∈w.costs,1<=c/\c<=100
 t1:w.ties.length<=30
 t2:∀t∈w.ties,PlOk w.costs.length t.1/\t.1.length<=4/\1<=t.2/\t.2<=1000000
 t3:(w.ties.map (·.1)).Pairwise λa b=>HT.lexLt a b=true
def qY:∀l:List Int,intsOf (l.map .int)=some l
 |[]=>rfl
 |a::r=>by simp[intsOf,qY r]
def qgS:∀{l:List Int},l.Pairwise (· < ·)->(l.zip (l.drop 1)).all (λp=>decide (p.1<p.2))=true
 |[],_=>rfl
 |[a],_=>rfl
 |a::b::r,h=>by
  have c:=vJ.mp h;have:=qgS c.2;simp only[uP,u7,vd,vf,wP,wq]at this ⊢;exact⟨c.1 b wQ,this⟩
def qea:∀{l:List (List Int)},l.Pairwise (λa b=>HT.lexLt a b=true)->(l.zip (l.drop 1)).all (λp=>HT.lexLt p.1 p.2)=true
 |[],_=>rfl
 |[a],_=>rfl
 |a::b::r,h=>by
  have c:=vJ.mp h;have:=qea c.2;simp only[uP,u7,vd,vf,wP]at this ⊢;exact⟨c.1 b wQ,this⟩
def cut1(l:List D):cutD l (some 1) none=l.drop 1:=by
 unfold cutD HT.sIx;cases l with
 |nil=>rfl
 |cons a r =>
  have:min (1:Int).toNat (a::r).length=1:=by simp
  simp only[this];rw[wT (by lia)];simp
section
variable{F:Fs}{N:Nat}{ρ ρ1:En}{S S1 S2:Sr}{r a b:CSs}{e e1 e2:CE}{t:CT}{c:CB}{X:Res Fl}{d d1 d2:D}
theorem qC(h:ev F e ρ S=.ok d S1):exs F N (.cons (.ret e) r) ρ S=.ok (.rt d) S1:=by simp[exs,ex,h,Res.bind]
theorem zT:exs F N .nil ρ S=.ok (.nx ρ) S:=by simp[exs]
theorem x_set(h:ev F e ρ S=.ok d S1)(f:asg F t d ρ S1=.ok ρ1 S2)(i:exs F N r ρ1 S2=X):exs F N (.cons (.set t e) r) ρ S=X:=by simp[exs,ex,h,f,i,Res.bind]
theorem x_expr(h:ev F e ρ S=.ok d S1)(f:exs F N r ρ S1=X):exs F N (.cons (.expr e) r) ρ S=X:=by simp[exs,ex,h,f,Res.bind]
theorem x_no(h:tst F c ρ S=.ok false S1)(f:exs F N r ρ S1=X):exs F N (.cons (.ifs c a .nil) r) ρ S=X:=by simp[exs,ex,h,f,Res.bind]
theorem zB(h:tst F c ρ S=.ok true S1)(f:exs F N a ρ S1=.ok (.rt d) S2):exs F N (.cons (.ifs c a b) r) ρ S=.ok (.rt d) S2:=by simp[exs,ex,h,f,Res.bind]
theorem qkC(h:tst F c ρ S=.ok true S1)(f:exs F N a ρ S1=.ok (.nx ρ1) S2)(i:exs F N r ρ1 S2=X):exs F N (.cons (.ifs c a b) r) ρ S=X:=by simp[exs,ex,h,f,i,Res.bind]
theorem qaz(h:evI F it ρ S=.ok ds S1)(f:forLoop (λd ρ S=>(asg F t d ρ S).bind λρ1 S1=>exs F N a ρ1 S1) ds ρ S1=.ok (.nx ρ1) S2)(i:exs F N r ρ1 S2=X):exs F N (.cons (.forS t it a) r) ρ S=X:=by
 simp only[exs,ex,h,Res.bind]at f ⊢;rw[f];exact i
theorem qA{f:CF}{l:List D}(i:l.length=f.np)(h:exs F N f.body (l.map some++List.replicate (f.nn-f.np) none) S=.ok (.rt d) S):callC F N f l S=.ok d S:=by
 simp only[callC,i,wN,h,Res.bind,leave];cases f.keeps <;> simp
theorem qeb{f:CF}{l:List D}(i:l.length=f.np)(h:exs F N f.body (l.map some++List.replicate (f.nn-f.np) none) S=.ok (.nx ρ) S):callC F N f l S=.ok .non S:=by
 simp only[callC,i,wN,h,Res.bind,leave];cases f.keeps <;> simp
theorem qa9{f:CF}{l:List D}(j:l.length=f.np)(m:f.keeps=false)(h:exs F N f.body (l.map some++List.replicate (f.nn-f.np) none) S=.ok (.rt d) (S1++S2))(i:S1.length=S.length)(n:refsLt S.length d=true):callC F N f l S=.ok d S1:=by
 simp only[callC,j,wN,h,Res.bind,leave,m];rw[wT (by simp)];split
 .rename_i z
  have:S2=[]:=by
   rw[wI,i]at z;exact wy.mp (by lia)
  rw[this,vY]
 .rw [<-i];simp
theorem qkD{f:CF}{l:List D}(i:l.length=f.np)(j:f.keeps=true)(h:exs F N f.body (l.map some++List.replicate (f.nn-f.np) none) S=.ok (.rt d) S1):callC F N f l S=.ok d S1:=by
 simp only[callC,i,wN,h,Res.bind,leave,j]
theorem qba(h:ev F e1 ρ S=.ok (.bl x) S)(f:ev F e2 ρ S=.ok (.bl y) S):ev F (.and e1 e2) ρ S=.ok (.bl (x&&y)) S:=by
 cases x <;> simp[ev,h,f,Res.bind]
theorem qj{i:Nat}(h:evs F es ρ S=.ok l S1)(f:F i l S1=.ok d S2):ev F (.call i es) ρ S=.ok d S2:=by simp[ev,h,f,Res.bind]
theorem qF(h:evs F es ρ S=.ok l S1)(f:bltD i l S1=.ok d S2):ev F (.blt i es) ρ S=.ok d S2:=by simp[ev,h,f,Res.bind]
theorem qe(h:ev F e ρ S=.ok d S1)(f:evs F es ρ S1=.ok l S2):evs F (.cons e es) ρ S=.ok (d::l) S2:=by simp[evs,h,f,Res.bind]
theorem qr(h:ev F e1 ρ S=.ok d1 S1)(f:ev F e2 ρ S1=.ok d2 S2)(i:binD o d1 d2 S2=some d):ev F (.bin o e1 e2) ρ S=.ok d S2:=by simp[ev,h,f,i,Res.bind]
theorem qQ(h:ev F e1 ρ S=.ok d1 S1)(f:ev F e2 ρ S1=.ok d2 S2)(i:cmpD o d1 d2 S2=some x):ev F (.cmp o e1 e2) ρ S=.ok (.bl x) S2:=by simp[ev,h,f,i,Res.bind]
theorem qR(h:ev F e1 ρ S=.ok d1 S1)(f:ev F e2 ρ S1=.ok d2 S2)(i:idxD S2 d1 d2=some d):ev F (.idx e1 e2) ρ S=.ok d S2:=by simp[ev,h,f,i,Res.bind]
theorem ze(h:evs F es ρ S=.ok l S1)(f:l.length<=PySem.sizeLine):ev F (.tup es) ρ S=.ok (.tup l) S1:=by simp[ev,h,f,Res.bind]
theorem t_of(h:ev F e ρ S=.ok (.bl x) S1):tst F (.val e) ρ S=.ok x S1:=by simp[tst,h,Res.bind,truD]
theorem t_no(h:tst F c ρ S=.ok x S1):tst F (.not c) ρ S=.ok (!x) S1:=by simp[tst,h,Res.bind]
theorem t_or(h:tst F c ρ S=.ok x S)(f:tst F c2 ρ S=.ok y S):tst F (.or c c2) ρ S=.ok (x || y) S:=by
 cases x <;> simp[tst,h,f,Res.bind]
theorem qmz(h:tst F c ρ S=.ok x S)(f:x=true->tst F c2 ρ S=.ok y S):tst F (.and c c2) ρ S=.ok (x&&y) S:=by
 cases x <;> simp[tst,h,f,Res.bind]
end
def yj{a:Type}(l:List a):l.filter (λ_=>true)=l:=List.filter_eq_self.mpr λ_ _=>rfl
def qgT{a:Type}(f:a->D)(p:List a):((p.map f).zip ((p.drop 1).map f)).map (λq=>D.tup [q.1,q.2])=(p.zip (p.drop 1)).map λq=>.tup [f q.1,f q.2]:=by
 rw[List.zip_map,wj];rfl
def refsI(k:Nat):∀l:List Int,refsLts k (l.map .int)=true
 |[]=>rfl
 |a::r=>by rw[wd,refsLts,refsI k r];rfl
def qN(k:Nat)(l:List Int):refsLt k (tupI l)=true:=refsI k l
def jr(k:Nat)(t:Tie):refsLt k (tieD t)=true:=by
 show(refsLt k (tupI t.1)&&(refsLt k (.int t.2)&&true))=true;rw[qN];rfl
def qbb(k:Nat):∀l:List Tie,refsLts k (l.map tieD)=true
 |[]=>rfl
 |a::r=>by rw[wd,refsLts,qbb k r,jr];rfl
def qgU(k:Nat)(w:Wb):refsLt k (webD w)=true:=by
 show(refsLt k (tupI w.costs)&&(refsLts k (w.ties.map tieD)&&true))=true;rw[qN,qbb];rfl
def yk(l:List Int)(S:Sr):bltD .len [tupI l] S=.ok (.int l.length) S:=by simp[bltD,one,bLen,lenD,tupI]
def yY{a:Int}{n:Nat}(h:a.natAbs<2^n):PySem.Builtin.Int.intBits a<=n:=by
 unfold PySem.Builtin.Int.intBits;split
 .lia
 .rename_i z
  have b:a.natAbs≠0:=by
   intro e;apply z;simp;lia
  have:=(Nat.log2_lt b).mpr h;lia
def js{a b:Int}(h:a.natAbs<2^64):mulOk a b=true:=by
 have:=yY h;unfold mulOk PySem.shortFactorBits;have e:decide (PySem.Builtin.Int.intBits a>64)=false:=by simp;lia
 rw[e];rfl
def jt{a b:Int}(h:b.natAbs<2^64):mulOk a b=true:=by
 have:=yY h;unfold mulOk PySem.shortFactorBits;have e:decide (PySem.Builtin.Int.intBits b>64)=false:=by simp;lia
 rw[e,vX];rfl
def qec{a b:Int}(h:a.natAbs<2^250)(c:b.natAbs<2^250):mulOk a b=true:=by
 have d:=yY h;have c:=yY c;unfold mulOk PySem.Builtin.Int.intTooBig PySem.bitsLine;have e:decide (((PySem.Builtin.Int.intBits a:Int)+(PySem.Builtin.Int.intBits b:Int))>((2^27:Nat):Int))=false:=by
  rw[vP];norm_cast;lia
 rw[e,vX];rfl
def qiw{a b:Int}(f:0<b)(h:b.natAbs<2^64):divOk a b=true:=by
 have c:=yY h;unfold divOk PySem.Builtin.divisionGoesByPylong;unfold PySem.Builtin.Int.intBits at c;have d:(b == 0)=false:=by rw[ww];lia
 rw[d]at c;simp only[d,wi,uO]at c ⊢;have e:decide (b.natAbs.log2 / 30+1>300)=false:=by rw[vP];lia
 simp only[e,vw];rfl
def bmul{a b:Int}(h:mulOk a b=true):binD .mul (.int a) (.int b) S=some (.int (a*b)):=by
 simp only[binD,binI];rw[wN h];rfl
def badd{a b:Int}:binD .add (.int a) (.int b) S=some (.int (a+b)):=rfl
def pk(S:Sr)(n:Nat)(v:Int):Sr:=S.set n (.lst [.int v])
def qv(S:Sr)(n:Nat)(v:Int):(pk S n v).length=S.length:=by simp[pk]
def qmA{S:Sr}{n:Nat}(h:n<S.length)(v:Int):(pk S n v)[n]?=some (.lst [.int v]):=by simp[pk,h]
def zJ{S T:Sr}{n:Nat}(h:n<S.length)(v:Int):pk S n v++T=pk (S++T) n v:=by simp[pk,List.set_append_left _ _ h]
def qed{n:Nat}{v:Int}(h:S[n]?=some (.lst [.int v])):pk S n v=S:=by
 unfold pk;apply List.ext_getElem?;intro i;rw[List.getElem?_set];split
 .rename_i e;subst e
  obtain⟨a,_⟩:=wF.mp h;rw[wN a,h]
 .rfl
def qS(h:evs F es ρ S=.ok l S1)(a:l.length<=1000):ev F (.lst false es) ρ S=.ok (.lst l) S1:=by
 have:l.length<=PySem.sizeLine:=by unfold PySem.sizeLine;lia
 simp[ev,h,this,Res.bind,newL]
def qbB(h:evs F es ρ S=.ok l S1)(b:l.length<=1000)(a:refsLts 0 l=true):ev F (.lst true es) ρ S=.ok (.ref S1.length) (S1++[.lst l]):=by
 have:l.length<=PySem.sizeLine:=by unfold PySem.sizeLine;lia
 simp[ev,h,this,Res.bind,newL,a]
def qaA(h:body d ρ S=.ok (.nx ρ1) S1):forLoop body (d::r) ρ S=forLoop body r ρ1 S1:=by
 simp only[forLoop,h,Res.bind]
def yu{b:Type}{g:b->D}{body:D->En->Sr->Res Fl}(P:List b->En->Sr->Prop)(xs:List b){ρ:En}{S:Sr}(f:P [] ρ S)(H:∀(pre:List b) (x:b) (a:List b) (ρ:En) (S:Sr),xs=pre++x::a->P pre ρ S->∃ρ1 S1,body (g x) ρ S=.ok (.nx ρ1) S1/\P (pre++[x]) ρ1 S1):
  ∃ρ' c,forLoop body (xs.map g) ρ S=.ok (.nx ρ') c/\P xs ρ' c:=by
 have d:∀(a pre:List b) (ρ:En) (S:Sr),xs=pre++a->P pre ρ S->∃ρ' c,forLoop body (a.map g) ρ S=.ok (.nx ρ') c/\P xs ρ' c:=by
  intro a;induction a with
  |nil=>intro pre ρ S e h;rw[vY]at e;subst e;exact⟨ρ,S,rfl,h⟩
  |cons x r i =>
   intro pre ρ S e h;obtain⟨ρ1,S1,e1,j⟩:=H pre x r ρ S e h;obtain⟨ρ',c,l,m⟩:=i (pre++[x]) ρ1 S1 (by rw[e];simp) j;exact⟨ρ',c,by rw[wd,qaA e1,l],m⟩
 exact d xs [] ρ S rfl f
def qdc{x:Type}{g:x->D}{n:Nat}{bind:D->En->Sr->Res En}{elt:En->Sr->Res D}(R:En->Prop)(I:List D->Sr->Prop)(i:∀ρ S,test ρ S=.ok true S):∀(ds:List x) (f:List D) (ρ:En) (S:Sr),f.length+ds.length<=1000->R ρ->I f S->S.length=n ->
  (∀d∈ds,∀(ρ:En) (m:List D) (S:Sr),R ρ->I m S->S.length=n->m.length<f.length+ds.length->∃ρ1 v j,bind (g d) ρ (S++[.lst m])=.ok ρ1 (S++[.lst m])/\R ρ1/\elt ρ1 (S++[.lst m])=.ok v (j++[.lst m])/\j.length=n/\refsLt 0 v=true/\I (m++[v]) j) ->
  ∃ρ' h j,lcLoop n bind test elt (ds.map g) ρ (S++[.lst f])=.ok ρ' (j++[.lst h])/\I h j/\j.length=n/\h.length=f.length+ds.length
 |[],f,ρ,S,_,_,hI,hn,_=>⟨ρ,f,S,by simp[lcLoop],hI,hn,by simp⟩
 |d::ds,f,ρ,S,hl,hR,hI,hn,H=>by
  obtain⟨ρ1,v,j,e1,o,y,l,A,p⟩:=H d wQ ρ f S hR hI hn (by simp);simp only[w4]at hl;rw[wd];unfold lcLoop;have B:appD (j++[.lst f]) (.ref n) v=.ok .non (j++[.lst (f++[v])]):=by
   subst l;have q:f.length<PySem.sizeLine:=by unfold PySem.sizeLine;lia
   simp[appD,A,q]
  rw[e1,Res.bind_ok,i,Res.bind_ok,wN rfl,y,Res.bind_ok,B,Res.bind_ok];obtain⟨ρ',h,S2,e,r,s,u⟩:=qdc R I i ds (f++[v]) ρ1 j (by simp;lia) o p l λd' hd ρ m S a b c w=>H d' (wO _ hd) ρ m S a b c (by simp at w ⊢;lia)
  exact⟨ρ',h,S2,e,r,s,by rw[u];simp;lia⟩
def qgV{f:Type}{g:f->D}{F:Fs}{fr:List Nat}{nt:Nat}{elt:CE}{tg:CT}{it:CI}{ρ:En}{S S1:Sr}{ds:List D}(xs:List f)(R:En->Prop)(I:List D->Sr->Prop)(i:evI F it ρ S=.ok ds S1)(hd:ds=xs.map g)(j:R (frE ρ fr nt))(l:xs.length<=1000)(hi:I [] S1)(H:∀d∈xs,∀(ρ:En) (m:List D) (S:Sr),R ρ->I m S->S.length=S1.length->m.length<xs.length->∃ρ1 v b,asg F tg (g d) ρ (S++[.lst m])=.ok ρ1 (S++[.lst m])/\R ρ1/\ev F elt ρ1 (S++[.lst m])=.ok v (b++[.lst m])/\b.length=S1.length/\refsLt 0 v=true/\I (m++[v]) b):
  ∃a b,ev F (.lc false fr nt elt tg it .nil) ρ S=.ok (.lst a) b/\I a b/\b.length=S1.length/\a.length=xs.length:=by
 obtain⟨ρ',c,b,e,o,h,p⟩:=qdc (n:=S1.length) (bind:=λd ρ S=>asg F tg d ρ S) (test:=λρ S=>tsts F .nil ρ S) (elt:=λρ S=>ev F elt ρ S) R I (λ_ _=>by simp[tsts]) xs [] _ S1 (by simpa using l) j hi rfl (by simpa using H);refine⟨c,b,?_,o,h,by simpa using p⟩;simp only[ev,i,Res.bind,hd,e,lcEnd];rw[<-h];simp
def rI(n:Nat):List Int:=(List.range n).map λ(k:Nat)=>(k:Int)
def zY(n:Nat):(rI n).length=n:=by simp[rI]
def qgW{n:Nat}{x:Int}:x∈rI n ↔ 0<=x/\x<n:=by
 unfold rI;rw[wp];constructor
 .rintro ⟨k,a,rfl⟩;have:=vu.mp a;lia
 .rintro ⟨b,c⟩;exact⟨x.toNat,vu.mpr (by lia),by lia⟩
def qgX(n:Nat):(rI n).Nodup:=by
 unfold rI;exact List.Pairwise.map _ (λa b h e=>h (by lia)) List.nodup_range
def qix(n:Nat):rngL 0 n 1=(rI n).map .int:=by
 unfold rngL rI;have:(((n:Int)-0+1-1) / 1).toNat=n:=by lia
 rw[this,wj];apply vO;intro k _;simp
def qgY{n:Nat}(h:n<=1000):rngD [.int n]=some ((rI n).map .int):=by
 have a:-(2^62)<=(n:Int):=by lia
 have b:(n:Int)<2^62:=by lia
 simp only[rngD,a,b,and_self,v9,qix]
def qmB{n:Nat}(h:n<=1000):((rI n).map D.int).length<=1000000:=by
 rw[wE,zY];exact vA h (by decide)
def qgZ{b c:Type}(f:b->c):∀(l:List b) (i:Nat),(l.map f).eraseIdx i=(l.eraseIdx i).map f
 |[],_=>by simp
 |a::r,0=>by simp
 |a::r,i+1=>by simp[qgZ f r i]
def qee{b:Type}:∀{l:List b} {i:Nat} {x:b},l[i]?=some x->(x::l.eraseIdx i).Perm l
 |[],i,x,h=>by simp at h
 |a::r,0,x,h=>by simp at h;subst h;simp
 |a::r,i+1,x,h=>by
  simp at h;have:=qee h;simp only[List.eraseIdx_cons_succ];exact(List.Perm.swap a x _).trans (this.cons a)
def qg0{l:List Int}(h:l.Nodup):(sortI l).Pairwise (· < ·):=by
 have c:=qam l;have d:(sortI l).Nodup:=(zH l).nodup_iff.mpr h;exact(c.and d).imp λ⟨a,b⟩=>by lia
def qe8{l:List Int}(h:l.length<64):sortL (l.map .int)=some ((sortI l).map .int):=by
 unfold sortL;rw[wN (by simpa using h),qY]
def fm{v m:Int}(h:0<m):0<=v.fmod m/\v.fmod m<m:=⟨vK v h,uY v h⟩
def qkE(h:evs F es ρ S=.ok l S1)(a:rngD l=some ds)(b:ds.length<=1000000):ev F (.rng k es) ρ S=match k with|some m=>newL m ds S1|none=>.ok (.tup ds) S1:=by
 cases k <;> simp only[ev,h,Res.bind,a,b,v9]
def qkF{n:Nat}(h:evs F es ρ S=.ok [.int n] S1)(hn:n<=1000):ev F (.rng (some true) es) ρ S=.ok (.ref S1.length) (S1++[.lst ((rI n).map .int)]):=by
 rw[qkE h (qgY hn) (qmB hn)];simp only[newL,refsI,v9]
def i_rng{n:Nat}(h:evs F es ρ S=.ok [.int n] S1)(hn:n<=1000):evI F (.rng es) ρ S=.ok ((rI n).map .int) S1:=by
 simp only[evI,h,Res.bind,qgY hn];rfl
def qmC(h:ev F o ρ S=.ok x S1)(hi:isLst S1 x=true)(b:ev F i ρ S1=.ok y S2)(c:popD S2 x y=.ok d a):ev F (.popAt o i) ρ S=.ok d a:=by
 simp only[ev,h,Res.bind,hi,v9,b,c]
def qjk(h:ev F o ρ S=.ok x S1)(hi:isLst S1 x=true)(b:ev F i ρ S1=.ok y S2)(c:appD S2 x y=.ok d a):ev F (.app o i) ρ S=.ok d a:=by
 simp only[ev,h,Res.bind,hi,v9,b,c]
def ent(t:Tie):List Int×D:=(t.1,.int t.2)
def dicD(ts:List Tie):SO:=.dic (ts.map ent)
structure KnOk (many:Nat) (ts:List Tie):Prop where
 nd:(ts.map (·.1)).Nodup
 ok:∀t∈ts,PlOk many t.1/\t.1.length<=4/\1<=t.2/\t.2<=1000000
def putTie(k:List Int)(w:Int)(ts:List Tie):List Tie :=
 if ts.any (λt=>decide (t.1=k))then ts.map (λt=>if t.1=k then(t.1,w)else t)else ts++[(k,w)]
def qg1(k:List Int)(w:Int)(ts:List Tie):putT k (.int w) (ts.map ent)=(putTie k w ts).map ent:=by
 unfold putT putTie;have e:(ts.map ent).any (λp=>decide (p.1=k))=ts.any (λt=>decide (t.1=k)):=by rw[List.any_map];rfl
 rw[e];split
 .rw [wj,wj]
  apply vO;intro t _;show(if t.1=k then(t.1,D.int w)else ent t)=ent (if t.1=k then(t.1,w)else t);split <;> rfl
 .simp [ent]
def KnOk.put{many:Nat}(h:KnOk many ts){w:Int}(l:PlOk many k)(m:k.length<=4)(f:1<=w)(i:w<=1000000):KnOk many (putTie k w ts)/\(putTie k w ts).length<=ts.length+1:=by
 unfold putTie;split
 .refine ⟨⟨?_,?_⟩,by simp⟩
  .rw [wj]
   have:ts.map ((·.1)∘λt=>if t.1=k then(t.1,w)else t)=ts.map (·.1):=by
    apply vO;intro t _;show(if t.1=k then(t.1,w)else t).1=t.1;split <;> rfl
   rw[this];exact h.nd
  .intro t d
   obtain⟨s,c,rfl⟩:=wp.mp d;split
   .rename_i e;exact⟨(h.ok s c).1,(h.ok s c).2.1,f,i⟩
   .exact h.ok s c
 .rename_i hn
  refine⟨⟨?_,?_⟩,by simp⟩
  .rw [vM,vV]
   refine⟨h.nd,by simp,λa ha b j e=>?_⟩;simp at j;obtain⟨s,c,rfl⟩:=wp.mp ha;apply hn;rw[List.any_eq_true];exact⟨s,c,by rw[wq,e,j]⟩
  .intro t d
   rcases wb.mp d with z|z
   .exact h.ok t z
   .simp at z;subst z;exact⟨l,m,f,i⟩
def look(ts:List Tie)(k:List Int):Int:=match ts with
 |[]=>0
 |t::r=>if t.1=k then t.2 else look r k
def qbC:∀{ts:List Tie} {k:List Int},k∈ts.map (·.1)->lookT k (ts.map ent)=some (.int (look ts k))/\∃t∈ts,t.1=k/\t.2=look ts k
 |[],k,h=>by simp at h
 |t::r,k,h=>by
  rw[wd];show(if t.1=k then some (D.int t.2)else lookT k (r.map ent))=some (.int (if t.1=k then t.2 else look r k))/\∃s∈t::r,s.1=k/\s.2=(if t.1=k then t.2 else look r k);by_cases e:t.1=k
  .rw [wN e,wN e];exact⟨rfl,t,wQ,e,rfl⟩
  .rw [wT e,wT e]
   have h':k∈r.map (·.1):=by
    rw[wd]at h;rcases wR.mp h with z|z
    .exact absurd z.symm e
    .exact z
   obtain⟨a,s,c,b⟩:=qbC h';exact⟨a,s,wO _ c,b⟩
def srt(ts:List Tie):List Tie:=(sortT (ts.map (·.1))).map λk=>(k,look ts k)
def qg2(ts:List Tie):(srt ts).map (·.1)=sortT (ts.map (·.1)):=by
 unfold srt;rw[wj];have:((λt:Tie=>t.1)∘λk=>(k,look ts k))=id:=rfl;rw[this,List.map_id]
def qiy(ts:List Tie):(srt ts).length=ts.length:=by
 unfold srt;rw[wE,(zb _).length_eq,wE]
def qkG{many:Nat}(h:KnOk many ts):(∀t∈srt ts,PlOk many t.1/\t.1.length<=4/\1<=t.2/\t.2<=1000000)/\((srt ts).map (·.1)).Pairwise λa b=>HT.lexLt a b=true:=by
 refine⟨λt c=>?_,by rw[qg2];exact jH h.nd⟩;unfold srt at c;obtain⟨k,d,rfl⟩:=wp.mp c;obtain⟨_,s,f,e1,i⟩:=qbC ((zb _).mem_iff.mp d);have:=h.ok s f;rw[e1,i]at this;exact this
def qaB:∀l:List (List Int),tupsOf (l.map tupI)=some l
 |[]=>rfl
 |a::r=>by simp[tupsOf,tupI,qY];exact qaB r
def qe9{l:List (List Int)}(h:l.length<64)(nd:l.Nodup)(ne:∀t∈l,t≠[]):sortL (l.map tupI)=some ((sortT l).map tupI):=by
 unfold sortL;rw[wN (by simpa using h)];cases l with
 |nil=>rfl
 |cons a r =>
  have:intsOf ((a::r).map tupI)=none:=rfl;rw[this];show(tupsOf ((a::r).map tupI)).bind _=_;rw[qaB,wf,wN ⟨nd,ne⟩]
def qkH{F:Fs}{ρ:En}{T:Sr}{kx j many:Nat}{ts:List Tie}(a:ρ[kx]?=some (some (.ref j)))(b:T[j]?=some (dicD ts))(h:KnOk many ts)(f:ts.length<64):
  ev F (.blt .tuple (.cons (.lc false [kx] 1 (.tup (.cons (.var 1) (.cons (.idx (.var 0) (.var 1)) .nil))) (.var 1) (.seq (.blt (.sorted false) (.cons (.var kx) .nil))) .nil) .nil)) ρ T=.ok (.tup ((srt ts).map tieD)) T:=by
 have i:ev F (.var kx) ρ T=.ok (.ref j) T:=by simp only[ev,varE,a]
 have n:walkD T (.ref j)=some ((ts.map (·.1)).map tupI):=by
  simp only[walkD,b,dicD,wj];rfl
 have c:bltD (.sorted false) [.ref j] T=.ok (.lst ((sortT (ts.map (·.1))).map tupI)) T:=by
  simp only[bltD,one,bSorted,n,wf];rw[qe9 (by simpa using f) h.nd (λt o=>by obtain⟨s,c,rfl⟩:=wp.mp o;exact(h.ok s c).1.ne)];rfl
 have d:ev F (.blt (.sorted false) (.cons (.var kx) .nil)) ρ T=.ok (.lst ((sortT (ts.map (·.1))).map tupI)) T:=qF (qe i rfl) c;have e:=qd8 (g:=tupI) (F:=F) (fr:=[kx]) (nt:=1) (elt:=.tup (.cons (.var 1) (.cons (.idx (.var 0) (.var 1)) .nil))) (tg:=.var 1) (it:=.seq (.blt (.sorted false) (.cons (.var kx) .nil))) (ifs:=.nil) (ρ:=ρ) (S:=T) (S1:=T) (ds:=(sortT (ts.map (·.1))).map tupI) (sortT (ts.map (·.1))) (λ_=>true) (λk=>tieD (k,look ts k)) (λρ=>∃x,ρ=[some (.ref j),x])
  (by simp only[evI,d,Res.bind]) rfl ⟨none,by simp[frE,a]⟩ (by rw[(zb _).length_eq,wE];unfold PySem.sizeLine;lia) (by
   rintro k p ρ m ⟨x,rfl⟩;refine⟨_,rfl,⟨_,rfl⟩,rfl,λ_=>⟨ze (l:=[tupI k,.int (look ts k)]) (qe rfl (qe (qR (d1:=.ref j) (d2:=tupI k) rfl rfl ?_) rfl)) (by simp[PySem.sizeLine]),jr _ _⟩⟩;have q:j<T.length:=(wF.mp b).1;have:(T++[SO.lst m])[j]?=some (dicD ts):=by rw[wL q,b]
   simp only[idxD,tupI,this,dicD,qY,wf];exact(qbC ((zb _).mem_iff.mp p)).1)
 rw[yj]at e;refine qF (qe e rfl) ?_;simp only[bltD,one,bTuple,seqOf,lstOf,wu,ofO];unfold srt;rw[wj];rfl
def qg3{p:List Int}(h:p.Pairwise (· < ·)):p.Nodup:=h.imp λa=>by lia
def eu:Nat->Int->Int->Int
 |0,a,_=>a
 |n+1,a,b=>if b=0 then a else eu n b (a.fmod b)
def half{a b:Int}(h:0<b)(c:0<a.fmod b):2*b.fmod (a.fmod b)<b:=by
 have d:=uY a h;have f:=uY b c;have i:=vK b c;have j:=Int.mul_fdiv_add_fmod b (a.fmod b);have l:0<b.fdiv (a.fmod b):=by
  rcases Int.lt_or_le 0 (b.fdiv (a.fmod b))with z|z
  .exact z
  .exfalso
   have:a.fmod b*b.fdiv (a.fmod b)<=0:=by
    have:=ub z (Int.le_of_lt c);simpa using this
   omega
 have m:a.fmod b<=a.fmod b*b.fdiv (a.fmod b):=by
  have:=ub (show(1:Int)<=b.fdiv (a.fmod b) by omega) (Int.le_of_lt c);simpa using this
 omega
def wl{test:En->Sr->Res Bool}{body:En->Sr->Res Fl}{E:Int->Int->En}{S:Sr}(l:∀a b,test (E a b) S=.ok (!(b == 0)) S)(o:∀a b,0<b->body (E a b) S=.ok (.nx (E b (a.fmod b))) S):∀(k n:Nat) (a b:Int),0<=a->0<=b->b<2^k->2*k+1<=n->whileLoop test body n (E a b) S=.ok (.nx (E (eu n a b) 0)) S:=by
 have stop:∀(n:Nat) (a:Int),0<n->whileLoop test body n (E a 0) S=.ok (.nx (E (eu n a 0) 0)) S:=by
  intro n a h;cases n with
  |zero=>omega
  |succ n =>
   unfold whileLoop eu;rw[l,wN rfl];rfl
 have go:∀(n:Nat) (a b:Int),0<b->whileLoop test body (n+1) (E a b) S=whileLoop test body n (E b (a.fmod b)) S:=by
  intro n a b h;rw[whileLoop,l,Res.bind_ok];have:(!(b == 0))=true:=by simp;omega
  rw[wN this,o a b h,Res.bind_ok]
 have d:∀(n:Nat) (a b:Int),0<b->eu (n+1) a b=eu n b (a.fmod b):=λn a b h=>by rw[eu,wT (by omega)]
 intro k;induction k with
 |zero =>
  intro n a b ha j f hn;have:b=0:=by simp at f;omega
  subst this;exact stop n a (by omega)
 |succ k p =>
  intro n a b ha j f hn;by_cases z:b=0
  .subst z;exact stop n a (by omega)
  .have c:0<b:=by omega
   obtain⟨m,rfl⟩:∃m,n=m+2:=⟨n-2,by omega⟩;have q:=vK a c;rw[go _ _ _ c,d _ _ _ c];by_cases r:a.fmod b=0
   .rw [r];exact stop _ _ (by omega)
   .have i:0<a.fmod b:=by omega
    rw[go _ _ _ i,d _ _ _ i];have s:=half c i;have e:(2:Int)^(k+1)=2*2^k:=by rw[Int.pow_succ];omega
    exact p m _ _ q (vK b i) (by omega) (by omega)
def qef{N:Nat}{S S1:Sr}(h:whileLoop (λρ S=>tst F c ρ S) (λρ S=>exs F N a ρ S) N ρ S=.ok (.nx ρ1) S1)(b:exs F N r ρ1 S1=X):exs F N (.cons (.whileS c a) r) ρ S=X:=by
 simp only[exs,ex,h,Res.bind];exact b
def bmod{a b:Int}(h:b≠0):binD .mod (.int a) (.int b) S=some (.int (a.fmod b)):=by
 simp only[binD,binI];rw[wT h];rfl
def qmD{a:Int}(h:0<=a):bltD .abs [.int a] S=.ok (.int a) S:=by
 simp only[bltD,one,bAbs];rw[wT (by omega)]
def qg4:∀{l:List Int},(∀x∈l,0<=x)->0<=l.sum
 |[],_=>by simp
 |a::r,h=>by
  have:=qg4 (l:=r) λx b=>h x (wO _ b)
  have:=h a wQ;simp only[ud];omega
def low(n:Nat)(t b:Int):D:=.tup [.int (t.fdiv (eu n t b)),.int (b.fdiv (eu n t b))]
def isIntB:D->Bool
 | .int _=>true
 |_=>false
def wholeB(a b:Int):D->Bool
 | .int i=>decide (a<=i)&&decide (i<=b)
 |_=>false
def upB(ns:List Int):Bool:=(ns.zip (ns.drop 1)).all λp=>decide (p.1<p.2)
def upT(ks:List (List Int)):Bool:=(ks.zip (ks.drop 1)).all λp=>HT.lexLt p.1 p.2
def placesB(many:Int):D->Bool
 | .tup l=>match intsOf l with
  |some ns=>!ns.isEmpty&&ns.all (λi=>decide (0<=i)&&decide (i<=many-1))&&upB ns
  |none=>false
 |_=>false
def lenT:D->Nat
 | .tup l=>l.length
 |_=>0
def tieB(many:Int):D->Bool
 | .tup [p,h]=>placesB many p&&decide (lenT p<=4)&&wholeB 1 1000000 h
 |_=>false
def keyT:D->List Int
 | .tup [.tup l,_]=>(intsOf l).getD []
 |_=>[]
def costsB:D->Bool
 | .tup l=>decide (1<=l.length)&&decide (l.length<=12)&&l.all (wholeB 1 100)
 |_=>false
def tiesB(many:Int):D->Bool
 | .tup l=>decide (l.length<=30)&&l.all (tieB many)&&upT (l.map keyT)
 |_=>false
def isWebB:D->Bool
 | .tup [c,t]=>costsB c&&tiesB (lenT c) t
 |_=>false
def qbc(a b:Int):∀l:List D,l.all (wholeB a b)=match intsOf l with
  |some ns=>ns.all (λi=>decide (a<=i)&&decide (i<=b))
  |none=>false
 |[]=>rfl
 |x::r=>by
  have c:=qbc a b r;cases x with
  |int i =>
   simp only[vf,wholeB,intsOf];cases z:intsOf r with
   |none=>rw[z]at c;simp only[Option.map_none];rw[c];simp
   |some ns=>rw[z]at c;simp only[wu,vf];rw[c]
  |_=>simp[wholeB,intsOf]
def qeg(h:intsOf l=some ns):l=ns.map .int:=intsOf_eq h
def qkI{many:Int}(h:tieB many x=true):∃t:Tie,x=tieD t/\t.1≠[]/\keyT x=t.1:=by
 unfold tieB at h;split at h
 .rename_i p w
  simp only[wP]at h;obtain⟨⟨a,b⟩,c⟩:=h;clear b;unfold placesB at a;split at a
  .rename_i l
   cases z:intsOf l with
   |none=>rw[z]at a;cases a
   |some ns =>
    rw[z]at a;simp only[wP]at a;cases w with
    |int i =>
     refine⟨(ns,i),?_,?_,?_⟩
     .rw [qeg z];rfl
     .intro e;rw[show(ns,i).1=ns from rfl]at e;rw[e]at a;simp at a
     .simp only[keyT,z,Option.getD_some]
    |_=>simp[wholeB]at c
  .cases a
 .cases h
def qeh{many:Int}:∀{l:List D},l.all (tieB many)=true->∃ts:List Tie,l=ts.map tieD/\l.map keyT=ts.map (·.1)
 |[],_=>⟨[],rfl,rfl⟩
 |x::r,h=>by
  simp only[vf,wP]at h;obtain⟨t,e1,_,a⟩:=qkI h.1;obtain⟨ts,b,c⟩:=qeh h.2;exact⟨t::ts,by rw[e1,b];rfl,by rw[wd,wd,a,c]⟩
section
variable{F:Fs}{N:Nat}{ρ ρ1:En}{S S1 S2:Sr}{e1 e2:CE}{c c2:CB}
theorem jg(h:tst F c ρ S=.ok true S1):tst F (.or c c2) ρ S=.ok true S1:=by simp[tst,h,Res.bind]
theorem zw(h:tst F c ρ S=.ok false S)(a:tst F c2 ρ S=.ok y S):tst F (.or c c2) ρ S=.ok y S:=by simp[tst,h,a,Res.bind]
theorem jM(h:ev F e1 ρ S=.ok (.bl false) S1):ev F (.and e1 e2) ρ S=.ok (.bl false) S1:=by simp[ev,h,Res.bind]
end
def qZ(l:List D)(S:Sr):bltD .len [.tup l] S=.ok (.int l.length) S:=rfl
def pow6(F:Fs)(ρ:En)(T:Sr):ev F (.bin .pow (.cst (.int 10)) (.cst (.int 6))) ρ T=.ok (.int 1000000) T:=by
 simp[ev,Res.bind,binD,binI]
mutual
def gd:D->Bool
 | .ref _=>false
 | .tup l=>decide (l.length<=900)&&gds l
 | .lst l=>gds l
 | .non=>true
 | .bl _=>true
 | .int _=>true
 | .str _=>true
 | .emp=>true
 | .exc _=>false
def gds:List D->Bool
 |[]=>true
 |x::r=>gd x&&gds r
end
mutual
def tr:D->Bool
 | .int i=>decide (i.natAbs<=10000000)
 | .tup l=>decide (l.length<=60)&&trs l
 |_=>false
def trs:List D->Bool
 |[]=>true
 |x::r=>tr x&&trs r
end
def qei(l:List D)(a b:Option Int):(∀x∈cutD l a b,x∈l)/\(cutD l a b).length<=l.length:=by
 unfold cutD;exact⟨λx c=>wr (wm c),by simp;lia⟩
def bcatT{a b:List D}(h:a.length+b.length<=1000):binD .add (.tup a) (.tup b) S=some (.tup (a++b)):=by
 have:catOk a b=true:=by unfold catOk PySem.sizeLine;rw[wq];lia
 simp[binD,this]
def ym(h:ev F e ρ S=.ok (.tup l) S)(c:evO F lo ρ S=.ok a S)(d:evO F hi ρ S=.ok b S):ev F (.slc e lo hi) ρ S=.ok (.tup (cutD l a b)) S:=by
 simp only[ev,h,c,d,Res.bind,slcD,ofO]
def tl:CSs->CSs
 | .cons _ r=>r
 | .nil=>.nil
def lay(S:Sr)(cs:List Int)(ts:List Tie)(u:Int)(X:Sr):Sr:=S++(.lst (cs.map .int)::dicD ts::.lst [.int u]::X)
@[irreducible] def Ok{α:Type}(r:Res α)(Q:α->Sr->Prop):Prop:=∃a S,r=.ok a S/\Q a S
def Ok.ex(h:Ok r Q):∃a S,r=.ok a S/\Q a S:=by unfold Ok at h;exact h
def Ok.mk{b:Type}{r:Res b}{Q:b->Sr->Prop}(h:∃a S,r=.ok a S/\Q a S):Ok r Q:=by unfold Ok;exact h
def Ok.mono(h:Ok r Q)(k:∀a S,Q a S->Q' a S):Ok r Q':=by
 obtain⟨a,S,e,q⟩:=h.ex;exact .mk ⟨a,S,e,k a S q⟩
def qcs(h:Q a S):Ok (.ok a S) Q:=.mk ⟨a,S,rfl,h⟩
def Ok.of(e:r=.ok a S)(h:Q a S):Ok r Q:=.mk ⟨a,S,e,h⟩
section
variable{F:Fs}{N:Nat}{ρ:En}{S:Sr}{r a b:CSs}{e e1 e2:CE}{t:CT}{c:CB}{Q:Fl->Sr->Prop}{s:CS}
theorem ju(h:Q (.nx ρ) S):Ok (exs F N .nil ρ S) Q:=by rw[zT];exact qcs h
theorem qej(h:Ok (ev F e ρ S) λd S1=>Q (.rt d) S1):Ok (exs F N (.cons (.ret e) r) ρ S) Q:=by
 obtain⟨d,S1,e1,f⟩:=h.ex;rw[qC e1];exact qcs f
theorem zf(h:Ok (ev F e ρ S) λd S1=>Ok (asg F t d ρ S1) λρ1 S2=>Ok (exs F N r ρ1 S2) Q):Ok (exs F N (.cons (.set t e) r) ρ S) Q:=by
 obtain⟨d,S1,e1,f⟩:=h.ex;obtain⟨ρ1,S2,e2,i⟩:=f.ex;rw[x_set e1 e2 rfl];exact i
theorem qg5(h:Ok (ev F e ρ S) λ_ S1=>Ok (exs F N r ρ S1) Q):Ok (exs F N (.cons (.expr e) r) ρ S) Q:=by
 obtain⟨d,S1,e1,f⟩:=h.ex;rw[x_expr e1 rfl];exact f
theorem o_if(h:Ok (tst F c ρ S) λx S1=>Ok (exs F N (if x then a else b) ρ S1) λf S2=>match f with|.nx ρ1=>Ok (exs F N r ρ1 S2) Q|f=>Q f S2):Ok (exs F N (.cons (.ifs c a b) r) ρ S) Q:=by
 obtain⟨x,S1,e1,i⟩:=h.ex;obtain⟨f,S2,e2,d⟩:=i.ex;have:exs F N (.cons (.ifs c a b) r) ρ S=(exs F N (if x then a else b) ρ S1).bind λf S1=>match f with|.nx ρ1=>exs F N r ρ1 S1|f=>.ok f S1:=by
  cases x <;> simp only[exs,ex,e1,Res.bind] <;> rfl
 rw[this,e2,Res.bind_ok];cases f <;> first|exact d|exact qcs d
theorem o_no(h:Ok (tst F c ρ S) λx S1=>x=false/\Ok (exs F N r ρ S1) Q):Ok (exs F N (.cons (.ifs c a .nil) r) ρ S) Q:=by
 obtain⟨x,S1,e1,rfl,d⟩:=h.ex;rw[x_no e1 rfl];exact d
theorem qbd{l:Type}{g:l->D}{it:CI}(P:List l->En->Sr->Prop)(xs:List l)(h:Ok (evI F it ρ S) λds S1=>ds=xs.map g/\P [] ρ S1)(H:∀(pre:List l) (x:l) (i:List l) (ρ:En) (S:Sr),xs=pre++x::i->P pre ρ S->Ok (asg F t (g x) ρ S) λρ1 S1=>Ok (exs F N a ρ1 S1) λf S2=>match f with|.nx j=>P (pre++[x]) j S2|_=>False)(K:∀ρ' m,P xs ρ' m->Ok (exs F N r ρ' m) Q):Ok (exs F N (.cons (.forS t it a) r) ρ S) Q:=by
 obtain⟨ds,S1,e1,rfl,o⟩:=h.ex;obtain⟨ρ',m,e2,p⟩:=yu (g:=g) (body:=λd ρ S=>(asg F t d ρ S).bind λρ1 S1=>exs F N a ρ1 S1) P xs o (by
  intro pre x i ρ S q u;obtain⟨ρ1,S2,v,w⟩:=(H pre x i ρ S q u).ex;obtain⟨f,y,A,n⟩:=w.ex;cases f with
  |nx j=>exact⟨j,y,by rw[v,Res.bind_ok,A],n⟩
  |_=>exact n.elim)
 rw[qaz e1 e2 rfl];exact K ρ' m p
theorem j4{f:CF}{l:List D}{Q:D->Sr->Prop}(j:l.length=f.np)(m:f.keeps=false)(h:Ok (exs F N f.body (l.map some++List.replicate (f.nn-f.np) none) S) λx S1=>match x with
  | .rt d=>S.length<=S1.length/\refsLt S.length d=true/\Q d (S1.take S.length)
  |_=>False):Ok (callC F N f l S) Q:=by
 obtain⟨x,S1,e1,i⟩:=h.ex;cases x with
 |rt d =>
  obtain⟨p,n,o⟩:=i;have:callC F N f l S=.ok d (S1.take S.length):=by
   simp only[callC,j,wN,e1,Res.bind,leave,m];rw[wT (by simp)];split
   .rename_i z;rw[<-z,List.take_length]
   .first|rfl|rw[wN n]
  rw[this];exact qcs o
 |_=>exact i.elim
theorem qjl{e e2:CE}{Q:D->Sr->Prop}(h:Ok (ev F e ρ S) λx S1=>∃n l,x=.ref n/\S1[n]?=some (.lst l)/\Ok (ev F e2 ρ S1) λy S2=>S2[n]?=some (.lst l)/\l.length<=1000/\refsLt 0 y=true/\Q .non (S2.set n (.lst (l++[y])))):Ok (ev F (.app e e2) ρ S) Q:=by
 obtain⟨x,S1,e1,n,l,rfl,d,f⟩:=h.ex;obtain⟨y,S2,e2,i,o,j,m⟩:=f.ex;have ha:appD S2 (.ref n) y=.ok .non (S2.set n (.lst (l++[y]))):=by
  have:l.length<PySem.sizeLine:=by unfold PySem.sizeLine;lia
  simp[appD,i,j,this]
 rw[qjk e1 (by simp[isLst,d]) e2 ha];exact qcs m
theorem qkJ(h:ev F e ρ S=.ok (.lst l) S1):evI F (.seq e) ρ S=.ok l S1:=by
 simp only[evI,h,Res.bind]
end
def qct(a b:Int)(d:0<b):Int.gcd b (a.fmod b)=Int.gcd a b:=by
 have e:a=a.fmod b+b*a.fdiv b:=by have:=Int.mul_fdiv_add_fmod a b;lia
 have c:Int.gcd a b=Int.gcd (a.fmod b+b*a.fdiv b) b:=by rw[<-e]
 rw[c,Int.gcd_comm b];simp
def qg6:∀(k n:Nat) (a b:Int),0<=a->0<=b->b<2^k->2*k+1<=n->eu n a b=(Int.gcd a b:Int):=by
 have stop:∀(n:Nat) (a:Int),0<=a->0<n->eu n a 0=(Int.gcd a 0:Int):=by
  intro n a ha h;cases n with
  |zero=>lia
  |succ n=>unfold eu;rw[wN rfl,Int.gcd_zero_right];lia
 have d:∀(n:Nat) (a b:Int),0<b->eu (n+1) a b=eu n b (a.fmod b):=λn a b h=>by rw[eu,wT (by lia)]
 intro k;induction k with
 |zero =>
  intro n a b ha j f hn;have:b=0:=by simp at f;lia
  subst this;exact stop n a ha (by lia)
 |succ k l =>
  intro n a b ha j f hn;by_cases z:b=0
  .subst z;exact stop n a ha (by lia)
  .have c:0<b:=by lia
   obtain⟨m,rfl⟩:∃m,n=m+2:=⟨n-2,by lia⟩;have p:=vK a c;rw[d _ _ _ c,<-qct a b c];by_cases o:a.fmod b=0
   .rw [o];exact stop _ _ (by lia) (by lia)
   .have i:0<a.fmod b:=by lia
    rw[d _ _ _ i,<-qct b _ i];have q:=half c i;have e:(2:Int)^(k+1)=2*2^k:=by rw[Int.pow_succ];lia
    exact l m _ _ (by lia) (vK b i) (by lia) (by lia)
def lw(t b:Int):Int×Int:=(t.fdiv (Int.gcd t b:Int),b.fdiv (Int.gcd t b:Int))
structure Lw (p:Int×Int):Prop where
 pos:1<=p.2
 one:Int.gcd p.1 p.2=1
def zU{t b:Int}(a:1<=b):0<Int.gcd t b:=Int.gcd_pos_of_ne_zero_right t (by lia)
def qcu{t g:Int}(a:0<g)(h:g∣t):t.fdiv g*g=t:=by
 rw[uJ _ (by lia)];exact Int.ediv_mul_cancel h
def qaC{t b:Int}(a:1<=b):(lw t b).1*(Int.gcd t b:Int)=t/\(lw t b).2*(Int.gcd t b:Int)=b :=
 ⟨qcu (by have:=zU (t:=t) a;lia) (Int.gcd_dvd_left t b),qcu (by have:=zU (t:=t) a;lia) (Int.gcd_dvd_right t b)⟩
def jv{t b:Int}(a:1<=b):(lw t b).1*b=t*(lw t b).2:=by
 obtain⟨c,d⟩:=qaC (t:=t) a
 calc (lw t b).1*b=(lw t b).1*((lw t b).2*(Int.gcd t b:Int)):=by rw[d]
  _=((lw t b).1*(Int.gcd t b:Int))*(lw t b).2:=by rw[Int.mul_assoc,uq (lw t b).2]
  _=t*(lw t b).2:=by rw[c]
def zV{t b:Int}(a:1<=b):Lw (lw t b):=by
 have c:=zU (t:=t) a;obtain⟨i,d⟩:=qaC (t:=t) a;have f:0<(Int.gcd t b:Int):=by lia
 refine⟨?_,?_⟩
 .rcases Int.lt_or_le 0 (lw t b).2 with z|z
  .exact z
  .exfalso
   have:=Int.mul_le_mul_of_nonneg_right z (show 0<=(Int.gcd t b:Int) by lia);rw[d]at this;lia
 .have e1:(lw t b).1=t / (Int.gcd t b:Int):=uJ _ (by lia)
  have h:(lw t b).2=b / (Int.gcd t b:Int):=uJ _ (by lia);rw[e1,h];exact Int.gcd_ediv_gcd_ediv_gcd c
def qek{p a b:Int}(h:p∣a*b)(g:Int.gcd p a=1):p∣b:=by
 rw[<-Int.natAbs_dvd_natAbs]at h ⊢;rw[Int.natAbs_mul]at h;exact Nat.Coprime.dvd_of_dvd_mul_left (show Nat.Coprime _ _ from g) h
def yZ(c:Lw p)(d:Lw q)(h:p.1*q.2=q.1*p.2):p=q:=by
 have d1:p.2∣q.2:=by
  have:p.2∣p.1*q.2:=by rw[h];exact Int.dvd_mul_left _ _
  exact qek this (by rw[Int.gcd_comm];exact c.one)
 have d2:q.2∣p.2:=by
  have:q.2∣q.1*p.2:=by rw[<-h];exact Int.dvd_mul_left _ _
  exact qek this (by rw[Int.gcd_comm];exact d.one)
 have i:=c.pos;have j:=d.pos;have f:p.2=q.2:=by
  have a:=Int.le_of_dvd (by lia) d1;have b:=Int.le_of_dvd (by lia) d2;lia
 have e1:p.1=q.1:=by
  rw[f]at h;exact uK (by lia) h
 exact Prod.ext e1 f
def nth(o:List Int)(x:Int):Int:=o.getD x.toNat 0
def cal(o p:List Int):List Int:=sortI (p.map (nth o))
def qmE{ns:List Int}{c:Int}(h:ρ[0]?=some (some (.lst (ns.map .int))))(d:1<=c)(f:c<=1000):∃n:Nat,(2*n:Int)<=c+1/\evI F (.rng (.cons (.cst (.int 0)) (.cons (.blt .max2 (.cons (.cst (.int 1)) (.cons (.blt .min2 (.cons (.blt .len (.cons (.var 0) .nil)) (.cons (.cst (.int c)) .nil))) .nil))) (.cons (.cst (.int 2)) .nil)))) ρ S=.ok ((List.range n).map λ(k:Nat)=>D.int (0+2*k)) S:=by
 obtain⟨b,a⟩:∃b:Int,b=(if(if c<(ns.length:Int)then c else(ns.length:Int))>1 then(if c<(ns.length:Int)then c else(ns.length:Int))else 1):=⟨_,rfl⟩;have i:1<=b/\b<=c:=by rw[a];split <;> split <;> lia
 refine⟨((b-0+2-1) / 2).toNat,by lia,?_⟩;have j:ev F (.var 0) ρ S=.ok (.lst (ns.map .int)) S:=by simp only[ev,varE,h]
 have l:ev F (.blt .len (.cons (.var 0) .nil)) ρ S=.ok (.int ns.length) S:=qF (qe j rfl) (by simp[bltD,one,bLen,lenD]);have m:ev F (.blt .min2 (.cons (.blt .len (.cons (.var 0) .nil)) (.cons (.cst (.int c)) .nil))) ρ S=.ok (.int (if c<(ns.length:Int)then c else(ns.length:Int))) S:=qF (qe l (qe rfl rfl)) rfl;have o:ev F (.blt .max2 (.cons (.cst (.int 1)) (.cons (.blt .min2 (.cons (.blt .len (.cons (.var 0) .nil)) (.cons (.cst (.int c)) .nil))) .nil))) ρ S=.ok (.int b) S:=qF (qe rfl (qe m rfl)) (by rw[a];rfl);have p:evs F (.cons (.cst (.int 0)) (.cons (.blt .max2 (.cons (.cst (.int 1)) (.cons (.blt .min2 (.cons (.blt .len (.cons (.var 0) .nil)) (.cons (.cst (.int c)) .nil))) .nil))) (.cons (.cst (.int 2)) .nil))) ρ S=.ok [.int 0,.int b,.int 2] S:=qe rfl (qe o rfl);simp only[evI,p,Res.bind,rngD];have q:-(2^62)<=(0:Int)/\(0:Int)<2^62/\-(2^62)<=b/\b<2^62/\(0:Int)<2/\(2:Int)<2^62:=⟨by decide,by decide,by lia,by lia,by decide,by decide⟩;rw[wN q];rfl
end RP
namespace RP
open R PySem
def tx(p:Int×Int):Str:=if p.2=1 then Str.ofString (toString p.1)else Str.ofString (toString p.1)++Str.ofString "/"++Str.ofString (toString p.2)
end RP
namespace RP
open R
abbrev NW:Nat:=600
@[irreducible] def G(d:Nat):Fs:=run prg NW d
def qg7(d:Nat):G d=run prg NW d:=by unfold G;rfl
def G_at{d i:Nat}(h:prg[i]?=some c)(l:List D)(S:Sr):G (d+1) i l S=callC (G d) NW c l S:=by
 rw[qg7,qg7];show(match prg[i]? with|some c=>callC (run prg NW d) NW c l S|none=>.no)=_;rw[h]
def qdd{d:Nat}{i:Int}:G (d+1) 0 [.int i] S=.ok (.bl true) S:=by
 rw[G_at (c:=c_0) rfl];simp[callC,c_0,Res.bind,exs,ex,ev,varE,isiD,leave]
def jw{d:Nat}{i a b:Int}:G (d+2) 1 [.int i,.int a,.int b] S=.ok (.bl (decide (a<=i)&&decide (i<=b))) S:=by
 rw[G_at (c:=c_1) rfl];by_cases h:a<=i <;> simp[callC,c_1,exs,ex,ev,evs,varE,Res.bind,qdd,cmpD,h,leave]
def yP{d:Nat}(a:refsLt 0 x=true):G (d+1) 0 [x] S=.ok (.bl (isIntB x)) S:=by
 rw[G_at (c:=c_0) rfl];cases x with
 |ref n=>simp[refsLt]at a
 |exc n=>simp[refsLt]at a
 |_=>exact qA rfl (qC rfl)
def jN{d:Nat}{a b:Int}(f:refsLt 0 x=true):G (d+2) 1 [x,.int a,.int b] S=.ok (.bl (wholeB a b x)) S:=by
 cases x with
 |int i=>exact jw
 |ref n=>simp[refsLt]at f
 |exc n=>simp[refsLt]at f
 |_ =>
  rw[G_at (c:=c_1) rfl];exact qA rfl (qC (jM (qj rfl (yP f))))
def qbD{d:Nat}:G (d+1) 15 [tupI p] S=.ok (.bl (upB p)) S:=by
 rw[G_at (c:=c_15) rfl];have e:evI (G d) (.zip (.var 0) (.slc (.var 0) (.some (.cst (.int 1))) .none)) [some (tupI p)] S=.ok ((p.zip (p.drop 1)).map λq=>.tup [.int q.1,.int q.2]) S:=by
  have:slcD S (tupI p) (some 1) none=some (tupI (p.drop 1)):=by
   unfold slcD tupI;simp only[cut1];simp
  simp[Res.bind,callC,exs,ex,ev,evs,evO,evI,asg,asgs,tst,tsts,varE,frE,bltD,one,two,leave,ofO,truD,this];simp only[tupI,walkF,List.zip_map',List.zip_map,wj];simp
 exact qA rfl (qC (yt (p.zip (p.drop 1)) (λq=>decide (q.1<q.2)) (λρ=>∃x y,ρ=[x,y]) e rfl ⟨_,_,rfl⟩ (by
  rintro q _ ρ ⟨x,y,rfl⟩;exact⟨_,rfl,⟨_,_,rfl⟩,by simp[Res.bind,callC,exs,ex,ev,evs,evO,evI,asg,asgs,tst,tsts,varE,frE,bltD,one,two,leave,ofO,truD,cmpD]⟩)))
def qaR{d:Nat}{p:List (List Int)}:G (d+1) 15 [.lst (p.map tupI)] S=.ok (.bl (upT p)) S:=by
 rw[G_at (c:=c_15) rfl];have e:evI (G d) (.zip (.var 0) (.slc (.var 0) (.some (.cst (.int 1))) .none)) [some (.lst (p.map tupI))] S=.ok ((p.zip (p.drop 1)).map λq=>.tup [tupI q.1,tupI q.2]) S:=by
  have:slcD S (.lst (p.map tupI)) (some 1) none=some (.lst ((p.drop 1).map tupI)):=by
   unfold slcD lstOf;simp[cut1]
  rw[<-qgT];simp only[evI,ev,evO,varE,Res.bind,uV,this,ofO,walkF]
 exact qA rfl (qC (yt (p.zip (p.drop 1)) (λq=>HT.lexLt q.1 q.2) (λρ=>∃x y,ρ=[x,y]) e rfl ⟨_,_,rfl⟩ (by
  rintro q _ ρ ⟨x,y,rfl⟩;exact⟨_,rfl,⟨_,_,rfl⟩,by simp[Res.bind,callC,exs,ex,ev,evs,evO,evI,asg,asgs,tst,tsts,varE,frE,bltD,one,two,leave,ofO,truD,cmpD,tupI,qY]⟩)))
def qaS{d:Nat}{many:Int}(h:refsLt 0 x=true):G (d+3) 14 [x,.int many] S=.ok (.bl (placesB many x)) S:=by
 rw[G_at (c:=c_14) rfl];cases x with
 |ref n=>simp[refsLt]at h
 |exc n=>simp[refsLt]at h
 |tup l =>
  cases l with
  |nil=>exact qA rfl (zB (S1:=S) (zw (t_no (x:=true) (t_of rfl)) rfl) (qC rfl))
  |cons a r =>
   refine qA rfl (x_no (S1:=S) (zw (t_no (x:=true) (t_of rfl)) rfl) (qC ?_));have e:=yt (g:=λy:D=>y) (F:=G (d+2)) (fr:=[1]) (nt:=1) (elt:=.call 1 (.cons (.var 1) (.cons (.cst (.int 0)) (.cons (.bin .sub (.var 0) (.cst (.int 1))) .nil)))) (tg:=.var 1) (it:=.seq (.var 0)) (ρ:=[some (.tup (a::r)),some (.int many)]) (S:=S) (S1:=S) (ds:=a::r) (a::r) (wholeB 0 (many-1)) (λρ=>∃y,ρ=[some (.int many),y]) rfl (by simp) ⟨_,rfl⟩ (by
    rintro q m ρ ⟨y,rfl⟩;exact⟨_,rfl,⟨_,rfl⟩,qj rfl (jN (qu h m))⟩)
   have f:=qbc 0 (many-1) (a::r);cases z:intsOf (a::r)with
   |none =>
    rw[z]at f;rw[f]at e;simp only[placesB,z];exact jM e
   |some ns =>
    rw[z]at f;rw[f]at e;have j:=qeg z;have i:ns.isEmpty=false:=by
     cases ns with
     |nil=>simp at j
     |cons b t=>rfl
    simp only[placesB,z,i,Bool.not_false,vh];rw[j]at e ⊢;exact qba e (qj rfl qbD)
 |_=>exact qA rfl (zB (S1:=S) (jg rfl) (qC rfl))
def ne2(n:Nat)(S:Sr):cmpD .ne (.int n) (.int 2) S=some (!decide (n=2)):=by
 show some (!((n:Int) == 2))=_;congr 2;rw[uD];simp;omega
def gtN(n:Nat)(k:Int)(S:Sr):cmpD .gt (.int n) (.int k) S=some (decide (k<n)):=rfl
def leN(n:Nat)(k:Int)(S:Sr):cmpD .le (.int n) (.int k) S=some (decide ((n:Int)<=k)):=rfl
def qcv{d:Nat}{many:Int}(b:refsLt 0 x=true):G (d+4) 13 [x,.int many] S=.ok (.bl (placesB many x&&decide (lenT x<=4))) S:=by
 rw[G_at (c:=c_13) rfl];have a:=qaS (d:=d) (many:=many) (S:=S) b;cases zp:placesB many x with
 |false =>
  rw[zp]at a;exact qA rfl (qC (jM (qj rfl a)))
 |true =>
  rw[zp]at a;cases x with
  |tup q =>
   refine qA rfl (qC (qba (x:=true) (qj rfl a) (qQ (qF rfl (qZ _ _)) rfl ?_)));rw[leN];congr 1;rw[decide_eq_decide];show _ ↔ q.length<=4;omega
  |_=>simp[placesB]at zp
def qfa{d:Nat}{many:Int}(f:refsLt 0 x=true):G (d+5) 12 [x,.int many] S=.ok (.bl (tieB many x)) S:=by
 rw[G_at (c:=c_12) rfl];cases x with
 |ref n=>simp[refsLt]at f
 |exc n=>simp[refsLt]at f
 |tup l =>
  by_cases i:l.length=2
  .match l,i with
   |[p,h],_ =>
    have j:refsLt 0 p=true:=qu f (by simp);have m:refsLt 0 h=true:=qu f (by simp);have o:=qcv (d:=d) (many:=many) (S:=S) j;have q:=jN (d:=d+2) (a:=1) (b:=1000000) (S:=S) m;refine qA rfl (x_no (S1:=S) (zw (t_no (x:=true) (t_of rfl)) (t_of (qQ (qF rfl (qZ _ _)) rfl (ne2 _ _)))) (x_set (d:=.tup [p,h]) (S1:=S) rfl (ρ1:=[some (.tup [p,h]),some (.int many),some p,some h]) rfl (qC ?_)));exact qba (qj rfl o) (qj rfl q)
  .have:tieB many (.tup l)=false:=by
    unfold tieB;split
    .rename_i e;cases e;simp at i
    .rfl
   rw[this];have e:cmpD .ne (.int l.length) (.int 2) S=some true:=by rw[ne2,wY i];rfl
   exact qA rfl (zB (S1:=S) (zw (t_no (x:=true) (t_of rfl)) (t_of (qQ (qF rfl (qZ _ _)) rfl e))) (qC rfl))
 |_=>exact qA rfl (zB (S1:=S) (jg rfl) (qC rfl))
def qcw{d:Nat}{many:Int}(f:refsLt 0 x=true):G (d+6) 11 [x,.int many] S=.ok (.bl (tiesB many x)) S:=by
 rw[G_at (c:=c_11) rfl];cases x with
 |ref n=>simp[refsLt]at f
 |exc n=>simp[refsLt]at f
 |tup l =>
  have b:tst (G (d+5)) (.val (.cmp .gt (.blt .len (.cons (.var 0) .nil)) (.cst (.int 30)))) [some (.tup l),some (.int many)] S=.ok (decide ((30:Int)<l.length)) S:=t_of (qQ (qF rfl (qZ _ _)) rfl (gtN _ _ _));by_cases a:l.length<=30
  .rw [wY (by omega)]at b
   have e:=yt (g:=λy:D=>y) (F:=G (d+5)) (fr:=[1]) (nt:=1) (elt:=.call 12 (.cons (.var 1) (.cons (.var 0) .nil))) (tg:=.var 1) (it:=.seq (.var 0)) (ρ:=[some (.tup l),some (.int many)]) (S:=S) (S1:=S) (ds:=l) l (tieB many) (λρ=>∃y,ρ=[some (.int many),y]) rfl (by simp) ⟨_,rfl⟩ (by
    rintro q o ρ ⟨y,rfl⟩;exact⟨_,rfl,⟨_,rfl⟩,qj rfl (qfa (qu f o))⟩)
   refine qA rfl (x_no (S1:=S) (zw (t_no (x:=true) (t_of rfl)) b) ?_);cases za:l.all (tieB many)with
   |false =>
    rw[za]at e;have:tiesB many (.tup l)=false:=by simp only[tiesB,za,vX,vw]
    rw[this];exact zB (t_no (x:=false) (t_of e)) (qC rfl)
   |true =>
    rw[za]at e;obtain⟨ts,h,r⟩:=qeh za;have:tiesB many (.tup l)=upT (ts.map (·.1)):=by simp only[tiesB,za,wS a,vh,r]
    rw[this];have i:=qd8 (g:=tieD) (F:=G (d+5)) (fr:=[]) (nt:=2) (elt:=.var 0) (tg:=.tup (.cons (.var 0) (.cons (.var 1) .nil))) (it:=.seq (.var 0)) (ifs:=.nil) (ρ:=[some (.tup l),some (.int many)]) (S:=S) (S1:=S) (ds:=l) ts (λ_=>true) (λt=>tupI t.1) (λρ=>∃x y,ρ=[x,y]) rfl h ⟨_,_,rfl⟩ (by have:=congrArg List.length h;rw[wE]at this;unfold PySem.sizeLine;omega) (by
     rintro t s ρ m ⟨x,y,rfl⟩;exact⟨_,rfl,⟨_,_,rfl⟩,rfl,λ_=>⟨rfl,qN _ t.1⟩⟩)
    rw[yj]at i;have j:=qaR (d:=d+4) (p:=ts.map (·.1)) (S:=S);rw[wj]at j;exact x_no (t_no (x:=true) (t_of e)) (qC (qj (qe i rfl) j))
  .have:tiesB many (.tup l)=false:=by simp only[tiesB,wY a,vw]
   rw[this];rw[wS (by omega)]at b;exact qA rfl (zB (S1:=S) (zw (t_no (x:=true) (t_of rfl)) b) (qC rfl))
 |_=>exact qA rfl (zB (S1:=S) (jg rfl) (qC rfl))
def chainN(a b:Int)(n:Nat)(h:ev F e ρ S=.ok (.int n) S):ev F (.chain .le .le (.cst (.int a)) e (.cst (.int b))) ρ S=.ok (.bl (decide (a<=n)&&decide ((n:Int)<=b))) S:=by
 by_cases z:a<=(n:Int) <;> simp[ev,h,Res.bind,cmpD,z]
def qbE{d:Nat}(b:refsLt 0 x=true):G (d+3) 10 [x] S=.ok (.bl (costsB x)) S:=by
 rw[G_at (c:=c_10) rfl];cases x with
 |ref n=>simp[refsLt]at b
 |exc n=>simp[refsLt]at b
 |tup l =>
  have a:tst (G (d+2)) (.not (.val (.chain .le .le (.cst (.int 1)) (.blt .len (.cons (.var 0) .nil)) (.cst (.int 12))))) [some (.tup l)] S=.ok (!(decide ((1:Int)<=l.length)&&decide ((l.length:Int)<=12))) S:=t_no (t_of (chainN _ _ _ (qF rfl (qZ _ _))));by_cases f:1<=l.length/\l.length<=12
  .have e:=yt (g:=λy:D=>y) (F:=G (d+2)) (fr:=[]) (nt:=1) (elt:=.call 1 (.cons (.var 0) (.cons (.cst (.int 1)) (.cons (.cst (.int 100)) .nil)))) (tg:=.var 0) (it:=.seq (.var 0)) (ρ:=[some (.tup l)]) (S:=S) (S1:=S) (ds:=l) l (wholeB 1 100) (λρ=>∃y,ρ=[y]) rfl (by simp) ⟨_,rfl⟩ (by
    rintro q h ρ ⟨y,rfl⟩;exact⟨_,rfl,⟨_,rfl⟩,qj rfl (jN (qu b h))⟩)
   have:costsB (.tup l)=l.all (wholeB 1 100):=by simp only[costsB,wS f.1,wS f.2,vh]
   rw[this];rw[wS (show(1:Int)<=l.length by omega),wS (show(l.length:Int)<=12 by omega)]at a;exact qA rfl (x_no (S1:=S) (zw (t_no (x:=true) (t_of rfl)) a) (qC e))
  .have hd:(decide ((1:Int)<=l.length)&&decide ((l.length:Int)<=12))=false:=by
    rw[xS,vP,vP];omega
   have:costsB (.tup l)=false:=by
    have:(decide (1<=l.length)&&decide (l.length<=12))=false:=by
     rw[xS,vP,vP];omega
    simp only[costsB,this,vw]
   rw[this];rw[hd]at a;exact qA rfl (zB (S1:=S) (zw (t_no (x:=true) (t_of rfl)) a) (qC rfl))
 |_=>exact qA rfl (zB (S1:=S) (jg rfl) (qC rfl))
def qfb{d:Nat}(a:refsLt 0 x=true):G (d+7) 9 [x] S=.ok (.bl (isWebB x)) S:=by
 rw[G_at (c:=c_9) rfl];cases x with
 |ref n=>simp[refsLt]at a
 |exc n=>simp[refsLt]at a
 |tup l =>
  by_cases f:l.length=2
  .match l,f with
   |[c,t],_ =>
    have h:refsLt 0 c=true:=qu a (by simp);have i:refsLt 0 t=true:=qu a (by simp);have b:=qbE (d:=d+3) (S:=S) h;refine qA rfl (x_no (S1:=S) (zw (t_no (x:=true) (t_of rfl)) (t_of (qQ (qF rfl (qZ _ _)) rfl (ne2 _ _)))) (x_set (d:=.tup [c,t]) (S1:=S) rfl (ρ1:=[some (.tup [c,t]),some c,some t]) rfl (qC ?_)));cases zc:costsB c with
    |false =>
     rw[zc]at b;have:isWebB (.tup [c,t])=false:=by simp only[isWebB,zc,vw]
     rw[this];exact jM (qj rfl b)
    |true =>
     rw[zc]at b;cases c with
     |tup q =>
      have j:=qcw (d:=d) (many:=(q.length:Int)) (S:=S) i;have:isWebB (.tup [.tup q,t])=(true&&tiesB (q.length:Int) t):=by simp only[isWebB,zc,lenT]
      rw[this];exact qba (qj rfl b) (qj (qe rfl (qe (qF rfl (qZ _ _)) rfl)) j)
     |_=>simp[costsB]at zc
  .have:isWebB (.tup l)=false:=by
    unfold isWebB;split
    .rename_i e;cases e;simp at f
    .rfl
   rw[this];have e:cmpD .ne (.int l.length) (.int 2) S=some true:=by rw[ne2,wY f];rfl
   exact qA rfl (zB (S1:=S) (zw (t_no (x:=true) (t_of rfl)) (t_of (qQ (qF rfl (qZ _ _)) rfl e))) (qC rfl))
 |_=>exact qA rfl (zB (S1:=S) (jg rfl) (qC rfl))
section
variable{F:Fs}{N:Nat}{ρ:En}{S S1 S2:Sr}{e:CE}{s:CS}{r a b:CSs}{c:CB}{y:D}
theorem tc(h:tst F c ρ S=.ok x S1):tst F (.cal c) ρ S=.ok x S1:=by simp[tst,h]
theorem qde(h:exs F N (.cons s r) ρ S=X)(d:noE (ex F N s ρ S)=ex F N s ρ S):exs F N (.cons (.cal s) r) ρ S=X:=by
 rw[<-h];simp only[exs,ex,d]
theorem qbF(h:ev F e ρ S=.ok d S1):exs F N (.cons (.cal (.ret e)) r) ρ S=.ok (.rt d) S1:=qde (qC h) (by simp[ex,h,Res.bind])
theorem zm(h:ex F N s ρ S=.err y S1):exs F N (.cons s r) ρ S=.err y S1:=by simp[exs,h,Res.bind]
theorem qaD(h:tst F c ρ S=.ok true S1)(d:exs F N a ρ S1=.err y S2):ex F N (.ifs c a b) ρ S=.err y S2:=by simp[ex,h,d,Res.bind]
theorem qiz(h:tst F c ρ S=.err y S1):ex F N (.ifs c a b) ρ S=.err y S1:=by simp[ex,h,Res.bind]
theorem qmF(h:ev F e ρ S=.err y S1):tst F (.val e) ρ S=.err y S1:=by simp[tst,h,Res.bind]
theorem qkK(h:tst F c ρ S=.err y S1):tst F (.not c) ρ S=.err y S1:=by simp[tst,h,Res.bind]
theorem jO(h:ev F e ρ S=.err y S1):ex F N (.expr e) ρ S=.err y S1:=by simp[ex,h,Res.bind]
theorem zM{i:Nat}(h:evs F es ρ S=.ok l S1)(d:F i l S1=.err y S2):ev F (.call i es) ρ S=.err y S2:=by simp[ev,h,d,Res.bind]
theorem qaE{f:CF}{l:List D}(d:l.length=f.np)(h:exs F N f.body (l.map some++List.replicate (f.nn-f.np) none) S=.err y S1):callC F N f l S=.err y S1:=by simp[callC,d,h,Res.bind]
end
def jW{d:Nat}(a:refsLt 0 x=true):G (d+8) 16 [x] S=if isWebB x=true then .ok .non S else .err (.exc 37) S:=by
 rw[G_at (c:=c_16) rfl];have e:=qfb (d:=d) (S:=S) a;cases z:isWebB x with
 |true=>rw[z]at e;rw[wN rfl];exact qeb rfl (x_no (S1:=S) (tc (t_no (x:=true) (t_of (qj rfl e)))) zT)
 |false=>rw[z]at e;rw[wT (by decide)];exact qaE rfl (zm (qaD (S1:=S) (tc (t_no (x:=false) (t_of (qj rfl e)))) (zm rfl)))
def qdf{a:Int}:bltD .abs [.int a] S=.ok (.int (a.natAbs:Int)) S:=by
 simp only[bltD,one,bAbs];congr 2;split <;> lia
def qiA{a b:Int}(f:0<b)(h:b<2^250):divOk a b=true:=by
 have i:(((2:Nat)^250:Nat):Int)=(2:Int)^250:=by norm_cast
 have c:=yY (a:=b) (n:=250) (by lia);unfold divOk PySem.Builtin.divisionGoesByPylong;unfold PySem.Builtin.Int.intBits at c;have d:(b == 0)=false:=by rw[ww];lia
 rw[d]at c;simp only[d,wi,uO]at c ⊢;have e:decide (b.natAbs.log2 / 30+1>300)=false:=by rw[vP];lia
 simp only[e,vw];rfl
def bdivB{a b:Int}(h:0<b)(c:b<2^250):binD .fdiv (.int a) (.int b) S=some (.int (a.fdiv b)):=by
 simp only[binD,binI];rw[wN (qiA h c)];rfl
def qbG(t b:Int):Int.gcd (t.natAbs:Int) b=Int.gcd t b:=by simp[Int.gcd]
def qg8{d:Nat}{a b:Int}(ha:0<=a)(i:0<=b)(f:b<2^250):G (d+1) 2 [.int a,.int b] S=.ok (.int (Int.gcd a b:Int)) S:=by
 rw[G_at (c:=c_2) rfl];have h:=wl (S:=S) (test:=λρ S=>tst (G d) (.val (.var 1)) ρ S) (body:=λρ S=>exs (G d) NW (.cons (.set (.tup (.cons (.var 0) (.cons (.var 1) .nil))) (.tup (.cons (.var 1) (.cons (.bin .mod (.var 0) (.var 1)) .nil)))) .nil) ρ S) (E:=λa b=>[some (.int a),some (.int b)]) (λa b=>rfl) (λa b h=>x_set (ze (qe rfl (qe (qr rfl rfl (bmod (by lia))) rfl)) (by simp[PySem.sizeLine])) rfl zT) 250 NW a b ha i f (by decide);rw[qg6 250 NW a b ha i f (by decide)]at h;exact qA rfl (qef h (qC rfl))
def nmD(p:Int×Int):D:=.tup [.int p.1,.int p.2]
def qg9{t b:Int}(a:1<=b):(Int.gcd t b:Int)<=b:=Int.le_of_dvd (by lia) (Int.gcd_dvd_right t b)
def qfc{d:Nat}{t b:Int}(h:1<=b)(f:b<2^250):G (d+2) 3 [.int t,.int b] S=.ok (nmD (lw t b)) S:=by
 rw[G_at (c:=c_3) rfl];have i:=zU (t:=t) h;have j:=qg9 (t:=t) h;refine qA rfl (x_set (d:=.int (Int.gcd t b:Int)) (S1:=S) (qj (qe (qF rfl qdf) rfl) (by have:=qg8 (d:=d) (a:=(t.natAbs:Int)) (b:=b) (S:=S) (by lia) (by lia) f;rw[qbG]at this;exact this)) (ρ1:=[some (.int t),some (.int b),some (.int (Int.gcd t b:Int))]) rfl (qC (ze (qe (qr rfl rfl (bdivB (by lia) (by lia))) (qe (qr rfl rfl (bdivB (by lia) (by lia))) rfl)) (by simp[PySem.sizeLine]))))
def numB:D->Bool
 | .tup [.int t,.int b]=>decide (1<=b)&&decide (Int.gcd t b=1)
 |_=>false
def nsm:D->Bool
 | .tup [.int t,.int b]=>decide (t.natAbs<2^45)&&decide (b<2^30)
 | .tup [_,.int b]=>decide (b<2^30)
 |_=>true
def topD:D->Int
 | .tup (.int t::_)=>t
 |_=>0
def qha(h:numB x=true):∃t b:Int,x=nmD (t,b)/\1<=b/\Int.gcd t b=1:=by
 unfold numB at h;split at h
 .simp only[wP,wq]at h
  exact⟨_,_,rfl,h.1,h.2⟩
 .cases h
def qbH{d:Nat}(h:refsLt 0 x=true)(j:nsm x=true):G (d+2) 4 [x] S=.ok (.bl (numB x)) S:=by
 rw[G_at (c:=c_4) rfl];cases x with
 |ref n=>simp[refsLt]at h
 |exc n=>simp[refsLt]at h
 |tup l =>
  by_cases i:l.length=2
  .match l,i with
   |[a,b],_ =>
    have ha:refsLt 0 a=true:=qu h (by simp);have p:refsLt 0 b=true:=qu h (by simp);have q:=yP (d:=d) (S:=S) ha;have r:=yP (d:=d) (S:=S) p;refine qA rfl (x_no (S1:=S) (zw (t_no (x:=true) (t_of rfl)) (t_of (qQ (qF rfl (qZ _ _)) rfl (ne2 _ _)))) (x_set (d:=.tup [a,b]) (S1:=S) rfl (ρ1:=[some (.tup [a,b]),some a,some b]) rfl ?_));have t1:tst (G (d+1)) (.not (.val (.call 0 (.cons (.var 1) .nil)))) [some (.tup [a,b]),some a,some b] S=.ok (!isIntB a) S:=t_no (t_of (qj rfl q));have t2:tst (G (d+1)) (.not (.val (.call 0 (.cons (.var 2) .nil)))) [some (.tup [a,b]),some a,some b] S=.ok (!isIntB b) S:=t_no (t_of (qj rfl r));cases a with
    |int t =>
     cases b with
     |int b =>
      have f:b<2^250:=by
       simp only[nsm,wP,wq]at j;have:=j.2;lia
      have t3:tst (G (d+1)) (.val (.cmp .lt (.var 2) (.cst (.int 1)))) [some (.tup [.int t,.int b]),some (.int t),some (.int b)] S=.ok (decide (b<1)) S:=t_of (qQ rfl rfl rfl);rw[show numB (.tup [.int t,.int b])=(decide (1<=b)&&decide (Int.gcd t b=1))from rfl];by_cases m:1<=b
      .rw [wY (show ¬b<1 by lia)]at t3
       rw[wS m,vh];have o:=qg8 (d:=d) (a:=(t.natAbs:Int)) (b:=b) (S:=S) (by lia) (by lia) f;rw[qbG]at o;exact x_no (zw t1 (zw t2 t3)) (qC (qQ (qj (qe (qF rfl qdf) (qe rfl rfl)) o) rfl (by
        show some ((Int.gcd t b:Int) == 1)=_;congr 1;rw[uD];simp;lia)))
      .rw [wS (show b<1 by lia)]at t3
       rw[wY m,vw];exact zB (zw t1 (zw t2 t3)) (qC rfl)
     |_=>exact zB (zw t1 (jg t2)) (qC rfl)
    |_=>exact zB (jg t1) (qC rfl)
  .have s:numB (.tup l)=false:=by
    unfold numB;split
    .rename_i z;injection z with z;subst z;simp at i
    .rfl
   rw[s];exact qA rfl (zB (S1:=S) (zw (t_no (x:=true) (t_of rfl)) (t_of (x:=true) (qQ (qF rfl (qZ _ _)) rfl (by rw[ne2,wY i];rfl)))) (qC rfl))
 |_=>exact qA rfl (zB (S1:=S) (jg rfl) (qC rfl))
def amB(x:D):Bool:=numB x&&decide (0<=topD x)
def qbI{d:Nat}(a:refsLt 0 x=true)(f:nsm x=true):G (d+3) 5 [x] S=.ok (.bl (amB x)) S:=by
 rw[G_at (c:=c_5) rfl];have e:=qbH (d:=d) (S:=S) a f;unfold amB;cases z:numB x with
 |false=>rw[z]at e;exact qA rfl (qC (jM (qj rfl e)))
 |true =>
  rw[z]at e;obtain⟨t,b,rfl,_⟩:=qha z;exact qA rfl (qC (qba (qj rfl e) (qQ (qR (S1:=S) rfl rfl rfl) rfl rfl)))
def adn(p q:Int×Int):Int×Int:=lw (p.1*q.2+q.1*p.2) (p.2*q.2)
def totN(ps:List (Int×Int)):Int×Int:=ps.foldl adn (0,1)
structure NB (p:Int×Int):Prop where
 t:p.1.natAbs<2^45
 b1:1<=p.2
 b2:p.2<2^30
def qcx{t b:Int}(a:1<=b):(lw t b).2<=b:=by
 obtain⟨d,c⟩:=qaC (t:=t) a;have f:=zU (t:=t) a;have h:=(zV (t:=t) a).pos;have:=ub (show(1:Int)<=(Int.gcd t b:Int) by lia) (show 0<=(lw t b).2 by lia);rw[c]at this;lia
def y9(ps:List (Int×Int))(q:Int×Int):totN (ps++[q])=adn (totN ps) q:=by simp[totN]
def p250{m:Nat}(h:m<=240):(2:Int)^m<2^250:=by
 have a:(2:Nat)^m<=2^240:=Nat.pow_le_pow_right (by decide) h;have b:(((2:Nat)^m:Nat):Int)=(2:Int)^m:=by norm_cast
 have c:(((2:Nat)^240:Nat):Int)=(2:Int)^240:=by norm_cast
 have d:(2:Int)^240<2^250:=by decide
 lia
structure NBe (e:Nat) (p:Int×Int):Prop where
 t:p.1.natAbs<2^45
 b1:1<=p.2
 b2:p.2<=2^e
def qdg{e k:Nat}(h:e<=k):(2:Int)^e<=2^k:=by
 have a:(2:Nat)^e<=2^k:=Nat.pow_le_pow_right (by decide) h;have b:(((2:Nat)^e:Nat):Int)=(2:Int)^e:=by norm_cast
 have c:(((2:Nat)^k:Nat):Int)=(2:Int)^k:=by norm_cast
 lia
def qdh{e k:Nat}{B b:Int}(a:1<=B)(c:B<=2^(e*k))(d:1<=b)(f:b<=2^e):1<=B*b/\B*b<=2^(e*(k+1)):=by
 have e':(2:Int)^(e*(k+1))=2^(e*k)*2^e:=by rw[Nat.mul_succ,Int.pow_add]
 refine⟨?_,?_⟩
 .have:=xV a d (by decide) (by lia)
  simpa using this
 .rw [e']
  exact xV c f (by lia) (Int.le_of_lt (Int.pow_pos (by decide)))
def qel{e:Nat}:∀(n:Nat) {ps:List (Int×Int)},ps.length=n->(∀p∈ps,NBe e p)->1<=(totN ps).2/\(totN ps).2<=2^(e*ps.length):=by
 intro n;induction n with
 |zero =>
  intro ps a _;have:ps=[]:=wy.mp a;subst this;exact⟨by decide,by simp[totN]⟩
 |succ n d =>
  intro ps a h;rcases xM ps with rfl|⟨ps,q,rfl⟩
  .simp at a
  .rw [xN]at a h ⊢
   rw[wI,wZ]at a;obtain⟨f,i⟩:=d (ps:=ps) (by lia) λp j=>h p (ws _ j)
   have b:=h q (by simp);obtain⟨c,l⟩:=qdh f i b.b1 b.b2;rw[y9];refine⟨(zV c).pos,?_⟩;rw[wI,wZ];exact Int.le_trans (qcx c) l
def qkL{F:Fs}{N:Nat}{ρ ρ1:En}{S S1 S2:Sr}{r a:CSs}{t:CT}{e:CE}{x:D}{ds:List D}{gd:Sr->Prop}{Y:Res Fl}(h:ev F e ρ S=.ok x S1)(b:refX x S1=some (ds,gd))(c:forLoop (λd ρ S=>(grd gd S (asg F t d ρ S)).bind λρ1 S1=>exs F N a ρ1 S1) ds ρ S1=.ok (.nx ρ1) S2)(f:gd S2)(i:exs F N r ρ1 S2=Y):exs F N (.cons (.forX t e a) r) ρ S=Y:=by
 simp only[exs,ex,h,Res.bind,b,c,endG,zo f];exact i
def qcy{d e:Nat}{f:D}{gd:Sr->Prop}{ps:List (Int×Int)}{S:Sr}(o:refX f S=some (ps.map nmD,gd))(m:gd S)(h:∀p∈ps,NBe e p)(r:e*ps.length<=240)(s:e<=30):G (d+3) 7 [f] S=.ok (nmD (totN ps)) S:=by
 rw[G_at (c:=c_7) rfl];obtain⟨ρ',n,u,x,rfl,rfl⟩:=yu (g:=nmD) (body:=λdd ρ S=>(grd gd S (asg (G (d+2)) (.var 3) dd ρ S)).bind λρ1 S1=>exs (G (d+2)) NW (.cons (.set (.tup (.cons (.var 1) (.cons (.var 2) .nil))) (.call 3 (.cons (.bin .add (.bin .mul (.var 1) (.idx (.var 3) (.cst (.int 1)))) (.bin .mul (.idx (.var 3) (.cst (.int 0))) (.var 2))) (.cons (.bin .mul (.var 2) (.idx (.var 3) (.cst (.int 1)))) .nil)))) .nil) ρ1 S1)
  (λpre ρ T=>∃x,ρ=[some f,some (.int (totN pre).1),some (.int (totN pre).2),x]/\T=S) ps (ρ:=[some f,some (.int 0),some (.int 1),none]) (S:=S) ⟨_,rfl,rfl⟩ (by
   rintro pre q v ρ T a ⟨x,rfl,rfl⟩;have l:∀p∈pre,NBe e p:=λp l=>h p (by rw[a];simp[l])
   have i:NBe e q:=h q (by rw[a];simp);have j:=congrArg List.length a;rw[wI,w4]at j;obtain⟨w,y⟩:=qel _ rfl l;obtain⟨A,B⟩:=qdh w y i.b1 i.b2;have C:(totN pre).2*q.2<2^250:=by
    refine Int.lt_of_le_of_lt B (p250 (vA (uf e ?_) r));lia
   have I:=i.b2;have E:=i.b1;have J:=i.t;have F:=qdg s;refine⟨[some f,some (.int (totN (pre++[q])).1),some (.int (totN (pre++[q])).2),some (nmD q)],T,?_,_,rfl,rfl⟩;rw[zo m,show asg (G (d+2)) (.var 3) (nmD q) [some f,some (.int (totN pre).1),some (.int (totN pre).2),x] T=.ok [some f,some (.int (totN pre).1),some (.int (totN pre).2),some (nmD q)] T from rfl,Res.bind_ok];have H:=qfc (d:=d) (t:=(totN pre).1*q.2+q.1*(totN pre).2) (b:=(totN pre).2*q.2) (S:=T) A C;rw[y9];exact x_set (qj (qe (qr (S1:=T) (qr (S1:=T) rfl (qR (S1:=T) rfl rfl rfl) (bmul (jt (by lia)))) (qr (S1:=T) (qR (S1:=T) rfl rfl rfl) rfl (bmul (js (by lia)))) badd) (qe (qr (S1:=T) rfl (qR (S1:=T) rfl rfl rfl) (bmul (jt (by lia)))) rfl)) H) rfl zT)
 exact qA rfl (x_set (d:=.tup [.int 0,.int 1]) (S1:=n) (ze rfl (by simp[PySem.sizeLine])) (ρ1:=[some f,some (.int 0),some (.int 1),none]) rfl (qkL (ds:=ps.map nmD) (S1:=n) rfl o u m (qC (ze rfl (by simp[PySem.sizeLine])))))
def NB.e(h:NB p):NBe 30 p:=⟨h.t,h.b1,by have:=h.b2;lia⟩
def qiB{d:Nat}{ps:List (Int×Int)}(h:∀p∈ps,NB p)(b:ps.length<=8):G (d+3) 7 [.tup (ps.map nmD)] S=.ok (nmD (totN ps)) S :=
 qcy (e:=30) (gd:=λ_=>True) rfl trivial (λp a=>(h p a).e) (by lia) (by decide)
def qem:∀{l:List D},l.all amB=true->(∀x∈l,nsm x=true)->∃ps:List (Int×Int),l=ps.map nmD/\∀p∈ps,NB p
 |[],_,_=>⟨[],rfl,by simp⟩
 |x::r,h,hs=>by
  simp only[vf,wP]at h;obtain⟨t,b,rfl,c,i⟩:=qha (show numB x=true by have:=h.1;unfold amB at this;simp only[wP]at this;exact this.1);obtain⟨ps,e,d⟩:=qem h.2 λx f=>hs x (wO _ f)
  have hn:=hs _ wQ;simp only[nsm,nmD,wP,wq]at hn;refine⟨(t,b)::ps,by rw[e];rfl,λp a=>?_⟩;rcases wR.mp a with rfl|z
  .exact ⟨hn.1,c,hn.2⟩
  .exact d p z
def toP:D->Int×Int
 | .tup [.int t,.int b]=>(t,b)
 |_=>(0,0)
def qbJ(ps:List (Int×Int)):(ps.map nmD).map toP=ps:=by
 rw[wj]
 conv=>rhs;rw[<-List.map_id ps]
 apply vO;intro p _;rfl
def ltB(t:Tie):D->Bool
 | .tup q=>decide (q.length=t.1.length)&&(q.all amB&&decide (totN (q.map toP)=(t.2,1)))
 |_=>false
def tsm:D->Bool
 | .tup q=>q.all nsm
 |_=>true
def neN(n k:Nat)(S:Sr):cmpD .ne (.int n) (.int k) S=some (!decide (n=k)):=by
 show some (!((n:Int) == k))=_;congr 2;rw[uD];simp;lia
def qmG(p q:Int×Int)(S:Sr):cmpD .eq (nmD p) (nmD q) S=some (decide (p=q)):=by
 show some ((p.1 == q.1)&&((p.2 == q.2)&&true))=_;congr 1;rw[uD];simp[Prod.ext_iff]
def qcz{d:Nat}{t:Tie}(m:t.1.length<=4)(b:refsLt 0 x=true)(h:tsm x=true):G (d+4) 18 [tieD t,x] S=.ok (.bl (ltB t x)) S:=by
 rw[G_at (c:=c_18) rfl];cases x with
 |ref n=>simp[refsLt]at b
 |exc n=>simp[refsLt]at b
 |tup q =>
  have t1:tst (G (d+3)) (.or (.not (.val (.isi .tuple (.var 1)))) (.val (.cmp .ne (.blt .len (.cons (.var 1) .nil)) (.blt .len (.cons (.var 2) .nil))))) [some (tieD t),some (.tup q),some (tupI t.1),some (.int t.2)] S=.ok (!decide (q.length=t.1.length)) S:=zw (t_no (x:=true) (t_of rfl)) (t_of (qQ (qF rfl (qZ _ _)) (qF rfl (yk _ _)) (neN _ _ _)));refine qA rfl (x_set (d:=tieD t) (S1:=S) rfl (ρ1:=[some (tieD t),some (.tup q),some (tupI t.1),some (.int t.2)]) rfl ?_);rw[show ltB t (.tup q)=(decide (q.length=t.1.length)&&(q.all amB&&decide (totN (q.map toP)=(t.2,1))))from rfl];by_cases f:q.length=t.1.length
  .rw [wS f]at t1 ⊢
   rw[vh];have a:=yt (g:=λy:D=>y) (F:=G (d+3)) (fr:=[]) (nt:=1) (elt:=.call 5 (.cons (.var 0) .nil)) (tg:=.var 0) (it:=.seq (.var 1)) (ρ:=[some (tieD t),some (.tup q),some (tupI t.1),some (.int t.2)]) (S:=S) (S1:=S) (ds:=q) q amB (λρ=>∃y,ρ=[y]) rfl (by simp) ⟨_,rfl⟩ (by
    rintro y i ρ ⟨z,rfl⟩;exact⟨_,rfl,⟨_,rfl⟩,qj rfl (qbI (qu b i) (wn.mp h y i))⟩)
   refine x_no t1 (qC ?_);cases za:q.all amB with
   |false=>rw[za]at a;exact jM a
   |true =>
    rw[za]at a;obtain⟨ps,rfl,j⟩:=qem za (wn.mp h);rw[qbJ];rw[wE]at f;exact qba a (qQ (qj rfl (qiB j (by lia))) (ze (l:=[.int t.2,.int 1]) rfl (by simp[PySem.sizeLine])) (qmG (totN ps) (t.2,1) S))
  .rw [wY f]at t1 ⊢
   exact zB t1 (qC rfl)
 |_=>exact qA rfl (x_set (d:=tieD t) (S1:=S) rfl rfl (zB (S1:=S) (jg (t_no (x:=false) (t_of rfl))) (qC rfl)))
def layB(w:Wb):D->Bool
 | .tup l=>decide (l.length=w.ties.length)&&(w.ties.zip l).all λp=>ltB p.1 p.2
 |_=>false
def lsm:D->Bool
 | .tup l=>l.all tsm
 |_=>true
def qiC{c d:Type}{a:List c}{b:List d}{p:c×d}(h:p∈a.zip b):p.1∈a/\p.2∈b:=uU h
def qhb:refsLt 0 (webD w)=true:=by
 unfold webD;simp[refsLt,refsLts,qN];have:refsLts 0 (w.ties.map tieD)=true:=qE (by intro y a;obtain⟨z,_,rfl⟩:=wp.mp a;exact jr 0 z);simpa[refsLts,refsLt]using this
def qen(t:Tie):keyT (tieD t)=t.1:=by
 show(intsOf (t.1.map .int)).getD []=t.1;rw[qY];rfl
def qfd{n:Nat}(h:PlOk n p):placesB n (tupI p)=true:=by
 show(match intsOf (p.map .int)with|some ns=>!ns.isEmpty&&ns.all (λi=>decide (0<=i)&&decide (i<=(n:Int)-1))&&upB ns|none=>false)=true;rw[qY];have b:p.isEmpty=false:=by
  cases p with
  |nil=>exact absurd rfl h.ne
  |cons a r=>rfl
 have c:p.all (λi=>decide (0<=i)&&decide (i<=(n:Int)-1))=true:=by
  rw[wn];intro i hi;have:=h.rng i hi;simp;lia
 have d:upB p=true:=qgS h.up;simp only[b,c,d];rfl
def qkM(h:WbOk w):isWebB (webD w)=true:=by
 have c1:=h.c1;have c2:=h.c2;have t1:=h.t1;have e1:costsB (tupI w.costs)=true:=by
  show(decide (1<=(w.costs.map D.int).length)&&decide ((w.costs.map D.int).length<=12)&&(w.costs.map D.int).all (wholeB 1 100))=true;rw[wE,wS c1,wS c2,u9,vh,vh,wn];intro x d;have:=h.c3 x d;show(decide (1<=x)&&decide (x<=100))=true;simp;lia
 have f:tiesB w.costs.length (.tup (w.ties.map tieD))=true:=by
  show(decide ((w.ties.map tieD).length<=30)&&(w.ties.map tieD).all (tieB w.costs.length)&&upT ((w.ties.map tieD).map keyT))=true;have i:(w.ties.map tieD).map keyT=w.ties.map (·.1):=by rw[wj];exact vO λt _=>qen t
  have j:upT (w.ties.map (·.1))=true:=qea h.t3;rw[i,j,wE,wS t1,u9,vh,Bool.and_true,wn];intro t l;obtain⟨a,b,c⟩:=h.t2 t l;show(placesB w.costs.length (tupI t.1)&&decide ((t.1.map D.int).length<=4)&&(decide (1<=t.2)&&decide (t.2<=1000000)))=true;rw[qfd a,wE,wS b,wS c.1,wS c.2];rfl
 show(costsB (tupI w.costs)&&tiesB ((w.costs.map D.int).length:Nat) (.tup (w.ties.map tieD)))=true;rw[e1,wE,f];rfl
def qcA{d:Nat}(h:WbOk w):G (d+8) 16 [webD w] S=.ok .non S:=by
 rw[jW qhb,qkM h,wN rfl]
def qcB{d:Nat}(a:refsLt 0 y=true)(h:isWebB y=false):G (d+8) 16 [y] S=.err (.exc 37) S:=by
 rw[jW a,h,wT (by decide)]
section
variable{F:Fs}{N:Nat}{ρ:En}{S S1 S2:Sr}{e:CE}{es:CEs}{a b r:CSs}{c:CB}{y:D}
theorem qhc{i:Nat}(h:ev F e ρ S=.ok d S1)(f:exs F N r (ρ.set i (some d)) S1=X):exs F N (.cons (.cal (.set (.var i) e)) r) ρ S=X:=qde (x_set h rfl f) (by simp[ex,h,Res.bind,asg])
theorem ja(h:tst F c ρ S=.ok false S1)(d:exs F N b ρ S1=.err y S2):ex F N (.ifs c a b) ρ S=.err y S2:=by simp[ex,h,d,Res.bind]
theorem qiD(h:ev F e ρ S=.err y S1):ex F N (.grd e s) ρ S=.err y S1:=by simp[ex,h]
theorem qiE(h:ev F e ρ S=.err y S1):ex F N (.set t e) ρ S=.err y S1:=by simp[ex,h,Res.bind]
end
def jx{d:Nat}(a:refsLt 0 y=true)(h:isWebB y=false):G (d+9) 17 [y,x] S=.err (.exc 37) S:=by
 rw[G_at (c:=c_17) rfl];exact qaE rfl (zm (jO (zM rfl (qcB a h))))
def yv{d:Nat}(h:WbOk w)(a:refsLt 0 x=true)(i:lsm x=true):G (d+9) 17 [webD w,x] S=.ok (.bl (layB w x)) S:=by
 rw[G_at (c:=c_17) rfl];refine qA rfl (x_expr (S1:=S) (qj rfl (qcA h)) (qhc (d:=.tup (w.ties.map tieD)) (S1:=S) (qR (S1:=S) rfl rfl rfl) ?_));show exs _ _ _ [some (webD w),some x,some (.tup (w.ties.map tieD))] S=_;cases x with
 |ref n=>simp[refsLt]at a
 |exc n=>simp[refsLt]at a
 |tup l =>
  have t1:tst (G (d+8)) (.or (.not (.val (.isi .tuple (.var 1)))) (.val (.cmp .ne (.blt .len (.cons (.var 1) .nil)) (.blt .len (.cons (.var 2) .nil))))) [some (webD w),some (.tup l),some (.tup (w.ties.map tieD))] S=.ok (!decide (l.length=w.ties.length)) S:=zw (t_no (x:=true) (t_of rfl)) (t_of (qQ (qF rfl (qZ _ _)) (qF rfl (qZ _ _)) (by rw[wE];exact neN _ _ _)));rw[show layB w (.tup l)=(decide (l.length=w.ties.length)&&(w.ties.zip l).all λp=>ltB p.1 p.2)from rfl];by_cases b:l.length=w.ties.length
  .rw [wS b]at t1 ⊢
   rw[vh];have j:=yt (g:=λp:Tie×D=>.tup [tieD p.1,p.2]) (F:=G (d+8)) (fr:=[]) (nt:=2) (elt:=.call 18 (.cons (.var 0) (.cons (.var 1) .nil))) (tg:=.tup (.cons (.var 0) (.cons (.var 1) .nil))) (it:=.zip (.var 2) (.var 1)) (ρ:=[some (webD w),some (.tup l),some (.tup (w.ties.map tieD))]) (S:=S) (S1:=S) (ds:=((w.ties.map tieD).zip l).map λq=>.tup [q.1,q.2]) (w.ties.zip l) (λp=>ltB p.1 p.2) (λρ=>∃y z,ρ=[y,z]) rfl (by rw[List.zip_map_left,wj];rfl) ⟨_,_,rfl⟩ (by
    rintro p m ρ ⟨y,z,rfl⟩;obtain⟨o,f⟩:=qiC m;exact⟨_,rfl,⟨_,_,rfl⟩,qj rfl (qcz (d:=d+4) (h.t2 p.1 o).2.1 (qu a f) (wn.mp i p.2 f))⟩)
   exact x_no (tc t1) (qbF j)
  .rw [wY b]at t1 ⊢
   exact zB (tc t1) (qbF rfl)
 |_=>exact zB (S1:=S) (tc (jg (t_no (x:=false) (t_of rfl)))) (qbF rfl)
def qcC{d:Nat}(a:refsLt 0 y=true)(h:isWebB y=false):G (d+10) 19 [y,x] S=.err (.exc 37) S:=by
 rw[G_at (c:=c_19) rfl];exact qaE rfl (zm (qiz (qkK (qmF (zM rfl (jx a h))))))
def qcD{d:Nat}(h:WbOk w)(a:refsLt 0 x=true)(b:lsm x=true)(f:layB w x=false):G (d+10) 19 [webD w,x] S=.err (.exc 61) S:=by
 have e:=yv (d:=d) (S:=S) h a b;rw[f]at e;rw[G_at (c:=c_19) rfl];exact qaE rfl (zm (qaD (S1:=S) (t_no (x:=false) (t_of (qj rfl e))) (zm rfl)))
section
variable{d:Nat}{y x:D}{S:Sr}{C:PySem.Addr}(h:∀S,G (d+10) 19 [y,x] S=.err (.exc C) S)
include h
theorem qcE:G (d+11) 20 [y,x] S=.err (.exc C) S:=by
 rw[G_at (c:=c_20) rfl];exact qaE rfl (zm (jO (zM rfl (h S))))
theorem qaF:G (d+12) 21 [y,x] S=.err (.exc C) S:=by
 rw[G_at (c:=c_21) rfl];exact qaE rfl (zm (qiD (zM rfl (qcE (S:=S) h))))
theorem qcF:G (d+13) 22 [y,x] S=.err (.exc C) S:=by
 rw[G_at (c:=c_22) rfl];exact qaE rfl (zm (qiE (zM rfl (qaF (S:=S) h))))
end
def qiF{d:Nat}{c:Int}:∃m:Int,0<=m/\m<10^60/\G (d+1) 24 [.int c] S=.ok (.int m) S:=by
 have a:(0:Int)<10^60:=by decide
 have b:=vK c a;have f:=uY c a;refine⟨(c.fmod (10^60)*915965594177219015054603514932384110774149374281672134266497).fmod (10^60),vK _ a,uY _ a,?_⟩;rw[G_at (c:=c_24) rfl];refine qA rfl (qC (qr (d1:=.int (c.fmod (10^60)*915965594177219015054603514932384110774149374281672134266497)) (d2:=.int (10^60)) (S1:=S) (qr (d1:=.int (c.fmod (10^60))) (S1:=S) (qr (d1:=.int c) (d2:=.int (10^60)) (S1:=S) rfl rfl rfl) rfl ?_) rfl rfl));exact bmul (qec (by
  have e:(10:Int)^60<2^250:=by decide
  have:(((2:Nat)^250:Nat):Int)=(2:Int)^250:=by norm_cast
  lia) (by decide))
def zO{d n:Nat}{v m:Int}{S:Sr}(hn:n<S.length)(a:0<m)(hm:m.natAbs<2^64):G (d+1) 26 [.ref n,.int m] (pk S n v)=.ok (.int (v.fmod m)) (pk S n (v.fdiv m)):=by
 rw[G_at (c:=c_26) rfl];have e:=qmA hn v;have b:exs (G d) NW c_26.body [some (.ref n),some (.int m),none] (pk S n v)=.ok (.rt (.int (v.fmod m))) (pk S n (v.fdiv m)):=by
  refine x_set (d:=.tup [.int (v.fdiv m),.int (v.fmod m)]) (S1:=pk S n v) (qF (qe (qR (d:=.int v) rfl rfl ?_) (qe rfl rfl)) ?_) (ρ1:=[some (.ref n),some (.int m),some (.int (v.fmod m))]) (S2:=pk S n (v.fdiv m)) ?_ (qC rfl)
  .simp [idxD,seqOf,lstOf,e,L2.atI,L2.ixN]
  .simp [bltD,two,bDivmod,qiw a hm]
  .have:putE (pk S n v) (.ref n) (.int 0) (.int (v.fdiv m))=some (pk S n (v.fdiv m)):=by
    simp[putE,putN,e,L2.ixN,refsLt];unfold pk;simp
   simp only[asg,asgs,ev,varE,Res.bind,uV,this];rfl
 exact qa9 (S2:=[]) rfl rfl (by rw[vY];exact b) (by simp[qv]) rfl
def qcG(l:List Int)(x:Int)(S:Sr):∃c:Int,idxD S (.lst (l.map .int++[.int x])) (.int 0)=some (.int c):=by
 cases l with
 |nil=>exact⟨x,rfl⟩
 |cons a r=>exact⟨a,by simp[idxD,seqOf,lstOf,L2.atI,L2.ixN]⟩
def qiG(l:List Int)(a b:Option Int):∃m:List Int,cutD (l.map .int) a b=m.map .int/\m.length<=l.length:=by
 unfold cutD;rw[wE,<-xA,<-uz];exact⟨_,rfl,by simp;lia⟩
def bcat{a b:List D}(h:a.length+b.length<=1000):binD .add (.lst a) (.lst b) S=some (.lst (a++b)):=by
 have:catOk a b=true:=by unfold catOk PySem.sizeLine;rw[wq];lia
 simp[binD,lstOf,this]
def qbe{d:Nat}{ns:List Int}(n:ns.length<=63){k f a:Int}{x y:Option D}{S:Sr}(p:0<=f)(u:f<10^60)(ha:0<=a)(q:a<100):∃m c:Int,0<=m/\m<10^60 /\
  (asg (G (d+1)) (.var 3) (.int a) [some (.lst (ns.map .int)),some (.int k),some (.int f),x,y] S).bind (λρ1 S1=>exs (G (d+1)) NW (.cons (.set (.var 4) (.idx (.bin .add (.slc (.var 0) (.some (.var 3)) (.some (.bin .add (.var 3) (.cst (.int 1))))) (.lst false (.cons (.bin .add (.bin .add (.bin .mul (.cst (.int 5701)) (.var 3)) (.cst (.int 43))) (.bin .mul (.cst (.int 7)) (.idx (.bin .add (.var 0) (.lst false (.cons (.cst (.int 0)) .nil))) (.cst (.int 0))))) .nil))) (.cst (.int 0)))) (.cons (.set (.var 2) (.bin .add (.bin .mul (.var 2) (.bin .pow (.cst (.int 10)) (.cst (.int 60)))) (.call 24 (.cons (.var 4) .nil)))) .nil)) ρ1 S1)
   = .ok (.nx [some (.lst (ns.map .int)),some (.int k),some (.int (f*10^60+m)),some (.int a),some (.int c)]) S:=by
 obtain⟨x0,b⟩:=qcG ns 0 S;obtain⟨h,i,v⟩:=qiG ns (some a) (some (a+1));obtain⟨c,r⟩:=qcG h (5701*a+43+7*x0) S;obtain⟨m,j,l,hm⟩:=qiF (d:=d) (c:=c) (S:=S);refine⟨m,c,j,l,?_⟩;rw[show asg (G (d+1)) (.var 3) (.int a) [some (.lst (ns.map .int)),some (.int k),some (.int f),x,y] S=.ok [some (.lst (ns.map .int)),some (.int k),some (.int f),some (.int a),y] S from rfl,Res.bind_ok];refine x_set (d:=.int c) (S1:=S) (qR (d1:=.lst (h.map .int++[.int (5701*a+43+7*x0)])) (S1:=S) (qr (d1:=.lst (h.map .int)) (d2:=.lst [.int (5701*a+43+7*x0)]) (S1:=S) ?_ ?_ (bcat (by simp;lia))) rfl r) rfl (x_set (d:=.int (f*10^60+m)) (S1:=S) (qr (d1:=.int (f*10^60)) (S1:=S) (qr (d2:=.int (10^60)) (S1:=S) rfl rfl (bmul (qec ?_ (by decide)))) (qj rfl hm) badd) rfl zT)
 .simp only[ev,evO,varE,Res.bind,uV,List.getElem?_cons_succ,badd,ofO,slcD,lstOf]
  simp only[wu,i]
 .have e1:ev (G (d+1)) (.bin .mul (.cst (.int 7)) (.idx (.bin .add (.var 0) (.lst false (.cons (.cst (.int 0)) .nil))) (.cst (.int 0)))) [some (.lst (ns.map .int)),some (.int k),some (.int f),some (.int a),y] S=.ok (.int (7*x0)) S :=
   qr (S1:=S) rfl (qR (d1:=.lst (ns.map .int++[.int 0])) (S1:=S) (qr (d2:=.lst [.int 0]) (S1:=S) rfl rfl (bcat (by simp;lia))) rfl b) (bmul (js (by decide)))
  have s:=qr (F:=G (d+1)) (o:=.add) (S:=S) (S1:=S) (e1:=.bin .add (.bin .mul (.cst (.int 5701)) (.var 3)) (.cst (.int 43))) (d1:=.int (5701*a+43)) (qr (S1:=S) (qr (S1:=S) rfl rfl (bmul (js (by decide)))) rfl badd) e1 badd;exact qS (qe s rfl) (by simp)
 .have e:(10:Int)^60<2^250:=by decide
  have:(((2:Nat)^250:Nat):Int)=(2:Int)^250:=by norm_cast
  lia
def qhd{d:Nat}{ns:List Int}(b:ns.length<=63){k:Int}(p:0<=k)(j:k<90):∃v:Int,0<=v/\G (d+2) 25 [.lst (ns.map .int),.int k] S=.ok (.ref S.length) (S++[.lst [.int v]]):=by
 obtain⟨m,c,l,n,e1⟩:=qbe (d:=d) b (k:=k) (f:=0) (a:=k+1) (x:=none) (y:=none) (S:=S) (Int.le_refl 0) (by decide) (by lia) (by lia);obtain⟨m2,c2,h,i,o⟩:=qbe (d:=d) b (k:=k) (f:=0*10^60+m) (a:=k) (x:=some (.int (k+1))) (y:=some (.int c)) (S:=S) (by lia) (by lia) (by lia) (by lia);refine⟨(0*10^60+m)*10^60+m2,by lia,?_⟩;rw[G_at (c:=c_25) rfl];refine qkD rfl rfl (x_set (d:=.int 0) (S1:=S) rfl (ρ1:=[some (.lst (ns.map .int)),some (.int k),some (.int 0),none,none]) rfl (qaz (ds:=[.int (k+1),.int k]) (S1:=S) ?_ (ρ1:=[some (.lst (ns.map .int)),some (.int k),some (.int ((0*10^60+m)*10^60+m2)),some (.int k),some (.int c2)]) (S2:=S) ?_ (qC (qbB rfl (by simp) rfl))))
 .have:ev (G (d+1)) (.lst false (.cons (.bin .add (.var 1) (.cst (.int 1))) (.cons (.var 1) .nil))) [some (.lst (ns.map .int)),some (.int k),some (.int 0),none,none] S=.ok (.lst [.int (k+1),.int k]) S:=qS (qe (qr (S1:=S) rfl rfl badd) (qe rfl rfl)) (by simp)
  simp only[evI,this,Res.bind]
 .rw [qaA e1,qaA o];rfl
def qiH{r:Int}(h:0<=r/\r<8)(S:Sr):∃s:Nat,1<=s/\s<=4/\idxD S (.lst [.int 2,.int 2,.int 2,.int 3,.int 3,.int 1,.int 4,.int 2]) (.int r)=some (.int s):=by
 have:r=0\/r=1\/r=2\/r=3\/r=4\/r=5\/r=6\/r=7:=by lia
 rcases this with rfl|rfl|rfl|rfl|rfl|rfl|rfl|rfl
 .exact ⟨2,by decide,by decide,rfl⟩
 .exact ⟨2,by decide,by decide,rfl⟩
 .exact ⟨2,by decide,by decide,rfl⟩
 .exact ⟨3,by decide,by decide,rfl⟩
 .exact ⟨3,by decide,by decide,rfl⟩
 .exact ⟨1,by decide,by decide,rfl⟩
 .exact ⟨4,by decide,by decide,rfl⟩
 .exact ⟨2,by decide,by decide,rfl⟩
def qhe{d n many:Nat}{v:Int}{S:Sr}(hn:n<S.length)(K:0<=v)(X:1<=many)(Y:many<=60):∃(p:List Int) (u:Int),PlOk many p/\p.length<=4/\0<=u/\G (d+2) 28 [.ref n,.int many] (pk S n v)=.ok (tupI p) (pk S n u):=by
 obtain⟨s,L,M,N⟩:=qiH (fm (v:=v) (m:=8) (by decide)) (pk S n (v.fdiv 8));have r:0<=v.fdiv 8:=wv K (by decide);have O:(pk S n (v.fdiv 8)).length=S.length:=qv ..;have i:(if(many:Int)<(s:Int)then(many:Int)else(s:Int))=((min s many:Nat):Int):=by split <;> lia
 obtain⟨b,Z,e,⟨a,ls,u,rfl,rfl,w,j⟩,H,A⟩:=qgV (g:=.int) (F:=G (d+1)) (fr:=[3,0]) (nt:=1) (elt:=.popAt (.var 0) (.call 26 (.cons (.var 1) (.cons (.blt .len (.cons (.var 0) .nil)) .nil)))) (tg:=.var 2) (it:=.rng (.cons (.blt .min2 (.cons (.var 2) (.cons (.var 1) .nil))) .nil))
  (ρ:=[some (.ref n),some (.int many),some (.int s),some (.ref S.length),none]) (S:=pk S n (v.fdiv 8)++[.lst ((rI many).map .int)]) (S1:=pk S n (v.fdiv 8)++[.lst ((rI many).map .int)]) (rI (min s many)) (λρ=>∃x,ρ=[some (.ref S.length),some (.ref n),x])
  (λb T=>∃a ls u,b=a.map .int/\T=pk S n u++[.lst (ls.map .int)]/\0<=u/\(a++ls).Perm (rI many))
  (i_rng (n:=min s many) (qe (qF (qe rfl (qe rfl rfl)) (by simp only[bltD,two,bMin,i])) rfl) (by lia)) rfl ⟨_,rfl⟩ (by rw[zY];lia) ⟨[],rI many,_,rfl,rfl,r,.refl _⟩ (by
   rintro q hq ρ m T ⟨x,rfl⟩ ⟨a,ls,u,rfl,rfl,w,j⟩ hT hm;have B:=j.length_eq;rw[wI,zY]at B;rw[wE,zY]at hm;have P:0<ls.length:=by lia
   have f:=fm (v:=u) (m:=(ls.length:Int)) (by lia);have I:=zO (d:=d) (n:=n) (v:=u) (m:=ls.length) (S:=(S++[.lst (ls.map .int)])++[.lst (a.map .int)]) (by simp;lia) (by lia) (by lia);rw[<-zJ (by simp;lia),<-zJ hn,<-zJ (by simp;lia),<-zJ hn]at I;obtain⟨y,J⟩:∃y,ls[(u.fmod ls.length).toNat]?=some y:=⟨_,wD (by lia)⟩;refine⟨[some (.ref S.length),some (.ref n),some (.int q)],.int y,pk S n (u.fdiv ls.length)++[.lst ((ls.eraseIdx (u.fmod ls.length).toNat).map .int)],rfl,⟨_,rfl⟩,?_,by simp[qv],rfl,a++[y],ls.eraseIdx (u.fmod ls.length).toNat,u.fdiv ls.length,by simp,rfl,wv w (by lia),?_⟩
   .have h:∀u,(pk S n u++[.lst (ls.map .int)]++[.lst (a.map .int)])[S.length]?=some (.lst (ls.map .int)):=by
     intro u;rw[wk,wM (by rw[qv];lia),qv];simp
    have Q:bltD .len [.ref S.length] (pk S n u++[.lst (ls.map .int)]++[.lst (a.map .int)])=.ok (.int ls.length) (pk S n u++[.lst (ls.map .int)]++[.lst (a.map .int)]):=by
     simp only[bltD,one,bLen,lenD,h,wu,wE,ofO];rfl
    have U:ev (G (d+1)) (.call 26 (.cons (.var 1) (.cons (.blt .len (.cons (.var 0) .nil)) .nil))) [some (.ref S.length),some (.ref n),some (.int q)] (pk S n u++[.lst (ls.map .int)]++[.lst (a.map .int)])=.ok (.int (u.fmod ls.length)) (pk S n (u.fdiv ls.length)++[.lst (ls.map .int)]++[.lst (a.map .int)]) :=
     qj (qe rfl (qe (qF rfl Q) rfl)) I
    have l:popD (pk S n (u.fdiv ls.length)++[.lst (ls.map .int)]++[.lst (a.map .int)]) (.ref S.length) (.int (u.fmod ls.length))=.ok (.int y) (pk S n (u.fdiv ls.length)++[.lst ((ls.eraseIdx (u.fmod ls.length).toNat).map .int)]++[.lst (a.map .int)]):=by
     unfold popD;simp only[h];rw[wN ⟨f.1,by lia⟩,w8,J];simp only[wu];rw[qgZ,wk,ve _ _ (by rw[qv];lia),qv];simp
    have hi:isLst (pk S n u++[.lst (ls.map .int)]++[.lst (a.map .int)]) (.ref S.length)=true:=by simp only[isLst,h]
    exact qmC rfl hi U l
   .rw [wk]
    exact((qee J).append_left a).trans j)
 have C:a.Nodup:=(vV.mp (j.nodup_iff.mpr (qgX many))).1;have o:∀x∈a,0<=x/\x<many:=λx E=>qgW.mp (j.mem_iff.mp (ws _ E))
 rw[wE,zY]at A;refine⟨sortI a,u,⟨?_,?_,qg0 C⟩,?_,w,?_⟩
 .intro W
  have:=(zH a).length_eq;rw[W]at this;simp at this;lia
 .exact λx E=>o x ((zH a).mem_iff.mp E)
 .rw [(zH a).length_eq];lia
 .rw [G_at (c:=c_28) rfl]
  refine qa9 (S2:=[.lst (ls.map .int)]) rfl rfl (x_set (d:=.int s) (S1:=pk S n (v.fdiv 8)) (qR (S1:=pk S n v) (d2:=.int (v.fmod 8)) rfl (qj rfl (zO hn (by decide) (by decide))) N) (ρ1:=[some (.ref n),some (.int many),some (.int s),none,none]) rfl (x_set (qkF (n:=many) rfl (by lia)) (ρ1:=[some (.ref n),some (.int many),some (.int s),some (.ref S.length),none]) (by rw[O];rfl) (x_set e rfl (qC (qF (qe (qF (d:=.lst ((sortI a).map .int)) (S2:=pk S n u++[.lst (ls.map .int)]) rfl ?_) rfl) ?_))))) (by rw[qv,qv]) (qN _ _)
  .simp only[bltD,one,bSorted,walkD,wf]
   rw[qe8 (by lia)];rfl
  .rfl
def eq0(r:Int)(S:Sr):cmpD .eq (.int r) (.int 0) S=some (r == 0):=rfl
def qkN{j:Nat}{w:Int}(h:S[j]?=some (dicD ts))(a:ts.length<1000):putE S (.ref j) (tupI k) (.int w)=some (S.set j (dicD (putTie k w ts))):=by
 unfold putE;rw[wN (show refsLt 0 (D.int w)=true from rfl)];simp only[putN,h,dicD,tupI,qY,wf,wE,a,v9,qg1]
def qeo(h:ev F o ρ S=.ok x S1)(b:ev F i ρ S1=.ok y S2)(c:putE S2 x y v=some a):asg F (.sub o i) v ρ S=.ok ρ a:=by
 simp only[asg,h,b,c,Res.bind]
def qcH{d n many:Nat}{v tn:Int}{S:Sr}{cs:List Int}{x0:Option D}(hn:n<S.length)(L:0<=v)(M:1<=many)(X:many<=12)(N:0<=tn)(Y:tn<=30)(f:cs.length=many)(s:∀c∈cs,1<=c/\c<=100):∃(w:Wb) (u:Int) (T:Sr),WbOk w/\w.costs.length=many/\0<=u /\
  exs (G (d+2)) NW (tl (tl (tl c_29.body))) [some (.ref n),x0,some (.int tn),some (.int many),some (.lst (cs.map .int)),none,none,none] (pk S n v)=.ok (.rt (webD w)) (pk S n u++T):=by
 have hm:0<tn+1:=by omega
 have fr:=fm (v:=v) hm;obtain⟨c,O⟩:∃c:Nat,v.fmod (tn+1)=c:=⟨(v.fmod (tn+1)).toNat,by omega⟩;have I:=zO (d:=d+1) (n:=n) (v:=v) (m:=tn+1) (S:=S++[dicD []]) (by simp;omega) hm (by omega);rw[<-zJ hn,<-zJ hn,O]at I;obtain⟨ρ',Z,P,x,y,ts,u,rfl,rfl,A,r,i⟩:=yu (g:=.int) (body:=λdd ρ S=>(asg (G (d+2)) (.var 6) dd ρ S).bind λρ1 S1=>exs (G (d+2)) NW (.cons (.set (.var 7) (.call 28 (.cons (.var 0) (.cons (.var 3) .nil)))) (.cons (.set (.sub (.var 5) (.var 7)) (.bin .add (.cst (.int 1)) (.call 26 (.cons (.var 0) (.cons (.cst (.int 9)) .nil))))) .nil)) ρ1 S1)
  (λ(pre:List Int) ρ T=>∃x y ts u,ρ=[some (.ref n),x0,some (.int tn),some (.int many),some (.lst (cs.map .int)),some (.ref S.length),x,y]/\T=pk S n u++[dicD ts]/\0<=u/\KnOk many ts/\ts.length<=pre.length) (rI c)
  (ρ:=[some (.ref n),x0,some (.int tn),some (.int many),some (.lst (cs.map .int)),some (.ref S.length),none,none]) (S:=pk S n (v.fdiv (tn+1))++[dicD []])
  ⟨_,_,[],_,rfl,rfl,wv L (by omega),⟨List.nodup_nil,λt h=>by simp at h⟩,by simp⟩ (by
   rintro pre q Q ρ T l ⟨x,y,ts,u,rfl,rfl,A,r,i⟩;have o:=congrArg List.length l;rw[zY,wI,w4]at o;obtain⟨p,b,U,B,C,J⟩:=qhe (d:=d) (n:=n) (many:=many) (v:=u) (S:=S++[dicD ts]) (by simp;omega) A M (by omega);have K:=zO (d:=d+1) (n:=n) (v:=b) (m:=9) (S:=S++[dicD ts]) (by simp;omega) (by decide) (by decide);rw[<-zJ hn,<-zJ hn]at J K;have f9:=fm (v:=b) (m:=9) (by decide);have a:(pk S n (b.fdiv 9)++[dicD ts])[S.length]?=some (dicD ts):=by
    rw[wM (by rw[qv];omega),qv];simp
   obtain⟨E,W⟩:=r.put (k:=p) (w:=1+b.fmod 9) U B (by omega) (by omega);refine⟨[some (.ref n),x0,some (.int tn),some (.int many),some (.lst (cs.map .int)),some (.ref S.length),some (.int q),some (tupI p)],pk S n (b.fdiv 9)++[dicD (putTie p (1+b.fmod 9) ts)],?_,_,_,_,_,rfl,rfl,wv C (by decide),E,by simp;omega⟩;rw[show asg (G (d+2)) (.var 6) (.int q) [some (.ref n),x0,some (.int tn),some (.int many),some (.lst (cs.map .int)),some (.ref S.length),x,y] (pk S n u++[dicD ts])=.ok [some (.ref n),x0,some (.int tn),some (.int many),some (.lst (cs.map .int)),some (.ref S.length),some (.int q),y] (pk S n u++[dicD ts])from rfl,Res.bind_ok];refine x_set (qj rfl J) (ρ1:=[some (.ref n),x0,some (.int tn),some (.int many),some (.lst (cs.map .int)),some (.ref S.length),some (.int q),some (tupI p)]) rfl (x_set (qr rfl (qj rfl K) badd) (qeo rfl rfl (qkN a (by omega))) ?_);rw[ve _ _ (by rw[qv];omega),qv];simp[exs])
 obtain⟨F,H⟩:=qkG r;rw[zY]at i;refine⟨⟨cs,srt ts⟩,u,[dicD ts],⟨by show 1<=cs.length;omega,by show cs.length<=12;omega,s,by show(srt ts).length<=30;rw[qiy];omega,by show ∀t∈srt ts,PlOk cs.length t.1/\_;rw[f];exact F,H⟩,f,A,?_⟩;have a:(pk S n u++[dicD ts])[S.length]?=some (dicD ts):=by
  rw[wM (by rw[qv];omega),qv];simp
 refine x_set (d:=.ref S.length) (S1:=pk S n v++[dicD []]) ?_ (ρ1:=[some (.ref n),x0,some (.int tn),some (.int many),some (.lst (cs.map .int)),some (.ref S.length),none,none]) rfl (qaz (i_rng (n:=c) (qe (qj (qe rfl (qe (qr rfl rfl badd) rfl)) I) rfl) (by omega)) P (qC (ze (qe (qF (d:=tupI cs) (S2:=pk S n u++[dicD ts]) rfl rfl) (qe (qkH (kx:=5) (j:=S.length) rfl a r (by omega)) rfl)) (by simp[PySem.sizeLine]))));have:(pk S n v).length=S.length:=qv ..;simp only[ev,v9,this];rfl
def rep1(m:Nat):rep [D.int 1] (m:Int)=(List.replicate m (1:Int)).map .int:=by
 unfold rep;have:((m:Int)).toNat=m:=by omega
 rw[this,um];induction m with
 |zero=>rfl
 |succ k a =>
  rw[vC,vk,a (by omega),vC];rfl
def qmH{d n:Nat}{v mo tn:Int}{S:Sr}(hn:n<S.length)(K:0<=v)(L:1<=mo)(M:mo<=12)(o:0<=tn)(I:tn<=30):∃(w:Wb) (u:Int),WbOk w/\(w.costs.length:Int)<=mo/\0<=u/\G (d+3) 29 [.ref n,.int mo,.int tn] (pk S n v)=.ok (webD w) (pk S n u):=by
 have f:=fm (v:=v) (m:=mo) (by omega);obtain⟨many,i⟩:∃c:Nat,1+v.fmod mo=c:=⟨(1+v.fmod mo).toNat,by omega⟩;have y:0<=v.fdiv mo:=wv K (by omega);have p:0<=(v.fdiv mo).fdiv 3:=wv y (by decide);have a:∀{w:Wb} {u:Int} {T:Sr} {cs:List Int} {v3:Int},exs (G (d+2)) NW (tl (tl c_29.body)) [some (.ref n),some (.int mo),some (.int tn),some (.int many),some (.lst ((List.replicate many (1:Int)).map .int)),none,none,none] (pk S n (v.fdiv mo))=.ok (.rt (webD w)) (pk S n u++T)->G (d+3) 29 [.ref n,.int mo,.int tn] (pk S n v)=.ok (webD w) (pk S n u):=by
  intro w u T cs v3 h;rw[G_at (c:=c_29) rfl];refine qa9 (S2:=T) rfl rfl (x_set (d:=.int many) (S1:=pk S n (v.fdiv mo)) (qr (d2:=.int (v.fmod mo)) (S1:=pk S n v) rfl (qj rfl (zO hn (by omega) (by omega))) (by rw[badd,i])) (ρ1:=[some (.ref n),some (.int mo),some (.int tn),some (.int many),none,none,none,none]) rfl (x_set (d:=.lst ((List.replicate many (1:Int)).map .int)) (S1:=pk S n (v.fdiv mo)) (qr (S1:=pk S n (v.fdiv mo)) (qS rfl (by simp)) rfl ?_) (ρ1:=[some (.ref n),some (.int mo),some (.int tn),some (.int many),some (.lst ((List.replicate many (1:Int)).map .int)),none,none,none]) rfl h)) (by rw[qv,qv]) (qgU _ _);have:repOk [D.int 1] (many:Int)=true:=by
   unfold repOk PySem.sizeLine;rw[wq];refine⟨by omega,by omega,?_⟩;simp;omega
  simp only[binD,lstOf];rw[wN this,rep1]
 have j:=zO (d:=d+1) (n:=n) (v:=v.fdiv mo) (m:=3) hn (by decide) (by decide);by_cases z:((v.fdiv mo).fmod 3)=0
 .rw [z]at j
  obtain⟨b,O,e,⟨cs,N,rfl,rfl,A,l⟩,_,r⟩:=qgV (g:=.int) (F:=G (d+2)) (fr:=[0]) (nt:=1) (elt:=.bin .add (.cst (.int 1)) (.call 26 (.cons (.var 0) (.cons (.cst (.int 5)) .nil)))) (tg:=.var 1) (it:=.rng (.cons (.var 3) .nil))
   (ρ:=[some (.ref n),some (.int mo),some (.int tn),some (.int many),some (.lst ((List.replicate many (1:Int)).map .int)),none,none,none]) (S:=pk S n ((v.fdiv mo).fdiv 3)) (S1:=pk S n ((v.fdiv mo).fdiv 3)) (rI many) (λρ=>∃x,ρ=[some (.ref n),x])
   (λb T=>∃cs u,b=cs.map .int/\T=pk S n u/\0<=u/\∀c∈cs,(1:Int)<=c/\c<=100) (i_rng rfl (by omega)) rfl ⟨_,rfl⟩ (by rw[zY];omega) ⟨[],_,rfl,rfl,p,by simp⟩ (by
    rintro q P ρ m T ⟨x,rfl⟩ ⟨cs,u,rfl,rfl,s,l⟩ _ _;have J:=zO (d:=d+1) (n:=n) (v:=u) (m:=5) (S:=S++[.lst (cs.map .int)]) (by simp;omega) (by decide) (by decide);rw[<-zJ hn,<-zJ hn]at J;have Q:=fm (v:=u) (m:=5) (by decide);refine⟨_,.int (1+u.fmod 5),pk S n (u.fdiv 5),rfl,⟨_,rfl⟩,qr rfl (qj rfl J) badd,by rw[qv,qv],rfl,cs++[1+u.fmod 5],_,by simp,rfl,wv s (by decide),?_⟩;intro c B;rcases wb.mp B with z|z
    .exact l c z
    .simp at z;omega)
  rw[wE,zY]at r;obtain⟨w,u,T,C,E,s,H⟩:=qcH (d:=d) (tn:=tn) (x0:=some (.int mo)) hn A (by omega) (by omega) o I r l;refine⟨w,u,C,by omega,s,a (cs:=cs) (v3:=N) (qkC (t_of (qQ (qj rfl j) rfl (eq0 _ _))) (x_set e rfl zT) H)⟩
 .obtain ⟨w,u,T,C,E,s,H⟩:=qcH (d:=d) (many:=many) (tn:=tn) (x0:=some (.int mo)) (cs:=List.replicate many 1) hn p (by omega) (by omega) o I (by simp) (by intro c B;rw[vz]at B;omega)
  refine⟨w,u,C,by omega,s,a (cs:=[]) (v3:=0) (x_no (t_of (qQ (qj rfl j) rfl ?_)) H)⟩;rw[eq0,ww.mpr z]
def jb{d n:Nat}{v m:Int}{S T:Sr}(hn:n<S.length)(a:0<m)(hm:m.natAbs<2^64):G (d+1) 26 [.ref n,.int m] (pk S n v++T)=.ok (.int (v.fmod m)) (pk S n (v.fdiv m)++T):=by
 rw[zJ hn,zJ hn];exact zO (by rw[wI];lia) a hm
def qhf{d:Nat}{t b:Int}(j:1<=b)(a:b<2^250):G (d+1) 27 [.int t,.int b] S=.ok (nmD (lw t b)) S:=by
 have l:=zU (t:=t) j;have m:=qg9 (t:=t) j;have h:=wl (S:=S) (test:=λρ S=>tst (G d) (.val (.cmp .ne (.var 3) (.cst (.int 0)))) ρ S) (body:=λρ S=>exs (G d) NW (.cons (.set (.tup (.cons (.var 2) (.cons (.var 3) .nil))) (.tup (.cons (.var 3) (.cons (.bin .mod (.var 2) (.var 3)) .nil)))) .nil) ρ S) (E:=λx y=>[some (.int t),some (.int b),some (.int x),some (.int y)]) (λx y=>rfl) (λx y h=>x_set (ze (qe rfl (qe (qr rfl rfl (bmod (by lia))) rfl)) (by simp[PySem.sizeLine])) rfl zT) 250 NW (t.natAbs:Int) b (by lia) (by lia) a (by decide);rw[qg6 250 NW (t.natAbs:Int) b (by lia) (by lia) a (by decide),qbG]at h;have f:cmpD .lt (.int b) (.int 0) S=some false:=by simp only[cmpD];rw[wY (by lia)]
 have i:bltD .abs [.int b] S=.ok (.int b) S:=qmD (by lia);rw[G_at (c:=c_27) rfl];exact qA rfl (x_set (ze (qe (qF rfl qdf) (qe (qF rfl i) rfl)) (by simp[PySem.sizeLine])) (ρ1:=[some (.int t),some (.int b),some (.int (t.natAbs:Int)),some (.int b)]) rfl (qef h (x_no (t_of (qQ rfl rfl f)) (qC (ze (qe (qr rfl rfl (bdivB (by lia) (by lia))) (qe (qr rfl rfl (bdivB (by lia) (by lia))) rfl)) (by simp[PySem.sizeLine]))))))
structure NS (p:Int×Int):Prop where
 t:p.1.natAbs<2^64
 b1:1<=p.2
 b2:p.2<2^64
def qbK{a b:Int}(ha:1<=a)(c:1<=b):1<=a*b:=by
 have:=xV ha c (by decide) (by lia);simpa using this
def qhg{d:Nat}{p q:Int×Int}(b:1<=p.2)(a:NS q)(f:p.2*q.2<2^250):G (d+2) 30 [nmD p,nmD q] S=.ok (nmD (adn p q)) S:=by
 rw[G_at (c:=c_30) rfl];have i:=a.t;have h:=a.b1;have j:=a.b2;exact qA rfl (qC (qj (qe (qr (S1:=S) (qr (S1:=S) (qR (S1:=S) rfl rfl rfl) (qR (S1:=S) rfl rfl rfl) (bmul (jt (by lia)))) (qr (S1:=S) (qR (S1:=S) rfl rfl rfl) (qR (S1:=S) rfl rfl rfl) (bmul (js (by lia)))) badd) (qe (qr (S1:=S) (qR (S1:=S) rfl rfl rfl) (qR (S1:=S) rfl rfl rfl) (bmul (jt (by lia)))) rfl)) (qhf (qbK b h) f)))
def qhh{a b s:Int}(c:1<=s):adn (lw a s) (lw b s)=lw (a+b) s:=by
 have f:=zV (t:=a) c;have h:=zV (t:=b) c;have e1:=jv (t:=a) c;have j:=jv (t:=b) c;have l:=jv (t:=a+b) c;unfold adn;have d:1<=(lw a s).2*(lw b s).2:=qbK f.pos h.pos;refine yZ (zV d) (zV c) ?_;have m:=jv (t:=(lw a s).1*(lw b s).2+(lw b s).1*(lw a s).2) d;generalize lw ((lw a s).1*(lw b s).2+(lw b s).1*(lw a s).2) ((lw a s).2*(lw b s).2)=A at *;generalize lw (a+b) s=B at *;have i:0<(lw a s).2*(lw b s).2*s:=Int.mul_pos (by lia) (by lia);generalize lw a s=P at *;generalize lw b s=Q at *;have:(A.1*B.2)*(P.2*Q.2*s)=(B.1*A.2)*(P.2*Q.2*s):=by grind
 exact uK (by lia) this
def qfe{s:Int}(a:1<=s):lw 0 s=(0,1):=by
 refine yZ (zV a) ⟨by decide,by decide⟩ ?_;have:=jv (t:=0) a;have e:(lw 0 s).1=0:=by
  rw[Int.zero_mul]at this;rcases Int.mul_eq_zero.mp this with z|z
  .exact z
  .lia
 rw[e];simp
def qhi{m s:Int}(a:1<=s):lw (m*s) s=(m,1):=by
 refine yZ (zV a) ⟨by simp,by simp⟩ ?_;have:=jv (t:=m*s) a;have b:((lw (m*s) s).1*1)*s=(m*(lw (m*s) s).2)*s:=by grind
 exact uK (by lia) b
def qhj{s:Int}(a:1<=s):∀(n:Nat) (xs:List Int),xs.length=n->totN (xs.map (lw · s))=lw xs.sum s:=by
 intro n;induction n with
 |zero =>
  intro xs h;have:xs=[]:=wy.mp h;subst this;exact(qfe a).symm
 |succ n b =>
  intro xs h;rcases xM xs with rfl|⟨ys,y,rfl⟩
  .simp at h
  .rw [xN]at h ⊢
   rw[vM,List.map_singleton,y9,b ys (by simpa using h),qhh a];simp
structure AmOk (B:Int) (t:Tie) (ps:List (Int×Int)):Prop where
 ex:∃(xs:List Int) (s:Int),1<=s/\s<=B/\xs.length=t.1.length/\xs.sum=t.2*s/\(∀x∈xs,0<=x/\x<=1000000*s)/\ps=xs.map (lw · s)
def qdi{t b:Int}(a:1<=b):(lw t b).1.natAbs<=t.natAbs:=by
 obtain⟨c,_⟩:=qaC (t:=t) a;have d:=zU (t:=t) a;have:((lw t b).1*(Int.gcd t b:Int)).natAbs=t.natAbs:=by rw[c]
 rw[Int.natAbs_mul]at this;rw[<-this];exact Nat.le_mul_of_pos_right _ (by lia)
def qjm{t b:Int}(c:0<=t)(a:1<=b):0<=(lw t b).1:=by
 obtain⟨d,_⟩:=qaC (t:=t) a;have f:=zU (t:=t) a;rcases Int.lt_or_le (lw t b).1 0 with z|z
 .have:=Int.mul_neg_of_neg_of_pos z (show(0:Int)<(Int.gcd t b:Int) by lia)
  lia
 .exact z
def zD:∀ps:List (Int×Int),refsLts 0 (ps.map nmD)=true
 |[]=>rfl
 |a::r=>by rw[wd,refsLts,zD r];rfl
def qhk(h:NB p):nsm (nmD p)=true:=by
 show(decide (p.1.natAbs<2^45)&&decide (p.2<2^30))=true;rw[wS h.t,wS h.b2];rfl
def qjn{B:Int}(l:B<=1000000)(h:AmOk B t ps):∀p∈ps,NB p:=by
 obtain⟨xs,s,c,m,_,_,d,rfl⟩:=h.ex;intro p f;obtain⟨x,i,rfl⟩:=wp.mp f;have j:=d x i;have a:=qdi (t:=x) c;have b:=qcx (t:=x) c;refine⟨?_,(zV c).pos,by lia⟩;have:x.natAbs<2^45:=by lia
 lia
def qiI{B:Int}(h:AmOk B t ps):ltB t (.tup (ps.map nmD))=true:=by
 obtain⟨xs,s,a,l,c,d,f,rfl⟩:=h.ex;show(decide (((xs.map (lw · s)).map nmD).length=t.1.length)&&(((xs.map (lw · s)).map nmD).all amB&&decide (totN (((xs.map (lw · s)).map nmD).map toP)=(t.2,1))))=true;rw[qbJ,qhj a _ xs rfl,d,qhi a];have e1:decide (((xs.map (lw · s)).map nmD).length=t.1.length)=true:=wS (by simpa using c);have i:((xs.map (lw · s)).map nmD).all amB=true:=by
  rw[u9,u9,wn];intro x j;have b:=zV (t:=x) a;show((decide (1<=(lw x s).2)&&decide (Int.gcd (lw x s).1 (lw x s).2=1))&&decide (0<=(lw x s).1))=true;rw[wS b.pos,wS b.one,wS (qjm (f x j).1 a)];rfl
 rw[e1,i];simp
def lyD(l:List (List (Int×Int))):List D:=l.map λps=>.tup (ps.map nmD)
def LyOk(B:Int)(ts:List Tie)(l:List (List (Int×Int))):Prop:=l.length=ts.length/\∀p∈ts.zip l,AmOk B p.1 p.2
def yw(l:List (List (Int×Int))):refsLts 0 (lyD l)=true:=qE λd hd=>by
 obtain⟨ps,_,rfl⟩:=wp.mp hd;exact zD ps
def qkO{B:Int}(h:LyOk B ts l)(b:ps∈l):∃t∈ts,AmOk B t ps:=by
 obtain⟨i,hi,e⟩:=uh b;have a:i<ts.length:=by rw[<-h.1];exact hi
 have:(ts[i],l[i])∈ts.zip l:=by
  apply w9 (i:=i);rw[uM];exact⟨wD a,wD hi⟩
 have:=h.2 _ this;rw[e]at this;exact⟨_,List.getElem_mem a,this⟩
def qdj{B:Int}(b:B<=1000000)(h:LyOk B ts l):∀x∈lyD l,tsm x=true:=by
 intro x c;obtain⟨ps,a,rfl⟩:=wp.mp c;obtain⟨t,_,ha⟩:=qkO h a;show(ps.map nmD).all nsm=true;rw[u9,wn];exact λp a=>qhk (qjn b ha p a)
def qep{B:Int}{w:Wb}(h:LyOk B w.ties l):layB w (.tup (lyD l))=true:=by
 show(decide ((lyD l).length=w.ties.length)&&(w.ties.zip (lyD l)).all λp=>ltB p.1 p.2)=true;have e1:decide ((lyD l).length=w.ties.length)=true:=wS (by unfold lyD;rw[wE];exact h.1);rw[e1,vh,wn];unfold lyD;rw[List.zip_map_right];intro p a;obtain⟨q,b,rfl⟩:=wp.mp a;exact qiI (h.2 q b)
def qiJ{B:Int}(h:LyOk B pre l)(ha:AmOk B t ps):LyOk B (pre++[t]) (l++[ps]):=by
 refine⟨by simp[h.1],?_⟩;rw[List.zip_append h.1.symm];intro p a;rcases wb.mp a with z|z
 .exact h.2 p z
 .simp at z;subst z;exact ha
def qkP{f:Type}{g:f->D}{F:Fs}{fr:List Nat}{nt:Nat}{elt:CE}{tg:CT}{e:CE}{ifs:CBs}{ρ:En}{S S1:Sr}{n:Nat}(xs:List f)(b:f->Bool)(v:f->D)(R:En->Prop)(i:ev F e ρ S=.ok (.ref n) S1)(hn:S1[n]?=some (.lst (xs.map g)))(j:R (frE ρ fr nt))(l:xs.length<=PySem.sizeLine)(H:∀d∈xs,∀(ρ:En) (m:List D),R ρ->∃ρ1,asg F tg (g d) ρ (S1++[.lst m])=.ok ρ1 (S1++[.lst m])/\R ρ1/\tsts F ifs ρ1 (S1++[.lst m])=.ok (b d) (S1++[.lst m])/\(b d=true->ev F elt ρ1 (S1++[.lst m])=.ok (v d) (S1++[.lst m])/\refsLt 0 (v d)=true)):
  ev F (.lcR false fr nt elt tg e ifs) ρ S=.ok (.lst ((xs.filter b).map v)) S1:=by
 have h:n<S1.length:=(wF.mp hn).1;have c:∀X:Sr,own n (xs.map g) (S1++X):=λX=>by unfold own;rw[wL h];exact hn
 obtain⟨ρ',e1⟩:=j3 (n:=S1.length) (bind:=λd ρ S=>grd (own n (xs.map g)) S (asg F tg d ρ S)) (test:=λρ S=>tsts F ifs ρ S) (elt:=λρ S=>ev F elt ρ S) R rfl xs [] _ (by simpa using l) j (λd hd ρ m o=>by
  obtain⟨ρ1,a,b⟩:=H d hd ρ m o;exact⟨ρ1,by rw[zo (c _)];exact a,b⟩)
 have p:refL (.ref n) S1=some (n,xs.map g):=by simp only[refL,hn]
 simp only[ev,i,Res.bind,p,e1,zo (c _),lcEnd];simp
def qbL{j:Nat}{i:Int}{k:Nat}(h:S[j]?=some (.lst l))(hi:L2.ixN l.length i=some k)(a:refsLt 0 v=true):putE S (.ref j) (.int i) v=some (S.set j (.lst (l.set k v))):=by
 unfold putE;rw[wN a];simp only[putN,h,hi,wu]
def qhl(h:ev F e1 ρ S=.ok d1 S1)(b:ev F a ρ S1=.ok d2 S2)(c:R.binM o d1 d2 S2=r):ev F (.binM o e1 a) ρ S=r:=by
 simp only[ev,h,b,Res.bind,c]
def repD(x:D)(m:Nat):rep [x] (m:Int)=List.replicate m x:=by
 unfold rep;have:((m:Int)).toNat=m:=by lia
 rw[this];induction m with
 |zero=>rfl
 |succ k a=>rw[vC,vk,a (by lia),vC];rfl
def qcI{m:Nat}(a:refsLt 0 x=true)(hm:m<=100):R.binM .mul (.lst [x]) (.int m) S=.ok (.ref S.length) (S++[.lst (List.replicate m x)]):=by
 have b:repOk [x] (m:Int)=true:=by
  unfold repOk PySem.sizeLine;rw[wq];refine⟨by lia,by lia,?_⟩;simp;lia
 have c:refsLts 0 (List.replicate m x)=true:=qE λd hd=>by rw[vz]at hd;rw[hd.2];exact a
 simp only[R.binM,lstOf];rw[wN b,repD];simp only[newL,c,v9]
def qjo{N:Nat}(h:tst F c ρ S=.ok true S1)(d:Ok (exs F N a ρ S1) λf S2=>match f with|.nx ρ1=>Ok (exs F N r ρ1 S2) Q|f=>Q f S2):Ok (exs F N (.cons (.ifs c a b) r) ρ S) Q:=o_if (Ok.of h d)
def qdk{N:Nat}(h:tst F c ρ S=.ok false S1)(b:Ok (exs F N r ρ S1) Q):Ok (exs F N (.cons (.ifs c a .nil) r) ρ S) Q:=o_no (Ok.of h ⟨rfl,b⟩)
def qiK{f:Type}{g:f->D}{F:Fs}{fr:List Nat}{nt:Nat}{elt:CE}{tg:CT}{it:CI}{ρ:En}{S S1:Sr}{ds:List D}(xs:List f)(R:En->Prop)(I:List D->Sr->Prop)(h:evI F it ρ S=.ok ds S1)(hd:ds=xs.map g)(i:R (frE ρ fr nt))(j:xs.length<=1000)(hi:I [] S1)(H:∀d∈xs,∀(ρ:En) (m:List D) (S:Sr),R ρ->I m S->S.length=S1.length->m.length<xs.length->∃ρ1 v b,asg F tg (g d) ρ (S++[.lst m])=.ok ρ1 (S++[.lst m])/\R ρ1/\ev F elt ρ1 (S++[.lst m])=.ok v (b++[.lst m])/\b.length=S1.length/\refsLt 0 v=true/\I (m++[v]) b):
  ∃a b,ev F (.lc true fr nt elt tg it .nil) ρ S=.ok (.ref S1.length) (b++[.lst a])/\I a b/\b.length=S1.length/\a.length=xs.length:=by
 obtain⟨ρ',c,b,e,l,o,p⟩:=qdc (n:=S1.length) (bind:=λd ρ S=>asg F tg d ρ S) (test:=λρ S=>tsts F .nil ρ S) (elt:=λρ S=>ev F elt ρ S) R I (λ_ _=>by simp[tsts]) xs [] _ S1 (by simpa using j) i hi rfl (by simpa using H);refine⟨c,b,?_,l,o,by simpa using p⟩;simp only[ev,h,Res.bind,hd,e,lcEnd,v9]
def qbM:∀{l:List Int},(∀x∈l,0<=x)->∀{y:Int},y∈l->y<=l.sum
 |[],_,_,h=>by simp at h
 |a::r,h,y,hy=>by
  have c:=qg4 λx b=>h x (wO _ b)
  have d:=h a wQ;rw[ud];rcases wR.mp hy with z|z
  .subst z;lia
  .have:=qbM (λx b=>h x (wO _ b)) z;lia
def qeq:∀{l:List Int},(∀x∈l,x<=3)->l.sum<=3*(l.length:Int)
 |[],_=>by simp
 |a::r,h=>by
  have c:=qeq λx b=>h x (wO _ b)
  have d:=h a wQ;rw[ud,w4];lia
def qaG(k:Int):∀l:List Int,(l.map (k*·)).sum=k*l.sum
 |[]=>by simp
 |a::r=>by rw[wd,ud,ud,qaG k r,Int.mul_add]
structure ShOk (n:Nat) (ss:List Int):Prop where
 len:ss.length=n
 rng:∀s∈ss,0<=s/\s<=3
 pos:∃s∈ss,1<=s
def qmI{t:Tie}(h:ShOk t.1.length ss)(l:t.1.length<=4)(m:1<=t.2)(f:t.2<=1000000):1<=ss.sum/\ss.sum<=12/\AmOk 12 t (ss.map λs=>lw (t.2*s) ss.sum):=by
 obtain⟨n,b,i⟩:=h.pos;have o:=qbM (λx a=>(h.rng x a).1) b;have p:=qeq (λx a=>(h.rng x a).2);have j:=h.len;have c:ss.sum<=12:=by lia
 refine⟨by lia,c,⟨ss.map (t.2*·),ss.sum,by lia,c,by rw[wE];exact j,qaG _ _,?_,by rw[wj];rfl⟩⟩;intro x a;obtain⟨s,d,rfl⟩:=wp.mp a;have b1:=h.rng s d;have b2:=qbM (λx a=>(h.rng x a).1) d;refine⟨Int.mul_nonneg (by lia) b1.1,?_⟩;exact xV f b2 b1.1 (by lia)
section
variable{S:Sr}{n:Nat}
theorem yQ(u:Int)(Y:Sr)(o:SO):(pk S n u++(Y++[o]))[S.length+Y.length]?=some o:=by
 rw[wM (by rw[qv];lia),qv];simp
theorem qbN(u:Int)(Y:Sr)(o o':SO):(pk S n u++(Y++[o])).set (S.length+Y.length) o'=pk S n u++(Y++[o']):=by
 rw[ve _ _ (by rw[qv];lia),qv];simp
theorem qbO(u:Int)(Y:Sr):(pk S n u++Y)[S.length]?=Y[0]?:=by
 rw[wM (by rw[qv];lia),qv];simp
theorem zW(u:Int)(Y:Sr):(pk S n u++Y).length=S.length+Y.length:=by rw[wI,qv]
end
abbrev yE(n:Nat)(w:Wb)(k:Nat)(a b c e:Option D):En:=[some (.ref n),some (webD w),some (.ref k),a,b,c,e]
def qiL{T:Sr}{j:Nat}{l:List Int}{i:Int}{k:Nat}{x:Int}(h:T[j]?=some (.lst (l.map .int)))(hi:L2.ixN l.length i=some k)(a:l[k]?=some x):idxD T (.ref j) (.int i)=some (.int x):=by
 simp only[idxD,seqOf,lstOf,h,wf,L2.atI,wE,hi];rw[w8,a];rfl
def qiM{n:Nat}(h:1<=n):L2.ixN n (-1)=some (n-1):=by
 unfold L2.ixN;rw[wT (by decide)];have e:(-1+(n:Int))=((n-1:Nat):Int):=by lia
 simp only[e];rw[wN (by lia)];simp
def qff{d n:Nat}{v:Int}{S:Sr}(hw:WbOk w)(hn:n<S.length)(hv:0<=v):Ok (G (d+2) 31 [.ref n,webD w] (pk S n v)) λy T=>∃l u,LyOk 12 w.ties l/\0<=u/\y=.tup (lyD l)/\T=pk S n u:=by
 rw[G_at (c:=c_31) rfl];refine j4 (f:=c_31) rfl rfl ?_;refine zf (Ok.of (a:=.ref S.length) (S:=pk S n v++[.lst []]) (by have:=qbB (F:=G (d+1)) (ρ:=[some (.ref n),some (webD w),none,none,none,none,none]) (S:=pk S n v) (S1:=pk S n v) (es:=.nil) (l:=[]) rfl (by decide) rfl;rw[qv]at this;exact this) (Ok.of (a:=yE n w S.length none none none none) rfl ?_));refine qbd (g:=tieD) (λpre ρ T=>∃a b c e l u X,ρ=yE n w S.length a b c e/\LyOk 12 pre l/\0<=u/\T=pk S n u++(.lst (lyD l)::X)) w.ties (Ok.of (a:=w.ties.map tieD) (S:=pk S n v++[.lst []]) rfl ⟨rfl,_,_,_,_,[],v,[],rfl,⟨rfl,by simp⟩,hv,rfl⟩) ?_ ?_
 .rintro pre t ab ρ T H ⟨a0,b0,c0,e0,l,u,X,rfl,Z,N,rfl⟩
  have O:=hw.t2 t (by rw[H];simp);have a1:1<=t.1.length:=by
   cases hc:t.1 with
   |nil=>exact absurd hc O.1.ne
   |cons a r=>simp
  have ac:l.length<=100:=by
   have:=congrArg List.length H;have:=hw.t1;have:=Z.1;rw[wI,w4]at *;lia
  refine Ok.of (a:=yE n w S.length (some (tupI t.1)) (some (.int t.2)) c0 e0) rfl ?_;generalize hY:(SO.lst (lyD l)::X)=Y;have a2:Y[0]?=some (.lst (lyD l)):=by rw[<-hY];rfl
  have fin:∀(p:Int) (A:Sr) (j:Nat) (ss:List Int) (c1:Option D),0<=p->A[0]?=some (.lst (lyD l))->(pk S n p++A)[j]?=some (.lst (ss.map .int))->ShOk t.1.length ss ->
    Ok (exs (G (d+1)) NW (.cons (.expr (.app (.var 2) (.blt .tuple (.cons (.lcR false [4,6] 1 (.call 27 (.cons (.bin .mul (.var 0) (.var 2)) (.cons (.blt .sum (.cons (.var 1) .nil)) .nil))) (.var 2) (.var 6) .nil) .nil)))) .nil) (yE n w S.length (some (tupI t.1)) (some (.int t.2)) c1 (some (.ref j))) (pk S n p++A)) λf S2=>match f with
     | .nx a3=>∃a b c e l u X,a3=yE n w S.length a b c e/\LyOk 12 (pre++[t]) l/\0<=u/\S2=pk S n u++(.lst (lyD l)::X)
     |_=>False:=by
   intro p A j ss c1 a4 K hj i;obtain⟨b1,b2,hA⟩:=qmI i O.2.1 O.2.2.1 O.2.2.2;have el:=qkP (g:=.int) (F:=G (d+1)) (fr:=[4,6]) (nt:=1) (elt:=.call 27 (.cons (.bin .mul (.var 0) (.var 2)) (.cons (.blt .sum (.cons (.var 1) .nil)) .nil))) (tg:=.var 2) (e:=.var 6) (ifs:=.nil) (ρ:=yE n w S.length (some (tupI t.1)) (some (.int t.2)) c1 (some (.ref j))) (S:=pk S n p++A) (S1:=pk S n p++A) (n:=j) ss (λ_=>true) (λs=>nmD (lw (t.2*s) ss.sum)) (λρ=>∃y,ρ=[some (.int t.2),some (.ref j),y]) rfl hj ⟨_,rfl⟩ (by rw[i.len];unfold PySem.sizeLine;lia) (by
    rintro s I ρ m ⟨y,rfl⟩;have a5:j<(pk S n p++A).length:=(wF.mp hj).1;have a6:(pk S n p++A++[SO.lst m])[j]?=some (.lst (ss.map .int)):=by rw[wL a5];exact hj
    have P:bltD .sum [.ref j] (pk S n p++A++[SO.lst m])=.ok (.int ss.sum) (pk S n p++A++[SO.lst m]):=by
     simp only[bltD,one,bSum,seqOf,lstOf,a6,wf,qY,wu,ofO]
    exact⟨_,rfl,⟨_,rfl⟩,rfl,λ_=>⟨qj (qe (qr rfl rfl (bmul (js (by have:=O.2.2;lia)))) (qe (qF rfl P) rfl)) (qhf b1 (by lia)),rfl⟩⟩)
   rw[yj]at el;refine qg5 (qjl (Ok.of (a:=.ref S.length) (S:=pk S n p++A) rfl ⟨S.length,lyD l,rfl,by rw[qbO];exact K,Ok.of (a:=.tup ((ss.map λs=>lw (t.2*s) ss.sum).map nmD)) (S:=pk S n p++A) (qF (qe el rfl) (by rw[wj];rfl)) ⟨by rw[qbO];exact K,by unfold lyD;rw[wE];lia,(show refsLt 0 (.tup ((ss.map λs=>lw (t.2*s) ss.sum).map nmD))=true from zD _),?_⟩⟩));cases A with
   |nil=>simp at K
   |cons y0 Y1 =>
    refine ju ⟨_,_,_,_,l++[ss.map λs=>lw (t.2*s) ss.sum],p,Y1,rfl,qiJ Z hA,a4,?_⟩;rw[ve _ _ (by rw[qv];lia),qv];simp[lyD]
  have f3:=fm (v:=u) (m:=3) (by decide);have et:=jb (d:=d) (n:=n) (v:=u) (m:=3) (S:=S) (T:=Y) hn (by decide) (by decide);have E:0<=u.fdiv 3:=wv N (by decide);refine zf (Ok.of (qj rfl et) (Ok.of (a:=yE n w S.length (some (tupI t.1)) (some (.int t.2)) (some (.int (u.fmod 3))) e0) rfl ?_));have eb:∀(x:Int) (u:Int) (Y:Sr) (c e:Option D),ev (G (d+1)) (.binM .mul (.lst false (.cons (.cst (.int x)) .nil)) (.blt .len (.cons (.var 3) .nil))) (yE n w S.length (some (tupI t.1)) (some (.int t.2)) c e) (pk S n u++Y)=.ok (.ref (S.length+Y.length)) (pk S n u++(Y++[.lst ((List.replicate t.1.length x).map .int)])):=by
   intro x u Y c e;refine qhl (d1:=.lst [.int x]) (S1:=pk S n u++Y) (qS rfl (by simp)) (qF rfl (yk _ _)) ?_;rw[qcI rfl (by lia),zW,um,wk]
  refine zf (Ok.of (eb 1 _ Y _ _) (Ok.of (a:=yE n w S.length (some (tupI t.1)) (some (.int t.2)) (some (.int (u.fmod 3))) (some (.ref (S.length+Y.length)))) rfl ?_));have L:∀(Y:Sr) (o:SO),Y[0]?=some (.lst (lyD l))->(Y++[o])[0]?=some (.lst (lyD l)):=λY o h=>by
   rw[wL (wF.mp h).1];exact h
  have B:∀(r k:Int) (T:Sr),cmpD .eq (.int r) (.int k) T=some (r == k):=λ_ _ _=>rfl
  have C:=L Y (.lst ((List.replicate t.1.length (1:Int)).map .int)) a2;by_cases z0:u.fmod 3=0
  .-- one place
   rw[z0];refine qjo (t_of (qQ rfl rfl (B 0 0 _))) ?_;refine zf (Ok.of (eb 0 _ _ _ _) (Ok.of (a:=yE n w S.length (some (tupI t.1)) (some (.int t.2)) (some (.int 0)) (some (.ref (S.length+(Y++[SO.lst ((List.replicate t.1.length (1:Int)).map .int)]).length)))) rfl ?_));generalize Y++[SO.lst ((List.replicate t.1.length (1:Int)).map .int)]=Y2 at C ⊢;have fl:=fm (v:=u.fdiv 3) (m:=t.1.length) (by lia);have Q:=jb (d:=d) (n:=n) (v:=u.fdiv 3) (m:=t.1.length) (S:=S) (T:=Y2++[.lst ((List.replicate t.1.length (0:Int)).map .int)]) hn (by lia) (by lia);obtain⟨r,hr⟩:∃r:Nat,(u.fdiv 3).fmod t.1.length=r:=⟨((u.fdiv 3).fmod t.1.length).toNat,by lia⟩;rw[hr]at Q;have a7:L2.ixN ((List.replicate t.1.length (0:Int)).map D.int).length (r:Int)=some r:=by
    unfold L2.ixN;rw[wN (by lia),wE,xJ,wN (by lia)];rfl
   refine zf (Ok.of (a:=.int 1) (S:=pk S n (u.fdiv 3)++(Y2++[.lst ((List.replicate t.1.length (0:Int)).map .int)])) rfl (Ok.of (qeo rfl (qj (qe rfl (qe (qF rfl (yk _ _)) rfl)) Q) (qbL (yQ _ _ _) a7 rfl)) ?_));rw[qbN,<-List.map_set];refine ju ?_;refine qdk (t_of (qQ rfl rfl (B 0 2 _))) ?_;refine fin _ _ _ _ _ (wv E (by lia)) (L _ _ C) (yQ _ _ _) ⟨by simp,?_,?_⟩
   .intro s I
    rcases ur I with z|z
    .rw [vz]at z;lia
    .lia
   .exact ⟨1,List.mem_set (by simp;lia) 1,by decide⟩
  .have a8:(u.fmod 3 == 0)=false:=ww.mpr z0
   refine qdk (S1:=pk S n (u.fdiv 3)++(Y++[.lst ((List.replicate t.1.length (1:Int)).map .int)])) (t_of (qQ rfl rfl (by rw[B,a8]))) ?_;by_cases z2:u.fmod 3=2
   .-- drawn shares
    rw[z2];refine qjo (t_of (qQ rfl rfl (B 2 2 _))) ?_;generalize Y++[SO.lst ((List.replicate t.1.length (1:Int)).map .int)]=Y2 at C ⊢;generalize u.fdiv 3=u1 at E ⊢;obtain⟨J,S',e,⟨ss,u2,rfl,rfl,a9,i⟩,_,M⟩:=qiK (g:=.int) (F:=G (d+1)) (fr:=[0]) (nt:=1) (elt:=.call 26 (.cons (.var 0) (.cons (.cst (.int 3)) .nil))) (tg:=.var 1) (it:=.seq (.var 3)) (ρ:=yE n w S.length (some (tupI t.1)) (some (.int t.2)) (some (.int 2)) (some (.ref (S.length+Y.length)))) (S:=pk S n u1++Y2) (S1:=pk S n u1++Y2) (ds:=t.1.map .int) t.1 (λρ=>∃y,ρ=[some (.ref n),y])
     (λJ T=>∃ss u,J=ss.map .int/\T=pk S n u++Y2/\0<=u/\∀s∈ss,(0:Int)<=s/\s<=2) rfl rfl ⟨_,rfl⟩ (by lia) ⟨[],u1,rfl,rfl,E,by simp⟩ (by
      rintro q hq ρ m T ⟨y,rfl⟩ ⟨ss,u,rfl,rfl,N,i⟩ _ _;have ek:=jb (d:=d) (n:=n) (v:=u) (m:=3) (S:=S) (T:=Y2++[.lst (ss.map .int)]) hn (by decide) (by decide);rw[<-wk,<-wk]at ek;have f:=fm (v:=u) (m:=3) (by decide);refine⟨_,.int (u.fmod 3),pk S n (u.fdiv 3)++Y2,rfl,⟨_,rfl⟩,qj rfl ek,by rw[zW,zW],rfl,ss++[u.fmod 3],_,by simp,rfl,wv N (by decide),?_⟩;intro s I;rcases wb.mp I with z|z
      .exact i s z
      .simp at z;lia)
    rw[wE]at M;rw[zW,wk]at e;refine zf (Ok.of e (Ok.of (a:=yE n w S.length (some (tupI t.1)) (some (.int t.2)) (some (.int 2)) (some (.ref (S.length+Y2.length)))) rfl ?_));obtain⟨x,hx⟩:∃x,ss[t.1.length-1]?=some x:=⟨_,wD (by lia)⟩;have ad:=i x (w9 hx);have U:L2.ixN ss.length (-1)=some (t.1.length-1):=by rw[M];exact qiM a1
    have W:=yQ (S:=S) (n:=n) u2 Y2 (.lst (ss.map .int));refine zf (Ok.of (a:=.int (1+x)) (S:=pk S n u2++(Y2++[.lst (ss.map .int)])) (qr rfl (qR rfl rfl (qiL W U hx)) badd) (Ok.of (qeo rfl rfl (qbL W (by rw[wE];exact U) rfl)) ?_));rw[qbN,<-List.map_set];refine ju (fin _ _ _ _ _ a9 (L _ _ C) (yQ _ _ _) ⟨by simpa using M,?_,?_⟩)
    .intro s I
     rcases ur I with z|z
     .have:=i s z;lia
     .lia
    .exact ⟨1+x,List.mem_set (by lia) _,by lia⟩
   .have aa:(u.fmod 3 == 2)=false:=ww.mpr z2
    refine qdk (S1:=pk S n (u.fdiv 3)++(Y++[.lst ((List.replicate t.1.length (1:Int)).map .int)])) (t_of (qQ rfl rfl (by rw[B,aa]))) ?_;refine fin _ _ _ _ _ E C (yQ _ _ _) ⟨by simp,?_,?_⟩
    .intro s I
     rw[vz]at I;lia
    .exact ⟨1,by rw[vz];lia,by decide⟩
 .rintro ρ T ⟨a0,b0,c0,e0,l,u,X,rfl,Z,N,rfl⟩
  refine qej (Ok.of (a:=.tup (lyD l)) (S:=pk S n u++(.lst (lyD l)::X)) (qF rfl ?_) ⟨by rw[qv,zW];lia,(show refsLt _ (.tup (lyD l))=true from qX _ (yw l)),l,u,Z,N,rfl,?_⟩)
  .have:(pk S n u++(SO.lst (lyD l)::X))[S.length]?=some (.lst (lyD l)):=by rw[qbO];rfl
   simp only[bltD,one,bTuple,seqOf,lstOf,this,wu,ofO]
  .have:(pk S n v).length=(pk S n u).length:=by rw[qv,qv]
   rw[this,List.take_left'];rfl
abbrev Am:=Int×Int
def addP(ls:List (List Am))(q:Int×Am):List (List Am):=ls.set q.1.toNat (ls.getD q.1.toNat []++[q.2])
def addT(ls:List (List Am))(x:Tie×List Am):List (List Am):=(x.1.1.zip x.2).foldl addP ls
def layP(m:Nat)(a:List (Tie×List Am)):List (List Am):=a.foldl addT (List.replicate m [])
def qaH(ls:List (List Am))(q:Int×Am):(addP ls q).length=ls.length:=by simp[addP]
def qbf:∀(qs:List (Int×Am)) (ls:List (List Am)),(qs.foldl addP ls).length=ls.length
 |[],_=>rfl
 |q::r,ls=>by rw[xL,qbf r,qaH]
def qhm{ls:List (List Am)}{i:Nat}(h:i<ls.length):(addP ls q).getD i []=ls.getD i []++if q.1.toNat=i then[q.2]else[]:=by
 unfold addP;rw[we,List.getElem?_set];by_cases e:q.1.toNat=i
 .subst e;rw[wN rfl,wN h,wN rfl];rfl
 .rw [wT e,wT e,vY,we]
def jP{i:Nat}:∀(qs:List (Int×Am)) (ls:List (List Am)),i<ls.length->(qs.foldl addP ls).getD i []=ls.getD i []++(qs.filter λq=>decide (q.1.toNat=i)).map (·.2)
 |[],_,_=>by simp
 |q::r,ls,h=>by
  rw[xL,jP r _ (by rw[qaH];exact h),qhm h,wk];congr 1;by_cases e:q.1.toNat=i
  .rw [List.filter_cons_of_pos (by simpa using e),wN e];rfl
  .rw [List.filter_cons_of_neg (by simpa using e),wT e];rfl
def filt1{i:Nat}:∀{qs:List (Int×Am)},(qs.map (·.1)).Nodup->(∀q∈qs,0<=q.1)->(qs.filter λq=>decide (q.1.toNat=i)).length<=1
 |[],_,_=>by simp
 |q::r,nd,h=>by
  rw[wd,uC]at nd;by_cases e:q.1.toNat=i
  .have:(r.filter λq=>decide (q.1.toNat=i))=[]:=by
    rw[List.filter_eq_nil_iff];intro p a z;have b:p.1.toNat=i:=by simpa using z
    have c:=h q wQ;have d:=h p (wO _ a);exact nd.1 (wp.mpr ⟨p,a,by lia⟩)
   rw[List.filter_cons_of_pos (by simpa using e),this];simp
  .rw [List.filter_cons_of_neg (by simpa using e)]
   exact filt1 nd.2 λp a=>h p (wO _ a)
structure Good (e k m:Nat) (ls:List (List Am)):Prop where
 len:ls.length=m
 at':∀i,i<m->(ls.getD i []).length<=k/\∀a∈ls.getD i [],NBe e a
def good0(e m:Nat):Good e 0 m (List.replicate m []):=⟨by simp,λi hi=>by
 have:(List.replicate m ([]:List Am)).getD i []=[]:=by rw[we,vH];split <;> rfl
 rw[this];simp⟩
def qaI{e k m:Nat}(g:Good e k m ls){qs:List (Int×Am)}(nd:(qs.map (·.1)).Nodup)(h:∀q∈qs,0<=q.1/\NBe e q.2):Good e (k+1) m (qs.foldl addP ls):=by
 refine⟨by rw[qbf];exact g.len,λi hi=>?_⟩;rw[jP _ _ (by rw[g.len];exact hi)];obtain⟨d,c⟩:=g.at' i hi;have f:=filt1 (i:=i) nd λq b=>(h q b).1
 refine⟨by rw[wI,wE];lia,λa ha=>?_⟩;rcases wb.mp ha with z|z
 .exact c a z
 .obtain ⟨q,b,rfl⟩:=wp.mp z
  exact(h q (List.mem_filter.mp b).1).2
structure ZOk (e m:Nat) (z:Tie×List Am):Prop where
 pl:PlOk m z.1.1
 nb:∀a∈z.2,NBe e a
 len:z.2.length=z.1.1.length
def zq{e m:Nat}(h:ZOk e m z):((z.1.1.zip z.2).map (·.1)).Nodup/\∀q∈z.1.1.zip z.2,0<=q.1/\q.1<m/\NBe e q.2:=by
 refine⟨?_,λq b=>?_⟩
 .rw [List.map_fst_zip (by rw[h.len];exact wJ _)]
  exact qg3 h.pl.up
 .obtain ⟨a,c⟩:=uU b
  exact⟨(h.pl.rng _ a).1,(h.pl.rng _ a).2,h.nb _ c⟩
def qkQ{e k m:Nat}(g:Good e k m ls)(h:ZOk e m z):Good e (k+1) m (addT ls z):=qaI g (zq h).1 λq a=>⟨((zq h).2 q a).1,((zq h).2 q a).2.2⟩
def qbg{e m:Nat}:∀(a:List (Tie×List Am)) (k:Nat) (ls:List (List Am)),Good e k m ls->(∀z∈a,ZOk e m z)->Good e (k+a.length) m (a.foldl addT ls)
 |[],_,_,g,_=>g
 |z::r,k,ls,g,h=>by
  have:=qbg r (k+1) _ (qkQ g (h z wQ)) λy b=>h y (wO _ b)
  rw[xL,w4,show k+(r.length+1)=k+1+r.length by lia];exact this
def qaJ{e m:Nat}{a:List (Tie×List Am)}(h:∀z∈a,ZOk e m z):Good e a.length m (layP m a):=by
 have:=qbg a 0 _ (good0 e m) h;rw[Nat.zero_add]at this;exact this
def qkR{e k m:Nat}(g:Good e k m ls){i:Nat}(hi:i<m):1<=(totN (ls.getD i [])).2/\(totN (ls.getD i [])).2<=2^(e*k):=by
 obtain⟨c,d⟩:=g.at' i hi;obtain⟨a,b⟩:=qel _ rfl d;exact⟨a,Int.le_trans b (qdg (uf e c))⟩
def lsS(ls:List (List Am)):Sr:=ls.map λxs=>.lst (xs.map nmD)
def stP(S:Sr)(ls:List (List Am)):Sr:=S++lsS ls++[.lst ((List.range ls.length).map λi=>.ref (S.length+i))]
def qdl{ls:List (List Am)}{i:Nat}(h:i<ls.length):(stP S ls)[S.length+i]?=some (.lst ((ls.getD i []).map nmD)):=by
 unfold stP lsS;rw[wL (by simp;lia),wM (by lia),w8,show S.length+i-S.length=i by lia,we,wD h];rfl
def qer(S:Sr)(ls:List (List Am)):(stP S ls)[S.length+ls.length]?=some (.lst ((List.range ls.length).map λi=>.ref (S.length+i))):=by
 unfold stP lsS;rw[wM (by simp)];simp
def qiN{ls:List (List Am)}{q:Int×Am}(h:q.1.toNat<ls.length):(stP S ls).set (S.length+q.1.toNat) (.lst ((ls.getD q.1.toNat []).map nmD++[nmD q.2]))=stP S (addP ls q):=by
 unfold stP lsS;rw[List.set_append_left _ _ (by simp;lia),ve _ _ (by lia),show S.length+q.1.toNat-S.length=q.1.toNat by lia,qaH];congr 2;unfold addP;rw[List.map_set];simp
def qjp{n:Nat}{p:Int}(a:0<=p)(b:p<n):L2.ixN n p=some p.toNat:=by unfold L2.ixN;rw[wN a,wN b]
def qkS{F:Fs}{S:Sr}{ls:List (List Am)}{q:Int×Am}(b:ρ[2]?=some (some (.ref (S.length+ls.length))))(c:ρ[6]?=some (some (.int q.1)))(d:ρ[7]?=some (some (nmD q.2)))(f:0<=q.1)(h:q.1<ls.length)(r:(ls.getD q.1.toNat []).length<=1000):
  ev F (.app (.idx (.var 2) (.var 6)) (.var 7)) ρ (stP S ls)=.ok .non (stP S (addP ls q)):=by
 have hi:q.1.toNat<ls.length:=by lia
 have j:ev F (.var 2) ρ (stP S ls)=.ok (.ref (S.length+ls.length)) (stP S ls):=by simp only[ev,varE,b]
 have l:ev F (.var 6) ρ (stP S ls)=.ok (.int q.1) (stP S ls):=by simp only[ev,varE,c]
 have m:ev F (.var 7) ρ (stP S ls)=.ok (nmD q.2) (stP S ls):=by simp only[ev,varE,d]
 have a:idxD (stP S ls) (.ref (S.length+ls.length)) (.int q.1)=some (.ref (S.length+q.1.toNat)):=by
  have n:L2.ixN ((List.range ls.length).map λi=>D.ref (S.length+i)).length q.1=some q.1.toNat:=by rw[wE,List.length_range];exact qjp f h
  simp only[idxD,seqOf,lstOf,qer,wf,L2.atI,n];rw[w8,List.getElem?_range hi];rfl
 have o:appD (stP S ls) (.ref (S.length+q.1.toNat)) (nmD q.2)=.ok .non (stP S (addP ls q)):=by
  have p:(ls.getD q.1.toNat []).length<PySem.sizeLine:=by unfold PySem.sizeLine;lia
  simp only[appD,qdl hi];rw[wN ⟨by rw[wE];exact p,rfl⟩,qiN hi]
 exact qjk (qR j l a) (by simp only[isLst,qdl hi]) m o
def qhn{F:Fs}{ρ:En}{T:Sr}{i j:Nat}{p:List Int}{ps:List Am}(hi:ρ[i]?=some (some (tupI p)))(a:ρ[j]?=some (some (.tup (ps.map nmD)))):evI F (.zip (.var i) (.var j)) ρ T=.ok ((p.zip ps).map λq=>.tup [.int q.1,nmD q.2]) T:=by
 have e1:ev F (.var i) ρ T=.ok (tupI p) T:=by simp only[ev,varE,hi]
 have b:ev F (.var j) ρ T=.ok (.tup (ps.map nmD)) T:=by simp only[ev,varE,a]
 simp only[evI,e1,b,Res.bind,tupI,walkF];rw[List.zip_map,wj];rfl
def qes{F:Fs}{ρ:En}{T:Sr}{w:Wb}{l:List (List Am)}(hi:ρ[0]?=some (some (webD w)))(a:ρ[1]?=some (some (.tup (lyD l)))):evI F (.zip (.idx (.var 0) (.cst (.int 1))) (.var 1)) ρ T=.ok ((w.ties.zip l).map λz=>.tup [tieD z.1,.tup (z.2.map nmD)]) T:=by
 have b:ev F (.var 0) ρ T=.ok (webD w) T:=by simp only[ev,varE,hi]
 have e1:ev F (.idx (.var 0) (.cst (.int 1))) ρ T=.ok (.tup (w.ties.map tieD)) T:=qR (S1:=T) b rfl rfl;have c:ev F (.var 1) ρ T=.ok (.tup (lyD l)) T:=by simp only[ev,varE,a]
 simp only[evI,e1,c,Res.bind,lyD,walkF];rw[List.zip_map,wj];rfl
def qcJ{h:Type}{g v:h->D}{gd:Sr->Prop}{bind:D->En->Sr->Res En}{test:En->Sr->Res Bool}{elt:En->Sr->Res D}(R:En->Prop){S:Sr}(b:gd S):∀(ds:List h) (a:List D) (ρ:En),a.length+ds.length<=1000->R ρ ->
  (∀d∈ds,∀ρ,R ρ->∃ρ1,bind (g d) ρ S=.ok ρ1 S/\R ρ1/\test ρ1 S=.ok true S/\elt ρ1 S=.ok (v d) S)->genLoopG gd bind test elt (stepG .tuple) (finG .tuple) (ds.map g) ρ (.tup a) S=.ok (.tup (a++ds.map v)) S
 |[],a,ρ,_,_,_=>by rw[uo,uo,vY];exact zo b _
 |d::r,a,ρ,hl,hR,H=>by
  obtain⟨ρ1,e1,c,i,j⟩:=H d wQ ρ hR;rw[w4]at hl;have f:a.length<PySem.sizeLine:=by unfold PySem.sizeLine;lia
  rw[wd];unfold genLoopG;rw[zo b,e1,Res.bind_ok,i,Res.bind_ok,wN rfl,j,Res.bind_ok];simp only[stepG,wN f];have l:=qcJ R b r (a++[v d]) ρ1 (by rw[wI,wZ];lia) c λy m=>H y (wO _ m)
  rw[l];simp
def ldD(ls:List (List Am)):D:=.tup (ls.map λxs=>nmD (totN xs))
def qmJ(h:ev F e ρ S=.ok (.tup l) S1)(b:l.length<=1000):ev F (.lls e) ρ S=.ok (.ref (S1.length+l.length)) (S1++List.replicate l.length (.lst [])++[.lst ((List.range l.length).map λi=>.ref (S1.length+i))]):=by
 have a:l.length<=PySem.sizeLine:=by unfold PySem.sizeLine;lia
 simp only[ev,h,Res.bind,newLls];rw[wN a]
def qkT{F:Fs}{ρ:En}{S S1:Sr}{w:GW}{fr:List Nat}{nt:Nat}{a e:CE}{t:CT}{b:CBs}{x:D}{ds:List D}{gd:Sr->Prop}{r:Res D}(h:ev F e ρ S=.ok x S1)(c:refX x S1=some (ds,gd))(f:genLoopG gd (λd ρ S=>asg F t d ρ S) (λρ S=>tsts F b ρ S) (λρ S=>ev F a ρ S) (stepG w) (finG w) ds (frE ρ fr nt) (startG w) S1=r):ev F (.genX w fr nt a t e b) ρ S=r:=by
 simp only[ev,h,Res.bind,c];exact f
abbrev eE(w:Wb)(l:List (List Am))(j:Nat)(a b c d e:Option D):En:=[some (webD w),some (.tup (lyD l)),some (.ref j),a,b,c,d,e]
def qkU{N:Nat}(h:evI F it ρ S=.ok ds S1)(b:forLoop (λd ρ S=>(asg F t d ρ S).bind λρ1 S1=>exs F N a ρ1 S1) ds ρ S1=.ok (.nx ρ1) S2)(c:exs F N r ρ1 S2=Y):exs F N (.cons (.cal (.forS t it a)) r) ρ S=Y:=qde (qaz h b c) (by simp[ex,h,b,Res.bind])
structure LyG (w:Wb) (l:List (List Am)):Prop where
 ex:∃(B:Int) (e:Nat),LyOk B w.ties l/\B<=1000000/\B<=2^e/\e*w.ties.length<=240/\e<=20/\1<=B
def qkV{B:Int}{e:Nat}(c:B<=1000000)(f:B<=2^e)(h:AmOk B t ps):∀p∈ps,NBe e p:=by
 intro p a;have hn:=qjn c h p a;obtain⟨xs,s,d,i,_,_,j,rfl⟩:=h.ex;obtain⟨x,l,rfl⟩:=wp.mp a;have b:=qcx (t:=x) d;exact⟨hn.t,hn.b1,by lia⟩
def LyG.z(c:WbOk w)(h:LyG w l):∃e:Nat,e*w.ties.length<=240/\e<=20/\(w.ties.zip l).length=w.ties.length/\∀z∈w.ties.zip l,ZOk e w.costs.length z:=by
 obtain⟨B,e,a,d,f,i,j,_⟩:=h.ex;refine⟨e,i,j,by rw[List.length_zip,a.1];lia,λz b=>?_⟩;have ha:=a.2 z b;refine⟨(c.t2 _ (uU b).1).1,qkV d f ha,?_⟩;obtain⟨xs,s,_,_,q,_,_,e⟩:=ha.ex;rw[e,wE];exact q
def lyl(w:Wb)(l:List (List Am)):List (List Am):=layP w.costs.length (w.ties.zip l)
def qaT{d:Nat}(b:WbOk w)(h:LyG w l):G (d+10) 19 [webD w,.tup (lyD l)] S=.ok .non S:=by
 obtain⟨B,e,a,f,_⟩:=h.ex;have e1:=yv (d:=d) (S:=S) b (x:=.tup (lyD l)) (yw l) (wn.mpr λy i=>qdj f a y i);rw[qep a]at e1;rw[G_at (c:=c_19) rfl];exact qeb rfl (x_no (S1:=S) (t_no (x:=true) (t_of (qj rfl e1))) zT)
def stP0(S:Sr)(m:Nat):S++List.replicate m (.lst [])++[.lst ((List.range m).map λi=>.ref (S.length+i))]=stP S (List.replicate m []):=by
 unfold stP lsS;rw[um,xJ];rfl
def qiO{d:Nat}(J:WbOk w)(h:LyG w l):G (d+11) 20 [webD w,.tup (lyD l)] S=.ok (ldD (lyl w l)) S:=by
 obtain⟨e,he,a0,x,M⟩:=h.z J;have ht:=J.t1;have hm:=J.c2;rw[G_at (c:=c_20) rfl];have en:=qaT (d:=d) (S:=S) J h;obtain⟨ρ',S',K,n,o,r,a,b,rfl,rfl⟩:=yu (g:=λz:Tie×List Am=>.tup [tieD z.1,.tup (z.2.map nmD)]) (body:=λdd ρ T=>(asg (G (d+10)) (.tup (.cons (.tup (.cons (.var 3) (.cons (.var 4) .nil))) (.cons (.var 5) .nil))) dd ρ T).bind λρ1 N=>exs (G (d+10)) NW (.cons (.forS (.tup (.cons (.var 6) (.cons (.var 7) .nil))) (.zip (.var 3) (.var 5)) (.cons (.expr (.app (.idx (.var 2) (.var 6)) (.var 7))) .nil)) .nil) ρ1 N)
  (λpre ρ T=>∃n o r a b,ρ=(eE w l (S.length+w.costs.length) n o r a b)/\T=stP S (layP w.costs.length pre)) (w.ties.zip l) (ρ:=(eE w l (S.length+w.costs.length) none none none none none)) (S:=stP S (List.replicate w.costs.length [])) ⟨_,_,_,_,_,rfl,rfl⟩ (by
   rintro pre z a1 ρ T j ⟨n,o,r,a,b,rfl,rfl⟩;have A:=congrArg List.length j;rw[wI,w4,x]at A;have O:∀y∈pre,ZOk e w.costs.length y:=λy P=>M y (by rw[j];simp[P])
   have Q:ZOk e w.costs.length z:=M z (by rw[j];simp);have g0:=qaJ O;rw[show asg (G (d+10)) (.tup (.cons (.tup (.cons (.var 3) (.cons (.var 4) .nil))) (.cons (.var 5) .nil))) (.tup [tieD z.1,.tup (z.2.map nmD)]) (eE w l (S.length+w.costs.length) n o r a b) (stP S (layP w.costs.length pre))=.ok (eE w l (S.length+w.costs.length) (some (tupI z.1.1)) (some (.int z.1.2)) (some (.tup (z.2.map nmD))) a b) (stP S (layP w.costs.length pre))from rfl,Res.bind_ok];obtain⟨ρ',S',K,a,b,rfl,rfl⟩:=yu (g:=λq:Int×Am=>.tup [.int q.1,nmD q.2]) (body:=λdd ρ T=>(asg (G (d+10)) (.tup (.cons (.var 6) (.cons (.var 7) .nil))) dd ρ T).bind λρ1 N=>exs (G (d+10)) NW (.cons (.expr (.app (.idx (.var 2) (.var 6)) (.var 7))) .nil) ρ1 N)
    (λu ρ T=>∃a b,ρ=(eE w l (S.length+w.costs.length) (some (tupI z.1.1)) (some (.int z.1.2)) (some (.tup (z.2.map nmD))) a b)/\T=stP S (u.foldl addP (layP w.costs.length pre))) (z.1.1.zip z.2) (ρ:=(eE w l (S.length+w.costs.length) (some (tupI z.1.1)) (some (.int z.1.2)) (some (.tup (z.2.map nmD))) a b)) (S:=stP S (layP w.costs.length pre)) ⟨_,_,rfl,rfl⟩ (by
     rintro u q su ρ T m ⟨a,b,rfl,rfl⟩;obtain⟨nd,U⟩:=zq Q;have B:=U q (by rw[m];simp);have L:=qaI g0 (qs:=u) (by rw[m,vM]at nd;exact(vV.mp nd).1) λp hp=>⟨(U p (by rw[m];simp[hp])).1,(U p (by rw[m];simp[hp])).2.2⟩
     have C:=L.len;refine⟨(eE w l (S.length+w.costs.length) (some (tupI z.1.1)) (some (.int z.1.2)) (some (.tup (z.2.map nmD))) (some (.int q.1)) (some (nmD q.2))),stP S ((u++[q]).foldl addP (layP w.costs.length pre)),?_,_,_,rfl,rfl⟩;rw[show asg (G (d+10)) (.tup (.cons (.var 6) (.cons (.var 7) .nil))) (.tup [.int q.1,nmD q.2]) (eE w l (S.length+w.costs.length) (some (tupI z.1.1)) (some (.int z.1.2)) (some (.tup (z.2.map nmD))) a b) (stP S (u.foldl addP (layP w.costs.length pre)))=.ok (eE w l (S.length+w.costs.length) (some (tupI z.1.1)) (some (.int z.1.2)) (some (.tup (z.2.map nmD))) (some (.int q.1)) (some (nmD q.2))) (stP S (u.foldl addP (layP w.costs.length pre)))from rfl,Res.bind_ok,uw];have hb:=(L.at' q.1.toNat (by lia)).1;exact x_expr (qkS (by rw[C];rfl) rfl rfl B.1 (by rw[C];exact B.2.1) (by lia)) zT)
   refine⟨_,_,qaz (qhn rfl rfl) K zT,_,_,_,_,_,rfl,?_⟩;unfold layP;rw[uw];rfl)
 have g:=qaJ M;have E:=g.len;have W:layP w.costs.length (w.ties.zip l)=lyl w l:=rfl;rw[W]at g E K;rw[x]at g;have X:stP S (List.replicate w.costs.length [])=S++List.replicate w.costs.length (.lst [])++[.lst ((List.range w.costs.length).map λi=>.ref (S.length+i))]:=(stP0 S _).symm;have H:ev (G (d+10)) (.lls (.idx (.var 0) (.cst (.int 0)))) [some (webD w),some (.tup (lyD l)),none,none,none,none,none,none] S=.ok (.ref (S.length+w.costs.length)) (stP S (List.replicate w.costs.length [])):=by
  rw[X];have:=qmJ (F:=G (d+10)) (e:=.idx (.var 0) (.cst (.int 0))) (ρ:=[some (webD w),some (.tup (lyD l)),none,none,none,none,none,none]) (S:=S) (S1:=S) (l:=w.costs.map .int) (qR (S1:=S) rfl rfl rfl) (by rw[wE];lia);rw[wE]at this;exact this
 have eg:ev (G (d+10)) (.genX .tuple [] 1 (.call 7 (.cons (.var 0) .nil)) (.var 0) (.var 2) .nil) (eE w l (S.length+w.costs.length) n o r a b) (stP S (lyl w l))=.ok (ldD (lyl w l)) (stP S (lyl w l)):=by
  have I:=qer S (lyl w l);have hr:refX (.ref (S.length+w.costs.length)) (stP S (lyl w l))=some ((List.range (lyl w l).length).map λi=>.ref (S.length+i),own (S.length+(lyl w l).length) ((List.range (lyl w l).length).map λi=>.ref (S.length+i))):=by
   rw[<-E];simp only[refX,I]
  have hg:own (S.length+(lyl w l).length) ((List.range (lyl w l).length).map λi=>D.ref (S.length+i)) (stP S (lyl w l)):=I;have e2:ev (G (d+10)) (.var 2) (eE w l (S.length+w.costs.length) n o r a b) (stP S (lyl w l))=.ok (.ref (S.length+w.costs.length)) (stP S (lyl w l)):=rfl;refine qkT e2 hr ?_;have:=qcJ (g:=λi:Nat=>D.ref (S.length+i)) (v:=λi=>nmD (totN ((lyl w l).getD i []))) (bind:=λY ρ T=>asg (G (d+10)) (.var 0) Y ρ T) (test:=λρ T=>tsts (G (d+10)) .nil ρ T) (elt:=λρ T=>ev (G (d+10)) (.call 7 (.cons (.var 0) .nil)) ρ T) (λρ=>∃y,ρ=[y]) hg (List.range (lyl w l).length) [] (frE (eE w l (S.length+w.costs.length) n o r a b) [] 1) (by simp;lia) ⟨_,rfl⟩ (by
   rintro i hi ρ ⟨y,rfl⟩;have Z:=vu.mp hi;refine⟨_,rfl,⟨_,rfl⟩,rfl,qj rfl ?_⟩;obtain⟨L,g2⟩:=g.at' i (by lia);have s:=qdl (S:=S) Z;exact qcy (d:=d+7) (e:=e) (gd:=own (S.length+i) (((lyl w l).getD i []).map nmD)) (by simp only[refX,s]) s g2 (vA (uf e L) he) (by lia))
  rw[show startG .tuple=D.tup []from rfl,show frE (eE w l (S.length+w.costs.length) n o r a b) [] 1=[none]from rfl]at *;have e3:(List.range (lyl w l).length).map (λi=>nmD (totN ((lyl w l).getD i [])))=(lyl w l).map λxs=>nmD (totN xs):=by
   apply List.ext_getElem
   .simp
   .intro i h1 h2
    simp at h1;rw[List.getElem_map,List.getElem_map,List.getElem_range,we,wD h1];rfl
  rw[List.nil_append,e3]at this;exact this
 refine qa9 (f:=c_20) (S1:=S) (S2:=lsS (lyl w l)++[.lst ((List.range (lyl w l).length).map λi=>.ref (S.length+i))]) rfl rfl ?_ rfl (qE λy P=>by
  obtain⟨xs,_,rfl⟩:=wp.mp P;rfl)
 rw[<-wk];exact x_expr (S1:=S) (qj rfl en) (qhc H (qkU (qes rfl rfl) K (qbF eg)))
def ldS(S:Sr)(ls:List (List Am)):Sr:=S++[.lst (ls.map λxs=>nmD (totN xs))]
def qdm(S:Sr)(ls:List (List Am)):(ldS S ls)[S.length]?=some (.lst (ls.map λxs=>nmD (totN xs))):=by unfold ldS;simp
def qiP{q:Int×Am}:(ldS S ls).set S.length (.lst ((ls.map λxs=>nmD (totN xs)).set q.1.toNat (nmD (adn (totN (ls.getD q.1.toNat [])) q.2))))=ldS S (addP ls q):=by
 unfold ldS addP;rw[ve _ _ (wJ _),Nat.sub_self,List.map_set,y9];rfl
def qkW{e:Nat}(a:e<=20)(h:NBe e p):NS p:=⟨by have:=h.t;lia,h.b1,by have:=h.b2;have:=qdg a;lia⟩
def qcK{d:Nat}(C:WbOk w)(h:LyG w l):G (d+3) 32 [webD w,.tup (lyD l)] S=.ok (ldD (lyl w l)) S:=by
 obtain⟨e,W,E,F,Q⟩:=h.z C;have ht:=C.t1;have hm:=C.c2;rw[G_at (c:=c_32) rfl];obtain⟨ρ',X,H,v,x,A,i,j,rfl,rfl⟩:=yu (g:=λz:Tie×List Am=>.tup [tieD z.1,.tup (z.2.map nmD)]) (body:=λdd ρ T=>(asg (G (d+2)) (.tup (.cons (.tup (.cons (.var 3) (.cons (.var 4) .nil))) (.cons (.var 5) .nil))) dd ρ T).bind λρ1 I=>exs (G (d+2)) NW (.cons (.forS (.tup (.cons (.var 6) (.cons (.var 7) .nil))) (.zip (.var 3) (.var 5)) (.cons (.set (.sub (.var 2) (.var 6)) (.call 30 (.cons (.idx (.var 2) (.var 6)) (.cons (.var 7) .nil)))) .nil)) .nil) ρ1 I)
  (λpre ρ T=>∃v x A i j,ρ=(eE w l S.length v x A i j)/\T=ldS S (layP w.costs.length pre)) (w.ties.zip l) (ρ:=(eE w l S.length none none none none none)) (S:=ldS S (List.replicate w.costs.length [])) ⟨_,_,_,_,_,rfl,rfl⟩ (by
   rintro pre z Y ρ T m ⟨v,x,A,i,j,rfl,rfl⟩;have o:=congrArg List.length m;rw[wI,w4,F]at o;have J:∀y∈pre,ZOk e w.costs.length y:=λy K=>Q y (by rw[m];simp[K])
   have M:ZOk e w.costs.length z:=Q z (by rw[m];simp);have N:=qaJ J;rw[show asg (G (d+2)) (.tup (.cons (.tup (.cons (.var 3) (.cons (.var 4) .nil))) (.cons (.var 5) .nil))) (.tup [tieD z.1,.tup (z.2.map nmD)]) (eE w l S.length v x A i j) (ldS S (layP w.costs.length pre))=.ok (eE w l S.length (some (tupI z.1.1)) (some (.int z.1.2)) (some (.tup (z.2.map nmD))) i j) (ldS S (layP w.costs.length pre))from rfl,Res.bind_ok];obtain⟨ρ',X,H,i,j,rfl,rfl⟩:=yu (g:=λq:Int×Am=>.tup [.int q.1,nmD q.2]) (body:=λdd ρ T=>(asg (G (d+2)) (.tup (.cons (.var 6) (.cons (.var 7) .nil))) dd ρ T).bind λρ1 I=>exs (G (d+2)) NW (.cons (.set (.sub (.var 2) (.var 6)) (.call 30 (.cons (.idx (.var 2) (.var 6)) (.cons (.var 7) .nil)))) .nil) ρ1 I)
    (λn ρ T=>∃i j,ρ=(eE w l S.length (some (tupI z.1.1)) (some (.int z.1.2)) (some (.tup (z.2.map nmD))) i j)/\T=ldS S (n.foldl addP (layP w.costs.length pre))) (z.1.1.zip z.2) (ρ:=(eE w l S.length (some (tupI z.1.1)) (some (.int z.1.2)) (some (.tup (z.2.map nmD))) i j)) (S:=ldS S (layP w.costs.length pre)) ⟨_,_,rfl,rfl⟩ (by
     rintro n q su ρ T b ⟨i,j,rfl,rfl⟩;obtain⟨nd,B⟩:=zq M;have a:=B q (by rw[b];simp);have Z:=qaI N (qs:=n) (by rw[b,vM]at nd;exact(vV.mp nd).1) λp r=>⟨(B p (by rw[b];simp[r])).1,(B p (by rw[b];simp[r])).2.2⟩
     have s:=Z.len;have a0:=a.1;have a1:=a.2.1;have hi:q.1.toNat<w.costs.length:=by lia
     have O:(n.foldl addP (layP w.costs.length pre)).getD q.1.toNat []=(layP w.costs.length pre).getD q.1.toNat []:=by
      rw[jP _ _ (by rw[N.len];exact hi)];have:(n.filter λp=>decide (p.1.toNat=q.1.toNat))=[]:=by
       rw[List.filter_eq_nil_iff];intro p r z;have z':p.1.toNat=q.1.toNat:=by simpa using z
       have h1:=(B p (by rw[b];simp[r])).1;rw[b,vM,vV]at nd;exact nd.2.2 p.1 (List.mem_map_of_mem r) q.1 (by simp) (by lia)
      rw[this];simp
     obtain⟨t1,t2⟩:=qkR N hi;rw[<-O]at t1 t2;generalize hL:n.foldl addP (layP w.costs.length pre)=L at *;refine⟨(eE w l S.length (some (tupI z.1.1)) (some (.int z.1.2)) (some (.tup (z.2.map nmD))) (some (.int q.1)) (some (nmD q.2))),ldS S (addP L q),?_,_,_,rfl,by rw[uw,hL];rfl⟩;rw[show asg (G (d+2)) (.tup (.cons (.var 6) (.cons (.var 7) .nil))) (.tup [.int q.1,nmD q.2]) (eE w l S.length (some (tupI z.1.1)) (some (.int z.1.2)) (some (.tup (z.2.map nmD))) i j) (ldS S L)=.ok (eE w l S.length (some (tupI z.1.1)) (some (.int z.1.2)) (some (.tup (z.2.map nmD))) (some (.int q.1)) (some (nmD q.2))) (ldS S L)from rfl,Res.bind_ok];have U:L2.ixN (L.map λxs=>nmD (totN xs)).length q.1=some q.1.toNat:=by rw[wE];exact qjp a.1 (by rw[s];exact a.2.1)
     have P:idxD (ldS S L) (.ref S.length) (.int q.1)=some (nmD (totN (L.getD q.1.toNat []))):=by
      simp only[idxD,seqOf,lstOf,qdm,wf,L2.atI,U];rw[w8,we,wD (by rw[s];exact hi)];rfl
     have hb:(totN (L.getD q.1.toNat [])).2*q.2.2<2^250:=by
      obtain⟨m1,m2⟩:=qdh t1 t2 a.2.2.b1 a.2.2.b2;exact Int.lt_of_le_of_lt m2 (p250 (vA (uf e (by lia)) W))
     have em:=qhg (d:=d) (p:=totN (L.getD q.1.toNat [])) (q:=q.2) (S:=ldS S L) t1 (qkW E a.2.2) hb;exact x_set (qj (qe (qR rfl rfl P) (qe rfl rfl)) em) (qeo rfl rfl (by rw[<-qiP];exact qbL (qdm _ _) U rfl)) zT)
   refine⟨_,_,qaz (qhn rfl rfl) H zT,_,_,_,_,_,rfl,?_⟩;unfold layP;rw[uw];rfl)
 have u:ev (G (d+2)) (.binM .mul (.lst false (.cons (.tup (.cons (.cst (.int 0)) (.cons (.cst (.int 1)) .nil))) .nil)) (.blt .len (.cons (.idx (.var 0) (.cst (.int 0))) .nil))) [some (webD w),some (.tup (lyD l)),none,none,none,none,none,none] S=.ok (.ref S.length) (ldS S (List.replicate w.costs.length [])):=by
  refine qhl (d1:=.lst [nmD (0,1)]) (S1:=S) (qS (qe (ze (qe rfl (qe rfl rfl)) (by simp[PySem.sizeLine])) rfl) (by simp)) (qF (qe (qR (S1:=S) rfl rfl rfl) rfl) (yk _ _)) ?_;rw[qcI rfl (by lia)];unfold ldS;rw[um];rfl
 refine qa9 (f:=c_32) (S1:=S) (S2:=[.lst ((lyl w l).map λxs=>nmD (totN xs))]) rfl rfl ?_ rfl (qE λy K=>by
  obtain⟨xs,_,rfl⟩:=wp.mp K;rfl)
 refine x_set u (ρ1:=(eE w l S.length none none none none none)) rfl (qaz (qes rfl rfl) H (qC (qF (qe rfl rfl) ?_)));show bltD .tuple [.ref S.length] (ldS S (lyl w l))=_;simp only[bltD,one,bTuple,seqOf,lstOf,qdm,wu,ofO];rfl
def qdn{l:List D}{i:Nat}(h:i<=l.length):cutD l none (some (i:Int))=l.take i:=by
 unfold cutD;rw[HT.jY,HT.j9,ug h];simp
def qho{l:List D}{i:Nat}(h:i<l.length):cutD l (some ((i:Int)+1)) none=l.drop (i+1):=by
 have e:((i:Int)+1)=((i+1:Nat):Int):=by lia
 unfold cutD;rw[e,HT.jY,HT.j9,ug (by lia)];rw[List.take_of_length_le (by simp)]
def qdo(n:Nat):∀ps:List Am,eqL (eqD (n+2)) (ps.map nmD) (ps.map nmD)=some true
 |[]=>rfl
 |p::r=>by
  have e:eqD (n+2) (nmD p) (nmD p)=some true:=by
   show some ((p.1 == p.1)&&((p.2 == p.2)&&true))=_;simp
  rw[wd,eqL,e,qdo n r];rfl
def qkX(ps:List Am)(S:Sr):cmpD .ne (.tup (ps.map nmD)) (.tup (ps.map nmD)) S=some false:=by
 have e:eqD 20 (.tup (ps.map nmD)) (.tup (ps.map nmD))=eqL (eqD 19) (ps.map nmD) (ps.map nmD):=rfl;simp only[cmpD,e,qdo 17 ps];rfl
def ldP(w:Wb)(l:List (List Am)):List Am:=(lyl w l).map totN
def qkY(w:Wb)(l:List (List Am)):ldD (lyl w l)=.tup ((ldP w l).map nmD):=by unfold ldD ldP;rw[wj];rfl
def qfg(h:ev F e1 ρ S=.ok x S1)(d:ev F c ρ S1=.ok y S2)(ha:lstOf S2 x=some a)(f:lstOf S2 y=some b)(l:a.length+b.length<=1000)(i:refsLts 0 (a++b)=true):ev F (.binM .add e1 c) ρ S=.ok (.ref S2.length) (S2++[.lst (a++b)]):=by
 have j:catOk a b=true:=by unfold catOk PySem.sizeLine;rw[wq];lia
 simp only[ev,h,d,Res.bind,R.binM,ha,f,j,newL,i,v9]
def idxL{L:List D}{r:Int}(b:0<=r)(c:r<L.length):∃y,idxD S (.lst L) (.int r)=some y/\y∈L:=by
 have a:r.toNat<L.length:=by lia
 have:L2.ixN L.length r=some r.toNat:=by
  unfold L2.ixN;rw[wN b,wN (by lia)]
 refine⟨L[r.toNat],?_,List.getElem_mem a⟩;show(L2.ixN L.length r).bind (λj=>L[j]?)=_;rw[this];exact wD a
def idxR{j:Nat}{r:Int}(h:U[j]?=some (.lst L))(a:0<=r)(b:r<L.length):∃y,idxD U (.ref j) (.int r)=some y/\y∈L:=by
 obtain⟨y,e,c⟩:=idxL (S:=U) a b;refine⟨y,?_,c⟩;simp only[idxD,seqOf,lstOf,h]at e ⊢;exact e
def qaK{P:D->Prop}{m:List D}{y:D}(h:∀x∈m,P x)(a:P y):∀x∈m++[y],P x:=λx b=>by
 rcases wb.mp b with z|z
 .exact h x z
 .rw [wV.mp z];exact a
def zK{P:D->Prop}{m l:List D}(h:∀x∈m,P x)(a:∀x∈l,P x):∀x∈m++l,P x:=λx b=>by
 rcases wb.mp b with z|z
 .exact h x z
 .exact a x z
section
variable{F:Fs}{N:Nat}{S:Sr}{n:Nat}{u:Int}{X:Sr}{m:List D}{r:CSs}{e:CE}{ρ:En}{i j:Nat}{Q:R.Fl->Sr->Prop}
theorem qbh(f:j=S.length+X.length)(hi:ρ[i]?=some (some (.ref j)))(h:ev F e ρ (pk S n u++(X++[.lst m]))=.ok (.lst c) (pk S n u++(X++[.lst m])))(l:m.length+c.length<=1000)(o:refsLts 0 (m++c)=true)(k:∀d:Sr,Ok (exs F N r (ρ.set i (some (.ref (S.length+d.length)))) (pk S n u++(d++[.lst (m++c)]))) Q):Ok (exs F N (.cons (.set (.var i) (.binM .add (.var i) e)) r) ρ (pk S n u++(X++[.lst m]))) Q:=by
 have e1:ev F (.var i) ρ (pk S n u++(X++[.lst m]))=.ok (.ref j) (pk S n u++(X++[.lst m])):=by simp only[ev,varE,hi]
 have p:=k (X++[.lst m]);refine zf (Ok.of (qfg (a:=m) (b:=c) e1 h (by rw[f];simp only[lstOf,yQ]) rfl l o) (Ok.of (a:=ρ.set i (some (.ref (S.length+(X++[SO.lst m]).length)))) (S:=pk S n u++((X++[.lst m])++[.lst (m++c)])) ?_ p));rw[zW,wk];rfl
theorem qdp(a:j=S.length+X.length)(hi:ρ[i]?=some (some (.ref j)))(h:ev F e ρ (pk S n u++(X++[.lst m]))=.ok y (pk S n u++(X++[.lst m])))(b:m.length<=1000)(c:refsLt 0 y=true)(k:Ok (exs F N r ρ (pk S n u++(X++[.lst (m++[y])]))) Q):Ok (exs F N (.cons (.expr (.app (.var i) e)) r) ρ (pk S n u++(X++[.lst m]))) Q:=by
 have e1:ev F (.var i) ρ (pk S n u++(X++[.lst m]))=.ok (.ref j) (pk S n u++(X++[.lst m])):=by simp only[ev,varE,hi]
 have ha:(pk S n u++(X++[.lst m]))[j]?=some (.lst m):=by rw[a,yQ]
 exact qg5 (qjl (Ok.of e1 ⟨j,m,rfl,ha,Ok.of h ⟨ha,b,c,by rw[a,qbN];exact k⟩⟩))
theorem qjq{d:Nat}(hn:n<S.length)(b:0<=u)(hm:m≠[])(q:m.length<=1000)(c:j=S.length+X.length)(hi:ρ[i]?=some (some (.ref j)))(h:ρ[0]?=some (some (.ref n))):∃(y:D) (a:Int),y∈m/\0<=a/\ev (G (d+1)) (.idx (.var i) (.call 26 (.cons (.var 0) (.cons (.blt .len (.cons (.var i) .nil)) .nil)))) ρ (pk S n u++(X++[.lst m]))=.ok y (pk S n a++(X++[.lst m])):=by
 have s:0<m.length:=List.length_pos_iff.mpr hm;have e1:∀U:Sr,ev (G (d+1)) (.var i) ρ U=.ok (.ref j) U:=λU=>by simp only[ev,varE,hi]
 have l:ev (G (d+1)) (.var 0) ρ (pk S n u++(X++[.lst m]))=.ok (.ref n) (pk S n u++(X++[.lst m])):=by simp only[ev,varE,h]
 have ha:∀u,(pk S n u++(X++[.lst m]))[j]?=some (.lst m):=λu=>by rw[c,yQ]
 have f:=fm (v:=u) (m:=m.length) (by lia);obtain⟨y,o,p⟩:=idxR (ha (u.fdiv m.length)) f.1 f.2;exact⟨y,u.fdiv m.length,p,wv b (by lia),qR (e1 _) (qj (qe l (qe (qF (qe (e1 _) rfl) (by simp only[bltD,one,bLen,lenD,ha];rfl)) rfl)) (jb (T:=X++[.lst m]) hn (by lia) (by lia))) o⟩
end
def NoWb(y:D):Prop:=refsLt 0 y=true/\isWebB y=false
def qkZ(c:wholeB 1 100 o=false):costsB (.tup (a++[o]++b))=false:=by
 have:(a++[o]++b).all (wholeB 1 100)=false:=by
  rw[vl,vl];simp[c]
 show(decide (1<=(a++[o]++b).length)&&decide ((a++[o]++b).length<=12)&&(a++[o]++b).all (wholeB 1 100))=false;rw[this,vX]
def qiQ(c:refsLts 0 a=true)(d:refsLts 0 b=true)(f:refsLt 0 o=true)(rt:refsLt 0 ts=true)(h:wholeB 1 100 o=false):NoWb (.tup [.tup (a++[o]++b),ts]):=by
 refine⟨?_,?_⟩
 .simp [refsLt,refsLts,qI,c,d,f,rt]
 .show (costsB (.tup (a++[o]++b))&&tiesB (lenT (.tup (a++[o]++b)):Nat) ts)=false
  rw[qkZ h];rfl
def qhp{m:Int}(a:y∈l)(h:tieB m y=false):tiesB m (.tup l)=false:=by
 have:l.all (tieB m)=false:=by
  rw[List.all_eq_false];exact⟨y,a,by rw[h];decide⟩
 show(decide (l.length<=30)&&l.all (tieB m)&&upT (l.map keyT))=false;rw[this];simp
def jy{cs:List Int}(a:refsLt 0 t=true)(h:tiesB cs.length t=false):NoWb (.tup [tupI cs,t]):=by
 refine⟨by simp[refsLt,refsLts,qN,a],?_⟩;have:lenT (tupI cs)=cs.length:=by show(cs.map D.int).length=_;rw[wE]
 show(costsB (tupI cs)&&tiesB (lenT (tupI cs):Nat) t)=false;rw[this,h];simp
def qcL{f:Type}(a:f):∀l:List f,(a,a)∈(l++[a,a]).zip ((l++[a,a]).drop 1)
 |[]=>by simp
 |b::r=>by
  have d:=qcL a r;cases z:r++[a,a]with
  |nil=>simp at z
  |cons c s =>
   rw[z]at d;rw[List.cons_append,z];simp only[uP,u7,vd]at d ⊢;exact wO _ d
def qcM:∀k:List Int,HT.lexLt k k=false
 |[]=>rfl
 |a::r=>by simp[HT.lexLt,qcM r]
def qiR(l:List (List Int))(a:List Int):upT (l++[a,a])=false:=by
 unfold upT;rw[List.all_eq_false];exact⟨_,qcL a l,by rw[qcM];decide⟩
def qhq(l:List D)(t:D):cutD (l++[t]) (some (-1)) none=[t]:=by
 have e:HT.sIx (l++[t]).length 0 (some (-1))=l.length:=by
  unfold HT.sIx;simp;lia
 unfold cutD;rw[e,HT.j9];simp
def qiS{m:Int}(h:ts≠[]):tiesB m (.tup (ts.map tieD++cutD (ts.map tieD) (some (-1)) none))=false:=by
 rcases xM ts with z|⟨r,t,z⟩
 .exact absurd z h
 .rw [z,xN,vM,List.map_singleton,qhq]
  show(decide _&&List.all _ (tieB m)&&upT (((r.map tieD++[tieD t])++[tieD t]).map keyT))=false;rw[wk,vM,wj];have:([tieD t]++[tieD t]).map keyT=[t.1,t.1]:=by simp[qen]
  rw[this,qiR,vX]
def jz(h:refsLts 0 l=true)(a b:Option Int):refsLts 0 (cutD l a b)=true:=qE λx c=>qu h ((qei l a b).1 x c)
def qhr(l:List Int):isWebB (.tup (l.map .int))=false:=by
 match l with
 |[]=>rfl
 |[a]=>rfl
 |[a,b]=>rfl
 |a::b::c::r=>rfl
def brepT{a:List D}{k:Nat}(h:a.length*k<=1000)(b:k<=1000):binD .mul (.tup a) (.int k) S=some (.tup (rep a k)):=by
 have:repOk a (k:Int)=true:=by
  unfold repOk PySem.sizeLine;rw[wq];refine⟨by lia,by lia,?_⟩;have:((k:Int)).toNat=k:=by lia
  rw[this];lia
 simp[binD,this]
def tsL(w:Wb):List D:=w.ties.map tieD
def csL(w:Wb):List D:=w.costs.map .int
section
variable{w:Wb}
def nwA(w:Wb)(o:D)(a:Int):List D:=[.tup [.tup (cutD (csL w) none (some a)++[o]++cutD (csL w) (some (a+1)) none),.tup (tsL w)],.tup [.lst (csL w),.tup (tsL w)],.tup [tupI w.costs,.lst (tsL w)],.tup [tupI w.costs]]
def nwX(w:Wb)(t:D):D:=.tup [tupI w.costs,.tup (tsL w++[t])]
def nwB(w:Wb):List D:=[.tup [.tup [],.tup []],.tup [tupI w.costs,.tup (tsL w),.tup []],.non,nwX w (.tup [.tup [.int w.costs.length],.int 1])]
def nwC(w:Wb):List D:=[nwX w (.tup [.tup [],.int 1]),.tup [.tup (rep (csL w) ((13:Nat):Int)),.tup (tsL w)],.tup [tupI w.costs,.non],tupI w.costs]
def nwY(w:Wb)(t:D):D:=.tup [tupI w.costs,.tup ([t]++cutD (tsL w) (some 1) none)]
def nwD(w:Wb)(t:Tie):List D:=[nwY w (.tup [tupI t.1,.int 0]),nwY w (.tup [tupI t.1,.int (1000000+1)])]
def nwE(w:Wb)(t:Tie):List D:=[nwY w (.tup [tupI t.1,.bl true]),nwY w (.tup [.lst (t.1.map .int),.int t.2])]
def nwF(w:Wb)(t:Tie):List D:=[.tup [tupI w.costs,.tup (tsL w++cutD (tsL w) (some (-1)) none)],nwY w (.tup [tupI t.1]),nwY w (.lst [tupI t.1,.int t.2])]
theorem yR:refsLts 0 (tsL w)=true:=qE (by intro y a;obtain⟨z,_,rfl⟩:=wp.mp a;exact jr 0 z)
theorem r_cs:refsLts 0 (csL w)=true:=by have:=qN 0 w.costs;exact this
theorem qdq(a:refsLt 0 t=true)(b:tieB w.costs.length t=false):NoWb (nwX w t) :=
 jy (by show refsLts 0 (tsL w++[t])=true;rw[qI,yR];simp[refsLts,a]) (qhp (wU _ (wV.mpr rfl)) b)
theorem jQ(a:refsLt 0 t=true)(b:tieB w.costs.length t=false):NoWb (nwY w t) :=
 jy (by show refsLts 0 ([t]++cutD (tsL w) (some 1) none)=true;rw[qI,jz yR];simp[refsLts,a]) (qhp (ws _ (wV.mpr rfl)) b)
theorem qk0{a:Int}(d:refsLt 0 o=true)(f:wholeB 1 100 o=false):∀y∈nwA w o a,NoWb y:=by
 have h:=qN 0 w.costs;have b:=r_cs (w:=w);have rt:=yR (w:=w);intro y c;unfold nwA at c;simp only[wR,wc,v5]at c;rcases c with rfl|rfl|rfl|rfl
 .exact qiQ (jz b _ _) (jz b _ _) d rt f
 .exact ⟨by simp[refsLt,refsLts,b,rt],rfl⟩
 .exact jy rt rfl
 .exact ⟨by simp[refsLt,refsLts,h],rfl⟩
theorem qhs:NoWb (.lst [tupI w.costs,.tup (tsL w)]):=⟨by simp[refsLt,refsLts,qN,yR],rfl⟩
theorem qk1:∀y∈nwB w,NoWb y:=by
 have b:=qN 0 w.costs;have rt:=yR (w:=w);intro y a;unfold nwB at a;simp only[wR,wc,v5]at a;rcases a with rfl|rfl|rfl|rfl
 .exact ⟨rfl,rfl⟩
 .exact ⟨by simp[refsLt,refsLts,b,rt],rfl⟩
 .exact ⟨rfl,rfl⟩
 .refine qdq rfl ?_
  simp[tieB,placesB,intsOf];intro h;lia
theorem qk2(h:WbOk w):∀y∈nwC w,NoWb y:=by
 have f:=qN 0 w.costs;have rt:=yR (w:=w);have c1:=h.c1;intro y c;unfold nwC at c;simp only[wR,wc,v5]at c;rcases c with rfl|rfl|rfl|rfl
 .exact qdq rfl (by simp[tieB,placesB,intsOf])
 .have b:(rep (csL w) ((13:Nat):Int)).length=13*w.costs.length:=by
   unfold rep csL;rw[L2.jZ,wE];rfl
  have i:refsLts 0 (rep (csL w) ((13:Nat):Int))=true:=qE λx d=>by
   unfold rep at d;obtain⟨l,b,a⟩:=List.mem_flatten.mp d;rw[vz]at b;rw[b.2]at a;obtain⟨z,_,rfl⟩:=wp.mp a;rfl
  refine⟨by show(refsLts 0 (rep (csL w) ((13:Nat):Int))&&(refsLts 0 (tsL w)&&true))=true;rw[i,rt];rfl,?_⟩;show((decide (1<=(rep (csL w) ((13:Nat):Int)).length)&&decide ((rep (csL w) ((13:Nat):Int)).length<=12)&&_)&&_)=false;rw[b,wY (show ¬13*w.costs.length<=12 by lia)];simp
 .exact jy rfl rfl
 .exact ⟨f,qhr _⟩
theorem tieF{m:Int}(h:wholeB 1 1000000 x=false):tieB m (.tup [p,x])=false:=by
 show(placesB m p&&decide (lenT p<=4)&&wholeB 1 1000000 x)=false;rw[h,vX]
theorem qk3{t:Tie}:∀y∈nwD w t,NoWb y:=by
 have b:=qN 0 t.1;intro y a;unfold nwD at a;simp only[wR,wc,v5]at a;rcases a with rfl|rfl
 .exact jQ (by simp[refsLt,refsLts,b]) (tieF rfl)
 .exact jQ (by simp[refsLt,refsLts,b]) (tieF rfl)
theorem qk4{t:Tie}:∀y∈nwE w t,NoWb y:=by
 have b:=qN 0 t.1;have rd:refsLts 0 (t.1.map D.int)=true:=b;intro y a;unfold nwE at a;simp only[wR,wc,v5]at a;rcases a with rfl|rfl
 .exact jQ (by simp[refsLt,refsLts,b]) (tieF rfl)
 .exact jQ (by simp[refsLt,refsLts,rd]) rfl
theorem qk5(b:t∈w.ties):∀y∈nwF w t,NoWb y:=by
 have c:=qN 0 t.1;intro y a;unfold nwF at a;simp only[wR,wc,v5]at a;rcases a with rfl|rfl|rfl
 .exact jy (by show refsLts 0 (tsL w++cutD (tsL w) (some (-1)) none)=true;rw[qI,yR,jz yR];rfl) (qiS λe=>by rw[e]at b;cases b)
 .exact jQ (by simp[refsLt,refsLts,c]) rfl
 .exact jQ (by simp[refsLt,refsLts,c]) rfl
end
def jc{l:List D}(h:∀y∈l,NoWb y):refsLts 0 l=true:=qE λy a=>(h y a).1
def qfh(l:List D):cutD l none (some 1)=l.take 1:=by
 cases l with
 |nil=>simp[cutD]
 |cons a r=>exact qdn (l:=a::r) (i:=1) (by simp)
def jd(l:List D)(a b:Option Int):(cutD l a b).length<=l.length:=(qei l a b).2
abbrev bE(n:Nat)(w:Wb)(a:Int)(o:D)(b:Nat)(x7 x8:Option D):En:=[some (.ref n),some (webD w),some (tupI w.costs),some (.tup (tsL w)),some (.int a),some o,some (.ref b),x7,x8]
def zP(h:ev F e ρ U=.ok d U):ev F (.tup (.cons e .nil)) ρ U=.ok (.tup [d]) U:=ze (qe h rfl) (by simp[PySem.sizeLine])
def qL(b:ev F e1 ρ U=.ok d1 U)(c:ev F a ρ U=.ok d2 U):ev F (.tup (.cons e1 (.cons a .nil))) ρ U=.ok (.tup [d1,d2]) U:=ze (qe b (qe c rfl)) (by simp[PySem.sizeLine])
def qht(h:ev F e ρ S=.ok (.tup l) S1):evI F (.seq e) ρ S=.ok l S1:=by
 simp only[evI,h,Res.bind]
def odds:List D:=[.int 0,.int 101,.bl true,.non,.str (PySem.Str.ofString "1"),.tup [.int 1],.int (0-1),.lst [.int 1]]
def qiT(h:o∈odds):refsLt 0 o=true/\wholeB 1 100 o=false:=by
 unfold odds at h;simp only[wR,wc,v5]at h;rcases h with rfl|rfl|rfl|rfl|rfl|rfl|rfl|rfl <;> exact⟨rfl,by decide⟩
set_option maxHeartbeats 1000000 in
def qhu{d n:Nat}{v:Int}{S:Sr}(hn:n<S.length)(hv:0<=v)(h:WbOk w):∃(y:D) (u:Int),NoWb y/\0<=u/\G (d+2) 36 [.ref n,webD w] (pk S n v)=.ok y (pk S n u):=by
 have a0:=h.c1;have a1:=h.c2;have a2:=h.t1;have lt:(tsL w).length=w.ties.length:=wE ..;have lc:(csL w).length=w.costs.length:=wE ..;have a3:=jd (tsL w) (some 1) none;have a4:=jd (tsL w) (some (-1)) none;obtain⟨f1,f2⟩:=fm (v:=v) (m:=w.costs.length) (by lia);obtain⟨a,ha⟩:∃a,v.fmod w.costs.length=a:=⟨_,rfl⟩;obtain⟨p,s⟩:∃p,p=v.fdiv w.costs.length:=⟨_,rfl⟩;have J:0<=p:=by rw[s];exact wv hv (by lia)
 have t1:=zO (d:=d) (n:=n) (v:=v) (m:=w.costs.length) (S:=S) hn (by lia) (by lia);rw[ha,<-s]at t1;have t2:=zO (d:=d) (n:=n) (v:=p) (m:=8) (S:=S) hn (by decide) (by decide);have Q:=fm (v:=p) (m:=8) (by decide);obtain⟨q,x⟩:∃q,q=p.fdiv 8:=⟨_,rfl⟩;have K:0<=q:=by rw[x];exact wv J (by decide)
 rw[<-x]at t2;obtain⟨o,eo,ho⟩:=idxL (L:=odds) (r:=p.fmod 8) (S:=pk S n q) Q.1 Q.2;have ok:=qiT ho
 suffices hs:Ok (G (d+2) 36 [.ref n,webD w] (pk S n v)) λy U=>∃u,NoWb y/\0<=u/\U=pk S n u by
  obtain⟨y,U,e,u,h1,A,rfl⟩:=hs.ex;exact⟨y,u,h1,A,e⟩
 rw[G_at (c:=c_36) rfl];refine j4 rfl rfl ?_;simp only[c_36];refine zf (Ok.of rfl (Ok.of (a:=[some (.ref n),some (webD w),some (tupI w.costs),some (.tup (tsL w)),none,none,none,none,none]) rfl ?_));refine zf (Ok.of (qj (qe rfl (qe (qF rfl (yk _ _)) rfl)) t1) (Ok.of (a:=[some (.ref n),some (webD w),some (tupI w.costs),some (.tup (tsL w)),some (.int a),none,none,none,none]) rfl ?_));refine zf (Ok.of (qR (d1:=.lst odds) (qS (l:=odds) (qe rfl (qe rfl (qe rfl (qe rfl (qe rfl (qe (zP (d:=.int 1) rfl) (qe rfl (qe (qS (l:=[.int 1]) rfl (by simp)) rfl)))))))) (by simp[odds])) (qj rfl t2) eo) (Ok.of (a:=[some (.ref n),some (webD w),some (tupI w.costs),some (.tup (tsL w)),some (.int a),some o,none,none,none]) rfl ?_));have W:=qk0 (w:=w) (a:=a) ok.1 ok.2;have l1:=jd (csL w) none (some a);have l2:=jd (csL w) (some (a+1)) none;have M:(cutD (csL w) none (some a)).length+[o].length<=1000:=by rw[wZ];lia
 have N:(cutD (csL w) none (some a)++[o]).length+(cutD (csL w) (some (a+1)) none).length<=1000:=by rw[wI,wZ];lia
 refine zf (Ok.of (qbB (l:=nwA w o a) (qe (qL (qr (qr (ym (l:=csL w) rfl rfl rfl) (zP (d:=o) rfl) (bcatT (a:=cutD (csL w) none (some a)) (b:=[o]) M)) (ym (l:=csL w) rfl rfl rfl) (bcatT (a:=cutD (csL w) none (some a)++[o]) (b:=cutD (csL w) (some (a+1)) none) N)) rfl) (qe (qL (qF rfl rfl) rfl) (qe (qL rfl (qF rfl rfl)) (qe (zP rfl) rfl)))) (by simp[nwA]) (jc W)) (Ok.of (a:=bE n w a o (S.length+([]:Sr).length) none none) (S:=pk S n q++([]++[.lst (nwA w o a)])) (by rw[qv];rfl) ?_));refine qdp rfl rfl (qS (l:=[tupI w.costs,.tup (tsL w)]) rfl (by simp)) (by simp[nwA]) (qhs (w:=w)).1 ?_;have Y:=zK (qaK W (qhs (w:=w))) (qk1 (w:=w));have O:∀{F:Fs} {ρ:En} {U:Sr} {e:CE} {t:D},ρ[2]?=some (some (tupI w.costs))->ρ[3]?=some (some (.tup (tsL w)))->ev F e ρ U=.ok t U->ev F (.tup (.cons (.var 2) (.cons (.bin .add (.var 3) (.tup (.cons e .nil))) .nil))) ρ U=.ok (nwX w t) U:=λ{F ρ U e t} A h3 he=>qL (by simp only[ev,varE,A]) (qr (d1:=.tup (tsL w)) (by simp only[ev,varE,h3]) (zP he) (bcatT (by simp;lia)))
 have ty:∀{F:Fs} {ρ:En} {U:Sr} {e:CE} {t:D},ρ[2]?=some (some (tupI w.costs))->ρ[3]?=some (some (.tup (tsL w)))->ev F e ρ U=.ok t U->ev F (.tup (.cons (.var 2) (.cons (.bin .add (.tup (.cons e .nil)) (.slc (.var 3) (.some (.cst (.int 1))) .none)) .nil))) ρ U=.ok (nwY w t) U:=λ{F ρ U e t} A h3 he=>qL (by simp only[ev,varE,A]) (qr (zP he) (ym (l:=tsL w) (by simp only[ev,varE,h3]) rfl rfl) (bcatT (by simp;lia)))
 refine qbh rfl rfl (qS (l:=nwB w) (qe (qL (ze rfl (by simp[PySem.sizeLine])) (ze rfl (by simp[PySem.sizeLine]))) (qe (ze (qe rfl (qe rfl (qe (ze rfl (by simp[PySem.sizeLine])) rfl))) (by simp[PySem.sizeLine])) (qe rfl (qe (O rfl rfl (qL (zP (qF rfl (yk _ _))) rfl)) rfl)))) (by simp[nwB])) (by simp[nwA,nwB]) (jc Y) λX=>?_
 have k1:NoWb (nwX w (.tup [.tup [.int 0,.int 0],.int 1])):=qdq rfl (by simp[tieB,placesB,intsOf,upB]);refine qdp rfl rfl (O rfl rfl (qL (qL rfl rfl) rfl)) (by simp[nwA,nwB]) k1.1 ?_;have B:=zK (qaK Y k1) (qk2 h);refine qbh rfl rfl (qS (l:=nwC w) (qe (O rfl rfl (qL (ze rfl (by simp[PySem.sizeLine])) rfl)) (qe (qL (qr rfl rfl (brepT (a:=csL w) (k:=13) (by lia) (by lia))) rfl) (qe (qL rfl rfl) (qe rfl rfl)))) (by simp[nwC])) (by simp[nwA,nwB,nwC]) (jc B) λX=>?_
 refine qbd (g:=tieD) (λpre ρ U=>∃(X:Sr) (m:List D) (H I:Option D),ρ=bE n w a o (S.length+X.length) H I/\U=pk S n q++(X++[.lst m])/\(∀y∈m,NoWb y)/\m.length=14+7*pre.length) (w.ties.take 1)
  (Ok.of (qht (ym (l:=tsL w) rfl rfl rfl)) ⟨by rw[qfh];unfold tsL;rw[uz],X,_,none,none,rfl,rfl,B,by simp[nwA,nwB,nwC]⟩) ?_ ?_
 .rintro pre t a5 ρ U j ⟨X,m,H,I,rfl,rfl,hm,f⟩
  have ht:t∈w.ties:=wm (i:=1) (by rw[j];simp);have hl:=congrArg List.length j;rw[wg,wI,w4]at hl;have C:pre.length=0:=by lia
  rw[C]at f;refine Ok.of (a:=bE n w a o (S.length+X.length) (some (tupI t.1)) (some (.int t.2))) rfl ?_;have d1:=zK hm (qk3 (w:=w) (t:=t));have d2:=zK d1 (qk4 (w:=w) (t:=t));have Z:=zK d2 (qk5 ht);refine qbh rfl rfl (qS (l:=nwD w t) (qe (ty rfl rfl (qL rfl rfl)) (qe (ty rfl rfl (qL rfl (qr (pow6 _ _ _) rfl rfl))) rfl)) (by simp[nwD])) (by rw[f];simp[nwD]) (jc d1) λX=>?_
  refine qbh rfl rfl (qS (l:=nwE w t) (qe (ty rfl rfl (qL rfl rfl)) (qe (ty rfl rfl (qL (qF rfl rfl) rfl)) rfl)) (by simp[nwE])) (by rw[wI,f];simp[nwD,nwE]) (jc d2) λX=>?_
  refine qbh rfl rfl (qS (l:=nwF w t) (qe (qL rfl (qr rfl (ym (l:=tsL w) rfl rfl rfl) (bcatT (by lia)))) (qe (ty rfl rfl (zP rfl)) (qe (ty rfl rfl (qS rfl (by simp))) rfl))) (by simp[nwF])) (by rw[wI,wI,f];simp[nwD,nwE,nwF]) (jc Z) λX=>?_
  exact ju ⟨X,_,_,_,rfl,rfl,Z,by rw[wI,wI,wI,f,wI,C];simp[nwD,nwE,nwF]⟩
 rintro ρ U ⟨X,m,H,I,rfl,rfl,hm,f⟩;have E:m.length<=1000:=by rw[f,wg];lia
 have P:m≠[]:=λe=>by rw[e]at f;simp at f;lia
 obtain⟨y,u,hy,hu,e⟩:=qjq (d:=d) (n:=n) (u:=q) (X:=X) (m:=m) (ρ:=bE n w a o (S.length+X.length) H I) (i:=6) hn K P E rfl rfl rfl;exact qej (Ok.of e ⟨by rw[qv,zW];lia,by exact zA _ (hm y hy).1,u,hm y hy,hu,by rw[qv,<-qv S n u,List.take_left]⟩)
def qaL{t b k:Int}(a:1<=b)(d:1<=k):lw (t*k) (b*k)=lw t b:=by
 have c:=qbK a d;refine yZ (zV c) (zV a) ?_;have e1:=jv (t:=t*k) c;have f:=jv (t:=t) a;generalize lw (t*k) (b*k)=A at *;generalize lw t b=B at *;have:(A.1*B.2)*(b*k)=(B.1*A.2)*(b*k):=by grind
 exact uK (by lia) this
structure Tiny (p:Am):Prop where
 t0:0<=p.1
 t1:p.1<=12000000
 b1:1<=p.2
 b2:p.2<=12
def qbP(h:AmOk 12 t ps):∀p∈ps,Tiny p:=by
 obtain⟨xs,s,d,m,_,_,i,rfl⟩:=h.ex;intro p j;obtain⟨x,l,rfl⟩:=wp.mp j;have f:=i x l;have a:=qdi (t:=x) d;have b:=qcx (t:=x) d;have c:=qjm (t:=x) f.1 d;exact⟨c,by lia,(zV d).pos,by lia⟩
def Tiny.nb(h:Tiny p):NB p:=⟨by have:=h.t0;have:=h.t1;lia,h.b1,by have:=h.b2;lia⟩
def ninth:Am:=(1,9)
def qhv:NS ninth:=⟨by decide,by decide,by decide⟩
def qfi{x s:Int}(a:1<=s):adn (lw x s) ninth=lw (9*x+s) (9*s):=by
 have e1:lw x s=lw (x*9) (s*9):=(qaL a (by decide)).symm;have b:ninth=lw (1*s) (9*s):=by rw[qaL (by decide) a];decide
 have c:1<=9*s:=by lia
 rw[e1,b,uq s 9,Int.one_mul,qhh c,uq x 9]
def qhw(h:AmOk 12 t ps){k:Nat}(d:ps[k]?=some q):totN (ps.take k++[adn q ninth]++ps.drop (k+1))≠(t.2,1):=by
 obtain⟨xs,s,i,p,r,m,u,rfl⟩:=h.ex;rw[w8]at d;obtain⟨x,j,rfl⟩:=xG.mp d;have l:1<=9*s:=by lia
 have n:=(wF.mp j).1;have b:=(wF.mp j).2;have e:((xs.map (lw · s)).take k++[adn (lw x s) ninth]++(xs.map (lw · s)).drop (k+1))=((xs.take k).map (9*·)++[9*x+s]++(xs.drop (k+1)).map (9*·)).map (lw · (9*s)):=by
  have f:∀y:Int,lw (9*y) (9*s)=lw y s:=λy=>by rw[uq 9 y,uq 9 s,qaL i (by decide)]
  rw[qfi i,vM,vM,wj,wj,<-uz,<-xA];simp only[List.map_singleton,Function.comp_def,f]
 rw[e,qhj l _ _ rfl];have a:((xs.take k).map (9*·)++[9*x+s]++(xs.drop (k+1)).map (9*·)).sum=9*xs.sum+s:=by
  have o:xs=xs.take k++x::xs.drop (k+1):=by rw[<-b,List.getElem_cons_drop,List.take_append_drop]
  conv=>rhs;rw[o]
  simp only[List.sum_append,ud,List.sum_nil,qaG];lia
 rw[a];intro z;have c:=jv (t:=9*xs.sum+s) l;rw[z]at c;simp only at c;rw[m]at c;have:t.2*(9*s)=9*(t.2*s):=by grind
 lia
def qhx(h:AmOk 12 t ps){k:Nat}(a:ps[k]?=some q):ltB t (.tup ((ps.take k++[adn q ninth]++ps.drop (k+1)).map nmD))=false:=by
 show(decide _&&(List.all _ amB&&decide (totN (((ps.take k++[adn q ninth]++ps.drop (k+1)).map nmD).map toP)=(t.2,1))))=false;rw[qbJ,wY (qhw h a),vX,vX]
def qiU(c:amB o=false):ltB t (.tup (a++[o]++b))=false:=by
 have:(a++[o]++b).all amB=false:=by rw[vl,vl];simp[c]
 show(decide _&&((a++[o]++b).all amB&&_))=false;rw[this];simp
def qet{t:Tie}{l:List D}(h:l.length≠t.1.length):ltB t (.tup l)=false:=by
 show(decide (l.length=t.1.length)&&_)=false;rw[wY h];rfl
structure NoAm (t:Tie) (x:D):Prop where
 r:refsLt 0 x=true
 s:tsm x=true
 f:ltB t x=false
structure NoLy (w:Wb) (y:D):Prop where
 r:refsLt 0 y=true
 s:lsm y=true
 f:layB w y=false
def qcN{w:Wb}{l:List D}(h:l.length≠w.ties.length):layB w (.tup l)=false:=by
 show(decide (l.length=w.ties.length)&&_)=false;rw[wY h];rfl
def qhy{c d:Type}{a:List c}{b:List d}{i:Nat}{x:c}{y:d}(f:a[i]?=some x)(h:b[i]?=some y):(x,y)∈a.zip b:=w9 (i:=i) (by rw[uM];exact⟨f,h⟩)
section
variable{w:Wb}{l:List (List Am)}(h:LyOk 12 w.ties l){i:Nat}(hi:i<l.length)
include h
theorem ly_s:∀x∈lyD l,tsm x=true:=qdj (by decide) h
theorem qhz:(lyD l).length=w.ties.length:=by unfold lyD;rw[wE];exact h.1
include hi
theorem qeu(d:w.ties[i]?=some t)(b:NoAm t x):NoLy w (.tup ((lyD l).take i++[x]++(lyD l).drop (i+1))):=by
 have j:i<(lyD l).length:=by unfold lyD;rw[wE];exact hi
 have c:=yw l;refine⟨?_,?_,?_⟩
 .show refsLts 0 ((lyD l).take i++[x]++(lyD l).drop (i+1))=true
  exact qE λy a=>by
   simp only[wb,wV]at a;rcases a with (z|z)|z
   .exact qu c (wm z)
   .rw [z];exact b.r
   .exact qu c (wr z)
 .show ((lyD l).take i++[x]++(lyD l).drop (i+1)).all tsm=true
  rw[wn];intro y a;simp only[wb,wV]at a;rcases a with (z|z)|z
  .exact ly_s h y (wm z)
  .rw [z];exact b.s
  .exact ly_s h y (wr z)
 .show (decide _&&(w.ties.zip ((lyD l).take i++[x]++(lyD l).drop (i+1))).all λp=>ltB p.1 p.2)=false
  have:(w.ties.zip ((lyD l).take i++[x]++(lyD l).drop (i+1))).all (λp=>ltB p.1 p.2)=false:=by
   rw[List.all_eq_false];refine⟨(t,x),qhy d ?_,by simp[b.f]⟩;rw[wk,wM (by rw[wg];lia),wg,ug (by lia),Nat.sub_self];rfl
  rw[this,vX]
theorem qiV:NoLy w (.tup ((lyD l).take i++(lyD l).drop (i+1))):=by
 have c:i<(lyD l).length:=by unfold lyD;rw[wE];exact hi
 have b:=yw l;refine⟨?_,?_,qcN ?_⟩
 .exact qE λy a=>by
   rcases wb.mp a with z|z
   .exact qu b (wm z)
   .exact qu b (wr z)
 .show ((lyD l).take i++(lyD l).drop (i+1)).all tsm=true
  rw[wn];intro y a;rcases wb.mp a with z|z
  .exact ly_s h y (wm z)
  .exact ly_s h y (wr z)
 .rw [wI,wg,vq,<-qhz h]
  lia
omit hi in
theorem qev(a:refsLt 0 x=true)(b:tsm x=true):NoLy w (.tup (lyD l++[x])):=by
 refine⟨by show refsLts 0 (lyD l++[x])=true;rw[qI,yw];simp[refsLts,a],?_,qcN (by rw[wI,qhz h,wZ];lia)⟩;show(lyD l++[x]).all tsm=true;rw[vl,wn.mpr (ly_s h)];simp[b]
end
structure NoNm (o:D) (p:Am):Prop where
 r:refsLt 0 o=true
 s:nsm o=true
 f:amB o=false
 e:∃b,eqD 19 o (nmD p)=some b
def od1(p:Am):List D:=[.tup [.int (2*p.1+2*p.2),.int (2*p.2)],.tup [.int (0-p.1-1),.int p.2],.lst [.int p.1,.int p.2],.tup [.int p.1,.int p.2,.int 1]]
def od2(p:Am):List D:=[.tup [.int p.1],.int p.1,.non,.bl true,.tup [.int 0,.int 2],.tup [.int 1,.int 0],.tup [.int p.1,.bl true],.tup [.bl true,.int (2*p.2)],.tup [.int p.1,.non]]
def od3(p:Am):List D:=[.tup [.str (toString p.1),.int p.2],.tup [.tup [.int p.1,.int p.2]],.tup [],.tup [.int 0,.int 0],.str (PySem.Str.ofString "1"),.emp,.lst [],.tup [.int p.1,.lst [.int p.2]]]
def od4(p:Am):List D:=[.tup [.tup [.int p.1],.int p.2],.tup [.non,.int 1],.tup [.bl false,.int 1],.tup [.int 0,.int (0-1)],.tup [.int 3,.int 6]]
section
variable{p:Am}(h:Tiny p)
include h
theorem qk6:∀o∈od1 p,NoNm o p:=by
 have b:=h.t0;have c:=h.t1;have d:=h.b1;have f:=h.b2;intro o a;unfold od1 at a;simp only[wR,wc,v5]at a;rcases a with rfl|rfl|rfl|rfl
 .refine ⟨rfl,?_,?_,⟨_,rfl⟩⟩
  .show (decide ((2*p.1+2*p.2).natAbs<2^45)&&decide (2*p.2<2^30))=true
   rw[wS (by lia),wS (by lia)];rfl
  .show ((decide (1<=2*p.2)&&decide (Int.gcd (2*p.1+2*p.2) (2*p.2)=1))&&_)=false
   have:Int.gcd (2*p.1+2*p.2) (2*p.2)≠1:=by
    rw[<-Int.mul_add,Int.gcd_mul_left];intro z;rw[show(2:Int).natAbs=2 from rfl]at z;lia
   rw[wY this];simp
 .refine ⟨rfl,?_,?_,⟨_,rfl⟩⟩
  .show (decide ((0-p.1-1).natAbs<2^45)&&decide (p.2<2^30))=true
   rw[wS (by lia),wS (by lia)];rfl
  .show (numB _&&decide (0<=0-p.1-1))=false
   rw[wY (by lia),vX]
 .exact ⟨rfl,rfl,rfl,⟨_,rfl⟩⟩
 .exact ⟨rfl,rfl,rfl,⟨_,rfl⟩⟩
theorem qk7:∀o∈od2 p,NoNm o p:=by
 have b:=h.b1;have c:=h.b2;intro o a;unfold od2 at a;simp only[wR,wc,v5]at a;rcases a with rfl|rfl|rfl|rfl|rfl|rfl|rfl|rfl|rfl
 .exact ⟨rfl,rfl,rfl,⟨_,rfl⟩⟩
 .exact ⟨rfl,rfl,rfl,⟨_,rfl⟩⟩
 .exact ⟨rfl,rfl,rfl,⟨_,rfl⟩⟩
 .exact ⟨rfl,rfl,rfl,⟨_,rfl⟩⟩
 .exact ⟨rfl,by decide,by decide,⟨_,rfl⟩⟩
 .exact ⟨rfl,by decide,by decide,⟨_,rfl⟩⟩
 .exact ⟨rfl,rfl,rfl,⟨_,rfl⟩⟩
 .exact ⟨rfl,by show decide (2*p.2<2^30)=true;rw[wS (by lia)],rfl,⟨_,rfl⟩⟩
 .exact ⟨rfl,rfl,rfl,⟨_,rfl⟩⟩
theorem qk8:∀o∈od3 p,NoNm o p:=by
 have b:=h.b1;have c:=h.b2;intro o a;unfold od3 at a;simp only[wR,wc,v5]at a;rcases a with rfl|rfl|rfl|rfl|rfl|rfl|rfl|rfl
 .exact ⟨rfl,by show decide (p.2<2^30)=true;rw[wS (by lia)],rfl,⟨_,rfl⟩⟩
 .exact ⟨rfl,rfl,rfl,⟨_,rfl⟩⟩
 .exact ⟨rfl,rfl,rfl,⟨_,rfl⟩⟩
 .exact ⟨rfl,by decide,by decide,⟨_,rfl⟩⟩
 .exact ⟨rfl,rfl,rfl,⟨_,rfl⟩⟩
 .exact ⟨rfl,rfl,rfl,⟨_,rfl⟩⟩
 .exact ⟨rfl,rfl,rfl,⟨_,rfl⟩⟩
 .exact ⟨rfl,rfl,rfl,⟨_,rfl⟩⟩
theorem qk9:∀o∈od4 p,NoNm o p:=by
 have b:=h.b1;have c:=h.b2;intro o a;unfold od4 at a;simp only[wR,wc,v5]at a;rcases a with rfl|rfl|rfl|rfl|rfl
 .exact ⟨rfl,by show decide (p.2<2^30)=true;rw[wS (by lia)],rfl,⟨_,rfl⟩⟩
 .exact ⟨rfl,by decide,rfl,⟨_,rfl⟩⟩
 .exact ⟨rfl,by decide,rfl,⟨_,rfl⟩⟩
 .exact ⟨rfl,by decide,by decide,⟨_,rfl⟩⟩
 .exact ⟨rfl,by decide,by decide,⟨_,rfl⟩⟩
end
def qew{S T:Sr}{n:Nat}(hn:n<S.length)(u:Int):pk (S++T) n u=pk S n u++T:=by rw[zJ hn]
def bsub{a b:Int}:binD .sub (.int a) (.int b) S=some (.int (a-b)):=rfl
def qla{t:Int}(h:t.natAbs<2^64):bltD .str [.int t] S=.ok (.str (toString t)) S:=by
 have:t.natAbs.log2<1920:=by
  rcases Nat.eq_zero_or_pos t.natAbs with z|z
  .rw [z];decide
  .have:=(Nat.log2_lt (n:=t.natAbs) (k:=64) (by lia)).mpr h
   lia
 simp only[bltD,one,bStr,this,v9]
def qmK{d n:Nat}{v:Int}{S:Sr}(hn:n<S.length)(s:0<=v)(h:Tiny p):∃(o:D) (u:Int),NoNm o p/\0<=u/\G (d+2) 33 [.ref n,nmD p] (pk S n v)=.ok o (pk S n u):=by
 have E:=h.t0;have b:=h.t1;have H:=h.b1;have I:=h.b2;have t1:=zO (d:=d) (n:=n) (v:=v) (m:=26) (S:=S) hn (by decide) (by decide);have f:=fm (v:=v) (m:=26) (by decide);obtain⟨o,w,j⟩:=idxL (L:=od1 p++od2 p++od3 p++od4 p) (r:=v.fmod 26) (S:=pk S n (v.fdiv 26)) f.1 (by have:=f.2;simp[od1,od2,od3,od4];lia);have q:∀o∈od1 p++od2 p++od3 p++od4 p,NoNm o p:=zK (zK (zK (qk6 h) (qk7 h)) (qk8 h)) (qk9 h);refine⟨o,v.fdiv 26,q o j,wv s (by decide),?_⟩;have m2:∀{F:Fs} {ρ:En} {U:Sr} {i:Nat} {x:Int},ρ[i]?=some (some (.int x))->x.natAbs<2^64->ev F (.bin .mul (.cst (.int 2)) (.var i)) ρ U=.ok (.int (2*x)) U:=λ{F ρ U i x} h0 hx=>qr rfl (by simp only[ev,varE,h0]) (bmul (jt hx))
 have b1:p.1.natAbs<2^64:=by lia
 have b2:p.2.natAbs<2^64:=by lia
 have tn:∀{F:Fs} {ρ:En} {U:Sr},ev F (.tup .nil) ρ U=.ok (.tup []) U:=λ{F ρ U}=>ze rfl (by simp[PySem.sizeLine])
 have A:∀{F:Fs} {ρ:En} {U:Sr},ev F (.lst false .nil) ρ U=.ok (.lst []) U:=λ{F ρ U}=>qS rfl (by simp)
 have B:∀{F:Fs} {ρ:En} {U:Sr} {e:CE} {x:D},ev F e ρ U=.ok x U->ev F (.lst false (.cons e .nil)) ρ U=.ok (.lst [x]) U:=λ{F ρ U e x} h=>qS (qe h rfl) (by simp)
 have C:∀{F:Fs} {ρ:En} {U:Sr} {e a:CE} {x y:D},ev F e ρ U=.ok x U->ev F a ρ U=.ok y U->ev F (.lst false (.cons e (.cons a .nil))) ρ U=.ok (.lst [x,y]) U:=λ{F ρ U e a x y} h b=>qS (qe h (qe b rfl)) (by simp)
 rw[G_at (c:=c_33) rfl];refine qa9 (S1:=pk S n (v.fdiv 26)) (S2:=[]) rfl rfl ?_ (by rw[qv,qv]) (zA _ (q o j).r);rw[vY];simp only[c_33];refine x_set (d:=nmD p) rfl (ρ1:=[some (.ref n),some (nmD p),some (.int p.1),some (.int p.2),none]) rfl ?_;refine x_set (qS (l:=od1 p) (qe (qL (qr (m2 rfl b1) (m2 rfl b2) badd) (m2 rfl b2)) (qe (qL (qr (qr rfl rfl bsub) rfl bsub) rfl) (qe (C rfl rfl) (qe (ze (l:=[.int p.1,.int p.2,.int 1]) (qe rfl (qe rfl (qe rfl rfl))) (by simp[PySem.sizeLine])) rfl)))) (by simp[od1])) (ρ1:=[some (.ref n),some (nmD p),some (.int p.1),some (.int p.2),some (.lst (od1 p))]) rfl ?_;refine x_set (qr rfl (qS (l:=od2 p) (qe (zP rfl) (qe rfl (qe rfl (qe rfl (qe (qL rfl rfl) (qe (qL rfl rfl) (qe (qL rfl rfl) (qe (qL rfl (m2 rfl b2)) (qe (qL rfl rfl) rfl))))))))) (by simp[od2])) (bcat (by simp[od1,od2]))) (ρ1:=[some (.ref n),some (nmD p),some (.int p.1),some (.int p.2),some (.lst (od1 p++od2 p))]) rfl ?_;refine x_set (qr rfl (qS (l:=od3 p) (qe (qL (qF (l:=[.int p.1]) rfl (qla b1)) rfl) (qe (zP (qL rfl rfl)) (qe tn (qe (qL rfl rfl) (qe rfl (qe rfl (qe A (qe (qL rfl (B rfl)) rfl)))))))) (by simp[od3])) (bcat (by simp[od1,od2,od3]))) (ρ1:=[some (.ref n),some (nmD p),some (.int p.1),some (.int p.2),some (.lst (od1 p++od2 p++od3 p))]) rfl ?_;refine x_set (qr rfl (qS (l:=od4 p) (qe (qL (zP rfl) rfl) (qe (qL rfl rfl) (qe (qL rfl rfl) (qe (qL rfl (qr rfl rfl bsub)) (qe (qL rfl rfl) rfl))))) (by simp[od4])) (bcat (by simp[od1,od2,od3,od4]))) (ρ1:=[some (.ref n),some (nmD p),some (.int p.1),some (.int p.2),some (.lst (od1 p++od2 p++od3 p++od4 p))]) rfl ?_;exact qC (qR rfl (qj rfl t1) w)
def qex(n:Nat)(c:∃b,eqD (n+2) o (nmD q)=some b)(b:List Am):∀a:List Am,∃x,eqL (eqD (n+2)) (a.map nmD++[o]++b.map nmD) (a.map nmD++[nmD q]++b.map nmD)=some x
 |[]=>by
  obtain⟨x,ex⟩:=c;refine⟨x&&true,?_⟩;show(match eqD (n+2) o (nmD q),eqL (eqD (n+2)) (b.map nmD) (b.map nmD)with|some x,some y=>some (x&&y)|_,_=>none)=_;rw[ex,qdo n b]
 |p::r=>by
  obtain⟨x,ex⟩:=qex n c b r;have e:eqD (n+2) (nmD p) (nmD p)=some true:=by
   show some ((p.1 == p.1)&&((p.2 == p.2)&&true))=_;simp
  refine⟨true&&x,?_⟩;show(match eqD (n+2) (nmD p) (nmD p),eqL (eqD (n+2)) (r.map nmD++[o]++b.map nmD) (r.map nmD++[nmD q]++b.map nmD)with|some x,some y=>some (x&&y)|_,_=>none)=_;rw[ex,e]
def qiW{l:List D}{i:Nat}(h:i<=l.length):cutD l (some (i:Int)) (some ((i:Int)+1))=(l.drop i).take 1:=by
 have e:((i:Int)+1)=((i+1:Nat):Int):=by lia
 unfold cutD;rw[e,HT.jY,HT.jY,ug h];rcases Nat.lt_or_ge i l.length with z|z
 .rw [ug (by lia),show i+1-i=1 by lia]
 .rw [vx (by lia)];simp
def qfj(h:Tiny p):NB (adn p ninth):=by
 have f:=h.t0;have i:=h.t1;have j:=h.b1;have l:=h.b2;have d:1<=p.2*9:=by lia
 have a:=qdi (t:=p.1*9+1*p.2) d;have b:=qcx (t:=p.1*9+1*p.2) d;have c:=(zV (t:=p.1*9+1*p.2) d).pos;refine⟨?_,c,?_⟩
 .show (lw (p.1*9+1*p.2) (p.2*9)).1.natAbs<_
  lia
 .show (lw (p.1*9+1*p.2) (p.2*9)).2<_
  lia
def jA{ps:List Am}(h:∀p∈ps,NB p):(ps.map nmD).all nsm=true:=by
 rw[u9,wn];exact λp a=>qhk (h p a)
section
variable{t:Tie}{ps:List Am}(h:AmOk 12 t ps)
include h
theorem qdr:ps.length=t.1.length:=by
 obtain⟨xs,s,_,_,q,_,_,e⟩:=h.ex;rw[e,wE];exact q
theorem jR:∀p∈ps,NB p:=λp a=>(qbP h p a).nb
theorem qiX{k:Nat}(a:ps[k]?=some q):NoAm t (.tup ((ps.take k++[adn q ninth]++ps.drop (k+1)).map nmD)):=by
 refine⟨zD _,jA λp b=>?_,qhx h a⟩;simp only[wb,wV]at b;rcases b with (z|z)|z
 .exact jR h p (wm z)
 .rw [z];exact qfj (qbP h q (w9 a))
 .exact jR h p (wr z)
theorem qlb{k:Nat}(a:NoNm o q):NoAm t (.tup ((ps.take k).map nmD++[o]++(ps.drop (k+1)).map nmD)):=by
 refine⟨?_,?_,qiU a.f⟩
 .show refsLts 0 ((ps.take k).map nmD++[o]++(ps.drop (k+1)).map nmD)=true
  rw[qI,qI,zD,zD];simp[refsLts,a.r]
 .show ((ps.take k).map nmD++[o]++(ps.drop (k+1)).map nmD).all nsm=true
  rw[vl,vl,jA λp b=>jR h p (wm b),jA λp b=>jR h p (wr b)];simp[a.s]
theorem qiY(b:1<=t.1.length):NoAm t (.tup ((ps.drop 1).map nmD)) :=
 ⟨zD _,jA λp a=>jR h p (wr a),qet (by rw[wE,vq,qdr h];lia)⟩
theorem qiZ:NoAm t (.tup (ps.map nmD++[nmD (0,1)])):=by
 refine⟨?_,?_,qet (by rw[wI,wE,qdr h,wZ];lia)⟩
 .show refsLts 0 (ps.map nmD++[nmD (0,1)])=true
  rw[qI,zD];rfl
 .show (ps.map nmD++[nmD (0,1)]).all nsm=true
  rw[vl,jA (jR h)];decide
omit h in
theorem qlc:NoAm t (.lst (ps.map nmD)):=⟨zD ps,rfl,rfl⟩
omit h in
theorem qld:NoAm t .non:=⟨rfl,rfl,rfl⟩
end
def nl0(l:List (List Am)):List D:=[.lst (lyD l),.non,.tup (lyD l++[.tup []]),.int 7,.str (PySem.Str.ofString ""),.emp,.tup (lyD l++[.non]),.bl true]
def qhA{w:Wb}(h:LyOk 12 w.ties l):∀y∈nl0 l,NoLy w y:=by
 intro y a;unfold nl0 at a;simp only[wR,wc,v5]at a;rcases a with rfl|rfl|rfl|rfl|rfl|rfl|rfl|rfl
 .exact ⟨yw l,rfl,rfl⟩
 .exact ⟨rfl,rfl,rfl⟩
 .exact qev h rfl rfl
 .exact ⟨rfl,rfl,rfl⟩
 .exact ⟨rfl,rfl,rfl⟩
 .exact ⟨rfl,rfl,rfl⟩
 .exact qev h rfl rfl
 .exact ⟨rfl,rfl,rfl⟩
def qey{l:List D}(h:∀y∈l,NoLy w y):refsLts 0 l=true:=qE λy a=>(h y a).r
abbrev cE(n:Nat)(l:List (List Am))(j:Nat)(i:Nat)(x4 x5 x6 x7 x8:Option D):En:=[some (.ref n),some (.tup (lyD l)),some (.ref j),some (.int i),x4,x5,x6,x7,x8]
def psD(ps:List Am):D:=.tup (ps.map nmD)
def bodyL:CSs:=match c_37.body with|.cons _ (.cons _ (.cons (.forS _ _ b) _))=>b|_=>.nil
def tail_ok{d n:Nat}{u:Int}{S X:Sr}{m:List D}{w:Wb}{i:Nat}{P:List D}{p s v A:Option D}(h:LyOk 12 w.ties l)(W:l.length<=30)(hi:i<l.length)(B:w.ties[i]?=some t)(C:∀x∈P,NoAm t x)(J:P.length<=9)(hm:∀y∈m,NoLy w y)(K:m.length<=8)(L:1<=m.length):
  Ok (exs (G (d+2)) NW (.cons (.set (.var 2) (.binM .add (.var 2) (.lc false [1,3] 1 (.bin .add (.bin .add (.slc (.var 0) .none (.some (.var 1))) (.tup (.cons (.var 2) .nil))) (.slc (.var 0) (.some (.bin .add (.var 1) (.cst (.int 1)))) .none)) (.var 2) (.seq (.var 8)) .nil))) (.cons (.expr (.app (.var 2) (.bin .add (.slc (.var 1) .none (.some (.var 3))) (.slc (.var 1) (.some (.bin .add (.var 3) (.cst (.int 1)))) .none)))) .nil)) (cE n l (S.length+X.length) i p s v A (some (.lst P))) (pk S n u++(X++[.lst m]))) λf U=>∃(j:Sr) (o:List D),f=.nx (cE n l (S.length+j.length) i p s v A (some (.lst P)))/\U=pk S n u++(j++[.lst o])/\(∀y∈o,NoLy w y)/\1<=o.length/\o.length<=100:=by
 have Y:(lyD l).length=l.length:=by unfold lyD;rw[wE]
 have c1:cutD (lyD l) none (some (i:Int))=(lyD l).take i:=qdn (by lia);have c2:cutD (lyD l) (some ((i:Int)+1)) none=(lyD l).drop (i+1):=qho (by lia);have t1:((lyD l).take i).length<=30:=by rw[wg];lia
 have t2:((lyD l).drop (i+1)).length<=30:=by rw[vq];lia
 have E:=qd8 (g:=λx:D=>x) (F:=G (d+2)) (fr:=[1,3]) (nt:=1) (elt:=.bin .add (.bin .add (.slc (.var 0) .none (.some (.var 1))) (.tup (.cons (.var 2) .nil))) (.slc (.var 0) (.some (.bin .add (.var 1) (.cst (.int 1)))) .none)) (tg:=.var 2) (it:=.seq (.var 8)) (ifs:=.nil) (ρ:=cE n l (S.length+X.length) i p s v A (some (.lst P))) (S:=pk S n u++(X++[.lst m])) (S1:=pk S n u++(X++[.lst m])) (ds:=P) P (λ_=>true) (λx=>.tup ((lyD l).take i++[x]++(lyD l).drop (i+1))) (λρ=>∃x,ρ=[some (.tup (lyD l)),some (.int i),x]) (qkJ rfl) (by simp) ⟨_,rfl⟩ (by simp[PySem.sizeLine];lia) (by
  rintro q M ρ o ⟨x,rfl⟩;refine⟨_,rfl,⟨_,rfl⟩,rfl,λ_=>⟨?_,(qeu h hi B (C q M)).r⟩⟩;have e:=qr (F:=G (d+2)) (ρ:=[some (.tup (lyD l)),some (.int i),some q]) (S:=pk S n u++(X++[.lst m])++[.lst o]) (qr (ym (l:=lyD l) (lo:=.none) (hi:=.some (.var 1)) (e:=.var 0) (a:=none) (b:=some (i:Int)) rfl rfl rfl) (zP (e:=.var 2) (d:=q) rfl) (bcatT (by rw[c1,wZ];lia))) (ym (l:=lyD l) (lo:=.some (.bin .add (.var 1) (.cst (.int 1)))) (hi:=.none) (e:=.var 0) (a:=some ((i:Int)+1)) (b:=none) rfl rfl rfl) (bcatT (by rw[c1,c2,wI,wZ];lia));rw[c1,c2]at e;exact e)
 rw[yj]at E;have N:∀y∈P.map (λx=>D.tup ((lyD l).take i++[x]++(lyD l).drop (i+1))),NoLy w y:=λy O=>by
  obtain⟨x,Q,rfl⟩:=wp.mp O;exact qeu h hi B (C x Q)
 have H:=zK hm N;have c:=qiV h hi;refine qbh (i:=2) rfl rfl E (by rw[wE];lia) (qey H) λj=>?_
 have I:=qr (F:=G (d+2)) (ρ:=cE n l (S.length+j.length) i p s v A (some (.lst P))) (S:=pk S n u++(j++[.lst (m++P.map (λx=>D.tup ((lyD l).take i++[x]++(lyD l).drop (i+1))))])) (ym (l:=lyD l) (lo:=.none) (hi:=.some (.var 3)) (e:=.var 1) (a:=none) (b:=some (i:Int)) rfl rfl rfl) (ym (l:=lyD l) (lo:=.some (.bin .add (.var 3) (.cst (.int 1)))) (hi:=.none) (e:=.var 1) (a:=some ((i:Int)+1)) (b:=none) rfl rfl rfl) (bcatT (by rw[c1,c2];lia));rw[c1,c2]at I;refine qdp (i:=2) rfl rfl I (by rw[wI,wE];lia) c.r ?_;exact ju ⟨j,_,rfl,rfl,qaK H c,by simp;lia,by simp;lia⟩
def qi0{l:List Am}{k:Nat}(h:k<l.length):cutD (l.map nmD) none (some (k:Int))=(l.take k).map nmD/\cutD (l.map nmD) (some ((k:Int)+1)) none=(l.drop (k+1)).map nmD:=by
 rw[qdn (by rw[wE];lia),qho (by rw[wE];lia),uz,xA];exact⟨rfl,rfl⟩
def qle{l:List Am}{k:Nat}{q:Am}(h:l[k]?=some q)(S:Sr):idxD S (.tup (l.map nmD)) (.int k)=some (nmD q):=by
 have a:k<l.length:=(wF.mp h).1;have:L2.ixN (l.map nmD).length (k:Int)=some k:=by
  rw[wE];unfold L2.ixN;rw[wN (by lia),wN (by lia)];simp
 show(L2.ixN (l.map nmD).length (k:Int)).bind (λj=>(l.map nmD)[j]?)=_;rw[this];show(l.map nmD)[k]?=_;rw[w8,h];rfl
def qi1{d n:Nat}{u:Int}{S X:Sr}{m:List D}{i:Nat}{H r j c:Option D}(hn:n<S.length)(hu:0<=u)(hw:WbOk w)(h:LyOk 12 w.ties l)(hl:l.length<=30)(a0:l[i]?=some ps)(ht:w.ties[i]?=some t)(ha:AmOk 12 t ps)(hm:∀y∈m,NoLy w y)(a6:m.length<=8)(a7:1<=m.length):
  Ok (exs (G (d+2)) NW bodyL (cE n l (S.length+X.length) i (some (psD ps)) H r j c) (pk S n u++(X++[.lst m]))) λf U=>∃(C:Sr) (s:List D) (I:Int) (H r j c:Option D),f=.nx (cE n l (S.length+C.length) i (some (psD ps)) H r j c)/\U=pk S n I++(C++[.lst s])/\0<=I/\(∀y∈s,NoLy w y)/\1<=s.length/\s.length<=100:=by
 have hi:i<l.length:=(wF.mp a0).1;have a8:t∈w.ties:=w9 ht;obtain⟨q1,q2,_⟩:=hw.t2 t a8;have h1:1<=t.1.length:=List.length_pos_iff.mpr q1.ne;have al:=qdr ha;have ae:ps.length<=4:=by lia
 have ad:1<=ps.length:=by lia
 obtain⟨f1,f2⟩:=fm (v:=u) (m:=ps.length) (by lia);obtain⟨k,hk⟩:∃k:Nat,u.fmod ps.length=k:=⟨(u.fmod ps.length).toNat,by lia⟩;have J:k<ps.length:=by lia
 obtain⟨q,Q⟩:∃q,ps[k]?=some q:=⟨_,wD J⟩;have W:=qbP ha q (w9 Q);have et:=jb (d:=d+1) (n:=n) (v:=u) (m:=ps.length) (S:=S) (T:=X++[.lst m]) hn (by lia) (by lia);have K:0<=u.fdiv ps.length:=wv hu (by lia);rw[hk]at et;generalize u.fdiv ps.length=u1 at et K;obtain⟨o,E,ho,a9,eo⟩:=qmK (d:=d) (n:=n) (v:=u1) (p:=q) (S:=S++(X++[.lst m])) (by rw[wI];lia) K W;rw[qew hn,qew hn]at eo;obtain⟨c1,c2⟩:=qi0 J;have em:=qhg (d:=d) (p:=q) (q:=ninth) (S:=pk S n u1++(X++[.lst m])) W.b1 qhv (by have:=W.b1;have:=W.b2;show q.2*9<_;lia);obtain⟨A,hA⟩:∃A,A=(ps.take k++[adn q ninth]++ps.drop (k+1)).map nmD:=⟨_,rfl⟩;obtain⟨B,Y⟩:∃B,B=(ps.take k).map nmD++[o]++(ps.drop (k+1)).map nmD:=⟨_,rfl⟩;have nA:NoAm t (.tup A):=by rw[hA];exact qiX ha Q
 have nB:NoAm t (.tup B):=by rw[Y];exact qlb ha ho
 have l1:((ps.take k).map nmD).length<=4:=by rw[wE,wg];lia
 have l2:((ps.drop (k+1)).map nmD).length<=4:=by rw[wE,vq];lia
 have sl:∀{r j c:Option D} (U:Sr),ev (G (d+2)) (.slc (.var 4) .none (.some (.var 5))) (cE n l (S.length+X.length) i (some (psD ps)) (some (.int k)) r j c) U=.ok (.tup ((ps.take k).map nmD)) U:=λ{r j c} U=>by
  have:=ym (F:=G (d+2)) (ρ:=cE n l (S.length+X.length) i (some (psD ps)) (some (.int k)) r j c) (S:=U) (l:=ps.map nmD) (lo:=.none) (hi:=.some (.var 5)) (e:=.var 4) (a:=none) (b:=some (k:Int)) rfl rfl rfl;rw[c1]at this;exact this
 have sh:∀{r j c:Option D} (U:Sr),ev (G (d+2)) (.slc (.var 4) (.some (.bin .add (.var 5) (.cst (.int 1)))) .none) (cE n l (S.length+X.length) i (some (psD ps)) (some (.int k)) r j c) U=.ok (.tup ((ps.drop (k+1)).map nmD)) U:=λ{r j c} U=>by
  have:=ym (F:=G (d+2)) (ρ:=cE n l (S.length+X.length) i (some (psD ps)) (some (.int k)) r j c) (S:=U) (l:=ps.map nmD) (lo:=.some (.bin .add (.var 5) (.cst (.int 1)))) (hi:=.none) (e:=.var 4) (a:=some ((k:Int)+1)) (b:=none) rfl rfl rfl;rw[c2]at this;exact this
 have ix:∀{r j c:Option D} (U:Sr),ev (G (d+2)) (.idx (.var 4) (.var 5)) (cE n l (S.length+X.length) i (some (psD ps)) (some (.int k)) r j c) U=.ok (nmD q) U:=λ{r j c} U=>qR rfl rfl (qle Q U)
 simp only[bodyL,c_37];refine zf (Ok.of (qj (l:=[.ref n,.int ps.length]) (qe rfl (qe (qF rfl (by have:=qZ (ps.map nmD) (pk S n u++(X++[.lst m]));rw[wE]at this;exact this)) rfl)) et) (Ok.of (a:=cE n l (S.length+X.length) i (some (psD ps)) (some (.int k)) r j c) rfl ?_));have eA:(ps.take k).map nmD++[nmD (adn q ninth)]++(ps.drop (k+1)).map nmD=A:=by rw[hA,vM,vM];rfl
 have aa:ev (G (d+2)) (.tup (.cons (.call 30 (.cons (.idx (.var 4) (.var 5)) (.cons (.tup (.cons (.cst (.int 1)) (.cons (.cst (.int 9)) .nil))) .nil))) .nil)) (cE n l (S.length+X.length) i (some (psD ps)) (some (.int k)) r j c) (pk S n u1++(X++[.lst m]))=.ok (.tup [nmD (adn q ninth)]) (pk S n u1++(X++[.lst m])):=zP (qj (l:=[nmD q,nmD ninth]) (qe (ix _) (qe (qL (d1:=.int 1) (d2:=.int 9) rfl rfl) rfl)) em);have L:=qr (qr (sl _) aa (bcatT (by rw[wZ];lia))) (sh _) (bcatT (by rw[wI,wZ];lia));rw[eA]at L;refine zf (Ok.of L (Ok.of (a:=cE n l (S.length+X.length) i (some (psD ps)) (some (.int k)) (some (.tup A)) j c) rfl ?_));have ab:ev (G (d+2)) (.tup (.cons (.call 33 (.cons (.var 0) (.cons (.idx (.var 4) (.var 5)) .nil))) .nil)) (cE n l (S.length+X.length) i (some (psD ps)) (some (.int k)) (some (.tup A)) j c) (pk S n u1++(X++[.lst m]))=.ok (.tup [o]) (pk S n E++(X++[.lst m])):=ze (qe (qj (qe rfl (qe (ix _) rfl)) eo) rfl) (by simp[PySem.sizeLine]);have M:=qr (qr (sl _) ab (bcatT (by rw[wZ];lia))) (sh _) (bcatT (by rw[wI,wZ];lia));rw[<-Y]at M;refine zf (Ok.of M (Ok.of (a:=cE n l (S.length+X.length) i (some (psD ps)) (some (.int k)) (some (.tup A)) (some (.tup B)) c) rfl ?_));obtain⟨P,hP⟩:∃P,P=[.tup A,.tup A,.tup ((ps.drop 1).map nmD),.lst (ps.map nmD),.tup (ps.map nmD++[nmD (0,1)]),D.non]:=⟨_,rfl⟩;have N:P.length=6:=by rw[hP];rfl
 have nP:∀x∈P,NoAm t x:=by
  rw[hP];intro x hx;simp only[wR,wc,v5]at hx;rcases hx with rfl|rfl|rfl|rfl|rfl|rfl
  .exact nA
  .exact nA
  .exact qiY ha h1
  .exact qlc
  .exact qiZ ha
  .exact qld
 have s1:=ym (F:=G (d+2)) (ρ:=cE n l (S.length+X.length) i (some (psD ps)) (some (.int k)) (some (.tup A)) (some (.tup B)) c) (S:=pk S n E++(X++[.lst m])) (l:=ps.map nmD) (lo:=.some (.cst (.int 1))) (hi:=.none) (e:=.var 4) (a:=some 1) (b:=none) rfl rfl rfl;rw[cut1,<-xA]at s1;refine zf (Ok.of (qS (l:=P) (by rw[hP];exact qe rfl (qe rfl (qe s1 (qe (qF rfl rfl) (qe (qr rfl (zP (qL rfl rfl)) (bcatT (by rw[wE,wZ];lia))) (qe rfl rfl)))))) (by lia)) (Ok.of (a:=cE n l (S.length+X.length) i (some (psD ps)) (some (.int k)) (some (.tup A)) (some (.tup B)) (some (.lst P))) rfl ?_));have ac:ps.map nmD=(ps.take k).map nmD++[nmD q]++(ps.drop (k+1)).map nmD:=by
  have:ps=ps.take k++q::ps.drop (k+1):=by
   have e:=(wF.mp Q).2;rw[<-e,List.getElem_cons_drop,List.take_append_drop]
  conv=>lhs;rw[this]
  rw[vM,wd,wk];rfl
 obtain⟨x,ex⟩:=qex 17 ho.e (ps.drop (k+1)) (ps.take k);have ec:cmpD .ne (.tup B) (psD ps) (pk S n E++(X++[.lst m]))=some (!x):=by
  have O:eqD 20 (.tup B) (psD ps)=eqL (eqD 19) B (ps.map nmD):=rfl;rw[ac,Y,ex]at O;have:cmpD .ne (.tup B) (psD ps) (pk S n E++(X++[.lst m]))=(eqD 20 (.tup B) (psD ps)).map (!·):=rfl;rw[this,Y,O];rfl
 have fin:∀{Z:List D},(∀x∈Z,NoAm t x)->Z.length<=9->Ok (exs (G (d+2)) NW (.cons (.set (.var 2) (.binM .add (.var 2) (.lc false [1,3] 1 (.bin .add (.bin .add (.slc (.var 0) .none (.some (.var 1))) (.tup (.cons (.var 2) .nil))) (.slc (.var 0) (.some (.bin .add (.var 1) (.cst (.int 1)))) .none)) (.var 2) (.seq (.var 8)) .nil))) (.cons (.expr (.app (.var 2) (.bin .add (.slc (.var 1) .none (.some (.var 3))) (.slc (.var 1) (.some (.bin .add (.var 3) (.cst (.int 1)))) .none)))) .nil)) (cE n l (S.length+X.length) i (some (psD ps)) (some (.int k)) (some (.tup A)) (some (.tup B)) (some (.lst Z))) (pk S n E++(X++[.lst m]))) λf U=>∃(C:Sr) (s:List D) (I:Int) (H r j c:Option D),f=.nx (cE n l (S.length+C.length) i (some (psD ps)) H r j c)/\U=pk S n I++(C++[.lst s])/\0<=I/\(∀y∈s,NoLy w y)/\1<=s.length/\s.length<=100:=λ{Z} g1 g2 =>
  (tail_ok h hl hi ht g1 g2 hm a6 a7).mono λf U ⟨C,s,a1,a2,a3,a4,a5⟩=>⟨C,s,E,_,_,_,_,a1,a2,a9,a3,a4,a5⟩
 refine o_if (Ok.of (t_of (qQ rfl rfl ec)) ?_);cases x with
 |true=>exact ju (fin nP (by lia))
 |false =>
  refine zf (Ok.of (qr rfl (qS (l:=[.tup B,.tup B,.tup B]) rfl (by simp)) (bcat (by rw[N];simp))) (Ok.of (a:=cE n l (S.length+X.length) i (some (psD ps)) (some (.int k)) (some (.tup A)) (some (.tup B)) (some (.lst (P++[.tup B,.tup B,.tup B])))) rfl ?_));refine ju (fin (zK nP ?_) (by rw[wI,N];simp));intro y hy;simp only[wR,wc,v5,or_self]at hy;rw[hy];exact nB
def qcO{d n:Nat}{v:Int}{S:Sr}(hn:n<S.length)(hv:0<=v)(Y:WbOk w)(h:LyOk 12 w.ties l):∃(y:D) (u:Int),NoLy w y/\0<=u/\G (d+3) 37 [.ref n,.tup (lyD l)] (pk S n v)=.ok y (pk S n u):=by
 have J:=Y.t1;have K:l.length<=30:=by rw[h.1];exact J
 have L:(lyD l).length=l.length:=by unfold lyD;rw[wE]
 suffices hs:Ok (G (d+3) 37 [.ref n,.tup (lyD l)] (pk S n v)) λy U=>∃u,NoLy w y/\0<=u/\U=pk S n u by
  obtain⟨y,U,e,u,h1,h2,rfl⟩:=hs.ex;exact⟨y,u,h1,h2,e⟩
 obtain⟨f1,f2⟩:=fm (v:=v) (m:=l.length+1) (by lia);obtain⟨i,hi⟩:∃i:Nat,v.fmod (l.length+1)=i:=⟨(v.fmod (l.length+1)).toNat,by lia⟩;have a0:i<=l.length:=by lia
 have M:=jb (d:=d+1) (n:=n) (v:=v) (m:=l.length+1) (S:=S) (T:=[]++[.lst (nl0 l)]) hn (by lia) (by lia);have x:0<=v.fdiv (l.length+1):=wv hv (by lia);rw[hi]at M;generalize v.fdiv (l.length+1)=u1 at M x;rw[G_at (c:=c_37) rfl];refine j4 rfl rfl ?_;have p:c_37.body=.cons (.set (.var 2) (.lst true (.cons (.blt (.list false) (.cons (.var 1) .nil)) (.cons (.cst .non) (.cons (.bin .add (.var 1) (.tup (.cons (.tup .nil) .nil))) (.cons (.cst (.int 7)) (.cons (.cst (.str (PySem.Str.ofString ""))) (.cons (.dic false) (.cons (.bin .add (.var 1) (.tup (.cons (.cst .non) .nil))) (.cons (.cst (.bl true)) .nil)))))))))) (.cons (.set (.var 3) (.call 26 (.cons (.var 0) (.cons (.bin .add (.blt .len (.cons (.var 1) .nil)) (.cst (.int 1))) .nil)))) (.cons (.forS (.var 4) (.seq (.slc (.var 1) (.some (.var 3)) (.some (.bin .add (.var 3) (.cst (.int 1)))))) bodyL) (.cons (.ret (.idx (.var 2) (.call 26 (.cons (.var 0) (.cons (.blt .len (.cons (.var 2) .nil)) .nil))))) .nil))):=rfl;rw[p];refine zf (Ok.of (qbB (l:=nl0 l) (qe (qF rfl rfl) (qe rfl (qe (qr rfl (zP (d:=.tup []) (ze rfl (by simp[PySem.sizeLine]))) (bcatT (by rw[L,wZ];lia))) (qe rfl (qe rfl (qe rfl (qe (qr rfl (zP (d:=.non) rfl) (bcatT (by rw[L,wZ];lia))) (qe rfl rfl)))))))) (by simp[nl0]) (qey (qhA h))) (Ok.of (a:=[some (.ref n),some (.tup (lyD l)),some (.ref (S.length+([]:Sr).length)),none,none,none,none,none,none]) (S:=pk S n v++([]++[.lst (nl0 l)])) (by rw[qv];rfl) ?_));refine zf (Ok.of (qj (l:=[.ref n,.int (l.length+1)]) (qe rfl (qe (qr (qF rfl (qZ _ _)) rfl (by rw[badd,L])) rfl)) M) (Ok.of (a:=cE n l (S.length+([]:Sr).length) i none none none none none) rfl ?_));have cs:cutD (lyD l) (some (i:Int)) (some ((i:Int)+1))=((l.drop i).take 1).map psD:=by
  rw[qiW (by lia)];unfold lyD psD;rw[uz,xA]
 have es:=ym (F:=G (d+2)) (ρ:=cE n l (S.length+([]:Sr).length) i none none none none none) (S:=pk S n u1++([]++[.lst (nl0 l)])) (l:=lyD l) (lo:=.some (.var 3)) (hi:=.some (.bin .add (.var 3) (.cst (.int 1)))) (e:=.var 1) (a:=some (i:Int)) (b:=some ((i:Int)+1)) rfl rfl rfl;rw[cs]at es;refine qbd (g:=psD) (λpre ρ U=>∃(X:Sr) (m:List D) (u:Int) (I A B C E:Option D),ρ=cE n l (S.length+X.length) i I A B C E/\U=pk S n u++(X++[.lst m])/\0<=u/\(∀y∈m,NoLy w y)/\1<=m.length/\m.length<=8+100*pre.length) ((l.drop i).take 1)
  (Ok.of (qht es) ⟨rfl,[],_,u1,none,none,none,none,none,rfl,rfl,x,qhA h,by simp[nl0],by simp[nl0]⟩) ?_ ?_
 .rintro pre ps a1 ρ U o ⟨X,m,u,I,A,B,C,E,rfl,rfl,N,hm,j,q⟩
  have H:=congrArg List.length o;rw[wg,vq,wI,w4]at H;have O:pre=[]:=wy.mp (by lia);subst O;have s:l[i]?=some ps:=by
   have:((l.drop i).take 1)[0]?=some ps:=by rw[o];rfl
   rw[List.getElem?_take,wN (by decide),List.getElem?_drop]at this;exact this
  have P:i<l.length:=(wF.mp s).1;obtain⟨t,Z⟩:∃t,w.ties[i]?=some t:=⟨_,wD (by rw[<-h.1];exact P)⟩;have ha:=h.2 _ (qhy Z s);refine Ok.of (a:=cE n l (S.length+X.length) i (some (psD ps)) A B C E) rfl ?_;refine(qi1 (d:=d) hn N Y h K s Z ha hm (by simpa using q) j).mono ?_;rintro f U ⟨X',m',u',y5,y6,y7,y8,rfl,rfl,g1,g2,g3,g4⟩;exact⟨X',m',u',_,_,_,_,_,rfl,rfl,g1,g2,g3,by simp;lia⟩
 rintro ρ U ⟨X,m,u,I,A,B,C,E,rfl,rfl,N,hm,j,q⟩;have Q:m.length<=1000:=by rw[wg]at q;lia
 obtain⟨y,u2,hy,W,e⟩:=qjq (d:=d+1) (n:=n) (u:=u) (X:=X) (m:=m) (ρ:=cE n l (S.length+X.length) i I A B C E) (i:=2) hn N (λz=>by rw[z]at j;simp at j) Q rfl rfl rfl;exact qej (Ok.of e ⟨by rw[qv,zW];lia,by exact zA _ (hm y hy).r,u2,hm y hy,W,by rw[qv,<-qv S n u2,List.take_left]⟩)
def qlf{N:Nat}{i:Nat}(h:exs F N b ρ S=.err (.exc C) S1)(a:lookA C t=some true)(c:exs F N s (ρ.set i (some (.exc C))) S1=.ok (.nx ρ') S2)(d:exs F N r (ρ'.set i none) S2=X):exs F N (.cons (.tryX t i b s) r) ρ S=X:=by
 simp only[exs,ex,h,a,c,Res.bind];exact d
def onW:List D:=[.bl true,.bl false,.bl false,.bl false]
def onL:List D:=[.bl false,.bl false,.bl true,.bl false]
def onN:List D:=[.bl false,.bl false,.bl false,.bl false]
def qez{k:Int}:ev F (.lc false [1] 1 (.cmp .eq (.var 1) (.var 0)) (.var 1) (.rng (.cons (.cst (.int 12)) .nil)) .nil) [some e,some (.int k),some (.lst l)] S=.ok (.lst ((rI 12).map λq=>.bl (q == k))) S:=by
 have a:=qd8 (g:=.int) (F:=F) (fr:=[1]) (nt:=1) (elt:=.cmp .eq (.var 1) (.var 0)) (tg:=.var 1) (it:=.rng (.cons (.cst (.int 12)) .nil)) (ifs:=.nil) (ρ:=[some e,some (.int k),some (.lst l)]) (S:=S) (S1:=S) (ds:=(rI 12).map .int) (rI 12) (λ_=>true) (λq=>.bl (q == k)) (λρ=>∃x,ρ=[some (.int k),x]) (i_rng (n:=12) rfl (by decide)) rfl ⟨_,rfl⟩ (by simp[PySem.sizeLine,zY]) (by
  rintro q b ρ m ⟨x,rfl⟩;exact⟨_,rfl,⟨_,rfl⟩,rfl,λ_=>⟨qQ rfl rfl rfl,rfl⟩⟩)
 rw[yj]at a;exact a
def qi2{d:Nat}:G (d+1) 34 [.exc 37,.int 0] S=.ok (.bl true) S:=by
 rw[G_at (c:=c_34) rfl];refine qA rfl ?_;simp only[c_34];refine x_set (d:=.lst onW) (qS (l:=onW) (qe rfl (qe rfl (qe rfl (qe rfl rfl)))) (by simp[onW])) (ρ1:=[some (.exc 37),some (.int 0),some (.lst onW)]) rfl ?_;refine x_set (d:=.lst (onW++onN)) (qr rfl (qS (l:=onN) (qe rfl (qe rfl (qe rfl (qe rfl rfl)))) (by simp[onN])) (bcat (by simp[onW,onN]))) (ρ1:=[some (.exc 37),some (.int 0),some (.lst (onW++onN))]) rfl ?_;refine x_set (d:=.lst (onW++onN++onN)) (qr rfl (qS (l:=onN) (qe rfl (qe rfl (qe rfl (qe rfl rfl)))) (by simp[onN])) (bcat (by simp[onW,onN]))) (ρ1:=[some (.exc 37),some (.int 0),some (.lst (onW++onN++onN))]) rfl ?_;exact x_no (S1:=S) (zw (t_no (x:=true) (t_of rfl)) (t_no (x:=true) (t_of rfl))) (qC (qQ rfl qez (by rfl)))
def qi3{d:Nat}:G (d+1) 34 [.exc 61,.int 2] S=.ok (.bl true) S:=by
 rw[G_at (c:=c_34) rfl];refine qA rfl ?_;simp only[c_34];refine x_set (d:=.lst onL) (qS (l:=onL) (qe rfl (qe rfl (qe rfl (qe rfl rfl)))) (by simp[onL])) (ρ1:=[some (.exc 61),some (.int 2),some (.lst onL)]) rfl ?_;refine x_set (d:=.lst (onL++onN)) (qr rfl (qS (l:=onN) (qe rfl (qe rfl (qe rfl (qe rfl rfl)))) (by simp[onN])) (bcat (by simp[onL,onN]))) (ρ1:=[some (.exc 61),some (.int 2),some (.lst (onL++onN))]) rfl ?_;refine x_set (d:=.lst (onL++onN++onN)) (qr rfl (qS (l:=onN) (qe rfl (qe rfl (qe rfl (qe rfl rfl)))) (by simp[onN])) (bcat (by simp[onL,onN]))) (ρ1:=[some (.exc 61),some (.int 2),some (.lst (onL++onN++onN))]) rfl ?_;exact x_no (S1:=S) (zw (t_no (x:=true) (t_of rfl)) (t_no (x:=true) (t_of rfl))) (qC (qQ rfl qez (by rfl)))
def q_eq{k j:Int}:tst F (.cal (.val (.cmp .eq (.var 0) (.cst (.int j))))) [some (.int k),some x,some y,some .non,none] S=.ok (k == j) S:=tc (t_of (qQ rfl rfl rfl))
def qcP{d:Nat}{k:Int}(a:k=0\/k=1\/k=2\/k=3)(b:k=0->G (d+13) 17 [y,x] S=.err (.exc C) S)(h:k≠0->∀(d:Nat) (S:Sr),G (d+10) 19 [y,x] S=.err (.exc C) S)(f:lookA C [(61,true),(37,true)]=some true):G (d+14) 35 [.int k,y,x] S=.ok (.exc C) S:=by
 rw[G_at (c:=c_35) rfl];refine qA rfl ?_;simp only[c_35];refine x_set (d:=.non) rfl (ρ1:=[some (.int k),some y,some x,some .non,none]) rfl (qlf (S1:=S) (C:=C) ?_ f (ρ':=[some (.int k),some y,some x,some (.exc C),some (.exc C)]) (x_set (d:=.exc C) rfl (ρ1:=[some (.int k),some y,some x,some (.exc C),some (.exc C)]) rfl zT) (qC rfl));rcases a with rfl|rfl|rfl|rfl
 .exact zm (qaD q_eq (zm (jO (zM rfl (b rfl)))))
 .exact zm (ja q_eq (zm (qaD q_eq (zm (jO (zM rfl (qcE (h (by decide) (d+2)))))))))
 .exact zm (ja q_eq (zm (ja q_eq (zm (qaD q_eq (zm (jO (zM rfl (qaF (h (by decide) (d+1)))))))))))
 .exact zm (ja q_eq (zm (ja q_eq (zm (ja q_eq (zm (jO (zM rfl (qcF (h (by decide) d))))))))))
def qhB{d:Nat}{k:Int}(b:k=0\/k=1\/k=2\/k=3)(a:NoWb y):G (d+14) 35 [.int k,y,x] S=.ok (.exc 37) S :=
 qcP b (λ_=>jx (d:=d+4) a.1 a.2) (λ_ d S=>qcC a.1 a.2) rfl
def qhC{d:Nat}{k:Int}(b:k=1\/k=2\/k=3)(c:WbOk w)(a:NoLy w x):G (d+14) 35 [.int k,webD w,x] S=.ok (.exc 61) S :=
 qcP (.inr b) (λz=>by rcases b with rfl|rfl|rfl <;> cases z) (λ_ d S=>qcD c a.r a.s a.f) rfl
def bodyF:CSs->CSs
 | .cons (.forS _ _ b) _=>b
 |_=>.nil
def dropS:Nat->CSs->CSs
 |0,s=>s
 |n+1,.cons _ r=>dropS n r
 |_+1,.nil=>.nil
abbrev lE(ns:List Int)(k:Int)(x2 x3 x4 x5 x6 x7 x8:Option D):En:=[some (.lst (ns.map .int)),some (.int k),x2,x3,x4,x5,x6,x7,x8]
def rI4{q:Int}(h:q∈rI 4):q=0\/q=1\/q=2\/q=3:=by have:=qgW.mp h;lia
def ask{d n:Nat}{ns:List Int}{k q:Int}{lay y o:D}{a:Option D}{U:Sr}(f:WbOk w)(h:NoWb y)(i:NoLy w o)(b:q=0\/q=1\/q=2\/q=3):
  exs (G (d+14)) NW (bodyF (dropS 1 (bodyF (dropS 3 (bodyF yz.body))))) (lE ns k (some (webD w)) (some (.ref n)) (some lay) a (some y) (some o) (some (.int q))) U=.ok (.nx (lE ns k (some (webD w)) (some (.ref n)) (some lay) a (some y) (some o) (some (.int q)))) U:=by
 simp only[bodyF,dropS,yz];obtain⟨z,j⟩:∃z,ev (G (d+14)) (.idx (.lst false (.cons (.var 4) (.cons (.var 7) .nil))) (.bin .mod (.var 8) (.cst (.int 2)))) (lE ns k (some (webD w)) (some (.ref n)) (some lay) a (some y) (some o) (some (.int q))) U=.ok z U:=by
  have e1:∀c:Option D,ev (G (d+14)) (.lst false (.cons (.var 4) (.cons (.var 7) .nil))) (lE ns k (some (webD w)) (some (.ref n)) (some lay) a (some y) (some o) c) U=.ok (.lst [lay,o]) U:=λc=>qS (qe rfl (qe rfl rfl)) (by simp)
  rcases b with rfl|rfl|rfl|rfl
  .exact ⟨lay,qR (e1 _) (qr rfl rfl rfl) rfl⟩
  .exact ⟨o,qR (e1 _) (qr rfl rfl rfl) rfl⟩
  .exact ⟨lay,qR (e1 _) (qr rfl rfl rfl) rfl⟩
  .exact ⟨o,qR (e1 _) (qr rfl rfl rfl) rfl⟩
 refine x_no (S1:=U) (t_no (x:=true) (t_of (qj (l:=[.exc 37,.int 0]) (qe (qj (l:=[.int q,y,z]) (qe rfl (qe rfl (qe j rfl))) (qhB b h)) rfl) qi2))) ?_;have g:ev (G (d+14)) (.cmp .gt (.var 8) (.cst (.int 0))) (lE ns k (some (webD w)) (some (.ref n)) (some lay) a (some y) (some o) (some (.int q))) U=.ok (.bl (decide (0<q))) U:=qQ rfl rfl rfl;refine x_no (S1:=U) ?_ zT;have:=qmz (y:=false) (t_of g) (c2:=.not (.val (.call 34 (.cons (.call 35 (.cons (.var 8) (.cons (.var 2) (.cons (.var 7) .nil)))) (.cons (.cst (.int 2)) .nil))))) λm=>t_no (x:=true) (t_of (qj (l:=[.exc 61,.int 2]) (qe (qj (l:=[.int q,webD w,o]) rfl (qhC (by rw[wq]at m;lia) f i)) rfl) qi3))
 rw[vX]at this;exact this
def lyg12(a:WbOk w)(h:LyOk 12 w.ties l):LyG w l:=⟨12,4,h,by decide,by decide,by have:=a.t1;lia,by decide,by decide⟩
def qds{d:Nat}(a:WbOk w)(h:LyOk 12 w.ties l):G (d+9) 17 [webD w,.tup (lyD l)] S=.ok (.bl true) S:=by
 have e1:=yv (d:=d) (S:=S) a (x:=.tup (lyD l)) (yw l) (wn.mpr λy b=>qdj (by decide) h y b);rw[qep h]at e1;exact e1
set_option maxHeartbeats 1000000 in
def turn{d:Nat}{ns:List Int}(s:ns.length<=63){k:Int}(hk:0<=k)(a2:k<50){x2 X J A C E F:Option D}{S:Sr}:
  Ok (exs (G (d+14)) NW (bodyF yz.body) (lE ns k x2 X J A C E F) S) λf _=>∃y2 y3 y4 y5 y6 y7 y8,f=.nx (lE ns k y2 y3 y4 y5 y6 y7 y8):=by
 obtain⟨v,hv,ep⟩:=qhd (d:=d+12) s (k:=k) (S:=S) hk (by lia);have m:pk (S++[.lst [.int v]]) S.length v=S++[.lst [.int v]]:=qed (by simp);obtain⟨w,u,j,a3,K,L⟩:=qmH (d:=d+11) (n:=S.length) (v:=v) (mo:=7) (tn:=12) (S:=S++[.lst [.int v]]) (by simp) hv (by decide) (by decide) (by decide) (by decide);rw[m]at L;generalize pk (S++[.lst [.int v]]) S.length u=T at L;obtain⟨r,M,c⟩:=qhd (d:=d+12) s (k:=k+1) (S:=T) (by lia) (by lia);have h:pk (T++[.lst [.int r]]) T.length r=T++[.lst [.int r]]:=qed (by simp);have b:T.length<(T++[SO.lst [.int r]]).length:=by simp
 rw[<-h]at c;generalize T++[SO.lst [.int r]]=B at b c;generalize T.length=n at b c;obtain⟨yl,T3,ey,l,u3,N,O,rfl,rfl⟩:=(qff (d:=d+12) (n:=n) (v:=r) (S:=B) j b M).ex;rw[show bodyF yz.body=.cons (.set (.var 2) (.call 29 (.cons (.call 25 (.cons (.var 0) (.cons (.var 1) .nil))) (.cons (.cst (.int 7)) (.cons (.cst (.int 12)) .nil))))) (.cons (.set (.var 3) (.call 25 (.cons (.var 0) (.cons (.bin .add (.var 1) (.cst (.int 1))) .nil)))) (.cons (.set (.var 4) (.call 31 (.cons (.var 3) (.cons (.var 2) .nil)))) (.cons (.forS (.var 5) (.rng (.cons (.cst (.int 3)) .nil)) (bodyF (dropS 3 (bodyF yz.body)))) (dropS 4 (bodyF yz.body)))))from rfl];refine zf (Ok.of (qj (qe (qj rfl ep) (qe rfl (qe rfl rfl))) L) (Ok.of (a:=lE ns k (some (webD w)) X J A C E F) rfl ?_));refine zf (Ok.of (qj (qe rfl (qe (qr rfl rfl badd) rfl)) c) (Ok.of (a:=lE ns k (some (webD w)) (some (.ref n)) J A C E F) rfl ?_));refine zf (Ok.of (qj rfl ey) (Ok.of (a:=lE ns k (some (webD w)) (some (.ref n)) (some (.tup (lyD l))) A C E F) rfl ?_));refine qbd (g:=.int) (λpre ρ U=>∃P H I i u,ρ=lE ns k (some (webD w)) (some (.ref n)) (some (.tup (lyD l))) P H I i/\U=pk B n u/\0<=u) (rI 3) (Ok.of (i_rng (n:=3) rfl (by decide)) ⟨rfl,_,_,_,_,_,rfl,rfl,O⟩) ?_ ?_
 .rintro pre z a4 ρ U Y ⟨P,H,I,i,u,rfl,rfl,K⟩
  refine Ok.of (a:=lE ns k (some (webD w)) (some (.ref n)) (some (.tup (lyD l))) (some (.int z)) H I i) rfl ?_;obtain⟨y,u1,hy,Q,e1⟩:=qhu (d:=d+12) (n:=n) (v:=u) (w:=w) (S:=B) b K j;obtain⟨o,Z,ho,W,e2⟩:=qcO (d:=d+11) (n:=n) (v:=u1) (w:=w) (l:=l) (S:=B) b Q j N;rw[show bodyF (dropS 3 (bodyF yz.body))=.cons (.set (.tup (.cons (.var 6) (.cons (.var 7) .nil))) (.tup (.cons (.call 36 (.cons (.var 3) (.cons (.var 2) .nil))) (.cons (.call 37 (.cons (.var 3) (.cons (.var 4) .nil))) .nil)))) (.cons (.forS (.var 8) (.rng (.cons (.cst (.int 4)) .nil)) (bodyF (dropS 1 (bodyF (dropS 3 (bodyF yz.body)))))) .nil)from rfl];refine zf (Ok.of (ze (l:=[y,o]) (qe (qj rfl e1) (qe (qj rfl e2) rfl)) (by simp[PySem.sizeLine])) (Ok.of (a:=lE ns k (some (webD w)) (some (.ref n)) (some (.tup (lyD l))) (some (.int z)) (some y) (some o) i) rfl ?_));refine qbd (g:=.int) (λpre ρ U=>∃i,ρ=lE ns k (some (webD w)) (some (.ref n)) (some (.tup (lyD l))) (some (.int z)) (some y) (some o) i/\U=pk B n Z) (rI 4) (Ok.of (i_rng (n:=4) rfl (by decide)) ⟨rfl,_,rfl,rfl⟩) ?_ ?_
  .rintro a0 q a1 ρ U p ⟨i,rfl,rfl⟩
   have hq:q∈rI 4:=by rw[p];simp
   refine Ok.of (a:=lE ns k (some (webD w)) (some (.ref n)) (some (.tup (lyD l))) (some (.int z)) (some y) (some o) (some (.int q))) rfl ?_;exact Ok.of (ask (d:=d) j hy ho (rI4 hq)) ⟨_,rfl,rfl⟩
  .rintro ρ U ⟨i,rfl,rfl⟩
   exact ju ⟨_,_,_,_,Z,rfl,rfl,W⟩
 rintro ρ U ⟨P,H,I,i,u,rfl,rfl,K⟩;have hg:=lyg12 j N;simp only[bodyF,dropS,yz];have eL:=qiO (d:=d+3) (S:=pk B n u) j hg;have eR:=qcK (d:=d+11) (S:=pk B n u) j hg;rw[qkY]at eL eR;refine o_no (Ok.of (t_or (x:=false) (y:=false) (t_of (qQ (qj rfl eL) (qj rfl eR) (qkX _ _))) (t_of (qQ (qj rfl (qds (d:=d+5) j N)) rfl rfl))) ⟨rfl,ju ⟨_,_,_,_,_,_,_,rfl⟩⟩)
def qlg{d:Nat}{ns:List Int}(s:ns.length<=63):G (d+15) 38 [.lst (ns.map .int)] []=.ok (.bl true) []:=by
 have:Ok (G (d+15) 38 [.lst (ns.map .int)] []) λr S=>r=.bl true/\S=[]:=by
  rw[G_at (c:=yz) rfl];refine j4 rfl rfl ?_;obtain⟨n,hn,v⟩:=qmE (F:=G (d+14)) (ρ:=[some (.lst (ns.map .int)),none,none,none,none,none,none,none,none]) (S:=[]) (ns:=ns) (c:=16) rfl (by decide) (by decide);refine qbd (g:=λk:Nat=>D.int (0+2*k)) (λpre ρ _=>∃u h i j l m o p,ρ=[some (.lst (ns.map .int)),u,h,i,j,l,m,o,p]) (List.range n) (Ok.of v ⟨rfl,_,_,_,_,_,_,_,_,rfl⟩) ?_ ?_
  .rintro pre q w ρ T b ⟨u,h,i,j,l,m,o,p,rfl⟩
   have x:q∈List.range n:=by rw[b];simp
   have y:=vu.mp x;refine Ok.of (a:=lE ns (0+2*q) h i j l m o p) rfl ?_;refine(turn (d:=d) s (k:=0+2*(q:Int)) (by lia) (by lia)).mono ?_;rintro f S1 ⟨A,B,C,E,H,I,J,rfl⟩;exact⟨_,_,_,_,_,_,_,_,rfl⟩
  .rintro ρ T ⟨u,h,i,j,l,m,o,p,rfl⟩
   exact qej (Ok.of rfl ⟨vN _,rfl,rfl,by simp⟩)
 obtain⟨a,S,e,rfl,rfl⟩:=this.ex;exact e
def pure_law(ns:List Int)(h:ns.length<=63):∃a,R.run prg NW 15 38 [.lst (ns.map .int)] []=.ok (.bl true) a:=⟨[],by rw[<-qg7];exact qlg (d:=0) h⟩
end RP
section
namespace PySem.W.Fast
def tw15481611716456879060:Nat:=0
def tw14816038956888049702:Nat:=0
def tw2297822607274709203:Nat:=0
def tw2933357494089519704:Nat:=0
def tw3216748165932817579:Nat:=0
def tw989484953685654818:Nat:=0
def tw7663097758716671481:Nat:=0
def tw8587311766355912874:Nat:=0
def tw623153987446950894:Nat:=0
def tw1660394302816279663:Nat:=0
def tw2269762649824735905:Nat:=0
def tw17382736679922218144:Nat:=0
def tw7927921111848707947:Nat:=0
def tw14448042659234844363:Nat:=0
def tw13175115798234379020:Nat:=0
def tw12879830196224011609:Nat:=0
def tw37339328275092815:Nat:=0
def tw9481335797400088529:Nat:=0
def tw4664442422578897298:Nat:=0
def tw10296119753578662688:Nat:=0
def tw8319483148825985420:Nat:=0
def tw5814179556120057170:Nat:=0
def tw2468259544786648255:Nat:=0
def tw1122338702357518787:Nat:=0
def tw16675191918339320133:Nat:=0
def tw2103696898515248452:Nat:=0
def tw17698120112705339034:Nat:=0
def tw8315865595078520463:Nat:=0
def tw11736502357338423696:Nat:=0
def tw9457943133906405894:Nat:=0
def tw14702132944806055349:Nat:=0
def tw4692364762173682566:Nat:=0
def tw16616679133471278699:Nat:=0
def tw13222923651051527704:Nat:=0
def tw5686841228064105806:Nat:=0
def tw11838130915223926888:Nat:=0
def tw17574528124291850129:Nat:=0
def tw17339545813465123939:Nat:=0
def tw12832654778719150398:Nat:=0
def tw8863076992037617579:Nat:=0
def tw16231504123906037987:Nat:=0
def tw5717602227314587819:Nat:=0
def tw15879984005210758032:Nat:=0
def tw13558257294894054259:Nat:=0
def tw872682967765555673:Nat:=0
def tw11838149343584901805:Nat:=0
def tw18312560917192902294:Nat:=0
def tw10094683098320125145:Nat:=0
def tw1888448578771389290:Nat:=0
def tw411082515635696158:Nat:=0
def tw6615178741278697932:Nat:=0
def tw10373252445471940808:Nat:=0
def tw15354854174459176548:Nat:=0
def tw3282082251090404411:Nat:=0
def tw10779397048695449156:Nat:=0
def tw11014284922490744936:Nat:=0
def tw12097173181714967879:Nat:=0
def tw15815105969737327011:Nat:=0
def tw6517591459980086422:Nat:=0
def tw2440509352214903869:Nat:=0
def tw12682521302402625573:Nat:=0
def tw1285401580856312285:Nat:=0
def tw6651892414493268923:Nat:=0
def tw3871455527560475369:Nat:=0
def tw13260728412365859375:Nat:=0
def tw13463997875525203950:Nat:=0
def tw6988529826335787742:Nat:=0
def tw11030839411085677499:Nat:=0
def tw7625074565047960468:Nat:=0
def tw15702750162494322087:Nat:=0
def tw17317689115488431904:Nat:=0
def tw14903508180889077033:Nat:=0
def tw14621101908668400995:Nat:=0
def tw15204406857144858151:Nat:=0
def tw6563211956710414956:Nat:=0
def tw8871946596185549718:Nat:=0
def tw10468337809869048377:Nat:=0
def tw13321013288665155195:Nat:=0
def tw15268019497858818727:Nat:=0
def tw9852446206061881708:Nat:=0
def tw11767125291379023914:Nat:=0
def tw15656353401288519827:Nat:=0
def tw5625766795525735218:Nat:=0
def tw13214613119566095565:Nat:=0
def tw903655344184946934:Nat:=0
def tw7615402798558862925:Nat:=0
def tw11509210939326528040:Nat:=0
end PySem.W.Fast
def PySem.W.Fast.tw1964193806019437372:PySem.Program:=PySem.Challenge.pw_weblayers_k10_webs_and_layings_refused
theorem PySem.W.Fast.te1964193806019437372:PySem.Challenge.pw_weblayers_k10_webs_and_layings_refused=PySem.W.Fast.tw1964193806019437372:=rfl
namespace RP
open PySem PySem.W PyProof.Rows R
abbrev KOf2{K:PySem.W.Frag}{h:Heap}(_:K.In h):PySem.W.Frag:=K
end RP
open PySem PySem.W PyProof.Rows R
set_option maxRecDepth 100000 in
set_option maxHeartbeats 0 in
theorem PySem.Challenge.cw_weblayers_k10_webs_and_layings_refused_holds : PySem.Challenge.rw_weblayers_k10_webs_and_layings_refused.Holds := by
 w_on;o_law;k_head;(case hw=>w_witness2)
 k_fill
 refine R.qko (l:=PySem.Challenge.rw_weblayers_k10_webs_and_layings_refused) (n:=63) (k:=45) (x:="_law_script") (g:=R.run RP.prg RP.NW 15 38) rfl (by decide) rfl ⟨rfl,by decide,by decide⟩ (λw h Y=>PySem.W.kIn_of Y) ?zp ?zc ?zF RP.pure_law
 case zp=>intro P;rfl
 case zc=>intro P;rfl
 case zF =>
  intro w mg fa h KX G hmg
  have p:RP.Pre (RP.KOf2 KX) mg:=by
   dsimp only[RP.KOf2]
   refine⟨?gb,?c_MOST_COST,?c_MOST_PLACES,?c_MOST_PLACES_OF_TIE,?c_MOST_TIES,?c_MOST_WEIGHT,?p_x_NoArrows,?p_x_NoCall,?p_x_NoKept,?p_x_NoLaying,?p_x_NoMeasure,?p_x_NoNumber,?p_x_NoPart,?p_x_NoRoad,?p_x_NoSize,?p_x_NoText,?p_x_NoThread,?p_x_NoWeb,?p_x_WebError,?p_x_ValueError,?p_er_NoLaying,?p_er_NoWeb,?p_er_WebError,?p_ei_NoLaying,?p_ek_NoLaying,?p_ki_NoLaying_NoArrows,?p_ki_NoLaying_NoCall,?p_ki_NoLaying_NoKept,?p_ki_NoLaying_NoLaying,?p_ki_NoLaying_NoMeasure,?p_ki_NoLaying_NoNumber,?p_ki_NoLaying_NoPart,?p_ki_NoLaying_NoRoad,?p_ki_NoLaying_NoSize,?p_ki_NoLaying_NoText,?p_ki_NoLaying_NoThread,?p_ki_NoLaying_NoWeb,?p_ki_NoLaying_ValueError,?p_ki_NoLaying_WebError,?p_ei_NoWeb,?p_ek_NoWeb,?p_ki_NoWeb_NoArrows,?p_ki_NoWeb_NoCall,?p_ki_NoWeb_NoKept,?p_ki_NoWeb_NoLaying,?p_ki_NoWeb_NoMeasure,?p_ki_NoWeb_NoNumber,?p_ki_NoWeb_NoPart,?p_ki_NoWeb_NoRoad,?p_ki_NoWeb_NoSize,?p_ki_NoWeb_NoText,?p_ki_NoWeb_NoThread,?p_ki_NoWeb_NoWeb,?p_ki_NoWeb_ValueError,?p_ki_NoWeb_WebError,?u_0,?u_1,?u_2,?u_3,?u_4,?u_5,?u_7,?u_8,?u_9,?u_10,?u_11,?u_12,?u_13,?u_14,?u_15,?u_16,?u_17,?u_18,?u_19,?u_20,?u_21,?u_22,?u_23,?u_24,?u_25,?u_26,?u_27,?u_28,?u_29,?u_30,?u_31,?u_32,?u_33,?u_34,?u_35,?u_36,?u_37,?u_38⟩
   case gb =>
    refine⟨mg_none_of KX G ?x0,mg_none_of KX G ?x1,mg_none_of KX G ?x2,mg_none_of KX G ?x3,mg_none_of KX G ?x4,mg_none_of KX G ?x5,mg_none_of KX G ?x6,mg_none_of KX G ?x7,mg_none_of KX G ?x8,mg_none_of KX G ?x9,mg_none_of KX G ?x10,mg_none_of KX G ?x11,mg_none_of KX G ?x12,mg_none_of KX G ?x13,mg_none_of KX G ?x14,mg_none_of KX G ?x15,mg_none_of KX G ?x16,mg_none_of KX G ?x17,mg_none_of KX G ?x18⟩
    (case x0|x1|x2|x3|x4|x5|x6|x7|x8|x9|x10|x11|x12|x13|x14|x15|x16|x17|x18=>k_is)
   case c_MOST_COST=>refine' qat KX G ?a ?b;(case a=>k_is);(case b=>exact rfl)
   case c_MOST_PLACES=>refine' qat KX G ?a ?b;(case a=>k_is);(case b=>exact rfl)
   case c_MOST_PLACES_OF_TIE=>refine' qat KX G ?a ?b;(case a=>k_is);(case b=>exact rfl)
   case c_MOST_TIES=>refine' qat KX G ?a ?b;(case a=>k_is);(case b=>exact rfl)
   case c_MOST_WEIGHT=>refine' qat KX G ?a ?b;(case a=>k_is);(case b=>exact rfl)
   case p_x_NoArrows=>refine' R.zI KX G ?a ?b;(case a=>k_is);(case b=>exact rfl)
   case p_x_NoCall=>refine' R.zI KX G ?a ?b;(case a=>k_is);(case b=>exact rfl)
   case p_x_NoKept=>refine' R.zI KX G ?a ?b;(case a=>k_is);(case b=>exact rfl)
   case p_x_NoLaying=>refine' R.zI KX G ?a ?b;(case a=>k_is);(case b=>exact rfl)
   case p_x_NoMeasure=>refine' R.zI KX G ?a ?b;(case a=>k_is);(case b=>exact rfl)
   case p_x_NoNumber=>refine' R.zI KX G ?a ?b;(case a=>k_is);(case b=>exact rfl)
   case p_x_NoPart=>refine' R.zI KX G ?a ?b;(case a=>k_is);(case b=>exact rfl)
   case p_x_NoRoad=>refine' R.zI KX G ?a ?b;(case a=>k_is);(case b=>exact rfl)
   case p_x_NoSize=>refine' R.zI KX G ?a ?b;(case a=>k_is);(case b=>exact rfl)
   case p_x_NoText=>refine' R.zI KX G ?a ?b;(case a=>k_is);(case b=>exact rfl)
   case p_x_NoThread=>refine' R.zI KX G ?a ?b;(case a=>k_is);(case b=>exact rfl)
   case p_x_NoWeb=>refine' R.zI KX G ?a ?b;(case a=>k_is);(case b=>exact rfl)
   case p_x_WebError=>refine' R.zI KX G ?a ?b;(case a=>k_is);(case b=>exact rfl)
   case p_x_ValueError=>refine' mg_none_of KX G ?a;(case a=>k_is)
   case p_er_NoLaying=>rfl
   case p_er_NoWeb=>rfl
   case p_er_WebError=>rfl
   case p_ei_NoLaying=>k_exc
   case p_ek_NoLaying=>refine' ⟨?a,?b,?c,?d,?e,?f,?g,?h⟩;(case a|b|c|d|e|f|g=>k_is);(case h=>rfl)
   case p_ki_NoLaying_NoArrows=>rfl
   case p_ki_NoLaying_NoCall=>rfl
   case p_ki_NoLaying_NoKept=>rfl
   case p_ki_NoLaying_NoLaying=>rfl
   case p_ki_NoLaying_NoMeasure=>rfl
   case p_ki_NoLaying_NoNumber=>rfl
   case p_ki_NoLaying_NoPart=>rfl
   case p_ki_NoLaying_NoRoad=>rfl
   case p_ki_NoLaying_NoSize=>rfl
   case p_ki_NoLaying_NoText=>rfl
   case p_ki_NoLaying_NoThread=>rfl
   case p_ki_NoLaying_NoWeb=>rfl
   case p_ki_NoLaying_ValueError=>rfl
   case p_ki_NoLaying_WebError=>rfl
   case p_ei_NoWeb=>k_exc
   case p_ek_NoWeb=>refine' ⟨?a,?b,?c,?d,?e,?f,?g,?h⟩;(case a|b|c|d|e|f|g=>k_is);(case h=>rfl)
   case p_ki_NoWeb_NoArrows=>rfl
   case p_ki_NoWeb_NoCall=>rfl
   case p_ki_NoWeb_NoKept=>rfl
   case p_ki_NoWeb_NoLaying=>rfl
   case p_ki_NoWeb_NoMeasure=>rfl
   case p_ki_NoWeb_NoNumber=>rfl
   case p_ki_NoWeb_NoPart=>rfl
   case p_ki_NoWeb_NoRoad=>rfl
   case p_ki_NoWeb_NoSize=>rfl
   case p_ki_NoWeb_NoText=>rfl
   case p_ki_NoWeb_NoThread=>rfl
   case p_ki_NoWeb_NoWeb=>rfl
   case p_ki_NoWeb_ValueError=>rfl
   case p_ki_NoWeb_WebError=>rfl
   case u_0 =>
    refine' qz KX G (ps:=["thing"]) ?a ?l ?c ?d ?h ?t ?k ?b
    (case a|l|c|d=>k_is);(case h|t=>rfl);(case k=>k_is)
    (case b=>intro _ _ _ _ _ _ _ q;obtain⟨_,rfl⟩:=len1 q;rfl)
   case u_1 =>
    refine' qz KX G (ps:=["thing","least","most"]) ?a ?l ?c ?d ?h ?t ?k ?b
    (case a|l|c|d=>k_is);(case h|t=>rfl);(case k=>k_is)
    (case b=>intro _ _ _ _ _ _ _ q;obtain⟨_,_,_,rfl⟩:=len3 q;rfl)
   case u_2 =>
    refine' qz KX G (ps:=["one","other"]) ?a ?l ?c ?d ?h ?t ?k ?b
    (case a|l|c|d=>k_is);(case h|t=>rfl);(case k=>k_is)
    (case b=>intro _ _ _ _ _ _ _ q;obtain⟨_,_,rfl⟩:=len2 q;rfl)
   case u_3 =>
    refine' qz KX G (ps:=["top","bottom"]) ?a ?l ?c ?d ?h ?t ?k ?b
    (case a|l|c|d=>k_is);(case h|t=>rfl);(case k=>k_is)
    (case b=>intro _ _ _ _ _ _ _ q;obtain⟨_,_,rfl⟩:=len2 q;rfl)
   case u_4 =>
    refine' qz KX G (ps:=["thing"]) ?a ?l ?c ?d ?h ?t ?k ?b
    (case a|l|c|d=>k_is);(case h|t=>rfl);(case k=>k_is)
    (case b=>intro _ _ _ _ _ _ _ q;obtain⟨_,rfl⟩:=len1 q;rfl)
   case u_5 =>
    refine' qz KX G (ps:=["thing"]) ?a ?l ?c ?d ?h ?t ?k ?b
    (case a|l|c|d=>k_is);(case h|t=>rfl);(case k=>k_is)
    (case b=>intro _ _ _ _ _ _ _ q;obtain⟨_,rfl⟩:=len1 q;rfl)
   case u_7 =>
    refine' qz KX G (ps:=["amounts"]) ?a ?l ?c ?d ?h ?t ?k ?b
    (case a|l|c|d=>k_is);(case h|t=>rfl);(case k=>k_is)
    (case b=>intro _ _ _ _ _ _ _ q;obtain⟨_,rfl⟩:=len1 q;rfl)
   case u_8 =>
    refine' qz KX G (ps:=["one","divisor"]) ?a ?l ?c ?d ?h ?t ?k ?b
    (case a|l|c|d=>k_is);(case h|t=>rfl);(case k=>k_is)
    (case b=>intro _ _ _ _ _ _ _ q;obtain⟨_,_,rfl⟩:=len2 q;rfl)
   case u_9 =>
    refine' qz KX G (ps:=["thing"]) ?a ?l ?c ?d ?h ?t ?k ?b
    (case a|l|c|d=>k_is);(case h|t=>rfl);(case k=>k_is)
    (case b=>intro _ _ _ _ _ _ _ q;obtain⟨_,rfl⟩:=len1 q;rfl)
   case u_10 =>
    refine' qz KX G (ps:=["thing"]) ?a ?l ?c ?d ?h ?t ?k ?b
    (case a|l|c|d=>k_is);(case h|t=>rfl);(case k=>k_is)
    (case b=>intro _ _ _ _ _ _ _ q;obtain⟨_,rfl⟩:=len1 q;rfl)
   case u_11 =>
    refine' qz KX G (ps:=["thing","many"]) ?a ?l ?c ?d ?h ?t ?k ?b
    (case a|l|c|d=>k_is);(case h|t=>rfl);(case k=>k_is)
    (case b=>intro _ _ _ _ _ _ _ q;obtain⟨_,_,rfl⟩:=len2 q;rfl)
   case u_12 =>
    refine' qz KX G (ps:=["thing","many"]) ?a ?l ?c ?d ?h ?t ?k ?b
    (case a|l|c|d=>k_is);(case h|t=>rfl);(case k=>k_is)
    (case b=>intro _ _ _ _ _ _ _ q;obtain⟨_,_,rfl⟩:=len2 q;rfl)
   case u_13 =>
    refine' qz KX G (ps:=["thing","many"]) ?a ?l ?c ?d ?h ?t ?k ?b
    (case a|l|c|d=>k_is);(case h|t=>rfl);(case k=>k_is)
    (case b=>intro _ _ _ _ _ _ _ q;obtain⟨_,_,rfl⟩:=len2 q;rfl)
   case u_14 =>
    refine' qz KX G (ps:=["thing","many"]) ?a ?l ?c ?d ?h ?t ?k ?b
    (case a|l|c|d=>k_is);(case h|t=>rfl);(case k=>k_is)
    (case b=>intro _ _ _ _ _ _ _ q;obtain⟨_,_,rfl⟩:=len2 q;rfl)
   case u_15 =>
    refine' qz KX G (ps:=["things"]) ?a ?l ?c ?d ?h ?t ?k ?b
    (case a|l|c|d=>k_is);(case h|t=>rfl);(case k=>k_is)
    (case b=>intro _ _ _ _ _ _ _ q;obtain⟨_,rfl⟩:=len1 q;rfl)
   case u_16 =>
    refine' qz KX G (ps:=["thing"]) ?a ?l ?c ?d ?h ?t ?k ?b
    (case a|l|c|d=>k_is);(case h|t=>rfl);(case k=>k_is)
    (case b=>intro _ _ _ _ _ _ _ q;obtain⟨_,rfl⟩:=len1 q;rfl)
   case u_17 =>
    refine' qz KX G (ps:=["web","thing"]) ?a ?l ?c ?d ?h ?t ?k ?b
    (case a|l|c|d=>k_is);(case h|t=>rfl);(case k=>k_is)
    (case b=>intro _ _ _ _ _ _ _ q;obtain⟨_,_,rfl⟩:=len2 q;rfl)
   case u_18 =>
    refine' qz KX G (ps:=["tie","thing"]) ?a ?l ?c ?d ?h ?t ?k ?b
    (case a|l|c|d=>k_is);(case h|t=>rfl);(case k=>k_is)
    (case b=>intro _ _ _ _ _ _ _ q;obtain⟨_,_,rfl⟩:=len2 q;rfl)
   case u_19 =>
    refine' qz KX G (ps:=["web","thing"]) ?a ?l ?c ?d ?h ?t ?k ?b
    (case a|l|c|d=>k_is);(case h|t=>rfl);(case k=>k_is)
    (case b=>intro _ _ _ _ _ _ _ q;obtain⟨_,_,rfl⟩:=len2 q;rfl)
   case u_20 =>
    refine' qz KX G (ps:=["web","laying"]) ?a ?l ?c ?d ?h ?t ?k ?b
    (case a|l|c|d=>k_is);(case h|t=>rfl);(case k=>k_is)
    (case b=>intro _ _ _ _ _ _ _ q;obtain⟨_,_,rfl⟩:=len2 q;rfl)
   case u_21 =>
    refine' qz KX G (ps:=["web","laying"]) ?a ?l ?c ?d ?h ?t ?k ?b
    (case a|l|c|d=>k_is);(case h|t=>rfl);(case k=>k_is)
    (case b=>intro _ _ _ _ _ _ _ q;obtain⟨_,_,rfl⟩:=len2 q;rfl)
   case u_22 =>
    refine' qz KX G (ps:=["web","laying"]) ?a ?l ?c ?d ?h ?t ?k ?b
    (case a|l|c|d=>k_is);(case h|t=>rfl);(case k=>k_is)
    (case b=>intro _ _ _ _ _ _ _ q;obtain⟨_,_,rfl⟩:=len2 q;rfl)
   case u_23 =>
    refine' qz KX G (ps:=["places","amounts","high"]) ?a ?l ?c ?d ?h ?t ?k ?b
    (case a|l|c|d=>k_is);(case h|t=>rfl);(case k=>k_is)
    (case b=>intro _ _ _ _ _ _ _ q;obtain⟨_,_,_,rfl⟩:=len3 q;rfl)
   case u_24 =>
    refine' qz KX G (ps:=["_law_cell"]) ?a ?l ?c ?d ?h ?t ?k ?b
    (case a|l|c|d=>k_is);(case h|t=>rfl);(case k=>k_is)
    (case b=>intro _ _ _ _ _ _ _ q;obtain⟨_,rfl⟩:=len1 q;rfl)
   case u_25 =>
    refine' qz KX G (ps:=["_law_script","_law_k"]) ?a ?l ?c ?d ?h ?t ?k ?b
    (case a|l|c|d=>k_is);(case h|t=>rfl);(case k=>k_is)
    (case b=>intro _ _ _ _ _ _ _ q;obtain⟨_,_,rfl⟩:=len2 q;rfl)
   case u_26 =>
    refine' qz KX G (ps:=["_law_pack_here","_law_size"]) ?a ?l ?c ?d ?h ?t ?k ?b
    (case a|l|c|d=>k_is);(case h|t=>rfl);(case k=>k_is)
    (case b=>intro _ _ _ _ _ _ _ q;obtain⟨_,_,rfl⟩:=len2 q;rfl)
   case u_27 =>
    refine' qz KX G (ps:=["_law_top","_law_bottom"]) ?a ?l ?c ?d ?h ?t ?k ?b
    (case a|l|c|d=>k_is);(case h|t=>rfl);(case k=>k_is)
    (case b=>intro _ _ _ _ _ _ _ q;obtain⟨_,_,rfl⟩:=len2 q;rfl)
   case u_28 =>
    refine' qz KX G (ps:=["_law_pack_here","_law_many"]) ?a ?l ?c ?d ?h ?t ?k ?b
    (case a|l|c|d=>k_is);(case h|t=>rfl);(case k=>k_is)
    (case b=>intro _ _ _ _ _ _ _ q;obtain⟨_,_,rfl⟩:=len2 q;rfl)
   case u_29 =>
    refine' qz KX G (ps:=["_law_pack_here","_law_most","_law_ties"]) ?a ?l ?c ?d ?h ?t ?k ?b
    (case a|l|c|d=>k_is);(case h|t=>rfl);(case k=>k_is)
    (case b=>intro _ _ _ _ _ _ _ q;obtain⟨_,_,_,rfl⟩:=len3 q;rfl)
   case u_30 =>
    refine' qz KX G (ps:=["_law_one","_law_other"]) ?a ?l ?c ?d ?h ?t ?k ?b
    (case a|l|c|d=>k_is);(case h|t=>rfl);(case k=>k_is)
    (case b=>intro _ _ _ _ _ _ _ q;obtain⟨_,_,rfl⟩:=len2 q;rfl)
   case u_31 =>
    refine' qz KX G (ps:=["_law_pack_here","_law_web_here"]) ?a ?l ?c ?d ?h ?t ?k ?b
    (case a|l|c|d=>k_is);(case h|t=>rfl);(case k=>k_is)
    (case b=>intro _ _ _ _ _ _ _ q;obtain⟨_,_,rfl⟩:=len2 q;rfl)
   case u_32 =>
    refine' qz KX G (ps:=["_law_web_here","_law_laying_here"]) ?a ?l ?c ?d ?h ?t ?k ?b
    (case a|l|c|d=>k_is);(case h|t=>rfl);(case k=>k_is)
    (case b=>intro _ _ _ _ _ _ _ q;obtain⟨_,_,rfl⟩:=len2 q;rfl)
   case u_33 =>
    refine' qz KX G (ps:=["_law_pack_here","_law_one"]) ?a ?l ?c ?d ?h ?t ?k ?b
    (case a|l|c|d=>k_is);(case h|t=>rfl);(case k=>k_is)
    (case b=>intro _ _ _ _ _ _ _ q;obtain⟨_,_,rfl⟩:=len2 q;rfl)
   case u_34 =>
    refine' qz KX G (ps:=["_law_e","_law_at"]) ?a ?l ?c ?d ?h ?t ?k ?b
    (case a|l|c|d=>k_is);(case h|t=>rfl);(case k=>k_is)
    (case b=>intro _ _ _ _ _ _ _ q;obtain⟨_,_,rfl⟩:=len2 q;rfl)
   case u_35 =>
    refine' qz KX G (ps:=["_law_asked","_law_web_here","_law_laying_here"]) ?a ?l ?c ?d ?h ?t ?k ?b
    (case a|l|c|d=>k_is);(case h|t=>rfl);(case k=>k_is)
    (case b=>intro _ _ _ _ _ _ _ q;obtain⟨_,_,_,rfl⟩:=len3 q;rfl)
   case u_36 =>
    refine' qz KX G (ps:=["_law_pack_here","_law_web_here"]) ?a ?l ?c ?d ?h ?t ?k ?b
    (case a|l|c|d=>k_is);(case h|t=>rfl);(case k=>k_is)
    (case b=>intro _ _ _ _ _ _ _ q;obtain⟨_,_,rfl⟩:=len2 q;rfl)
   case u_37 =>
    refine' qz KX G (ps:=["_law_pack_here","_law_laying_here"]) ?a ?l ?c ?d ?h ?t ?k ?b
    (case a|l|c|d=>k_is);(case h|t=>rfl);(case k=>k_is)
    (case b=>intro _ _ _ _ _ _ _ q;obtain⟨_,_,rfl⟩:=len2 q;rfl)
   case u_38 =>
    refine' qz KX G (ps:=["_law_script"]) ?a ?l ?c ?d ?h ?t ?k ?b
    (case a|l|c|d=>k_is);(case h|t=>rfl);(case k=>k_is)
    (case b=>intro _ _ _ _ _ _ _ q;obtain⟨_,rfl⟩:=len1 q;rfl)
  obtain⟨f,fd,c,t,hm,U,hb⟩:=p.u_38
  have e0:=hmg.symm.trans hm
  cases e0
  obtain⟨oc,od,kV,doc,pm,an,ct,osl,rfl,lk,hcd⟩:=U.ex
  exact⟨_,λs u=>.of_eq rfl,λbase kb _=>RP.o_38 p kb (RP.qgR p kb 14) U⟩
end
