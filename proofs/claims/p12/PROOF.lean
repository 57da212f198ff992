import PyProof.Rows.All
import Wide.All
import OpenK.AllK
import Wide.FinOn
import Lean
import PyProof.EqAt
import PyProof.EqKinds
import PyProof.TupleCall
import PyProof.DictTruth
import PyProof.Conv_int_bool
import PyProof.SumAnyB
import PySem.Challenge.RW_weblayers_k12_whole_places_called_otherw
set_option autoImplicit true
set_option relaxedAutoImplicit true
set_option Elab.async false
set_option linter.all false
set_option maxRecDepth 100000
set_option maxHeartbeats 4000000
set_option genSizeOf false
set_option genSizeOfSpec false
set_option hygiene false
set_option compiler.extract_closed false
local macro_rules
|`(00)=>`(by lia)
|`(01)=>`(List Addr)
|`(02)=>`(by decide)
|`(03)=>`(model X.prog X.w)
|`(04)=>`(List (Addr×Obj))
|`(05)=>`(En->Sr->Res D)
|`(06)=>`(Value->Shared->Prop)
|`(07)=>`(List (List Int))
section
open PySem PySem.Spec PyProof.Rows Spec
def w1:=@codeAny_builtin
def w4:=@PySem.W.kia_one
def wh:=@List.nodup_cons
def wi:=@List.length_zip
def wr:=@List.length_take
def ws:=@Int.eq_of_mul_eq_mul_right
def vU:=@wpAny_field
def vV:=@sizeLine_eq
def vW:=@PySem.mem_of_lookup
def vX:=@List.nodup_append
def vY:=@List.mem_range
def vZ:=@Heap.size_push
def v5:=@List.map_append
def v6:=@if_true
def v7:=@List.lookup_cons
def v8:=@List.getElem?_set_ne
def v9:=@plainId_quiet
def va:=@decide_eq_false_iff_not
def vb:=@F.slot_dict_keyiterator_next
def vc:=@wpAny_rule
def vd:=@Bool.not_eq_true'
def ve:=@PyProof.Rows.callWith_type1
def vf:=@List.append_nil
def vg:=@Bool.or_eq_true
def vh:=@Array.length_toList
def vi:=@Array.getElem_setIfInBounds
def vj:=@List.getElem?_set_self
def vk:=@List.drop_of_length_le
def vl:=@Nat.ne_of_gt
def vm:=@Nat.le_of_ble_eq_true
def vn:=@List.zip_map_right
def vo:=@List.length_singleton
def vp:=@List.getElem?_eq_none
def vq:=@List.any_cons
def vr:=@Heap.get?_update_self
def vt:=@Calls.spliced_cons
def vu:=@List.getElem?_zip_eq_some
def vw:=@List.drop_eq_getElem_cons
def vx:=@Array.getElem?_eq_getElem
def vy:=@List.mem_of_mem_take
def vz:=@List.length_nil
def uA:=@List.flatten_cons
def uB:=@if_false
def uC:=@List.getElem?_range
def uD:=@List.getElem?_cons_zero
def uE:=@wpAny_typeNameOfWhole_keyiter
def uF:=@List.not_mem_nil
def uG:=@wpAny_seqItems
def uH:=@call_meets
def uI:=@beq_iff_eq
def uJ:=@wpAny_setField_rec
def uK:=@assignInOrder_cons
def uL:=@List.mem_replicate
def uM:=@wpAny_passesOwn
def uN:=@List.zip_map
def uO:=@List.mem_filter
def uP:=@List.length_replicate
def uQ:=@Array.getElem?_toList
def uR:=@Nat.lt_succ_of_lt
def uS:=@List.pairwise_map
def uT:=@List.ext_getElem?
def uU:=@F.plain_list_iadd
def uV:=@Calls.spliced_nil
def uW:=@Int.fdiv_eq_ediv_of_nonneg
def uX:=@F.slot_tuple_iterator_next
def uY:=@Int.mul_le_mul
def uZ:=@List.getElem_map
def u4:=@wpAny_typeNameOf_keyiter
def u5:=@List.map_nil
def u6:=@List.getElem?_take_of_lt
def u7:=@wpAny_Call_Name_kw
def u8:=@List.getElem_range
def u9:=@List.forIn_cons
def ua:=@List.foldl_cons
def ub:=@List.find?_cons
def uc:=@List.all_cons
def ud:=@Int.fmod_lt_of_pos
def ue:=@PySem.F.sub_tuple_dict
def uf:=@PySem.F.sub_dict_tuple
def ug:=@Array.getElem?_eq_none
def uh:=@Sem.bind_eq_wrap'
def ui:=@Int.mul_pos
def uj:=@F.called_tuple
def uk:=@PyProof.Rows.callWith_builtin1
def ul:=@Array.getElem_push_lt
def um:=@List.prefix_refl
def uo:=@List.getElem_mem
def uq:=@Int.mul_le_mul_of_nonneg_left
def ur:=@Array.toArray_toList
def ut:=@Bool.true_and
def uu:=@wpAny_of_eq
def uv:=@wpAny_letGo
def uw:=@List.drop_succ_cons
def ux:=@Int.mul_lt_mul_of_pos_right
def uy:=@Int.lt_of_mul_lt_mul_right
def uz:=@wpAny_typeOf
def xA:=@Obj.data_mapFields
def xB:=@Nat.lt_of_lt_of_eq
def xC:=@List.map_replicate
def xD:=@List.all_map
def xE:=@wpAny_bindName
def xF:=@List.mem_or_eq_of_mem_set
def xG:=@List.drop_zero
def xH:=@wpAny_dictEntries
def xI:=@PySem.F.args_tuple_add_2
def xJ:=@List.getElem?_set
def xK:=@List.flatMap_cons
def xL:=@Int.toNat_natCast
def xM:=@F.plain_tuple_new
def xN:=@wpAny_attempt
def xO:=@Sem.wrap_wrap
def xP:=@PySem.F.entry_tuple_add
def xQ:=@List.filter_cons_of_pos
def xR:=@List.filter_cons_of_neg
def xS:=@Option.bind_none
def xT:=@Nat.lt_succ_self
def xU:=@Nat.le_add_right
def xV:=@List.map_fst_zip
def xW:=@List.getElem_inj
def xX:=@List.any_eq_true
def xY:=@richCompare_meets_room
def xZ:=@PySem.F.slot_tuple_add
def x3:=@get?_update_seq
def x4:=@List.sum_append
def x5:=@List.nil_append
def x6:=@List.map_set
def x8:=@List.length_set
def x9:=@List.Pairwise.and_mem
def xa:=@Int.lt_or_le
def xb:=@Int.le_of_lt
def xc:=@F.slot_zip_next
def xf:=@F.slot_int_rmul
def xg:=@F.plain_proto_collect
def xh:=@F.entry_proto_collect
def xi:=@wpAny_updateSeq_pair
def xj:=@wpAny_newFunctionEnv
def xk:=@wpAny_setField
def xl:=@wpAny_fieldsOf
def xm:=@Bool.false_and
end
section
open PySem PySem.Spec PyProof.Rows Spec
def wB:=@wpAny_bind
def wC:=@Heap.get?_push_of_some
def wD:=@List.getElem?_eq_getElem
def wE:=@wpAny_pure
def wF:=@List.length_map
def wG:=@List.mem_append_right
def wH:=@List.mem_cons_self
def wI:=@List.getElem?_append_right
def wJ:=@List.map_map
def wK:=@List.getD_eq_getElem?_getD
def wL:=@List.mem_cons_of_mem
def wM:=@Heap.get?_push_size
def wN:=@Nat.le_refl
def wO:=@List.getElem?_eq_some_iff
def wP:=@Heap.lt_size
def wQ:=@List.getElem?_append_left
def wR:=@if_pos
def wS:=@List.size_toArray
def wT:=@if_neg
def wU:=@List.map_cons
def wV:=@List.length_append
def wW:=@List.mem_map
def wX:=@List.mem_cons
def wY:=@Option.bind_some
def wZ:=@Bool.and_eq_true
def w5:=@List.getElem?_map
def w6:=@List.mem_singleton
def w8:=@Nat.lt_of_lt_of_le
def w9:=@List.mem_append
def wa:=@wpAny_newObj_type
def wb:=@Bool.false_ne_true
def wc:=@List.mem_of_getElem?
def wd:=@decide_eq_false
def we:=@List.all_eq_true
def wf:=@List.append_assoc
def wg:=@Option.map_some
def wj:=@List.length_cons
def wk:=@Nat.ne_of_lt
def wm:=@decide_eq_true_eq
def wn:=@List.of_mem_zip
def wo:=@List.map_congr_left
def wp:=@List.mem_append_left
def wq:=@decide_eq_true
def wt:=@List.length_eq_zero_iff
def wu:=@wpAny_standAt
def wv:=@List.zip_cons_cons
def ww:=@Bool.eq_iff_iff
def wx:=@List.pairwise_cons
def wy:=@Heap.get?_update_other
def wz:=@wpAny_mono
def vA:=@wpAny_callSpecial?_slot
def vB:=@beq_eq_false_iff_ne
def vC:=@Around.under_plainId
def vD:=@List.set_append_right
def vE:=@wpAny_holding
def vF:=@List.getElem?_replicate
def vG:=@wpAny_call_entry
def vH:=@Int.fdiv_nonneg
def vI:=@Bool.false_eq_true
def vJ:=@Sem.onRaise_eq_wrap
def vK:=@Nat.le_trans
def vL:=@List.replicate_succ
def vM:=@of_decide_eq_true
def vN:=@PyProof.Rows.slot_tuple_getitem
def vO:=@List.sum_cons
def vP:=@Nat.zero_le
def vQ:=@Int.fmod_nonneg_of_pos
def vR:=@Nat.lt_irrefl
def vS:=@List.getElem_of_mem
def vT:=@wpAny_truthy_bool
end
namespace L2
open PySem PySem.Spec PyProof.Rows
noncomputable abbrev Key:=Sum Int Str
noncomputable def keyIs:Key->Value->Bool
 | .inl k,v=>Value.isInt k v
 | .inr x,v=>Value.isStrOf x v
noncomputable def keyH(w:World):Key->Int
 | .inl k=>hashInt k
 | .inr x=>hashStr w x
def keyIs_shape:∀{k:Key} {v:Value},keyIs k v=true->(∃i t,k=Sum.inl i/\v=Value.int i t)\/(∃x t,k=Sum.inr x/\v=Value.str x t)
 | .inl i,v,h=>by
  obtain⟨t,e⟩:=Value.isInt_shape (k:=i) (v:=v) h;exact .inl ⟨i,t,rfl,e⟩
 | .inr x,v,h=>by
  obtain⟨t,e⟩:=Value.isStrOf_shape (x:=x) (v:=v) h;exact .inr ⟨x,t,rfl,e⟩
def qeE(i:Int)(t:Tok):keyIs (.inl i) (.int i t)=true:=by simp[keyIs,Value.isInt]
def qeF(x:Str)(t:Tok):keyIs (.inr x) (.str x t)=true:=by simp[keyIs,Value.isStrOf]
def qju(a b:Int):decide ((Sum.inl a:Key)=Sum.inl b)=(a == b):=by
 by_cases e:a=b
 .subst e;simp
 .have h:¬(Sum.inl a:Key)=Sum.inl b:=λq=>e (Sum.inl.inj q)
  rw[wd h];exact(vB.mpr e).symm
def qjv(a b:Str):decide ((Sum.inr a:Key)=Sum.inr b)=decide (a=b):=by
 by_cases e:a=b
 .subst e;simp
 .have h:¬(Sum.inr a:Key)=Sum.inr b:=λq=>e (Sum.inr.inj q)
  rw[wd h,wd e]
def qjw(a:Int)(b:Str):decide ((Sum.inl a:Key)=Sum.inr b)=false:=wd (λq=>nomatch q)
def qjx(a:Str)(b:Int):decide ((Sum.inr a:Key)=Sum.inl b)=false:=wd (λq=>nomatch q)
noncomputable def mixKind(prog:Program)(w:World):PySem.KeyKind prog w Key where
 is:=keyIs
 hash:=keyH w
 inj:=λv a b ha hb=>by
  rcases keyIs_shape ha with ⟨i,t,rfl,rfl⟩|⟨x,t,rfl,rfl⟩
  .rcases keyIs_shape hb with ⟨j,u,rfl,e⟩|⟨y,u,rfl,e⟩
   .injection e with e1 _;rw[e1]
   .exact nomatch e
  .rcases keyIs_shape hb with ⟨j,u,rfl,e⟩|⟨y,u,rfl,e⟩
   .exact nomatch e
   .injection e with e1 _;rw[e1]
 byValue:=λk v h=>by
  rcases keyIs_shape h with ⟨i,t,rfl,rfl⟩|⟨x,t,rfl,rfl⟩ <;> rfl
 pyHash:=λc h=>by
  rcases keyIs_shape c with ⟨i,t,rfl,rfl⟩|⟨x,t,rfl,rfl⟩
  .exact wpAny_pyHash_int h
  .exact wpAny_pyHash_str h
 eqBool:=λd c h=>by
  rcases keyIs_shape d with ⟨i,t,rfl,rfl⟩|⟨x,t,rfl,rfl⟩
  .rcases keyIs_shape c with ⟨j,u,rfl,rfl⟩|⟨y,u,rfl,rfl⟩
   .rw [qju]at h;exact wpAny_eqBool_int h
   .rw [qjw]at h;exact SeqAt.EqAt.int_str i t y u _ _ _ _ h
  .rcases keyIs_shape c with ⟨j,u,rfl,rfl⟩|⟨y,u,rfl,rfl⟩
   .rw [qjx]at h;exact SeqAt.EqAt.str_int x t j u _ _ _ _ h
   .rw [qjv]at h;exact wpAny_eqBool_str h
 «strs»:=λk x t v h=>by
  rcases keyIs_shape h with ⟨i,u,rfl,e⟩|⟨y,u,rfl,e⟩
  .exact nomatch e
  .injection e with e1 _
   subst e1;cases v <;> rfl
def qbP(prog:Program)(w:World)(i:Int)(t:Tok):(mixKind prog w).is (.inl i) (.int i t)=true:=qeE i t
def qbQ(prog:Program)(w:World)(x:Str)(t:Tok):(mixKind prog w).is (.inr x) (.str x t)=true:=qeF x t
inductive V where
 |non|bl (b:Bool)|int (i:Int)|str (x:Str)|byt (b:Array UInt8)|flt (b:UInt64)|ref (a:Addr)|ty (n:String)
 deriving DecidableEq
def RelV:V->Value->Prop
 | .non,u=>u=Value.none
 | .bl b,u=>u=Value.bool b
 | .int i,u=>∃t,u=Value.int i t
 | .str x,u=>∃t,u=Value.str x t
 | .byt b,u=>∃t,u=Value.bytes b t
 | .flt b,u=>∃t,u=Value.float b t
 | .ref a,u=>u=Value.ref a
 | .ty n,u=>u=Value.type n
noncomputable abbrev Vals:List V->List Value->Prop:=Paired RelV
def Vals.length{xs:List V}{us:List Value}(r:Vals xs us):xs.length=us.length:=Paired.length r
def Vals.get:∀{xs:List V} {us:List Value} {i:Nat} {x:V},Vals xs us->xs[i]?=some x->∃u,us[i]?=some u/\RelV x u
 |_,_,_,_,.nil,e=>by simp at e
 |_,_,0,_,.cons r _,e=>by simp at e;subst e;exact⟨_,rfl,r⟩
 |_,_,i+1,x,.cons _ t,e=>by
  obtain⟨u,a,b⟩:=Vals.get (i:=i) (x:=x) t (by simpa using e);exact⟨u,by simpa using a,b⟩
def Vals.set{x:V}{u:Value}(r:RelV x u):∀{xs:List V} {us:List Value} (i:Nat),Vals xs us->Vals (xs.set i x) (us.set i u)
 |_,_,_,.nil=>.nil
 |_,_,0,.cons _ t=>.cons r t
 |_,_,i+1,.cons q t=>.cons q (Vals.set r i t)
def Vals.append:∀{xs ys:List V} {us a:List Value},Vals xs us->Vals ys a->Vals (xs++ys) (us++a)
 |_,_,_,_,.nil,s=>s
 |_,_,_,_,.cons r t,s=>.cons r (Vals.append t s)
def Vals.take:∀{xs:List V} {us:List Value} (n:Nat),Vals xs us->Vals (xs.take n) (us.take n)
 |_,_,0,_=>.nil
 |_,_,_+1,.nil=>.nil
 |_,_,n+1,.cons r t=>.cons r (Vals.take n t)
def Vals.drop:∀{xs:List V} {us:List Value} (n:Nat),Vals xs us->Vals (xs.drop n) (us.drop n)
 |_,_,0,r=>r
 |_,_,_+1,.nil=>.nil
 |_,_,n+1,.cons _ t=>Vals.drop n t
def RelO:Option V->Option Value->Prop
 |some v,some u=>RelV v u
 |none,none=>True
 |_,_=>False
noncomputable def KV{κ:Type}:List (κ×V)->List (κ×Value)->Prop:=Paired λ(p:κ×V) (q:κ×Value)=>p.1=q.1/\RelV p.2 q.2
noncomputable def kV:Key->V
 | .inl i=>.int i
 | .inr x=>.str x
inductive HO where
 |l (xs:List V)
 |t (xs:List V)
 |dK (kvs:List (Key×V))|dT (kvs:List (List Key×V))
 |set (S:Int->Bool) (n:Nat)
 |ins (C dx:Addr) (fs:List (Str×V))
 |own (x:Addr)
 |xd (fs:List (Str×V))
 |met (f x:Addr)
 |rng (lo hi:Int)
 |frz (o:Obj) (u:HO)
 |tbl (ps:Array Value)
 |ext (φ:Heap->Prop)
noncomputable abbrev Hp:=Addr->Option HO
noncomputable def upd(H:Hp)(a:Addr)(o:HO):Hp:=λb=>if b=a then some o else H b
def qB{H:Hp}{a:Addr}{o:HO}:upd H a o a=some o:=by unfold upd;rw[wR rfl]
def qm{H:Hp}{a b:Addr}{o:HO}(h:b≠a):upd H a o b=H b:=by unfold upd;rw[wT h]
def qlp{H:Hp}{a b:Addr}{o u:HO}(h:H a=some o)(h':H b=some u)(d:o≠u):a≠b:=by
 intro e;subst e;rw[h]at h';exact d (Option.some.inj h')
def zz{H:Hp}{a b:Addr}{o:HO}(h:H a=some o)(h':H b=none):a≠b:=by
 intro e;subst e;rw[h]at h';cases h'
def yF(h:Heap)(a:Array Value):∀o,(h.push {cls:=.type "tuple",data:=.seq a}).get? h.objs.size=some o->o.dict=none:=λo q=>by
 rw[wM _ rfl]at q;cases q;rfl
section
variable(P:Program)(w:World)
def ObjOk(H:Hp)(h:Heap)(a:Addr):HO->Prop
 | .l xs=>xs.length<=sizeLine/\∃(b:List Value) (n:Nat),Vals xs b/\h.get? a=some {cls:=.type "list",data:=.seq b.toArray n}
 | .t xs=>xs.length<=sizeLine/\∃b:List Value,Vals xs b/\IsTup h a b.toArray/\∀o,h.get? a=some o->o.dict=none
 | .dK kvs=>kvs.length<=sizeLine/\(a == sysModules)=false/\∃vs,KV kvs vs/\h.DictOf (mixKind P w) a vs
 | .dT kvs=>kvs.length<=sizeLine/\(a == sysModules)=false/\∃xs:List (List Key×Addr×Value),
   Paired (λ(p:List Key×V) (q:List Key×Addr×Value)=>p.1=q.1/\H q.2.1=some (.t (p.1.map kV))/\RelV p.2 q.2.2) kvs xs /\
   ∃o es j,h.get? a=some o/\o.ExactDict/\o.data=.dict es j/\es.toList=xs.map (entryOfKey (tupleKind (mixKind P w)))/\(xs.map (·.1)).Nodup
 | .set S n=>h.SetOf (intKind P w) a S n
 | .ins C dx fs=>H dx=some (.own a)/\fs.length<=1000/\dx≠a/\h.get? a=some (PySem.W.instObj C dx) /\
   ∃mA,h.Ns1 dx mA/\(∀f,RelO (fs.lookup f) (mA f))/\PySem.Within mA (fs.map (·.1))
 | .own _=>∃o,h.get? a=some o
 | .xd fs=>∃mA,h.Ns1 a mA/\∀f,RelO (fs.lookup f) (mA f)
 | .rng lo hi=>∃t u v,h.get? a=some {cls:=.type "range",data:=.fields #[.int lo t,.int hi u,.int 1 v]}
 | .frz o u=>h.get? a=some o/\ObjOk H h a u
 | .tbl ps=>h.get? a=some {cls:=.none,data:=.fields ps}/\TriplesOk ps.toList
 | .met f x=>h.get? a=some (PySem.W.methodObj (.ref f) (.ref x))
 | .ext c=>c h/\(∃o,h.get? a=some o)/\∀d i:Heap,c d->(∀o,d.get? a=some o->i.get? a=some o)->c i
def HOk(H:Hp)(h:Heap):Prop:=∀a o,H a=some o->ObjOk P w H h a o
end
section
variable{P:Program}{w:World}{H H':Hp}{h h':Heap}{a:Addr}{o:HO}
theorem ObjOk.lt(x:ObjOk P w H h a o):a<h.objs.size:=by
 cases o with
 |l xs=>obtain⟨_,_,_,_,e⟩:=x;exact wP e
 |t xs=>obtain⟨_,_,_,p,_⟩:=x;exact p.lt
 |dK kvs=>obtain⟨_,_,_,_,o,_,_,e,_⟩:=x;exact wP e
 |dT kvs=>obtain⟨_,_,_,_,o,_,_,e,_⟩:=x;exact wP e
 |set S n=>obtain⟨o,_,_,_,e,_⟩:=x;exact wP e
 |ins C dx fs=>obtain⟨_,_,_,e,_⟩:=x;exact wP e
 |own y=>obtain⟨_,e⟩:=x;exact wP e
 |xd fs=>obtain⟨_,⟨_,_,_,e,_⟩,_⟩:=x;exact wP e
 |rng lo hi=>obtain⟨_,_,_,e⟩:=x;exact wP e
 |frz ob u=>obtain⟨e,_⟩:=x;exact wP e
 |tbl ps=>exact wP (show h.get? a=some _ from x.1)
 |met f y=>exact wP (show h.get? a=some _ from x)
 |ext b=>obtain⟨_,⟨_,e⟩,_⟩:=x;exact wP e
theorem Paired.mapP{i j:Type}{F G:i->j->Prop}:∀{c:List i} {d:List j},Paired F c d->(∀a b,F a b->G a b)->Paired G c d
 |_,_,.nil,_=>.nil
 |_,_,.cons r t,f=>.cons (f _ _ r) (Paired.mapP t f)
theorem ObjOk.stay(x:ObjOk P w H h a o)(k:∀b u,(b=a\/H b=some (.own a))->h.get? b=some u->h'.get? b=some u)(l:∀b,H b=some (.own a)->H' b=some (.own a))(m:∀b xs,H b=some (.t xs)->H' b=some (.t xs)):ObjOk P w H' h' a o:=by
 induction o with
 |l xs=>obtain⟨z,j,n,r,e⟩:=x;exact⟨z,j,n,r,k _ _ (.inl rfl) e⟩
 |t xs=>obtain⟨z,j,r,⟨ob,e,c⟩,nd⟩:=x;exact⟨z,j,r,⟨ob,k _ _ (.inl rfl) e,c⟩,λo q=>by rw[k _ _ (.inl rfl) e]at q;cases q;exact nd _ e⟩
 |dK kvs=>obtain⟨z,y,vs,r,ob,es,i,e,c⟩:=x;exact⟨z,y,vs,r,ob,es,i,k _ _ (.inl rfl) e,c⟩
 |dT kvs =>
  obtain⟨z,y,xs,r,ob,es,i,e,c⟩:=x;exact⟨z,y,xs,Paired.mapP r λp q z=>⟨z.1,m _ _ z.2.1,z.2.2⟩,ob,es,i,k _ _ (.inl rfl) e,c⟩
 |set S n=>obtain⟨ob,es,i,t,e,c⟩:=x;exact⟨ob,es,i,t,k _ _ (.inl rfl) e,c⟩
 |ins C dx fs =>
  obtain⟨d,z,ne,e,mA,⟨od,es,i,s,c⟩,r⟩:=x;exact⟨l _ d,z,ne,k _ _ (.inl rfl) e,mA,⟨od,es,i,k _ _ (.inr d) s,c⟩,r⟩
 |own y=>obtain⟨ob,e⟩:=x;exact⟨ob,k _ _ (.inl rfl) e⟩
 |xd fs=>obtain⟨mA,⟨od,es,i,e,c⟩,r⟩:=x;exact⟨mA,⟨od,es,i,k _ _ (.inl rfl) e,c⟩,r⟩
 |rng lo hi=>obtain⟨t,u,v,e⟩:=x;exact⟨t,u,v,k _ _ (.inl rfl) e⟩
 |frz ob u A=>obtain⟨e,q⟩:=x;exact⟨k _ _ (.inl rfl) e,A q⟩
 |tbl ps =>
  obtain⟨e,z⟩:=x;exact⟨k a _ (.inl rfl) e,z⟩
 |met f y =>
  have e:h.get? a=some (PySem.W.methodObj (.ref f) (.ref y)):=x;show h'.get? a=some (PySem.W.methodObj (.ref f) (.ref y));exact k a _ (.inl rfl) e
 |ext B=>obtain⟨p,⟨o,e⟩,st⟩:=x;exact⟨st _ _ p λo q=>k _ _ (.inl rfl) q,⟨o,k _ _ (.inl rfl) e⟩,st⟩
theorem HOk.lt(x:HOk P w H h)(e:H a=some o):a<h.objs.size:=(x a o e).lt
theorem HOk.fresh(x:HOk P w H h)(e:h.objs.size<=a):H a=none:=by
 cases q:H a with
 |none=>rfl
 |some u=>exact absurd (w8 (x.lt q) e) (vR _)
theorem HOk.kept(x:HOk P w H h)(k:∀b u,h.get? b=some u->h'.get? b=some u):HOk P w H h':=λa o e =>
 (x a o e).stay (λb u _ q=>k b u q) (λ_ q=>q) λ_ _ q=>q
theorem HOk.laid(x:HOk P w H h)(k:∀b u,h.get? b=some u->h'.get? b=some u)(d:h.objs.size<=a)(new:ObjOk P w (upd H a o) h' a o):HOk P w (upd H a o) h':=λb u e=>by
 have hn:=x.fresh d;by_cases hb:b=a
 .subst hb;rw[qB]at e;cases e;exact new
 .rw [qm hb]at e
  exact(x b u e).stay (λc v _ q=>k c v q) (λc q=>by rw[qm (zz q hn)];exact q) λc xs q=>by rw[qm (zz q hn)];exact q
end
def Rd(H:Hp)(a:Addr)(u:HO):Prop:=H a=some u\/∃o,H a=some (.frz o u)
def Rd.ok{P:Program}{w:World}{H:Hp}{h:Heap}{a:Addr}{u:HO}(r:Rd H a u)(x:HOk P w H h):ObjOk P w H h a u:=by
 rcases r with r|⟨o,r⟩
 .exact x a u r
 .obtain ⟨_,q⟩:=x a _ r
  exact q
def Mut:Option HO->Prop
 |some (.l _)=>True
 |some (.dK _)=>True
 |some (.dT _)=>True
 |some (.set _ _)=>True
 |some (.ins _ _ _)=>True
 |some (.ext _)=>True
 |_=>False
section
variable{P:Program}{w:World}{H:Hp}{h h':Heap}{x e:Addr}{o':HO}
theorem HOk.write(ok:HOk P w H h)(i:Mut (H x))(m:e=x\/H e=some (.own x))(k:∀b u,b≠e->h.get? b=some u->h'.get? b=some u)(l:∃u,h'.get? e=some u)(new:ObjOk P w (upd H x o') h' x o'):HOk P w (upd H x o') h':=λb u q=>by
 have d:∀c y,H c=some (.own y)->c≠x:=λc y r z=>by subst z;rw[r]at i;exact i
 have f:∀c xs,H c=some (.t xs)->c≠x:=λc xs r z=>by subst z;rw[r]at i;exact i
 by_cases hb:b=x
 .subst hb;rw[qB]at q;cases q;exact new
 .rw [qm hb]at q
  by_cases a:b=e
  .have n:H b=some (.own x):=by
    rcases m with z|z
    .exact absurd (a.trans z) hb
    .rw [a];exact z
   rw[q]at n;cases n;obtain⟨v,o⟩:=l;exact⟨v,by rw[a];exact o⟩
  .refine (ok b u q).stay (λc v j r=>k c v ?_ r) (λc r=>by rw[qm (d c b r)];exact r) λc xs r=>by rw[qm (f c xs r)];exact r
   rcases j with rfl|j
   .exact a
   .rintro rfl
    rcases m with z|z
    .exact d c b j z
    .rw [j]at z;cases z;exact hb rfl
end
structure Un (fs ex:01) (H H':Hp) (h h':Heap):Prop where
 keep:∀b o,h.get? b=some o->H b=none->b∉fs->b∉ex->h'.get? b=some o
 slot:∀b o,h.get? b=some o->H b=none->b∈fs->b∉ex->∃sl,h'.get? b=some {o with slots:=sl}
 free:∀b o,h.get? b=some o->H b=none->b∉ex->H' b=none
 there:∀b o,h.get? b=some o->b∉ex->∃o',h'.get? b=some o'
 tups:∀b xs,H b=some (.t xs)->H' b=some (.t xs)
 frzs:∀b o u,H b=some (.frz o u)->H' b=some (.frz o u)
 tbls:∀b ps,H b=some (.tbl ps)->∃more,H' b=some (.tbl (ps++more))
section
variable{fs fs' ex ex':List Addr}{H H1 H2:Hp}{h h1 h2 h':Heap}{a x e:Addr}{o:HO}
theorem Un.any(u:Un fs ex H H1 h h1){b:Addr}{ob:Obj}(q:h.get? b=some ob)(n:H b=none)(c:b∉ex):∃sl,h1.get? b=some {ob with slots:=sl}:=by
 by_cases hb:b∈fs
 .exact u.slot b ob q n hb c
 .exact ⟨ob.slots,u.keep b ob q n hb c⟩
theorem Un.kept(k:∀b u,h.get? b=some u->h'.get? b=some u):Un fs ex H H h h' :=
 ⟨λb ob q _ _ _=>k b ob q,λb ob q _ _ _=>⟨ob.slots,k b ob q⟩,λ_ _ _ n _=>n,λb ob q _=>⟨ob,k b ob q⟩,λ_ _ q=>q,λ_ _ _ q=>q,λ_ ps q=>⟨#[],by rw[q];simp⟩⟩
theorem Un.refl:Un fs ex H H h h:=Un.kept λ_ _ q=>q
theorem Un.laid(k:∀b u,h.get? b=some u->h'.get? b=some u)(c:h.objs.size<=a)(hn:H a=none):Un fs ex H (upd H a o) h h' where
 keep:=λb u q _ _ _=>k b u q
 slot:=λb u q _ _ _=>⟨u.slots,k b u q⟩
 free:=λb u q n _=>by rw[qm (wk (w8 (wP q) c))];exact n
 there:=λb u q _=>⟨u,k b u q⟩
 tups:=λb xs q=>by rw[qm (zz q hn)];exact q
 frzs:=λb u xs q=>by rw[qm (zz q hn)];exact q
 tbls:=λb ps q=>⟨#[],by rw[qm (zz q hn),q];simp⟩
theorem Un.write(d:Mut (H x))(j:e=x\/H e=some (.own x))(k:∀b u,b≠e->h.get? b=some u->h'.get? b=some u)(f:∃u,h'.get? e=some u):Un fs ex H (upd H x o) h h':=by
 have i:∀b,H b=none->b≠x:=λb n z=>by subst z;rw[n]at d;exact d
 have hb:∀b,H b=none->b≠e:=λb n z=>by
  subst z;rcases j with r|r
  .exact i b n r
  .rw [n]at r;cases r
 have hm:∀b u,H b=some u->¬Mut (some u)->b≠x:=λb u q nm z=>by subst z;rw[q]at d;exact nm d
 refine⟨λb u q n _ _=>k b u (hb b n) q,λb u q n _ _=>⟨u.slots,k b u (hb b n) q⟩,λb u q n _=>by rw[qm (i b n)];exact n,λb u q _=>?_,
  λb xs q=>by rw[qm (hm b _ q λz=>z)];exact q,λb u xs q=>by rw[qm (hm b _ q λz=>z)];exact q,λb ps q=>⟨#[],by rw[qm (hm b _ q λz=>z),q];simp⟩⟩
 by_cases c:b=e
 .subst c;exact f
 .exact ⟨u,k b u c q⟩
end
structure GK (g g':Array GenState):Prop where
 bare:AllBare g'
 sz:g.size<=g'.size
 old:∀i,i<g.size->g'[i]?=g[i]?
def GK.refl{g:Array GenState}(b:AllBare g):GK g g:=⟨b,wN _,λ_ _=>rfl⟩
def GK.self{g g':Array GenState}(x:GK g g'):GK g' g':=GK.refl x.bare
def GK.trans{g g1 g2:Array GenState}(a:GK g g1)(b:GK g1 g2):GK g g2:=⟨b.bare,vK a.sz b.sz,λi hi=>(b.old i (w8 hi a.sz)).trans (a.old i hi)⟩
noncomputable def sameName(vs:Array Value):Bool:=match(vs[0]?:Option Value),(vs[1]?:Option Value)with
 |some (.str a _),some (.str b _)=>a == b
 |_,_=>false
noncomputable def codeTab(K:PySem.W.Frag)(c T:Addr):Bool:=match K.lookup c with
 |some ⟨cls,_,.fields vs,_⟩=>(cls == .type "code"&&sameName vs)&&(match(vs.getD 11 Value.none:Value),(vs[11]?:Option Value),(vs.getD 18 Value.none:Value),(vs.getD 7 Value.none:Value),(vs.getD 9 Value.none:Value),(vs.getD 10 Value.none:Value)with
  | .ref a,some (.ref b),.str _ _,.int _ _,.bool _,.int _ _=>a == T&&b == T&&c != T
  |_,_,_,_,_,_=>false)
 |_=>false
noncomputable def trk(h:Heap)(H:Hp):List Addr:=(List.range h.objs.size).filter λa=>(H a).isSome
noncomputable def hidT(h:Heap)(H:Hp):Heap:=PySem.W.hideAll h (trk h H)
def qeG(h:Heap)(H:Hp):(hidT h H).objs.size=h.objs.size:=PySem.W.hideAll_size _ _
def qfk{h:Heap}{H:Hp}{b:Addr}{o:Obj}(e:h.get? b=some o)(n:H b=none):(hidT h H).get? b=some o :=
 PySem.W.hideAll_get _ e λhm=>by
  have q:(H b).isSome=true:=(uO.mp hm).2;rw[n]at q;simp at q
def qhy{h:Heap}{H:Hp}{b:Addr}{o:Obj}(e:(hidT h H).get? b=some o):h.get? b=some o/\H b=none:=by
 have a:h.get? b=some o:=PySem.W.of_hideAll (trk h H) e;refine⟨a,?_⟩;cases q:H b with
 |none=>rfl
 |some x =>
  have hm:b∈trk h H:=uO.mpr ⟨vY.mpr (wP a),by simp[q]⟩;have z:(hidT h H).get? b=none:=PySem.W.hideAll_none (trk h H) hm;rw[z]at e;cases e
noncomputable def allNews(g h:Heap)(L:Addr):List (Addr×Obj):=(List.range h.objs.size).filterMap λa=>if a=L\/(g.get? a).isSome=true then none else(h.get? a).map λo=>(a,o)
noncomputable def rest(g h:Heap)(L d:Addr):List (Addr×Obj):=(allNews g h L).filter λp=>decide (p.1≠d)
structure Mod (K:PySem.W.Frag) (mg:Str->Option Value) (base:Heap):Prop where
 kin:K.In base
 glob:base.Ns mainGlobals mg
 blt:∃mb,base.Ns builtinsNs mb/\∀x:Str,x≠"__name__"->mb x=bootBuiltins x
 nolimit:base.NoLimit
 bmod:∃bm ob,mg "__builtins__"=some (.ref bm)/\bm≠builtinsNs/\base.get? bm=some ob/\ob.cls=.type "module"/\ob.dict=some builtinsNs/\ob.data=.plain
structure Cx where
 prog:Program
 w:World
 K:PySem.W.Frag
 mg:Str->Option Value
 base:Heap
 A:Around
 N:List Str
 s₀:Shared
 H₀:Hp
 env:Env
 outer:List Env
 stack:List Env
 ex:List Addr
 fn:Str->Bool
 calm:Bool
 pn:List (Addr×Obj)
 xe:Value->Shared->Prop
noncomputable def frs(l:List Env):List Addr:=l.filterMap (·.frame)
noncomputable abbrev Cx.fs(X:Cx):List Addr:=frs X.outer
def Vis(sc:Scope)(x:Str):Prop:=sc.names.lookup x=some .local\/sc.names.lookup x=some .cell\/sc.names.lookup x=some .free
def Loc(sc:Scope)(x:Str):Prop:=sc.names.lookup x=some .local\/sc.names.lookup x=some .cell
noncomputable def Look(env:Env)(h:Heap)(m:Str->Option Value)(x:Str)(u:Value):Prop :=
 (env.kindOf x=some .local/\m x=some u)\/((env.kindOf x=some .cell\/env.kindOf x=some .free)/\∃c,env.cells.lookup x=some c/\h.IsCell c (some u))
structure Cx.Ok (X:Cx):Prop where
 mod:Mod X.K X.mg X.base
 kind:X.env.scope.kind=.function
 glob:X.env.globals=mainGlobals
 blt:X.env.builtins=builtinsNs
 above:X.s₀.heap.objs.size<=X.env.locals
 inj:∀x y c,X.env.cells.lookup x=some c->X.env.cells.lookup y=some c->x=y
 has:∀x,(X.env.kindOf x=some .cell\/X.env.kindOf x=some .free)->∃c,X.env.cells.lookup x=some c
 cab:∀x c,X.fn x=true->X.env.cells.lookup x=some c->X.s₀.heap.objs.size<=c
 hd:X.calm=true->X.A.handled=none
 frames:X.A.frames=some X.stack
 stk:X.stack=X.outer\/(X.stack=X.env::X.outer/\X.env.frame=some X.env.locals)
 exf:∀b∈X.ex,b≠X.env.locals/\∀x c,X.env.cells.lookup x=some c->c≠b
 bs:∀b o,X.base.get? b=some o->X.s₀.heap.get? b=some o/\X.H₀ b=none
 bsz:X.base.objs.size<=X.s₀.heap.objs.size
 noex:∀b o,X.base.get? b=some o->b∉X.ex
 exfs:∀b∈X.ex,b∉X.fs
 funs:X.s₀.heap.FunFrames X.base X.outer
 frf:∀b∈X.fs,X.H₀ b=none
 tab:∀c T,codeTab X.K c T=true->∃ps,X.H₀ T=some (.tbl ps)
structure Inv (X:Cx) (pins:04) (σ:List (Option V)) (H:Hp) (s:Shared):Prop where
 ok:X.Ok
 os:s.os=X.s₀.os
 bare:GK X.s₀.gens s.gens
 base:Un X.fs X.ex X.H₀ H X.s₀.heap s.heap
 loc:∃m,s.heap.Ns X.env.locals m/\∀(i:Nat) (x:Str) (v:V),X.N[i]?=some x->σ[i]?=some (some v)->Vis X.env.scope x->∃u,RelV v u/\Look X.env s.heap m x u
 cell:∀x c,X.env.cells.lookup x=some c->∃v,s.heap.IsCell c v
 free:H X.env.locals=none
 freeC:∀x c,X.env.cells.lookup x=some c->H c=none
 pin:∀p∈X.pn++pins,s.heap.get? p.1=some p.2/\H p.1=none/\p.1≠X.env.locals/\p.1∉X.fs/\∀v,p.2.data≠.cell v
 hok:HOk X.prog X.w H s.heap
 len:σ.length=X.N.length
section
variable{X:Cx}{pins:List (Addr×Obj)}{σ:List (Option V)}{H H':Hp}{s:Shared}{h':Heap}
theorem Cx.Ok.nofr(ok:X.Ok){b:Addr}{o:Obj}(e:X.base.get? b=some o):b∉X.fs:=λhb=>by
 have:=(ok.funs.mem hb).1;rw[e]at this;cases this
theorem Inv.bs(I:Inv X pins σ H s):∀b o,X.base.get? b=some o->s.heap.get? b=some o/\H b=none:=λb o e =>
 ⟨I.base.keep b o (I.ok.bs b o e).1 (I.ok.bs b o e).2 (I.ok.nofr e) (I.ok.noex b o e),I.base.free b o (I.ok.bs b o e).1 (I.ok.bs b o e).2 (I.ok.noex b o e)⟩
theorem Inv.bk(I:Inv X pins σ H s):∀b o,X.base.get? b=some o->s.heap.get? b=some o:=λb o e=>(I.bs b o e).1
theorem Inv.mod(I:Inv X pins σ H s):Mod X.K X.mg X.base:=I.ok.mod
theorem Inv.kIn(I:Inv X pins σ H s):X.K.In s.heap:=I.ok.mod.kin.keeps I.bk
theorem Inv.nolimit(I:Inv X pins σ H s):s.heap.NoLimit:=I.ok.mod.nolimit.keeps I.bk
theorem Inv.lt(I:Inv X pins σ H s):X.env.locals<s.heap.objs.size:=let ⟨_,hn,_⟩:=I.loc;hn.lt
theorem Inv.sz(I:Inv X pins σ H s):X.s₀.heap.objs.size<=s.heap.objs.size:=vK I.ok.above (Nat.le_of_lt I.lt)
theorem Inv.nofs(I:Inv X pins σ H s){a:Addr}(h:s.heap.objs.size<=a):a∉X.fs:=λhb=>by
 obtain⟨_,o,b,_⟩:=I.ok.funs.mem hb;exact absurd (w8 (wP b) (vK I.sz h)) (vR _)
theorem Inv.cne(I:Inv X pins σ H s):∀x c,X.env.cells.lookup x=some c->c≠X.env.locals:=λx c e z=>by
 obtain⟨v,o,d,hd⟩:=I.cell x c e;obtain⟨m,⟨o',es,f,a,b,_⟩,_⟩:=I.loc;rw[z,a]at d;cases d;rw[b]at hd;cases hd
theorem Inv.funs(I:Inv X pins σ H s):s.heap.FunFrames X.base X.outer:=by
 have all:∀(l:List Env),(∀b∈frs l,b∈X.fs)->X.s₀.heap.FunFrames X.base l->s.heap.FunFrames X.base l:=by
  intro l;induction l with
  |nil=>intro _ _;trivial
  |cons env r f =>
   intro d h;obtain⟨i,⟨L,o,a,hn,j,hd⟩,m⟩:=h;have c:L∈X.fs:=d L (by unfold frs;rw[List.filterMap_cons,a];exact wH);obtain⟨sl,e⟩:=I.base.slot L o j (I.ok.frf L c) c λz=>I.ok.exfs L z c
   exact⟨i,⟨L,_,a,hn,e,hd⟩,f (λb hb=>d b (by unfold frs;rw[List.filterMap_cons,a];exact wL _ hb)) m⟩
 exact all X.outer (λ_ hb=>hb) I.ok.funs
theorem Inv.stack(I:Inv X pins σ H s):s.heap.FunFrames X.base X.stack:=by
 rcases I.ok.stk with e|⟨e,hf⟩
 .rw [e];exact I.funs
 .rw [e]
  obtain⟨m,hn,_⟩:=I.loc;refine .cons (by rw[I.ok.kind];decide) hf hn ?_ I.funs;exact Heap.get?_none_of_le (vK I.ok.bsz I.ok.above)
theorem Inv.stkSub(I:Inv X pins σ H s):∀b∈frs X.stack,b∈X.env.locals::X.fs:=λb hb=>by
 rcases I.ok.stk with e|⟨e,hf⟩
 .rw [e]at hb;exact wL _ hb
 .rw [e]at hb
  unfold frs at hb;rw[List.filterMap_cons,hf]at hb;exact hb
theorem Inv.stkFree(I:Inv X pins σ H s):∀b∈frs X.stack,H b=none:=λb hb=>by
 rcases wX.mp (I.stkSub b hb)with e|hb
 .rw [e];exact I.free
 .obtain ⟨_,o,a,_⟩:=I.ok.funs.mem hb
  exact I.base.free b o a (I.ok.frf b hb) λz=>I.ok.exfs b z hb
theorem Inv.step{g':Array GenState}{t':Nat}{d':Drawn}{ch:01}(I:Inv X pins σ H s)(f:∀b∈ch,(b∈X.ex\/X.s₀.heap.objs.size<=b)/\b≠X.env.locals/\(∀x c,X.env.cells.lookup x=some c->c≠b)/\∀p∈X.pn++pins,p.1≠b)(keep:∀b o,b≠X.env.locals->b∉X.fs->b∉ch->s.heap.get? b=some o->H b=none->h'.get? b=some o)(slot:∀b o,b≠X.env.locals->b∈X.fs->b∉ch->s.heap.get? b=some o->H b=none->∃sl,h'.get? b=some {o with slots:=sl})(free:∀b o,b∉ch->s.heap.get? b=some o->H b=none->H' b=none)(there:∀b o,b∉ch->s.heap.get? b=some o->∃o',h'.get? b=some o')(tups:∀b xs,H b=some (.t xs)->H' b=some (.t xs))(frzs:∀b o u,H b=some (.frz o u)->H' b=some (.frz o u))(tbls:∀b ps,H b=some (.tbl ps)->∃more,H' b=some (.tbl (ps++more)))(ns:∀m,s.heap.Ns X.env.locals m->h'.Ns X.env.locals m)(hok:HOk X.prog X.w H' h')(L:GK s.gens g'):
  Inv X pins σ H' {s with heap:=h',gens:=g',drawn:=d',toks:=t' }:=by
 have B:∀b o,X.s₀.heap.get? b=some o->b≠X.env.locals:=λb o e=>wk (w8 (wP e) I.ok.above)
 have y:∀b o,X.s₀.heap.get? b=some o->b∉X.ex->b∉ch:=λb o e a hb=>by
  rcases(f b hb).1 with z|z
  .exact a z
  .exact absurd (w8 (wP e) z) (vR _)
 have h:∀x c,X.env.cells.lookup x=some c->∀v,s.heap.IsCell c v->h'.IsCell c v:=λx c e v ⟨o,A,hd⟩=>by
  have j:c∉ch:=λz=>(f c z).2.2.1 x c e rfl
  by_cases F:c∈X.fs
  .obtain ⟨sl,q⟩:=slot c o (I.cne x c e) F j A (I.freeC x c e)
   exact⟨_,q,hd⟩
  .exact ⟨o,keep c o (I.cne x c e) F j A (I.freeC x c e),hd⟩
 refine⟨I.ok,I.os,I.bare.trans L,⟨λb o e n hb a=>?_,λb o e n hb a=>?_,λb o e n a=>?_,λb o e a=>?_,λb xs e=>tups b xs (I.base.tups b xs e),λb o xs e=>frzs b o xs (I.base.frzs b o xs e),λb ps e=>?_⟩,?_,λx c e=>?_,?_,λx c e=>?_,λp J=>?_,hok,I.len⟩
 .exact keep b o (B b o e) hb (y b o e a) (I.base.keep b o e n hb a) (I.base.free b o e n a)
 .obtain ⟨sl,e1⟩:=I.base.slot b o e n hb a
  obtain⟨E,C⟩:=slot b _ (B b o e) hb (y b o e a) e1 (I.base.free b o e n a);exact⟨E,C⟩
 .obtain ⟨o',e1⟩:=I.base.there b o e a
  exact free b o' (y b o e a) e1 (I.base.free b o e n a)
 .obtain ⟨o',e1⟩:=I.base.there b o e a
  exact there b o' (y b o e a) e1
 .obtain ⟨m1,e1⟩:=I.base.tbls b ps e
  obtain⟨m2,C⟩:=tbls b _ e1;exact⟨m1++m2,by rw[C,Array.append_assoc]⟩
 .obtain ⟨m,hn,M⟩:=I.loc
  refine⟨m,ns m hn,λi x v e1 C N=>?_⟩;obtain⟨u,r,l⟩:=M i x v e1 C N;refine⟨u,r,?_⟩;rcases l with l|⟨k,c,e,z⟩
  .exact .inl l
  .exact .inr ⟨k,c,e,h x c e _ z⟩
 .obtain ⟨v,z⟩:=I.cell x c e
  exact⟨v,h x c e v z⟩
 .obtain ⟨m,⟨o,_,_,A,_⟩,_⟩:=I.loc
  exact free _ o (λz=>(f _ z).2.1 rfl) A I.free
 .obtain ⟨v,o,A,hd⟩:=I.cell x c e
  exact free c o (λz=>(f c z).2.2.1 x c e rfl) A (I.freeC x c e)
 .obtain ⟨e,n,ne,K,d⟩:=I.pin p J
  have j:p.1∉ch:=λz=>(f p.1 z).2.2.2 p J rfl
  exact⟨keep p.1 p.2 ne K j e n,free p.1 p.2 j e n,ne,K,d⟩
theorem Inv.un{t':Nat}(I:Inv X pins σ H s)(u:Un X.fs [] H H' s.heap h')(hok:HOk X.prog X.w H' h'):Inv X pins σ H' {s with heap:=h',toks:=t' }:=by
 obtain⟨m,⟨o,es,j,f,r⟩,_⟩:=id I.loc;obtain⟨sl,h⟩:=u.any f I.free (by simp);exact I.step (g':=s.gens) (d':=s.drawn) (ch:=[]) (λ_ z=>nomatch z) (λb o _ hb _ e n=>u.keep b o e n hb (by simp)) (λb o _ hb _ e n=>u.slot b o e n hb (by simp)) (λb o _ e n=>u.free b o e n (by simp)) (λb o _ e=>u.there b o e (by simp)) u.tups u.frzs u.tbls (λl hm=>by
  obtain⟨o',c,d,a,i⟩:=hm;rw[f]at a;cases a;exact⟨_,c,d,h,i⟩) hok I.bare.self
theorem Inv.call{g':Array GenState}{t':Nat}{d':Drawn}{ch:01}(I:Inv X pins σ H s)(u:Un (frs X.stack) ch H H' s.heap h')(hok:HOk X.prog X.w H' h')(q:GK s.gens g')(d:∀b∈ch,(b∈X.ex\/X.s₀.heap.objs.size<=b)/\b≠X.env.locals/\(∀x c,X.env.cells.lookup x=some c->c≠b)/\∀p∈X.pn++pins,p.1≠b):
  Inv X pins σ H' {s with heap:=h',gens:=g',drawn:=d',toks:=t' }:=by
 obtain⟨m,⟨o,es,y,l,r⟩,_⟩:=id I.loc;obtain⟨sl,h⟩:=u.any l I.free λz=>(d _ z).2.1 rfl
 exact I.step (ch:=ch) d (λb o h hb a e n=>u.keep b o e n (λz=>(wX.mp (I.stkSub b z)).elim h hb) a) (λb o _ _ a e n=>u.any e n a) (λb o a e n=>u.free b o e n a) (λb o a e=>u.there b o e a) u.tups u.frzs u.tbls (λA hm=>by
  obtain⟨o',i,j,f,v⟩:=hm;rw[l]at f;cases f;exact⟨_,i,j,h,v⟩) hok q
theorem Inv.turned{t':Nat}{it:Addr}(I:Inv X pins σ H s)(k:∀b o,b≠it->s.heap.get? b=some o->h'.get? b=some o)(hn:H it=none)(f:it≠X.env.locals)(h:it∈X.ex\/X.s₀.heap.objs.size<=it)(i:∀x c,X.env.cells.lookup x=some c->c≠it)(j:∀p∈X.pn++pins,p.1≠it):Inv X pins σ H {s with heap:=h',toks:=t' }:=by
 have d:∀b u,H b=some u->b≠it:=λb u e z=>by rw[z,hn]at e;cases e
 refine I.step (g':=s.gens) (d':=s.drawn) (ch:=[it]) (λb hb=>?_) (λb o _ _ a e _=>k b o (λz=>a (by simp[z])) e) (λb o _ _ a e _=>⟨o.slots,k b o (λz=>a (by simp[z])) e⟩) (λ_ _ _ _ n=>n)
  (λb o a e=>⟨o,k b o (λz=>a (by simp[z])) e⟩) (λ_ _ e=>e) (λ_ _ _ e=>e) (λb ps e=>⟨#[],by rw[e];simp⟩) (λm hm=>?_) (λb u e=>?_) I.bare.self
 .have e:b=it:=by simpa using hb
  subst e;exact⟨h,f,i,j⟩
 .obtain ⟨o,es,l,w,r⟩:=hm
  exact⟨o,es,l,k _ o (Ne.symm f) w,r⟩
 .refine (I.hok b u e).stay (λc v a q=>k c v ?_ q) (λ_ q=>q) λ_ _ q=>q
  rcases a with z|z
  .rw [z];exact d b u e
  .exact d c _ z
theorem Inv.tok(I:Inv X pins σ H s)(t:Nat):Inv X pins σ H {s with toks:=t}:=I.un (h':=s.heap) (t':=t) Un.refl I.hok
theorem Inv.kept{t':Nat}(I:Inv X pins σ H s)(k:∀b u,s.heap.get? b=some u->h'.get? b=some u):Inv X pins σ H {s with heap:=h',toks:=t' }:=I.un (Un.kept k) (I.hok.kept k)
theorem Inv.laid{a:Addr}{o:HO}{t':Nat}(I:Inv X pins σ H s)(k:∀b u,s.heap.get? b=some u->h'.get? b=some u)(c:s.heap.objs.size<=a)(new:ObjOk X.prog X.w (upd H a o) h' a o):
  Inv X pins σ (upd H a o) {s with heap:=h',toks:=t' }:=I.un (Un.laid k c (I.hok.fresh c)) (I.hok.laid k c new)
theorem Inv.write{x e:Addr}{o:HO}{t':Nat}(I:Inv X pins σ H s)(c:Mut (H x))(d:e=x\/H e=some (.own x))(k:∀b u,b≠e->s.heap.get? b=some u->h'.get? b=some u)(a:∃u,h'.get? e=some u)(new:ObjOk X.prog X.w (upd H x o) h' x o):Inv X pins σ (upd H x o) {s with heap:=h',toks:=t' }:=I.un (Un.write c d k a) (I.hok.write c d k a new)
theorem Inv.pins_of{a:04}(I:Inv X pins σ H s)(h:∀p∈a,s.heap.get? p.1=some p.2/\H p.1=none/\p.1≠X.env.locals/\p.1∉X.fs/\∀v,p.2.data≠.cell v):Inv X a σ H s :=
 ⟨I.ok,I.os,I.bare,I.base,I.loc,I.cell,I.free,I.freeC,λp b=>(w9.mp b).elim (λz=>I.pin p (wp _ z)) (h p),I.hok,I.len⟩
theorem qbR{N:List Str}(c:N.Nodup){i j:Nat}{x:Str}(a:N[i]?=some x)(b:N[j]?=some x):i=j:=by
 obtain⟨f,e1⟩:=wO.mp a;obtain⟨h,d⟩:=wO.mp b;exact(xW c).mp (e1.trans d.symm)
theorem jp{M:Model}{A:Around}{E:06}{i:Nat}{x:Str}{v:V}{u:Value}{Q:Unit->Shared->Prop}(I:Inv X pins σ H s)(hN:X.N.Nodup)(hi:X.N[i]?=some x)(C:Loc X.env.scope x)(r:RelV v u)(h:∀s',Inv X pins (σ.set i (some v)) H s'->(∃a,Heap.SameBut a s.heap s'.heap/\(a=X.env.locals\/X.env.cells.lookup x=some a))->Q () s')(hf:X.fn x=true\/X.env.scope.names.lookup x=some .local:=by first|exact .inl rfl|exact .inr rfl|assumption):wpAny M A (storeName X.env x u) Q E s:=by
 obtain⟨m,hn,hl⟩:=id I.loc;have S:(X.env.scope.kind == .class || (X.env.scope.kind == .module&&X.env.locals != X.env.globals))=false:=by rw[I.ok.kind];rfl
 have K:i<σ.length:=by rw[I.len];exact(wO.mp hi).1
 have cne:=I.cne;have l:∀{a:Addr} {h':Heap},(∃o,s.heap.get? a=some o/\H a=none)->Heap.SameBut a s.heap h'->HOk X.prog X.w H h':=λ{a h'} ha f b ob e=>by
  obtain⟨_,_,F⟩:=ha;refine(I.hok b ob e).stay (λc w' B q=>(f.2 c ?_).trans q) (λ_ q=>q) λ_ _ q=>q
  rintro rfl;rcases B with rfl|B
  .rw [F]at e;cases e
  .rw [F]at B;cases B
 rcases C with L|L
 .refine wpAny_storeName_local L hn (λh' a0 f=>?_) S
  obtain⟨oL,_,_,a1,_⟩:=id hn;refine h _ ⟨I.ok,I.os,I.bare,⟨λb o e n hb C=>?_,λb o e n hb C=>?_,I.base.free,λb o e C=>?_,I.base.tups,I.base.frzs,I.base.tbls⟩,⟨_,a0,λj y v' e1 J e3=>?_⟩,λy c e=>?_,I.free,I.freeC,λp hp=>?_,l ⟨oL,a1,I.free⟩ f,by simpa using I.len⟩ ⟨_,f,.inl rfl⟩
  .exact (f.2 b (wk (w8 (wP e) I.ok.above))).trans (I.base.keep b o e n hb C)
  .obtain ⟨sl,e1⟩:=I.base.slot b o e n hb C
   exact⟨sl,(f.2 b (wk (w8 (wP e) I.ok.above))).trans e1⟩
  .obtain ⟨o',e1⟩:=I.base.there b o e C
   exact⟨o',(f.2 b (wk (w8 (wP e) I.ok.above))).trans e1⟩
  .by_cases O:j=i
   .subst O
    rw[hi]at e1;cases e1;rw[vj K]at J;cases J;exact⟨u,r,.inl ⟨L,by simp⟩⟩
   .rw [v8 (Ne.symm O)]at J
    obtain⟨u',r',q⟩:=hl j y v' e1 J e3;refine⟨u',r',?_⟩;rcases q with ⟨k,e⟩|⟨k,c,e,z⟩
    .refine .inl ⟨k,?_⟩
     have:y≠x:=λe=>O (qbR hN e1 (e ▸ hi))
     simp[this,e]
    .exact .inr ⟨k,c,e,z.sameBut f (cne y c e)⟩
  .obtain ⟨w',z⟩:=I.cell y c e
   exact⟨w',z.sameBut f (cne y c e)⟩
  .obtain ⟨e,n,ne,nf,d⟩:=I.pin p hp
   exact⟨(f.2 p.1 ne).trans e,n,ne,nf,d⟩
 .have P:X.fn x=true:=by
   rcases hf with z|z
   .exact z
   .rw [z]at L;cases L
  obtain⟨c,B⟩:=I.ok.has x (.inl L);obtain⟨w',z⟩:=I.cell x c B;refine wpAny_storeName_cell I.ok.kind L B z (λh' U f=>?_);obtain⟨oc,W,Y⟩:=id z;refine h {s with heap:=h' } ⟨I.ok,I.os,I.bare,⟨λb o e n hb C=>?_,λb o e n hb C=>?_,I.base.free,λb o e C=>?_,I.base.tups,I.base.frzs,I.base.tbls⟩,⟨m,hn.sameBut f (Ne.symm (cne x c B)),λj y v' e1 J e3=>?_⟩,λy c' e=>?_,I.free,I.freeC,λp hp=>?_,l ⟨oc,W,I.freeC x c B⟩ f,by simpa using I.len⟩ ⟨c,f,.inr B⟩
  .exact (f.2 b (wk (w8 (wP e) (I.ok.cab x c P B)))).trans (I.base.keep b o e n hb C)
  .obtain ⟨sl,e1⟩:=I.base.slot b o e n hb C
   exact⟨sl,(f.2 b (wk (w8 (wP e) (I.ok.cab x c P B)))).trans e1⟩
  .obtain ⟨o',e1⟩:=I.base.there b o e C
   exact⟨o',(f.2 b (wk (w8 (wP e) (I.ok.cab x c P B)))).trans e1⟩
  .by_cases O:j=i
   .subst O
    rw[hi]at e1;cases e1;rw[vj K]at J;cases J;exact⟨u,r,.inr ⟨.inl L,c,B,U⟩⟩
   .rw [v8 (Ne.symm O)]at J
    obtain⟨u',r',q⟩:=hl j y v' e1 J e3;refine⟨u',r',?_⟩;rcases q with q|⟨k,c',e,z'⟩
    .exact .inl q
    .refine .inr ⟨k,c',e,z'.sameBut f ?_⟩
     rintro rfl;exact O (qbR hN e1 (I.ok.inj _ _ _ e B ▸ hi))
  .by_cases Z:c'=c
   .subst Z;exact⟨_,U⟩
   .obtain ⟨w2,z2⟩:=I.cell y c' e
    exact⟨w2,z2.sameBut f Z⟩
  .obtain ⟨e,n,ne,nf,d⟩:=I.pin p hp
   refine⟨(f.2 p.1 ?_).trans e,n,ne,nf,d⟩;intro q;rw[q,W]at e;have q':oc=p.2:=Option.some.inj e;exact d w' (by rw[<-q'];exact Y)
theorem zK{M:Model}{A:Around}{E:06}{i:Nat}{x:Str}{v:V}{u:Value}{Q:Unit->Shared->Prop}(I:Inv X pins σ H s)(a:X.N.Nodup)(hi:X.N[i]?=some x)(b:Loc X.env.scope x)(r:RelV v u)(h:∀s',Inv X pins (σ.set i (some v)) H s'->Q () s')(c:X.fn x=true\/X.env.scope.names.lookup x=some .local:=by first|exact .inl rfl|exact .inr rfl|assumption):wpAny M A (storeName X.env x u) Q E s :=
 jp I a hi b r (λs' d _=>h s' d) c
theorem Inv.call'{s':Shared}{ch:01}(I:Inv X pins σ H s)(d:s'.os=s.os)(u:Un (frs X.stack) ch H H' s.heap s'.heap)(hok:HOk X.prog X.w H' s'.heap)(f:GK s.gens s'.gens)(a:∀b∈ch,(b∈X.ex\/X.s₀.heap.objs.size<=b)/\b≠X.env.locals/\(∀x c,X.env.cells.lookup x=some c->c≠b)/\∀p∈X.pn++pins,p.1≠b):Inv X pins σ H' s':=by
 obtain⟨h',g',d',t',o'⟩:=s';have e:o'=s.os:=d;subst e;exact I.call (g':=g') (t':=t') (d':=d') u hok f a
end
noncomputable abbrev XK:=Value->Option Addr->Hp->Prop
noncomputable abbrev St:=List (Option V)
noncomputable abbrev VK:=V->Hp->Prop
noncomputable abbrev TE:=St->Hp->VK->Prop
noncomputable abbrev TT:=St->Hp->(Bool->Hp->Prop)->Prop
noncomputable abbrev TA:=St->Hp->(List V->Hp->Prop)->Prop
structure Ends where
 nx:St->Hp->Prop
 rt:VK
 bk:St->Hp->Prop:=λ_ _=>False
 ct:St->Hp->Prop:=λ_ _=>False
noncomputable abbrev TS:=Ends->St->Hp->Prop
def EP(X:Cx)(pins:04)(a:St)(Q:VK)(u:Value)(s':Shared):Prop:=∃v H',Inv X pins a H' s'/\RelV v u/\Q v H'
def TP(X:Cx)(pins:04)(a:St)(Q:Bool->Hp->Prop)(b:Bool)(s':Shared):Prop:=∃H',Inv X pins a H' s'/\Q b H'
def AP(X:Cx)(pins:04)(a:St)(Q:List V->Hp->Prop)(us:List Value)(s':Shared):Prop:=∃vs H',Inv X pins a H' s'/\Vals vs us/\Q vs H'
noncomputable def SP(X:Cx)(pins:04)(D:Ends)(f:Flow)(s':Shared):Prop :=
 match f with
 | .next=>∃a H',Inv X pins a H' s'/\D.nx a H'
 | .brk=>∃a H',Inv X pins a H' s'/\D.bk a H'
 | .cont=>∃a H',Inv X pins a H' s'/\D.ct a H'
 | .ret u=>∃v a H',Inv X pins a H' s'/\RelV v u/\D.rt v H'
noncomputable def PE(X:Cx)(e:Expr)(t:TE):Prop :=
 ∀(pins:04) (s:Shared) (a:St) (H:Hp) (Q:VK),Inv X pins a H s->t a H Q->wpAny 03 X.A (eval e X.env) (EP X pins a Q) X.xe s
noncomputable def PT(X:Cx)(e:Expr)(t:TT):Prop :=
 ∀(pins:04) (s:Shared) (a:St) (H:Hp) (Q:Bool->Hp->Prop),Inv X pins a H s->t a H Q->wpAny 03 X.A (isTrue e X.env (eval e X.env)) (TP X pins a Q) X.xe s
noncomputable def PW(X:Cx)(e:Expr)(t:TT):Prop :=
 ∀(a:Sem Value) (pins:04) (s:Shared) (b:St) (H:Hp) (Q:Bool->Hp->Prop),Inv X pins b H s->t b H Q->wpAny 03 X.A (isTrue e X.env a) (TP X pins b Q) X.xe s
def PW.pt{X:Cx}{e:Expr}{t:TT}(h:PW X e t):PT X e t:=h _
noncomputable def PA(X:Cx)(es:List Expr)(t:TA):Prop :=
 ∀(pos:Pos) (pins:04) (s:Shared) (a:St) (H:Hp) (Q:List V->Hp->Prop),Inv X pins a H s->t a H Q->wpAny 03 X.A (spliced (backTo pos (starEach es X.env))) (AP X pins a Q) X.xe s
noncomputable def PS(X:Cx)(st:Stmt)(t:TS):Prop :=
 ∀(pins:04) (s:Shared) (a:St) (H:Hp) (D:Ends),Inv X pins a H s->t D a H->wpAny 03 X.A (exec st X.env) (SP X pins D) X.xe s
noncomputable def PSs(X:Cx)(st:List Stmt)(t:TS):Prop :=
 ∀(pins:04) (s:Shared) (a:St) (H:Hp) (D:Ends),Inv X pins a H s->t D a H->wpAny 03 X.A (execs st X.env) (SP X pins D) X.xe s
def thn{b:Type}{t:Sem b}{Q Q':b->Shared->Prop}{M:Model}{A:Around}{E:06}{s:Shared}(h:wpAny M A t Q E s)(c:∀a s,Q a s->Q' a s):wpAny M A t Q' E s:=wz h c λ_ _ x=>x
section
variable{X:Cx}
theorem bin{a b:Expr}{l m:TE}(ha:PE X a l)(hb:PE X b m){pins:04}{s:Shared}{c:St}{H:Hp}{R:V->V->Hp->Prop}(I:Inv X pins c H s)(h:l c H λx j=>m c j λy H2=>R x y H2){n:Type}{Q:n->Shared->Prop}{f:Value->Value->Sem n}(o:∀v u s2 x y H2,Inv X pins c H2 s2->RelV x v->RelV y u->R x y H2->wpAny 03 X.A (f v u) Q X.xe s2):
  wpAny 03 X.A (eval a X.env) (λv d=>wpAny 03 X.A (eval b X.env) (λu i=>wpAny 03 X.A (f v u) Q X.xe i) X.xe d) X.xe s:=by
 refine thn (ha pins s c H _ I h) λv s1 ⟨x,j,p,r1,q1⟩=>?_
 refine thn (hb pins s1 c j _ p q1) λu s2 ⟨y,H2,q,r2,q2⟩=>?_
 exact o v u s2 x y H2 q r1 r2 q2
noncomputable def tVar(i:Nat):TE:=λa H Q=>∃v,a[i]?=some (some v)/\Q v H
noncomputable def tC(v:V):TE:=λ_ H Q=>Q v H
abbrev _root_.sE(X:Cx)(e:Expr)(es:List Expr):Prop:=starEach (e::es) X.env=(false,eval e X.env)::starEach es X.env
abbrev _root_.bT(X:Cx)(es:List Expr)(pos:Pos):Prop:=(backTo pos (starEach es X.env)).any (·.1)=false
abbrev _root_.dB(x:Str):Prop:=(x == ("__debug__":Str))=false
theorem qjy{i:Nat}{x:Str}{pos:Pos}(d:X.N[i]?=some x)(f:Vis X.env.scope x)(hd:dB x:=by decide)(b:(x == ("__classdict__":Str))=false:=by decide):PE X (.Name x pos) (tVar i):=by
 intro pins s j H Q I h;obtain⟨v,e,h⟩:=h;obtain⟨m,hn,n⟩:=I.loc;obtain⟨u,r,l⟩:=n i x v d e f;have fin:EP X pins j Q u s:=⟨v,H,I,r,h⟩;rcases l with ⟨a,hm⟩|⟨a,c,hc,hcell⟩
 .exact wpAny_Name (wpAny_loadName_local I.ok.kind a hn hm fin) hd
 .rcases a with a|a
  .exact wpAny_Name (wpAny_loadName_cell I.ok.kind a hc hcell fin) hd
  .exact wpAny_Name (wpAny_loadName_free I.ok.kind a hc hcell fin b) hd
theorem qjz{i j pos}:PE X (.Constant (.int i) j pos) (tC (.int i)):=λ_ _ _ H _ I h=>wpAny_Constant_int ⟨.int i,H,I.tok _,⟨_,rfl⟩,h⟩
theorem qlq{b j pos}:PE X (.Constant (.bool b) j pos) (tC (.bl b)):=λ_ _ _ H _ I h=>Constant_bool ⟨.bl b,H,I,rfl,h⟩
def Gl(X:Cx)(x:Str):Prop:=X.env.kindOf x=some .globalImplicit
theorem qdy{E:06}{pins:04}{s:Shared}{a:St}{H:Hp}{x:Str}{u:Value}{pos:Pos}{Q:06}(I:Inv X pins a H s)(b:Gl X x)(hm:X.mg x=some u)(h:Q u s)(hd:dB x:=by decide):wpAny 03 X.A (eval (.Name x pos) X.env) Q E s :=
 Calls.Name_function_global I.ok.kind b (Calls.loadGlobal_global (by rw[I.ok.glob];exact I.mod.glob.keeps I.bk) hm h) hd
theorem z9{E:06}{pins:04}{s:Shared}{a:St}{H:Hp}{x:Str}{u:Value}{pos:Pos}{Q:06}(I:Inv X pins a H s)(b:Gl X x)(hm:X.mg x=none)(c:bootBuiltins x=some u)(h:Q u s)(hn:x≠"__name__":=by decide)(hd:dB x:=by decide):wpAny 03 X.A (eval (.Name x pos) X.env) Q E s:=by
 obtain⟨mb,d,f⟩:=I.mod.blt;exact Calls.Name_function_global I.ok.kind b (Calls.loadGlobal_builtin (by rw[I.ok.glob];exact I.mod.glob.keeps I.bk) hm (by rw[I.ok.blt];exact d.keeps I.bk) ((f x hn).trans c) h) hd
theorem qhz{x:Str}{v:V}{u:Value}{pos:Pos}(a:Gl X x)(hm:X.mg x=some u)(r:RelV v u)(hd:dB x:=by decide):PE X (.Name x pos) (tC v) :=
 λ_ _ _ H _ I h=>qdy I a hm ⟨v,H,I,r,h⟩ hd
theorem qhA{x:Str}{v:V}{u:Value}{pos:Pos}(a:Gl X x)(hm:X.mg x=none)(b:bootBuiltins x=some u)(r:RelV v u)(hn:x≠"__name__":=by decide)(hd:dB x:=by decide):PE X (.Name x pos) (tC v) :=
 λ_ _ _ H _ I h=>z9 I a hm b ⟨v,H,I,r,h⟩ hn hd
variable{a b:Expr}{ta tb:TE}{pos:Pos}
variable{tA tB':TT}{rest:List Expr}
noncomputable def tOr(t u:TT):TT:=λd H Q=>t d H λc f=>if c=true then Q true f else u d f Q
noncomputable def tNot(t:TT):TT:=λd H Q=>t d H λc f=>Q (!c) f
theorem qjA(ha:PT X a tA):PW X (.BoolOp .Or [a] pos) tA:=by
 intro f pins s d H Q I h;refine isTrue_or (thn (ha pins s d H Q I h) λc s1 e=>?_);cases c with
 |false=>exact isTrue_or_nil e
 |true=>exact e
theorem qlr(ha:PT X a tA)(hb:PW X (.BoolOp .Or (b::rest) pos) tB'):PW X (.BoolOp .Or (a::b::rest) pos) (tOr tA tB'):=by
 intro j pins s d H Q I h;refine isTrue_or (thn (ha pins s d H _ I h) λc s1 ⟨f,i,q1⟩=>?_);cases c with
 |true=>exact⟨f,i,q1⟩
 |false=>exact hb j pins s1 d f Q i q1
theorem qjB(ha:PT X a tA):PT X (.UnaryOp .Not a pos) (tNot tA):=by
 intro pins s d H Q I h;exact isTrue_not (ha pins s d H (λc f=>Q (!c) f) I h)
noncomputable def tAndV(ta tb:TE):TE:=λd H Q=>ta d H λx f=>∃c,x=.bl c/\if c=true then tb d f Q else Q (.bl false) f
noncomputable def tNotV(ta:TE):TE:=λd H Q=>ta d H λx f=>∃c,x=.bl c/\Q (.bl (!c)) f
theorem qjC{op}{t:TE}(h:PE X a t):PE X (.BoolOp op [a] pos) t:=λpins s c H Q I d=>BoolOp_one (h pins s c H Q I d)
theorem qjD(ha:PE X a ta)(hb:PE X (.BoolOp .And (b::rest) pos) tb):PE X (.BoolOp .And (a::b::rest) pos) (tAndV ta tb):=by
 intro pins s d H Q I h;refine BoolOp_and (thn (ha pins s d H _ I h) λv s1 ⟨x,f,i,r1,q1⟩=>?_);obtain⟨c,rfl,q1⟩:=q1;cases r1;refine vT ?_;cases c with
 |true=>exact hb pins s1 d f Q i q1
 |false=>exact⟨.bl false,f,i,rfl,q1⟩
theorem qjE(ha:PE X a ta):PE X (.UnaryOp .Not a pos) (tNotV ta):=by
 intro pins s d H Q I h;refine UnaryOp_ (thn (ha pins s d H _ I h) λv s1 ⟨x,f,i,r1,q1⟩=>?_);obtain⟨c,rfl,q1⟩:=q1;cases r1;exact not_of (vT ⟨.bl (!c),f,i,rfl,q1⟩)
end
noncomputable def SqL(K:PySem.W.Frag)(H:Hp)(a:Addr)(xs:List V):Prop :=
 Rd H a (.l xs) \/
  ∃(o:Obj) (b:Array Value) (n:Nat),K.lookup a=some o/\o.cls=.type "list"/\o.dict=none/\o.data=.seq b n/\b.size<=sizeLine/\Vals xs b.toList
noncomputable def SqT(K:PySem.W.Frag)(H:Hp)(a:Addr)(xs:List V):Prop :=
 Rd H a (.t xs) \/
  ∃(o:Obj) (b:Array Value) (n:Nat),K.lookup a=some o/\o.cls=.type "tuple"/\o.data=.seq b n/\b.size<=sizeLine/\Vals xs b.toList
noncomputable def absV:Value->Option V
 | .none=>some .non
 | .bool b=>some (.bl b)
 | .int i _=>some (.int i)
 | .str x _=>some (.str x)
 | .bytes b _=>some (.byt b)
 | .float b _=>some (.flt b)
 | .ref a=>some (.ref a)
 | .type n=>some (.ty n)
 |_=>none
def RelV.abs{x:V}{u:Value}(r:RelV x u):absV u=some x:=by
 cases x with
 |non=>cases r;rfl
 |bl _=>cases r;rfl
 |int _=>obtain⟨t,rfl⟩:=r;rfl
 |str _=>obtain⟨t,rfl⟩:=r;rfl
 |byt _=>obtain⟨t,rfl⟩:=r;rfl
 |flt _=>obtain⟨t,rfl⟩:=r;rfl
 |ref _=>cases r;rfl
 |ty _=>cases r;rfl
def RelV.inj{x y:V}{u:Value}(r:RelV x u)(q:RelV y u):x=y:=Option.some.inj (r.abs.symm.trans q.abs)
def Vals.inj:∀{xs ys:List V} {us:List Value},Vals xs us->Vals ys us->xs=ys
 |_,_,_,.nil,.nil=>rfl
 |_,_,_,.cons r t,.cons r' t'=>by rw[r.inj r',Vals.inj t t']
section
variable{X:Cx}{pins:List (Addr×Obj)}{σ:St}{H:Hp}{s:Shared}{a:Addr}{xs ys:List V}
theorem Inv.list(I:Inv X pins σ H s)(h:SqL X.K H a xs):∃b:List Value,Vals xs b/\PlainL s.heap a b.toArray/\xs.length<=sizeLine:=by
 rcases h with h|⟨o,b,n,hk,hc,hd,hs,hz,r⟩
 .obtain ⟨z,b,n,r,e⟩:=h.ok I.hok
  exact⟨b,r,⟨_,n,e,rfl,rfl,rfl⟩,z⟩
 .refine ⟨b.toList,r,⟨o,n,I.kIn a o hk,hc,hd,by simpa using hs⟩,?_⟩
  have e:=r.length;simp only[vh]at e;lia
theorem Inv.tuple(I:Inv X pins σ H s)(h:SqT X.K H a xs):∃b:List Value,Vals xs b/\IsTup s.heap a b.toArray/\xs.length<=sizeLine:=by
 rcases h with h|⟨o,b,n,hk,hc,hs,hz,r⟩
 .obtain ⟨z,b,r,p,_⟩:=h.ok I.hok
  exact⟨b,r,p,z⟩
 .refine ⟨b.toList,r,⟨o,I.kIn a o hk,hc,n,by simpa using hs⟩,?_⟩
  have e:=r.length;simp only[vh]at e;lia
theorem Inv.list_inj(I:Inv X pins σ H s)(h:SqL X.K H a xs)(h':SqL X.K H a ys):xs=ys:=by
 obtain⟨b,r,⟨o,n,e,_,_,d⟩,_⟩:=I.list h;obtain⟨its',f,⟨o',i,c,_,_,d'⟩,_⟩:=I.list h';rw[e]at c;cases c;rw[d]at d';injection d' with d1 _;have:b=its':=by simpa using congrArg Array.toList d1
 subst this;exact r.inj f
theorem Inv.tuple_inj(I:Inv X pins σ H s)(h:SqT X.K H a xs)(h':SqT X.K H a ys):xs=ys:=by
 obtain⟨b,r,⟨o,e,_,n,d⟩,_⟩:=I.tuple h;obtain⟨its',f,⟨o',c,_,i,d'⟩,_⟩:=I.tuple h';rw[e]at c;cases c;rw[d]at d';injection d' with d1 _;have:b=its':=by simpa using congrArg Array.toList d1
 subst this;exact r.inj f
end
noncomputable abbrev Cx.wish(X:Cx)(E:06):Cx:={X with xe:=E}
noncomputable abbrev Cx.nox(X:Cx):Cx:=X.wish λ_ _=>False
def Cx.Ok.wish{X:Cx}(ok:X.Ok)(E:06):(X.wish E).Ok :=
 ⟨ok.mod,ok.kind,ok.glob,ok.blt,ok.above,ok.inj,ok.has,ok.cab,ok.hd,ok.frames,ok.stk,ok.exf,ok.bs,ok.bsz,ok.noex,ok.exfs,ok.funs,ok.frf,ok.tab⟩
def Cx.Ok.unwish{X:Cx}{E:06}(ok:(X.wish E).Ok):X.Ok :=
 ⟨ok.mod,ok.kind,ok.glob,ok.blt,ok.above,ok.inj,ok.has,ok.cab,ok.hd,ok.frames,ok.stk,ok.exf,ok.bs,ok.bsz,ok.noex,ok.exfs,ok.funs,ok.frf,ok.tab⟩
section
variable{X:Cx}{pins:List (Addr×Obj)}{σ:St}{H:Hp}{s:Shared}{E:Value->Shared->Prop}
theorem Inv.wish(I:Inv X pins σ H s)(E:06):Inv (X.wish E) pins σ H s:=⟨I.ok.wish E,I.os,I.bare,I.base,I.loc,I.cell,I.free,I.freeC,I.pin,I.hok,I.len⟩
theorem Inv.unwish(I:Inv (X.wish E) pins σ H s):Inv X pins σ H s:=⟨I.ok.unwish,I.os,I.bare,I.base,I.loc,I.cell,I.free,I.freeC,I.pin,I.hok,I.len⟩
theorem SP.unwish{D:Ends}{f:Flow}{s':Shared}(h:SP (X.wish E) pins D f s'):SP X pins D f s':=by
 cases f with
 |next=>obtain⟨a,H',I,q⟩:=h;exact⟨a,H',I.unwish,q⟩
 |brk=>obtain⟨a,H',I,q⟩:=h;exact⟨a,H',I.unwish,q⟩
 |cont=>obtain⟨a,H',I,q⟩:=h;exact⟨a,H',I.unwish,q⟩
 |ret u=>obtain⟨v,a,H',I,r,q⟩:=h;exact⟨v,a,H',I.unwish,r,q⟩
theorem PSs.nox{st:List Stmt}{t:TS}(h:PSs X.nox st t):PSs X st t:=λpins s σ H D I a =>
 wz (h pins s σ H D (I.wish _) a) (λ_ _ q=>q.unwish) λ_ _ z=>False.elim z
end
section
variable{X:Cx}{st:Stmt}{rest:List Stmt}{t u:TS}{e:Expr}{te:TE}{pos:Pos}
noncomputable def tNext:TS:=λD a H=>D.nx a H
noncomputable def tSeq(t u:TS):TS:=λD a H=>t {D with nx:=u D} a H
theorem qhB:PSs X [] tNext:=λ_ _ a H _ I h=>wpAny_execs_nil ⟨a,H,I,h⟩
theorem qfl(b:PS X st t)(c:PSs X rest u):PSs X (st::rest) (tSeq t u):=by
 intro pins s d H D I h;refine wpAny_execs_cons (thn (b pins s d H {D with nx:=u D} I h) λf s1 q=>?_);cases f with
 |next =>
  obtain⟨a,H',i,q⟩:=q;exact c pins s1 a H' D i q
 |ret v=>exact q
 |brk=>exact q
 |cont=>exact q
theorem Inv.quiet{pins:04}{a:St}{H:Hp}{s:Shared}(I:Inv X pins a H s):interactive X.env=false:=by simp[interactive,I.ok.kind]
noncomputable def tDrop(te:TE):TS:=λD a H=>te a H λ_ b=>D.nx a b
theorem qhC(b:PE X e te)(c:swapsWith e none pos.line X.env=pure false:=by rfl):PS X (.Expr e pos) (tDrop te):=by
 intro pins s a H D I h;exact wpAny_Expr_any (thn (b pins s a H _ I h) λv s1 ⟨x,d,f,r1,q1⟩=>⟨a,d,f,q1⟩) I.quiet c
noncomputable def tRet(te:TE):TS:=λD a H=>te a H D.rt
theorem qjF(b:PE X e te):PS X (.Return (some e) pos) (tRet te):=by
 intro pins s a H D I h;exact wpAny_Return_some (thn (b pins s a H _ I h) λv s1 ⟨x,c,d,r1,q1⟩=>⟨x,a,c,d,r1,q1⟩)
noncomputable def tIfS(c:TT)(t u:TS):TS:=λD a H=>c a H λb d=>if b=true then t D a d else u D a d
theorem qls{c:Expr}{a b:List Stmt}{i:TT}(m:PT X c i)(ha:PSs X a t)(hb:PSs X b u):PS X (.If c a b pos) (tIfS i t u):=by
 intro pins s f H D I h;refine wpAny_If (thn (m pins s f H _ I h) λd s1 ⟨j,l,q1⟩=>?_);cases d with
 |true=>exact ha pins s1 f j D l q1
 |false=>exact hb pins s1 f j D l q1
noncomputable def tNever:TS:=λ_ _ _=>False
theorem qfm:PS X st tNever:=λ_ _ _ _ _ _ h=>h.elim
end
noncomputable abbrev TG:=V->St->Hp->(St->Hp->Prop)->Prop
noncomputable abbrev TGs:=List V->St->Hp->(St->Hp->Prop)->Prop
noncomputable def PG(X:Cx)(a:Expr)(t:TG):Prop :=
 ∀(pins:04) (s:Shared) (c:St) (H:Hp) (v:V) (u:Value) (Q:St->Hp->Prop),Inv X pins c H s->RelV v u->t v c H Q ->
  wpAny 03 X.A (assign a X.env u) (λ_ s'=>∃b H',Inv X pins b H' s'/\Q b H') X.xe s
noncomputable def PGs(X:Cx)(ts:List Expr)(t:TGs):Prop :=
 ∀(pins:04) (s:Shared) (b:St) (H:Hp) (vs:List V) (us:List Value) (Q:St->Hp->Prop),Inv X pins b H s->Vals vs us->t vs b H Q ->
  wpAny 03 X.A (assignInOrder ((assignEach ts X.env).map (·.2)) us) (λ_ s'=>∃a H',Inv X pins a H' s'/\Q a H') X.xe s
noncomputable abbrev TSet:=V->V->V->Hp->(Hp->Prop)->Prop
noncomputable def PSet(X:Cx)(t:TSet):Prop :=
 ∀(pins:04) (s:Shared) (a:St) (H:Hp) (o i v:V) (b c u:Value) (Q:Hp->Prop),Inv X pins a H s->RelV o b->RelV i c->RelV v u->t o i v H Q ->
  wpAny 03 X.A (setItem b c u) (λ_ s'=>∃H',Inv X pins a H' s'/\Q H') X.xe s
section
variable{X:Cx}{pos:Pos}
noncomputable def gName(i:Nat):TG:=λv a H Q=>Q (a.set i (some v)) H
theorem qdz{i:Nat}{x:Str}(a:X.N.Nodup)(hi:X.N[i]?=some x)(b:Loc X.env.scope x)(c:X.fn x=true\/X.env.scope.names.lookup x=some .local:=by first|exact .inl rfl|exact .inr rfl|assumption):PG X (.Name x pos) (gName i):=by
 intro pins s f H v u Q I r h;exact wpAny_assign_Name (zK I a hi b r (λs' d=>⟨_,H,d,h⟩) c)
noncomputable def gNil:TGs:=λvs a H Q=>vs=[]/\Q a H
noncomputable def gCons(t:TG)(u:TGs):TGs:=λvs b H Q=>∃v r,vs=v::r/\t v b H λa H'=>u r a H' Q
theorem qhD:PGs X [] gNil:=by
 intro pins s a H vs us Q I r h;obtain⟨e,h⟩:=h;subst e;cases r;exact assignInOrder_nil ⟨a,H,I,h⟩
theorem qfn{e:Expr}{es:List Expr}{t:TG}{u:TGs}(b:PG X e t)(c:PGs X es u)(d:(assignEach (e::es) X.env).map (·.2)=assign e X.env::(assignEach es X.env).map (·.2):=by rfl):PGs X (e::es) (gCons t u):=by
 intro pins s f H vs us Q I r h;obtain⟨v,m,e1,h⟩:=h;subst e1;cases r with
 |cons r i =>
  rw[d];refine uK (thn (b pins s f H _ _ _ I r h) λ_ s1 ⟨a,j,l,q1⟩=>?_);exact c pins s1 a j _ _ Q l i q1
noncomputable def gTup(K:PySem.W.Frag)(n:Nat)(t:TGs):TG:=λv b H Q=>∃a xs,v=.ref a/\SqT K H a xs/\xs.length=n/\t xs b H Q
theorem qjG{es:List Expr}{k:Nat}{t:TGs}{n:Nat}(j:X.calm=true)(h:PGs X es t)(hn:(assignEach es X.env).length=n:=by rfl)(c:(assignEach es X.env).findIdx? (·.1)=none:=by rfl):PG X (.Tuple es k pos) (gTup X.K n t):=by
 intro pins s f H v u Q I r d;obtain⟨a,xs,e1,l,m,d⟩:=d;subst e1;cases r;obtain⟨p,i,q,y⟩:=I.tuple l;refine assign_Tuple_tuple (I.ok.hd j) q (by simp[hn,<-m,i.length]) c λh' w=>?_
 have x:Inv X pins f H {s with heap:=h' }:=I.kept (t':=s.toks) λb o e=>w b o (wk (wP e)) e
 exact h pins _ f H xs _ Q x (by simpa using i) d
noncomputable def gSub(b ti:TE)(t:TSet):TG:=λv a H Q=>b a H λo c=>ti a c λi H2=>t o i v H2 λH3=>Q a H3
theorem qjH{o i:Expr}{d ti:TE}{t:TSet}(f:PE X o d)(hi:PE X i ti)(j:PSet X t)(ha:∀v,assign (.Subscript o i pos) X.env v=(do
   let a <-holding [v] (eval o X.env)
   let b <-holding [v,a] (eval i X.env)
   standAt pos
   holding [v,a,b] (setItem a b v)
   release [v,a,b] []):=by intro _;rfl):PG X (.Subscript o i pos) (gSub d ti t):=by
 intro pins s c H v u Q I r h;rw[ha];refine wB (vE (thn (f pins s c H _ I h) λa s1 ⟨x,l,m,r1,q1⟩=>?_));refine wB (vE (thn (hi pins s1 c l _ m q1) λb s2 ⟨y,H2,n,r2,q2⟩=>?_));refine wB (wu (wB (vE (thn (j pins s2 c H2 x y v a b u _ n r1 r2 r q2) λ_ w ⟨H3,p,q⟩=>?_))));exact wpAny_release ⟨c,H3,p,q⟩
noncomputable def tAsg(b:TE)(g:TG):TS:=λD a H=>b a H λx c=>g x a c D.nx
theorem qjI{tg e:Expr}{a:TE}{g:TG}(c:PE X e a)(d:PG X tg g)(f:swapsWithSole [tg] e pos.line X.env=pure false:=by rfl)(i:swappedStores [tg] e X.env=pure none:=by rfl)(j:(assignEach [tg] X.env).map (·.2)=[assign tg X.env]:=by rfl):PS X (.Assign [tg] e pos) (tAsg a g):=by
 intro pins s b H D I h;refine wpAny_Assign_stores (thn (c pins s b H _ I h) λv s1 ⟨x,l,m,r1,q1⟩=>?_) f i;rw[j];exact thn (d pins s1 b l x v _ m r1 q1) λ_ s2 q=>q
theorem qjJ{i:Nat}{x:Str}{e:Expr}{b:TE}{a:Pos}(c:X.N.Nodup)(hi:X.N[i]?=some x)(d:Loc X.env.scope x)(f:PE X e b)(j:swapsWith e (some (.Name x a)) pos.line X.env=pure false:=by rfl)(l:X.fn x=true\/X.env.scope.names.lookup x=some .local:=by first|exact .inl rfl|exact .inr rfl|assumption):
  PS X (.Assign [.Name x a] e pos) (tAsg b (gName i)):=by
 intro pins s m H D I h;refine wpAny_Assign_Name (thn (f pins s m H _ I h) λv s1 ⟨y,n,o,r1,q1⟩=>?_) j;exact zK o c hi d r1 (λs2 p=>⟨_,n,p,q1⟩) l
noncomputable def tPar(i j:Nat)(b:TA):TS:=λD a H=>b a H λvs c=>∃v w,vs=[v,w]/\D.nx ((a.set i (some v)).set j (some w)) c
theorem qjK{i j:Nat}{x y:Str}{a b:Expr}{u:TA}{f l pt:Pos}{kt k2 pt2}(L:X.calm=true)(B:X.N.Nodup)(hi:X.N[i]?=some x)(M:X.N[j]?=some y)(m:i≠j)(C:X.env.scope.names.lookup x=some .local)(E:X.env.scope.names.lookup y=some .local)(ha:PA X [a,b] u)(O:swappedStores [.Tuple [.Name x f,.Name y l] kt pt] (.Tuple [a,b] k2 pt2) X.env=pure (some [x,y]))(P:swapsWithSole [.Tuple [.Name x f,.Name y l] kt pt] (.Tuple [a,b] k2 pt2) pos.line X.env=pure false:=by rfl):
  PS X (.Assign [.Tuple [.Name x f,.Name y l] kt pt] (.Tuple [a,b] k2 pt2) pos) (tPar i j u):=by
 intro pins s F H D I h;rw[exec_Assign_arm];refine wB (wu ?_);rw[P];refine wB (wE ?_);rw[wT 02];refine wB (Tuple_ (thn (ha _ pins s F H _ I h) λus s1 ⟨vs,J,Q,r1,q1⟩=>?_));obtain⟨v,w,e1,q1⟩:=q1;subst e1;obtain⟨c,d,rfl,S,n⟩:∃c d,us=[c,d]/\RelV v c/\RelV w d:=by
  cases r1 with
  |cons p q =>
   cases q with
   |cons U W =>
    cases W;exact⟨_,_,rfl,p,U⟩
 refine wa ?_ (by show 2<=sizeLine;decide);have Y:Inv X pins F J {s1 with heap:=s1.heap.push {cls:=.type "tuple",data:=.seq [c,d].toArray}}:=Q.kept (t':=s1.toks) λb o e=>wC _ e
 rw[O];refine wB (wE ?_);show wpAny 03 X.A (do rule "assign.swapped-stores";let items <-unpackItems (.ref s1.heap.objs.size) 2 none;assignInOrder [λv=>bindName X.env y v,λv=>bindName X.env x v] items.reverse;pure Flow.next) _ _ _;refine wB (vc (wB (unpackItems_tuple (items:=#[c,d]) (I.ok.hd L) (IsTup.new s1.heap _) λh' r=>?_)));have Z:=Y.kept (h':=h') (t':=s1.toks) λb o e=>r b o (wk (wP e)) e
 show wpAny _ _ (assignInOrder [λv=>bindName X.env y v,λv=>bindName X.env x v] [d,c] >>= λ_=>pure Flow.next) _ _ _;refine wB (uK (xE (zK Z B M (.inl E) n (λs2 I4=>?_) (.inr E))));refine uK (xE (zK I4 B hi (.inl C) S (λs3 K=>assignInOrder_nil (wE ?_)) (.inr C)));rw[List.set_comm _ _ (Ne.symm m)]at K;exact⟨_,J,K,q1⟩
end
section
variable{X:Cx}{pos:Pos}
noncomputable def tWhile(c:TT)(i:TS):TS:=λD a H=>∃W:Nat->St->Hp->Prop,(∃m,W m a H)/\∀m a H,W m a H ->
 c a H λb f=>if b=true then ∃N:St->Hp->Prop,(∀d H',N d H'->∃h,h<m/\W h d H')/\i {D with nx:=N,ct:=N,bk:=D.nx} a f else D.nx a f
theorem qfo{c:Expr}{body:List Stmt}{q:TT}{r:TS}(u:PassesOwn 03 X.A X.env X.xe)(C:PT X c q)(hb:PSs X body r):PS X (.While c body [] pos) (tWhile q r):=by
 intro pins s E H D I h;obtain⟨W,⟨F,J⟩,turn⟩:=h;refine wpAny_While (codeAny_whileLoop (λn s'=>∃i H',Inv X pins i H' s'/\W n i H') ?_ F ⟨E,H,I,J⟩);rintro n s1 ⟨d,x,K,L⟩;refine uM u (thn (C pins s1 d x _ K (turn n d x L)) λb s2 ⟨H2,y,q2⟩=>?_);cases b with
 |true =>
  obtain⟨N,B,q2⟩:=q2;rw[wR rfl];refine uM u (thn (hb pins s2 d H2 _ y q2) λf M j=>?_);cases f with
  |next =>
   obtain⟨a,H3,l,m⟩:=j;obtain⟨o,hm,p⟩:=B a H3 m;exact⟨o,hm,a,H3,l,p⟩
  |cont =>
   obtain⟨a,H3,l,m⟩:=j;obtain⟨o,hm,p⟩:=B a H3 m;exact⟨o,hm,a,H3,l,p⟩
  |brk=>exact j
  |ret v=>exact j
 |false =>
  rw[wT wb];exact wpAny_execs_nil ⟨d,H2,y,q2⟩
end
structure It where
 go:Nat->Hp->Prop
 yld:Nat->Hp->V->Hp->Prop
 stop:Nat->Hp->Prop
noncomputable def FpOk(X:Cx)(pins:04)(H:Hp)(b:Addr):Prop :=
 H b=none/\b≠X.env.locals/\b∉X.fs/\(b∈X.ex\/X.s₀.heap.objs.size<=b)/\(∀x c,X.env.cells.lookup x=some c->c≠b)/\∀p∈X.pn++pins,p.1≠b
def Inv.fpOk{X:Cx}{pins:04}{a:St}{H H':Hp}{s:Shared}{b:Addr}(I:Inv X pins a H s)(hb:s.heap.objs.size<=b)(hn:H' b=none):FpOk X pins H' b:=by
 refine⟨hn,vl (w8 I.lt hb),I.nofs hb,.inr (vK I.sz hb),λx c e z=>?_,λp d z=>?_⟩
 .obtain ⟨v,q⟩:=I.cell x c e
  exact absurd (w8 q.lt (by rw[z];exact hb)) (vR _)
 .exact absurd (w8 (wP (I.pin p d).1) (by rw[z];exact hb)) (vR _)
structure Turn (P:Program) (w:World) (K:PySem.W.Frag) (tg:Expr) (J:It) (fp:01) (it:Addr) (tn:Nat->Heap->Prop):Prop where
 mem:it∈fp
 obj:∀i h,tn i h->∀b∈fp,∃o,h.get? b=some o/\∀v,o.data≠.cell v
 keep:∀i h h',tn i h->(∀b∈fp,∀o,h.get? b=some o->h'.get? b=some o)->tn i h'
 item:∀(X:Cx),X.prog=P->X.w=w->X.K=K->X.calm=true->∀(i:Nat) (pins:04) (s:Shared) (σ:St) (H:Hp) (E:06),Inv X pins σ H s->(∀b∈fp,FpOk X pins H b)->tn i s.heap->J.go i H ->
  wpAny (model P w) X.A (pyNext (.ref it)) (λr s1=>∃u,r=some u /\
   wpAny (model P w) X.A (letOwnedTupleGo tg (.ref it) u) (λ_ s2=>∃x H',Inv X pins σ H' s2/\RelV x u/\J.yld i H x H'/\tn (i+1) s2.heap/\∀b∈fp,H' b=none) E s1) E s
 done:∀(X:Cx),X.prog=P->X.w=w->X.K=K->X.calm=true->∀(i:Nat) (pins:04) (s:Shared) (σ:St) (H:Hp) (E:06),Inv X pins σ H s->(∀b∈fp,FpOk X pins H b)->tn i s.heap->J.stop i H ->
  wpAny (model P w) X.A (pyNext (.ref it)) (λr s1=>r=none/\Inv X pins σ H s1) E s
 self:∀(A:Around) (i:Nat) (s:Shared) (Q:06) (E:06),tn i s.heap->Q (.ref it) s->wpAny (model P w) A (pyIter (.ref it)) Q E s
noncomputable abbrev TI:=St->Hp->(It->Hp->Prop)->Prop
noncomputable def PIE(X:Cx)(pins:04)(c:St)(tg:Expr)(R:It->Hp->Prop)(a:Value)(s2:Shared):Prop :=
 ∃(it:Addr) (fp:01) (tn:Nat->Heap->Prop) (J:It) (H':Hp),a=.ref it/\Inv X pins c H' s2/\Turn X.prog X.w X.K tg J fp it tn/\tn 0 s2.heap/\(∀b∈fp,FpOk X pins H' b)/\R J H'
noncomputable def PI(X:Cx)(tg iter:Expr)(b:TI):Prop :=
 ∀(pins:04) (s:Shared) (a:St) (H:Hp) (R:It->Hp->Prop),Inv X pins a H s->b a H R ->
  wpAny 03 X.A (eval iter X.env) (λv s1=>wpAny 03 X.A (pyIter v) (PIE X pins a tg R) X.xe s1) X.xe s
def qfp{M:Model}{A:Around}{E:06}{s:Shared}{tg:Expr}{it:Addr}{u:Value}{o:Obj}{n:String}{vs:Array Value}{Q:Unit->Shared->Prop}(b:s.heap.get? it=some o)(c:o.cls=.type n)(hd:o.data=.fields vs)(hn:["enumerate","zip","dict_itemiterator","dict_reverseitemiterator","odict_iterator","itertools.zip_longest","itertools.pairwise"].contains n=false)(a:Q () s):wpAny M A (letOwnedTupleGo tg (.ref it) u) Q E s:=by
 unfold letOwnedTupleGo;cases tg <;> first
  |exact wE a
  | (cases u <;> first
    |exact wE a
    | (refine wB (wpAny_load b ?_)
       rw[c,hd];show wpAny M A (if(["enumerate","zip","dict_itemiterator","dict_reverseitemiterator","odict_iterator","itertools.zip_longest","itertools.pairwise"].contains n&&vs[0]? == some (rawInt _))=true then _ else _) Q E s;rw[wT (by intro h;rw[hn,xm]at h;cases h)];exact wE a))
noncomputable def Itl(K:PySem.W.Frag)(a:Addr):It :=
 ⟨λi H=>∃xs x,SqL K H a xs/\xs[i]?=some x,λi H x H'=>H'=H/\∀xs,SqL K H a xs->xs[i]?=some x,λi H=>∃xs,SqL K H a xs/\xs.length<=i⟩
noncomputable def Itt(K:PySem.W.Frag)(a:Addr):It :=
 ⟨λi H=>∃xs x,SqT K H a xs/\xs[i]?=some x,λi H x H'=>H'=H/\∀xs,SqT K H a xs->xs[i]?=some x,λi H=>∃xs,SqT K H a xs/\xs.length<=i⟩
def qeH{P:Program}{w:World}{K:PySem.W.Frag}{tg:Expr}(a it:Addr):Turn P w K tg (Itl K a) [it] it (λi h=>h.IsListIter it a i) where
 mem:=by simp
 obj:=λi h st b hb=>by
  have e:b=it:=by simpa using hb
  subst e;obtain⟨o,e,c,d⟩:=st;exact⟨o,e,λv z=>by rw[d]at z;cases z⟩
 keep:=λi h h' st k=>st.at λo e=>k it (by simp) o e
 item:=by
  intro X m n q N i pins s O H E I j st r;subst m n q;obtain⟨xs,x,l,y⟩:=r;obtain⟨A,B,p,Q⟩:=I.list l;obtain⟨u,S,U⟩:=B.get y;obtain⟨C,F,Y,J,L,M⟩:=j it (by simp);refine wpAny_pyNext_list_item st p.isList (x:=u) (by simpa using S) λh' f Z=>?_
  have I1:Inv X pins O H {s with heap:=h' }:=I.turned (t':=s.toks) (λb o hb e=>(Z.2 b hb).trans e) C F J L M;obtain⟨o,e,c,d⟩:=id f;exact⟨u,rfl,qfp (s:={s with heap:=h' }) e c d 02 ⟨x,H,I1,U,⟨rfl,λys hy=>by rw[I.list_inj hy l];exact y⟩,f,λb hb=>(j b hb).1⟩⟩
 done:=by
  intro X m n q N i pins s O H E I j st r;subst m n q;obtain⟨xs,l,y⟩:=r;obtain⟨A,B,p,Q⟩:=I.list l;obtain⟨C,F,Y,J,L,M⟩:=j it (by simp);have hl:=B.length;exact wpAny_pyNext_list_end (I.ok.hd N) st p.isList (by simp;lia) λh' eb=>⟨rfl,I.turned (t':=s.toks) (λb o hb e=>eb b o hb e) C F J L M⟩
 self:=λ_ _ _ _ _ st h=>wpAny_pyIter_listiter st h
def qcS{P:Program}{w:World}{K:PySem.W.Frag}{tg:Expr}(a it:Addr):Turn P w K tg (Itt K a) [it] it (λi h=>h.IsTupleIter it a i) where
 mem:=by simp
 obj:=λi h st b hb=>by
  have e:b=it:=by simpa using hb
  subst e;obtain⟨o,e,c,d⟩:=st;exact⟨o,e,λv z=>by rw[d]at z;cases z⟩
 keep:=λi h h' st k=>st.at λo e=>k it (by simp) o e
 item:=by
  intro X n q r N i pins s O H E I l st y;subst n q r;obtain⟨xs,x,m,A⟩:=y;obtain⟨f,B,p,Q⟩:=I.tuple m;obtain⟨u,S,U⟩:=B.get A;obtain⟨C,F,Y,J,L,M⟩:=l it (by simp);refine wpAny_pyNext_tuple_item st (show s.heap.IsTuple a f.toArray from p) (x:=u) (by simpa using S) λh' j Z=>?_
  have I1:Inv X pins O H {s with heap:=h' }:=I.turned (t':=s.toks) (λb o hb e=>(Z.2 b hb).trans e) C F J L M;obtain⟨o,e,c,d⟩:=id j;exact⟨u,rfl,qfp (s:={s with heap:=h' }) e c d 02 ⟨x,H,I1,U,⟨rfl,λys hy=>by rw[I.tuple_inj hy m];exact A⟩,j,λb hb=>(l b hb).1⟩⟩
 done:=by
  intro X n q r N i pins s O H E I l st y;subst n q r;obtain⟨xs,m,A⟩:=y;obtain⟨f,B,p,Q⟩:=I.tuple m;obtain⟨C,F,Y,J,L,M⟩:=l it (by simp);have hl:=B.length;exact wpAny_pyNext_tuple_end (I.ok.hd N) st (show s.heap.IsTuple a f.toArray from p) (by simp;lia) λh' eb=>⟨rfl,I.turned (t':=s.toks) (λb o hb e=>eb b o hb e) C F J L M⟩
 self:=λ_ _ _ _ _ st h=>wpAny_pyIter_tupleiter st h
section
variable{X:Cx}{tg:Expr}
noncomputable def tFor(f:TI)(g:TG)(h:TS):TS:=λD a H=>f a H λJ j=>∃W:Nat->Nat->St->Hp->Prop,(∃m,W 0 m a j)/\∀i m a H,W i m a H ->
 (J.stop i H/\D.nx a H)\/(J.go i H/\∃N:St->Hp->Prop,(∀b H',N b H'->∃d,d<m/\W (i+1) d b H')/\∀x H',J.yld i H x H'->g x a H' λc H2=>h {D with nx:=N,ct:=N,bk:=D.nx} c H2)
noncomputable def pinsAt(fp:01)(h:Heap):List (Addr×Obj):=fp.filterMap λb=>(h.get? b).map λo=>(b,o)
theorem qz{fp:01}{h:Heap}{b:Addr}{o:Obj}(hb:b∈fp)(e:h.get? b=some o):(b,o)∈pinsAt fp h:=List.mem_filterMap.mpr ⟨b,hb,by rw[e];rfl⟩
theorem qaJ{fp:01}{h:Heap}{p:Addr×Obj}(a:p∈pinsAt fp h):p.1∈fp/\h.get? p.1=some p.2:=by
 obtain⟨b,hb,e⟩:=List.mem_filterMap.mp a;cases q:h.get? b with
 |none=>rw[q]at e;cases e
 |some o =>
  rw[q]at e;have c:(b,o)=p:=Option.some.inj e;subst c;exact⟨hb,q⟩
theorem Inv.pinned{pins:04}{a:St}{H:Hp}{s:Shared}{fp:01}(I:Inv X pins a H s)(f:∀b∈fp,FpOk X pins H b)(h:∀b∈fp,∃o,s.heap.get? b=some o/\∀v,o.data≠.cell v):Inv X (pins++pinsAt fp s.heap) a H s :=
 I.pins_of λp i=>(w9.mp i).elim (λz=>I.pin p (wG _ z)) λz=>by
  obtain⟨hb,e⟩:=qaJ z;obtain⟨j,l,m,_⟩:=f p.1 hb;obtain⟨o,c,d⟩:=h p.1 hb;rw[e]at c;cases c;exact⟨e,j,l,m,d⟩
theorem Inv.unpinned{pins pl:04}{a:St}{H:Hp}{s:Shared}(I:Inv X (pins++pl) a H s):Inv X pins a H s:=I.pins_of λp b=>I.pin p (wG _ (wp _ b))
theorem qjL{iter:Expr}{body:List Stmt}{Y:TI}{g:TG}{Z:TS}{pos:Pos}(E:PassesOwn 03 X.A X.env X.xe)(hc:X.calm=true)(hi:PI X tg iter Y)(hg:PG X tg g)(hb:PSs X body Z)(hs:∀x,foldedSetIterable iter X.env x=pure x:=by intro _;rfl):PS X (.For tg iter body [] pos) (tFor Y g Z):=by
 intro pins s σ H D I h;refine wpAny_For (thn (hi pins s σ H _ I h) λv s1 h1=>thn h1 λa0 s2 h2=>?_) hs;obtain⟨it,fp,tn,J,H2,e,I2,T,M,f2,W,⟨m0,w0⟩,turn⟩:=h2;subst e;have c:∀{H':Hp},(∀b∈fp,H' b=none)->∀b∈fp,FpOk X pins H' b:=λhn b hb=>⟨hn b hb,(f2 b hb).2⟩
 refine codeAny_forLoop_any (λn s'=>∃i j H',Inv X pins j H' s'/\tn i s'.heap/\(∀b∈fp,H' b=none)/\W i n j H') ?_ m0 ⟨0,σ,H2,I2,M,λb hb=>(f2 b hb).1,w0⟩;rintro n s3 ⟨i,l,H3,I3,F,K,w3⟩;rcases turn i n l H3 w3 with ⟨stop,qn⟩|⟨go,N,hN,step⟩
 .refine uM E (thn (T.done X rfl rfl rfl hc i pins s3 l H3 X.xe I3 (c K) F stop) λr s4 ⟨O,I4⟩=>?_)
  subst O;exact wpAny_execs_nil ⟨l,H3,I4,qn⟩
 .refine uM E (thn (T.item X rfl rfl rfl hc i pins s3 l H3 X.xe I3 (c K) F go) λr s4 ⟨u,O,h4⟩=>?_)
  subst O;refine uM E (thn h4 λ_ s5 ⟨x,H5,I5,r5,y5,C,P⟩=>?_);have Q:=I5.pinned (c P) (T.obj _ _ C);refine uM E (thn (hg _ s5 l H5 x u _ Q r5 (step x H5 y5)) λ_ s6 ⟨S,H6,I6,q6⟩=>?_);refine uM E (thn (hb _ s6 S H6 _ I6 q6) λf U B=>?_);have p:∀{a:St} {q:Hp},Inv X (pins++pinsAt fp s5.heap) a q U->N a q->∃m,m<n/\∃i j H',Inv X pins j H' U/\tn i U.heap/\(∀b∈fp,H' b=none)/\W i m j H':=λ{a q} y L=>by
   obtain⟨m',hm,w7⟩:=hN a q L;refine⟨m',hm,i+1,a,q,y.unpinned,T.keep _ _ _ C λb hb o e=>(y.pin (b,o) (wG _ (wG _ (qz hb e)))).1,λb hb=>?_,w7⟩;obtain⟨o,e,d⟩:=T.obj _ _ C b hb;exact(y.pin (b,o) (wG _ (wG _ (qz hb e)))).2.1
  cases f with
  |next=>obtain⟨a,q,y,L⟩:=B;exact p y L
  |cont=>obtain⟨a,q,y,L⟩:=B;exact p y L
  |brk=>obtain⟨a,q,y,B⟩:=B;exact⟨a,q,y.unpinned,B⟩
  |ret v=>obtain⟨x7,a,q,y,r7,B⟩:=B;exact⟨x7,a,q,y.unpinned,r7,B⟩
end
noncomputable abbrev R2:=V->V->Hp->VK->Prop
noncomputable def OpR(X:Cx)(f:Value->Value->Sem Value)(r:R2):Prop :=
 ∀(pins:04) (s:Shared) (a:St) (H:Hp) (x y:V) (v u:Value) (Q:VK),Inv X pins a H s->RelV x v->RelV y u->r x y H Q ->
  wpAny 03 X.A (f v u) (EP X pins a Q) X.xe s
noncomputable def UnR(X:Cx)(f:Value->Sem Value)(r:V->Hp->VK->Prop):Prop :=
 ∀(pins:04) (s:Shared) (a:St) (H:Hp) (x:V) (v:Value) (Q:VK),Inv X pins a H s->RelV x v->r x H Q ->
  wpAny 03 X.A (f v) (EP X pins a Q) X.xe s
noncomputable def CallR(X:Cx)(f:Value)(r:List V->Hp->VK->Prop):Prop :=
 ∀(pins:04) (s:Shared) (a:St) (H:Hp) (xs:List V) (us:List Value) (Q:VK),Inv X pins a H s->Vals xs us->r xs H Q ->
  wpAny 03 X.A (call f us) (EP X pins a Q) X.xe s
noncomputable def TruR(X:Cx)(r:V->Hp->(Bool->Hp->Prop)->Prop):Prop :=
 ∀(pins:04) (s:Shared) (a:St) (H:Hp) (x:V) (v:Value) (Q:Bool->Hp->Prop),Inv X pins a H s->RelV x v->r x H Q ->
  wpAny 03 X.A (truthy v) (TP X pins a Q) X.xe s
noncomputable def tOp(r:R2)(b c:TE):TE:=λa H Q=>b a H λx d=>c a d λy H2=>r x y H2 Q
noncomputable def tUn(r:V->Hp->VK->Prop)(a:TE):TE:=λb H Q=>a b H λx c=>r x c Q
noncomputable def rI(C:Int->Int->Prop)(g:Int->Int->V):R2:=λx y H Q=>∃i j,x=.int i/\y=.int j/\C i j/\Q (g i j) H
noncomputable def rI0(g:Int->Int->V):R2:=λx y H Q=>∃i j,x=.int i/\y=.int j/\Q (g i j) H
def rU(g:Int->V):V->Hp->VK->Prop:=λx H Q=>∃i,x=.int i/\Q (g i) H
section
variable{X:Cx}{a b c:Expr}{ta tb tc:TE}{pos:Pos}
theorem binT(ha:PE X a ta)(hb:PE X b tb){pins:04}{s:Shared}{d:St}{H:Hp}{R:V->V->Hp->Prop}(I:Inv X pins d H s)(h:ta d H λx l=>tb d l λy H2=>R x y H2){Q:06}{f:Value->Value->Sem Value}(m:∀v u s2 x y H2,Inv X pins d H2 s2->RelV x v->RelV y u->R x y H2->wpAny 03 X.A (f v u) Q X.xe s2):
  wpAny 03 X.A (eval a X.env) (λv i=>wpAny 03 X.A (eval b X.env) (λu j=>wpAny 03 X.A (f v u) Q X.xe j) X.xe i) X.xe s:=by
 refine thn (ha pins s d H _ I h) λv s1 ⟨x,l,n,r1,q1⟩=>?_
 refine thn (hb pins s1 d l _ n q1) λu s2 ⟨y,H2,o,r2,q2⟩=>?_
 exact m v u s2 x y H2 o r1 r2 q2
theorem qlt{op:Operator}{r:R2}(d:OpR X (binaryOp op) r)(ha:PE X a ta)(hb:PE X b tb):PE X (.BinOp a op b pos) (tOp r ta tb):=by
 intro pins s f H Q I h;exact wpAny_BinOp (binT ha hb I h λv u s2 x y H2 i j l q=>d pins s2 f H2 x y v u Q i j l q)
theorem qlu{op:UnaryOp}{r:V->Hp->VK->Prop}(f:UnR X (unaryOp op) r)(ha:PE X a ta):PE X (.UnaryOp op a pos) (tUn r ta):=by
 intro pins s d H Q I h;exact UnaryOp_ (thn (ha pins s d H _ I h) λv s1 ⟨x,i,j,r1,q1⟩=>f pins s1 d i x v Q j r1 q1)
theorem opI{f:Value->Value->Sem Value}{C:Int->Int->Prop}{g:Int->Int->Int}(d:∀(i j:Int) (t u:Tok) (s:Shared) (Q:06) (E:06),C i j->Q (.int (g i j) s.toks) {s with toks:=s.toks+1}->wpAny 03 X.A (f (.int i t) (.int j u)) Q E s):
  OpR X f (rI C λi j=>.int (g i j)):=by
 intro pins s o H x y v u Q I l m h;obtain⟨i,j,rfl,rfl,n,q⟩:=h;obtain⟨t,rfl⟩:=l;obtain⟨t',rfl⟩:=m;exact d i j t t' s _ _ n ⟨.int (g i j),H,I.tok _,⟨_,rfl⟩,q⟩
theorem opB0{f:Value->Value->Sem Value}{g:Int->Int->Bool}(d:∀(i j:Int) (t u:Tok) (s:Shared) (Q:06) (E:06),Q (.bool (g i j)) s->wpAny 03 X.A (f (.int i t) (.int j u)) Q E s):
  OpR X f (rI0 λi j=>.bl (g i j)):=by
 intro pins s n H x y v u Q I l m h;obtain⟨i,j,rfl,rfl,q⟩:=h;obtain⟨t,rfl⟩:=l;obtain⟨t',rfl⟩:=m;exact d i j t t' s _ _ ⟨.bl (g i j),H,I,rfl,q⟩
theorem qcT(k:Nat):(0:Int)<=2^k:=by
 rw[two_pow_cast];exact Int.natCast_nonneg _
theorem qjM:OpR X (binaryOp .RShift) (rI (λ_ j=>0<=j) λi j=>.int (i / 2^j.toNat)):=opI λi j _ _ _ _ _ d q =>
 rshift_int d (by rw[uW i (qcT _)];exact q)
theorem unI{f:Value->Sem Value}{g:Int->Int}(d:∀(i:Int) (t:Tok) (s:Shared) (Q:06) (E:06),Q (.int (g i) s.toks) {s with toks:=s.toks+1}->wpAny 03 X.A (f (.int i t)) Q E s):
  UnR X f (rU λi=>.int (g i)):=by
 intro pins s l H x v Q I j h;obtain⟨i,rfl,q⟩:=h;obtain⟨t,rfl⟩:=j;exact d i t s _ _ ⟨.int (g i),H,I.tok _,⟨_,rfl⟩,q⟩
theorem qjN:UnR X (unaryOp .USub) (rU λi=>.int (-i)):=unI λ_ _ _ _ _ q=>neg_int q
end
section
variable{X:Cx}{a b c:Expr}{ta tb tc:TE}{pos:Pos}
theorem qfq{pins:04}{d:St}{H:Hp}{s:Shared}{Q:VK}{k f:Bool}(I:Inv X pins d H s)(q:Q (.bl k) H)(e:k=f):EP X pins d Q (.bool f) s:=by
 subst e;exact⟨.bl k,H,I,rfl,q⟩
theorem qlv:OpR X (compareOp .Lt) (rI0 λi j=>.bl (decide (i<j))):=opB0 λ_ _ _ _ _ _ _ q=>lt_int q
theorem qlw:OpR X (compareOp .LtE) (rI0 λi j=>.bl (decide (i<=j))):=opB0 λ_ _ _ _ _ _ _ q=>le_int q
theorem qlx:OpR X (compareOp .Gt) (rI0 λi j=>.bl (decide (j<i))):=opB0 λ_ _ _ _ _ _ _ q=>gt_int q
theorem qly:OpR X (compareOp .GtE) (rI0 λi j=>.bl (decide (j<=i))):=opB0 λ_ _ _ _ _ _ _ q=>ge_int q
theorem qjO:OpR X (compareOp .Is) (λx y H Q=>y=.non/\Q (.bl (decide (x=.non))) H):=by
 intro pins s i H x y v u Q I d f h;obtain⟨rfl,q⟩:=h;cases f;refine is_none_gen (qfq I q ?_);cases x <;> first
  | (cases d;rfl)
  | (obtain⟨t,rfl⟩:=d;rfl)
theorem qhE:OpR X (compareOp .IsNot) (λx y H Q=>y=.non/\Q (.bl (!decide (x=.non))) H):=by
 intro pins s i H x y v u Q I d f h;obtain⟨rfl,q⟩:=h;cases f;refine isnot_none_gen (qfq I q ?_);cases x <;> first
  | (cases d;rfl)
  | (obtain⟨t,rfl⟩:=d;rfl)
theorem qhF{op:CmpOp}{r:R2}(d:OpR X (compareOp op) r)(ha:PE X a ta)(hb:PE X b tb)(hm:behindInMarks op b=false):PE X (.Compare a [op] [b] pos) (tOp r ta tb):=by
 intro pins s f H Q I h;exact wpAny_Compare1 (binT ha hb I h λv u s2 x y H2 i j l q=>d pins s2 f H2 x y v u Q i j l q) hm
noncomputable def tTest(t:TE):TT:=λd H Q=>t d H λx H'=>∃k,x=.bl k/\Q k H'
theorem qhG{op:CmpOp}{r:R2}(f:OpR X (compareOp op) r)(ha:PE X a ta)(hb:PE X b tb)(hm:behindInMarks op b=false):PT X (.Compare a [op] [b] pos) (tTest (tOp r ta tb)):=by
 intro pins s d H Q I h;refine wpAny_isTrue_Compare1 (thn (ha pins s d H _ I h) λv s1 ⟨x,i,j,r1,q1⟩=>thn (hb pins s1 d i _ j q1) λu s2 ⟨y,H2,l,r2,q2⟩ =>
  thn (f pins s2 d H2 x y v u _ l r1 r2 q2) λc p ⟨z,H3,m,n,k,e,o⟩=>?_) hm
 subst e;cases n;exact vT ⟨H3,m,o⟩
noncomputable def tChain(r f:R2)(ta tb tc:TE):TE:=λd H Q=>ta d H λx h=>tb d h λy H2=>r x y H2 λz H3=>∃k,z=.bl k /\
 (if k=true then tc d H3 λi j=>f y i j Q else Q (.bl false) H3)
theorem qfr{op f:CmpOp}{r l:R2}(o:OpR X (compareOp op) r)(j:OpR X (compareOp f) l)(ha:PE X a ta)(hb:PE X b tb)(p:PE X c tc)(hm:lastMarks [op,f] [b,c]=false:=by with_unfolding_all rfl):PE X (.Compare a [op,f] [b,c] pos) (tChain r l ta tb tc):=by
 intro pins s i H Q I h;refine Compare_chain (thn (ha pins s i H _ I h) λv s1 ⟨x,q,w,r1,q1⟩=>chain_link (thn (hb pins s1 i q _ w q1) λu s2 ⟨y,H2,A,r2,q2⟩ =>
  thn (o pins s2 i H2 x y v u _ A r1 r2 q2) λd B ⟨z,H3,m,C,k,e,n⟩=>?_)) hm
 subst e;cases C;refine vT ?_;cases k with
 |false=>exact ite_ff ⟨.bl false,H3,m,rfl,n⟩
 |true=>exact ite_tt (chain_last (thn (p pins B i H3 _ m n) λE F ⟨J,K,L,M,N⟩=>j pins F i K y J u E Q L r2 M N))
theorem qfs{op f:CmpOp}{r l:R2}(o:OpR X (compareOp op) r)(j:OpR X (compareOp f) l)(ha:PE X a ta)(hb:PE X b tb)(p:PE X c tc)(hm:lastMarks [op,f] [b,c]=false:=by with_unfolding_all rfl):PT X (.Compare a [op,f] [b,c] pos) (tTest (tChain r l ta tb tc)):=by
 intro pins s i H Q I h;refine isTrue_chain (thn (ha pins s i H _ I h) λv s1 ⟨x,q,w,r1,q1⟩=>test_link (thn (hb pins s1 i q _ w q1) λu s2 ⟨y,H2,A,r2,q2⟩ =>
  thn (o pins s2 i H2 x y v u _ A r1 r2 q2) λd B ⟨z,H3,m,C,k,e,n⟩=>?_)) hm
 subst e;cases C;refine vT ?_;cases k with
 |false =>
  obtain⟨k',E,F⟩:=n;cases E;exact ite_ff ⟨H3,m,F⟩
 |true =>
  refine ite_tt (test_last (thn (p pins B i H3 _ m n) λJ K ⟨L,M,N,O,P⟩=>thn (j pins K i M y L u J _ N r2 O P) λd' s5 ⟨z2,S,U,W,k2,Y,Z⟩=>?_));subst Y;cases W;exact vT ⟨S,U,Z⟩
noncomputable def TruV(K:PySem.W.Frag)(x:V)(H:Hp)(k:Bool):Prop :=
 match x with
 | .non=>k=false
 | .bl b=>k=b
 | .int i=>k=(i != 0)
 | .str y=>y.length<=sizeLine/\k=((y.length:Int) != 0)
 | .byt y=>y.size<=sizeLine/\k=((y.size:Int) != 0)
 | .ref p=>(∃xs,SqL K H p xs/\k=!xs.isEmpty)\/(∃xs,SqT K H p xs/\k=!xs.isEmpty)\/∃kvs,H p=some (.dK kvs)/\k=!kvs.isEmpty
 |_=>False
theorem qcU{κ:Type}{kvs:List (κ×V)}{vs:List (κ×Value)}(r:KV kvs vs):(!vs.isEmpty)=!kvs.isEmpty:=by
 cases r <;> rfl
theorem j5{xs:List V}{d:List Value}(r:Vals xs d):(!d.toArray.isEmpty)=!xs.isEmpty:=by
 cases r <;> simp
theorem line63:(sizeLine:Nat)<2^63:=by rw[vV];decide
theorem qjP:TruR X (λx H Q=>∃k,TruV X.K x H k/\Q k H):=by
 intro pins s B H x v Q I j h;obtain⟨k,e,q⟩:=h;have C:=line63;have E:sizeLine=16777216:=vV;cases x with
 |non =>
  cases j;have d:k=false:=e;subst d;exact truthy_none ⟨H,I,q⟩
 |bl b =>
  cases j;have d:k=b:=e;subst d;exact vT ⟨H,I,q⟩
 |int i =>
  obtain⟨t,rfl⟩:=j;have d:k=(i != 0):=e;subst d;exact PySem.P.truthy_int ⟨H,I,q⟩
 |str y =>
  obtain⟨t,rfl⟩:=j;obtain⟨u,d⟩:y.length<=sizeLine/\k=((y.length:Int) != 0):=e;subst d;exact PySem.P.truthy_str 00 ⟨H,I.tok _,q⟩
 |byt y =>
  obtain⟨t,rfl⟩:=j;obtain⟨u,d⟩:y.size<=sizeLine/\k=((y.size:Int) != 0):=e;subst d;exact PySem.W.truthy_bytes 00 ⟨H,I.tok _,q⟩
 |ref p =>
  cases j;have d:(∃xs,SqL X.K H p xs/\k=!xs.isEmpty)\/(∃xs,SqT X.K H p xs/\k=!xs.isEmpty)\/∃kvs,H p=some (.dK kvs)/\k=!kvs.isEmpty:=e;rcases d with ⟨xs,l,d⟩|⟨xs,l,d⟩|⟨kvs,l,d⟩
  .subst d
   obtain⟨n,r,pl,o⟩:=I.list l;have f:=r.length;exact wpAny_truthy_list pl.isList (by simp only[wS];lia) ⟨H,I.tok _,by rw[j5 r];exact q⟩
  .subst d
   obtain⟨n,r,pl,o⟩:=I.tuple l;have f:=r.length;exact truthy_tuple pl (by simp only[wS];lia) ⟨H,I.tok _,by rw[j5 r];exact q⟩
  .subst d
   obtain⟨o,A,vs,r,m⟩:kvs.length<=sizeLine/\(p == sysModules)=false/\∃vs,KV kvs vs/\s.heap.DictOf (mixKind X.prog X.w) p vs:=I.hok p _ l;have f:kvs.length=vs.length:=Paired.length r;exact wpAny_truthy_dict A m 00 ⟨H,I.tok _,by rw[qcU r];exact q⟩
 |_=>exact(show False from e).elim
theorem qft(ha:PE X a ta)(i:∀d,isTrue a X.env d=(do let v <-d;standAt a.pos;holding [v] (truthy v))):
  PT X a (λf H Q=>ta f H λx H'=>∃k,TruV X.K x H' k/\Q k H'):=by
 intro pins s f H Q I h;exact isTrue_plain (thn (ha pins s f H _ I h) λv s1 ⟨x,j,l,r1,q1⟩=>qjP pins s1 f j x v Q l r1 q1) (i _)
theorem qcV:OpR X (binaryOp .Add) (λx y H Q=>∃i j,x=.str i/\y=.str j/\i.length+j.length<=sizeLine/\Q (.str (i++j)) H):=by
 intro pins s m H x y v u Q I d f h;obtain⟨i,j,rfl,rfl,l,q⟩:=h;obtain⟨t,rfl⟩:=d;obtain⟨t',rfl⟩:=f;exact add_str (λt' tk=>⟨.str (i++j),H,I.tok _,⟨_,rfl⟩,q⟩) l
theorem vals1{x:V}{us:List Value}(r:Vals [x] us):∃u,us=[u]/\RelV x u:=by
 cases r with
 |cons r1 r2=>cases r2;exact⟨_,rfl,r1⟩
theorem vals2{x y:V}{us:List Value}(r:Vals [x,y] us):∃u d,us=[u,d]/\RelV x u/\RelV y d:=by
 cases r with
 |cons r1 r2 =>
  cases r2 with
  |cons f h=>cases h;exact⟨_,_,rfl,r1,f⟩
theorem qfu:CallR X (.builtin "abs") (λxs H Q=>∃i,xs=[.int i]/\Q (.int (if i<0 then -i else i)) H):=by
 intro pins s d H xs us Q I r h;obtain⟨i,rfl,q⟩:=h;obtain⟨u,rfl,t,rfl⟩:=vals1 r;exact call_abs_int λu tk=>⟨.int (if i<0 then -i else i),H,I.tok _,⟨_,rfl⟩,q⟩
theorem qeI(f:X.calm=true):CallR X (.builtin "max") (λxs H Q=>∃i j,xs=[.int i,.int j]/\Q (.int (if j>i then j else i)) H):=by
 intro pins s l H xs us Q I r h;obtain⟨i,j,rfl,q⟩:=h;obtain⟨u,m,rfl,⟨t,rfl⟩,⟨t',rfl⟩⟩:=vals2 r;refine max_two_ints (I.ok.hd f) λh' tk k=>⟨_,H,I.kept k,?_,q⟩
 by_cases d:j>i
 .rw [wR d,wR d];exact⟨_,rfl⟩
 .rw [wT d,wT d];exact⟨_,rfl⟩
theorem qeJ(f:X.calm=true):CallR X (.builtin "min") (λxs H Q=>∃i j,xs=[.int i,.int j]/\Q (.int (if j<i then j else i)) H):=by
 intro pins s l H xs us Q I r h;obtain⟨i,j,rfl,q⟩:=h;obtain⟨u,m,rfl,⟨t,rfl⟩,⟨t',rfl⟩⟩:=vals2 r;refine min_two_ints (I.ok.hd f) λh' tk k=>⟨_,H,I.kept k,?_,q⟩
 by_cases d:j<i
 .rw [wR d,wR d];exact⟨_,rfl⟩
 .rw [wT d,wT d];exact⟨_,rfl⟩
noncomputable def LenV(K:PySem.W.Frag)(x:V)(H:Hp)(n:Nat):Prop :=
 match x with
 | .str y=>y.length<=sizeLine/\n=y.length
 | .byt y=>y.size<=sizeLine/\n=y.size
 | .ref p=>(∃xs,SqL K H p xs/\n=xs.length)\/∃xs,SqT K H p xs/\n=xs.length
 |_=>False
theorem qfv:CallR X (.builtin "len") (λxs H Q=>∃x n,xs=[x]/\LenV X.K x H n/\Q (.int n) H):=by
 intro pins s w H xs us Q I r h;obtain⟨x,n,rfl,e,q⟩:=h;obtain⟨u,rfl,i⟩:=vals1 r;have A:=line63;have B:sizeLine=16777216:=vV;cases x with
 |str y =>
  obtain⟨t,rfl⟩:=i;obtain⟨o,f⟩:y.length<=sizeLine/\n=y.length:=e;subst f;exact len_str 00 ⟨.int _,H,I.tok _,⟨_,rfl⟩,q⟩
 |byt y =>
  obtain⟨t,rfl⟩:=i;obtain⟨o,f⟩:y.size<=sizeLine/\n=y.size:=e;subst f;exact PySem.W.len_bytes 00 ⟨.int _,H,I.tok _,⟨_,rfl⟩,q⟩
 |ref p =>
  cases i;have f:(∃xs,SqL X.K H p xs/\n=xs.length)\/∃xs,SqT X.K H p xs/\n=xs.length:=e;rcases f with ⟨xs,j,f⟩|⟨xs,j,f⟩
  .subst f
   obtain⟨l,m,pl,v⟩:=I.list j;have d:=m.length;exact Calls.call_len_list pl.isList (by simp only[wS];lia) ⟨.int xs.length,H,I.tok _,⟨_,by simp only[wS];rw[d]⟩,q⟩
  .subst f
   obtain⟨l,m,pl,v⟩:=I.tuple j;have d:=m.length;exact len_tuple pl (by simp only[wS];lia) ⟨.int xs.length,H,I.tok _,⟨_,by simp only[wS];rw[d]⟩,q⟩
 |_=>exact(show False from e).elim
end
structure ObjM (h:Heap) (x dx C:Addr) (mA:Str->Option Value):Prop where
 obj:h.get? x=some (PySem.W.instObj C dx)
 ns:h.Ns1 dx mA
 ne:dx≠x
def qeK{h:Heap}{dx:Addr}{mA:Str->Option Value}(n:h.Ns1 dx mA):∃od,h.get? dx=some od/\∀name,PySem.W.lookIn name od=some (mA name):=by
 obtain⟨o,es,j,c,hd,d,_,hm⟩:=n;refine⟨o,c,λname=>?_⟩;have e:=hm name;unfold nsFind findBy at e;rw[<-Array.find?_toList]at e;unfold PySem.W.lookIn;rw[hd];dsimp only;split
 .rename_i y q
  rw[q]at e;exact congrArg some e
 .rename_i q
  rw[q]at e;have a:es.toList.any (·.refKey)=false:=by
   rw[List.any_eq_false];intro y f;obtain⟨z,t,b⟩:=d y (Array.mem_toList_iff.mp f);simp[DictEntry.refKey,b]
  have i:¬es.toList.any (·.refKey)=true:=by rw[a];exact wb
  rw[wT i];exact congrArg some e
def ObjM.look{h:Heap}{x dx C:Addr}{mA:Str->Option Value}(I:ObjM h x dx C mA):∃od,PySem.W.InstAt h x (PySem.W.instObj C dx) C (some od)/\∀name,PySem.W.lookIn name od=some (mA name) :=
 let ⟨od,a,b⟩:=qeK I.ns
 ⟨od,⟨I.obj,rfl,rfl,a⟩,b⟩
def RelO.some_of{v:V}{o:Option Value}(r:RelO (some v) o):∃u,o=some u/\RelV v u:=by
 cases o with
 |none=>exact(show False from r).elim
 |some u=>exact⟨u,rfl,r⟩
section
variable{P:Program}{w:World}{H H':Hp}{h h':Heap}{a C dx:Addr}{fs fs':List (Str×V)}
theorem qhH(hok:HOk P w H h)(e:H a=some (.ins C dx fs)):∃mA,ObjM h a dx C mA/\(∀f,RelO (fs.lookup f) (mA f))/\PySem.Within mA (fs.map (·.1))/\fs.length<=1000/\H dx=some (.own a):=by
 obtain⟨d,z,ne,ob,mA,n,r,q⟩:=(show ObjOk P w H h a (.ins C dx fs)from hok a _ e);exact⟨mA,⟨ob,n,ne⟩,r,q,z,d⟩
end
structure Cls (K:PySem.W.Frag) (C:Addr):Prop where
 pg:PySem.W.plainGet K C Str.empty=true
 hd:PySem.W.hasDictIn K C=true
 po:PySem.W.plainOver K C=true
 sa:PySem.W.findIn K (.ref C) "__setattr__"=some (some (.builtin "object.__setattr__"))
def Cls.get{K:PySem.W.Frag}{C:Addr}(c:Cls K C)(f:Str):PySem.W.plainGet K C f=true:=c.pg
section
variable{X:Cx}{pins:List (Addr×Obj)}{σ:St}{H:Hp}{s:Shared}{A:Around}{E:Value->Shared->Prop}{Q:Value->Shared->Prop}{c:Value}{b:Bool}
inductive TyOf (K:PySem.W.Frag) (H:Hp):V->Value->Prop where
 |non:TyOf K H .non (.type "NoneType")
 |bl (x:Bool):TyOf K H (.bl x) (.type "bool")
 |int (i:Int):TyOf K H (.int i) (.type "int")
 |str (x:Str):TyOf K H (.str x) (.type "str")
 |flt (x:UInt64):TyOf K H (.flt x) (.type "float")
 |l {a:Addr} {xs:List V} (e:H a=some (.l xs)):TyOf K H (.ref a) (.type "list")
 |frz {a:Addr} {o:Obj} {xs:List V} (e:H a=some (.frz o (.l xs))):TyOf K H (.ref a) (.type "list")
 |t {a:Addr} {xs:List V} (e:H a=some (.t xs)):TyOf K H (.ref a) (.type "tuple")
 |dK {a:Addr} {kvs:List (Key×V)} (e:H a=some (.dK kvs)):TyOf K H (.ref a) (.type "dict")
 |dT {a:Addr} {kvs:List (List Key×V)} (e:H a=some (.dT kvs)):TyOf K H (.ref a) (.type "dict")
 |ins {a C dx:Addr} {fs:List (Str×V)} (e:H a=some (.ins C dx fs)) (cl:Cls K C) (ha:PySem.W.findIn K (.ref C) "__class__"=some (some (.builtin "object.__class__")))
   (hn:PySem.W.specialIn K (.builtin "object.__class__") "__get__"=some (some (.builtin "getset_descriptor.__get__"))) (htk:PySem.W.takesIn K (.builtin "object.__class__")=some true)
   (hm:PySem.W.mroIn K C (.type "object")=some true):TyOf K H (.ref a) (.ref C)
theorem qeL{x:V}{u t:Value}(I:Inv X pins σ H s)(d:RelV x u)(ty:TyOf X.K H x t)(e:PySem.W.kitOne X.K t c=some b)(h:∀tk,Q (.bool b) {s with toks:=tk}):
  wpAny 03 A (call (.builtin "isinstance") [u,c]) Q E s:=by
 cases ty with
 |non=>cases (show u=Value.none from d);exact w4 PySem.W.kitx_none I.kIn True.intro e (λz=>nomatch z) h
 |bl y=>cases (show u=Value.bool y from d);exact w4 PySem.W.kitx_bool I.kIn True.intro e (λz=>nomatch z) h
 |int i=>obtain⟨t,q⟩:=(show ∃t,u=Value.int i t from d);cases q;exact w4 PySem.W.kitx_int I.kIn True.intro e (λz=>nomatch z) h
 |str y=>obtain⟨t,q⟩:=(show ∃t,u=Value.str y t from d);cases q;exact w4 PySem.W.kitx_str I.kIn True.intro e (λz=>nomatch z) h
 |flt y=>obtain⟨t,q⟩:=(show ∃t,u=Value.float y t from d);cases q;exact w4 PySem.W.kitx_float I.kIn True.intro e (λz=>nomatch z) h
 | @l a xs f =>
  cases (show u=Value.ref a from d);obtain⟨_,_,n,_,j⟩:=(show ObjOk X.prog X.w H s.heap a (.l xs)from I.hok a _ f);exact w4 PySem.W.kitx_list I.kIn ⟨_,j,rfl⟩ e (λz=>nomatch z) h
 | @frz a ob xs f =>
  cases (show u=Value.ref a from d);obtain⟨_,_,_,n,_,j⟩:=(show ObjOk X.prog X.w H s.heap a (.frz ob (.l xs))from I.hok a _ f);exact w4 PySem.W.kitx_list I.kIn ⟨_,j,rfl⟩ e (λz=>nomatch z) h
 | @t a xs f =>
  cases (show u=Value.ref a from d);obtain⟨_,_,_,p,_⟩:=(show ObjOk X.prog X.w H s.heap a (.t xs)from I.hok a _ f);obtain⟨o,j,l,_⟩:=p;exact w4 PySem.W.kitx_tuple I.kIn ⟨o,j,l⟩ e (λz=>nomatch z) h
 | @dK a kvs f =>
  cases (show u=Value.ref a from d);obtain⟨_,_,vs,_,p⟩:=(show ObjOk X.prog X.w H s.heap a (.dK kvs)from I.hok a _ f);obtain⟨o,es,m,j,l,_⟩:=p;exact w4 PySem.W.kitx_dict I.kIn ⟨o,j,l.1⟩ e (λz=>nomatch z) h
 | @dT a kvs f =>
  cases (show u=Value.ref a from d);obtain⟨_,_,xs,_,o,es,m,j,l,_⟩:=(show ObjOk X.prog X.w H s.heap a (.dT kvs)from I.hok a _ f);exact w4 PySem.W.kitx_dict I.kIn ⟨o,j,l.1⟩ e (λz=>nomatch z) h
 | @ins a C dx fs f cl ha hn htk hm =>
  cases (show u=Value.ref a from d);obtain⟨mA,O,_⟩:=qhH I.hok f;obtain⟨od,J,_⟩:=O.look;exact w4 (PySem.W.kitx_own (cl.get _) cl.hd ha hn htk hm) I.kIn J e (λz=>nomatch z) h
end
structure Room (k:Nat) (A:Around):Prop where
 hd:A.handled=none
 dp:A.depth+3*k+5<recursionLimit
 un:A.units+16*k+200<cLine
def Room.mono{j k:Nat}{A:Around}(r:Room k A)(h:j<=k):Room j A:=⟨r.hd,by have:=r.dp;lia,by have:=r.un;lia⟩
def Room.deeper{k:Nat}{A:Around}(r:Room (k+1) A)(env:Env):Room k (A.deeper env) :=
 ⟨r.hd,by have:=r.dp;show A.depth+1+3*k+5<_;lia,by have:=r.un;show A.units+3+16*k+200<_;lia⟩
def Room.depth{k:Nat}{A:Around}(r:Room k A):A.depth<recursionLimit:=by have:=r.dp;lia
def Room.units{k:Nat}{A:Around}(r:Room k A):A.units+64<cLine:=by have:=r.un;lia
noncomputable def tNil:TA:=λ_ H Q=>Q [] H
noncomputable def tCons(b:TE)(tr:TA):TA:=λa H Q=>b a H λx c=>tr a c λxs H2=>Q (x::xs) H2
section
variable{X:Cx}{e:Expr}{es:List Expr}{te:TE}{t:TA}{pos:Pos}
theorem qbb:PA X [] tNil:=λ_ _ _ _ H Q I h=>uV ⟨[],H,I,.nil,h⟩
theorem jO(ha:PE X e te)(b:PA X es t)(c:sE X e es:=by rfl):PA X (e::es) (tCons te t):=by
 intro pos pins s a H Q I h;rw[c];show wpAny _ _ (spliced ((false,eval e X.env)::backTo pos (starEach es X.env))) _ _ s;refine vt (thn (ha pins s a H _ I h) λu s1 ⟨x,d,f,r1,q1⟩=>?_);exact thn (b pos pins s1 a d _ f q1) λus s2 ⟨xs,H2,i,r2,q2⟩=>⟨x::xs,H2,i,.cons r1 r2,q2⟩
noncomputable def tTup(t:TA):TE:=λb H Q=>t b H λxs a=>xs.length<=sizeLine/\∀p,a p=none->Q (.ref p) (upd a p (.t xs))
noncomputable def tLst(t:TA):TE:=λb H Q=>t b H λxs a=>xs.length<=sizeLine/\∀p,a p=none->Q (.ref p) (upd a p (.l xs))
theorem qjQ{x1}(h:PA X es t):PE X (.Tuple es x1 pos) (tTup t):=by
 intro pins s d H Q I f;refine wpAny_Tuple_spliced (thn (h pos pins s d H _ I f) λus s1 ⟨xs,a,c,r,z,q⟩=>⟨by rw[<-r.length];exact z,?_⟩);have i:a s1.heap.objs.size=none:=c.hok.fresh (wN _);refine⟨.ref s1.heap.objs.size,upd a s1.heap.objs.size (.t xs),c.laid (t':=s1.toks) (λb u e=>wC _ e) (wN _) ?_,rfl,q _ i⟩;exact⟨z,us,r,⟨_,wM _ rfl,rfl,_,rfl⟩,yF _ _⟩
theorem qfw(h:PA X es t):PE X (.List es pos) (tLst t):=by
 intro pins s d H Q I f;refine wpAny_List_spliced (thn (h pos pins s d H _ I f) λus s1 ⟨xs,a,c,r,z,q⟩=>⟨by rw[<-r.length];exact z,?_⟩);have i:a s1.heap.objs.size=none:=c.hok.fresh (wN _);refine⟨.ref s1.heap.objs.size,upd a s1.heap.objs.size (.l xs),c.laid (t':=s1.toks) (λb u e=>wC _ e) (wN _) ?_,rfl,q _ i⟩;exact⟨z,us,0,r,wM _ rfl⟩
end
noncomputable abbrev Sp:=List V->Hp->VK->XK->Prop
noncomputable abbrev CXT:=List Env->Hp->Shared->XK->Value->Shared->Prop
structure Env0 (P:Program) (w:World) (K:PySem.W.Frag) (mg:Str->Option Value) (base:Heap) (A:Around) (outer:List Env) (s:Shared) (H:Hp):Prop where
 frames:A.frames=some outer
 mod:Mod K mg base
 bs:∀b o,base.get? b=some o->s.heap.get? b=some o/\H b=none
 bsz:base.objs.size<=s.heap.objs.size
 funs:s.heap.FunFrames base outer
 frf:∀b∈frs outer,H b=none
 hok:HOk P w H s.heap
 bare:AllBare s.gens
 tab:∀c T,codeTab K c T=true->∃ps,H T=some (.tbl ps)
noncomputable def CE(outer:List Env)(P:Program)(w:World)(H:Hp)(s:Shared)(Q:VK)(u:Value)(s':Shared):Prop :=
 ∃v H',s'.os=s.os/\GK s.gens s'.gens/\Un (frs outer) [] H H' s.heap s'.heap/\HOk P w H' s'.heap/\RelV v u/\Q v H'
noncomputable def CR(CX:CXT)(outer:List Env)(P:Program)(w:World)(H:Hp)(s:Shared)(Q:VK)(E:XK)(r:Result)(s':Shared):Prop :=
 match r with
 | .ok (.ret u)=>CE outer P w H s Q u s'
 | .ok _=>False
 | .error e=>CX outer H s E e s'
structure FnOk (P:Program) (w:World) (K:PySem.W.Frag) (mg:Str->Option Value) (base:Heap) (CX:CXT) (k:Nat) (f:Addr) (fd:FuncData) (ps:List Str) (sp:Sp):Prop where
 len:∀vs H Q E,sp vs H Q E->vs.length=ps.length
 run:∀(A:Around) (outer:List Env) (s:Shared) (H:Hp) (args:Args) (us:List Value) (vs:List V) (Q:VK) (E:XK),Room k A->Env0 P w K mg base A outer s H->BindsTo s fd args (ps.zip us)->Vals vs us->sp vs H Q E ->
  codeAny (model P w) A (.call (.ref f) args) (CR CX outer P w H s Q E) s
section
variable{X:Cx}{pins:List (Addr×Obj)}{σ:St}{H:Hp}{s s':Shared}
theorem Inv.env0(I:Inv X pins σ H s):Env0 X.prog X.w X.K X.mg X.base X.A X.stack s H :=
 ⟨I.ok.frames,I.ok.mod,I.bs,vK I.ok.bsz I.sz,I.stack,I.stkFree,I.hok,I.bare.bare,λc T z=>let ⟨ps,e⟩:=I.ok.tab c T z;let ⟨m,a⟩:=I.base.tbls _ _ e;⟨_,a⟩⟩
theorem Inv.after{Q:VK}{u:Value}(I:Inv X pins σ H s)(h:CE X.stack X.prog X.w H s Q u s'):EP X pins σ Q u s':=by
 obtain⟨v,H',os,bare,un,hok,r,q⟩:=h;obtain⟨c,g,d,t,a⟩:=s';obtain rfl:a=s.os:=os;exact⟨v,H',I.call (h':=c) (g':=g) (d':=d) (t':=t) (ch:=[]) un hok bare (λb z=>absurd z (by simp)),r,q⟩
end
noncomputable def tCall(sp:Sp)(dvs:List V)(E:XK)(t:TA):TE:=λa H Q=>t a H λvs b=>sp (vs++dvs) b Q E
noncomputable def Binds(K:PySem.W.Frag)(fd:FuncData)(ps:List Str)(ds:List Value):Prop :=
 ∀(s:Shared) (us:List Value),K.In s.heap->(us++ds).length=ps.length->BindsTo s fd ⟨us,[]⟩ (ps.zip (us++ds))
def Binds.all{K:PySem.W.Frag}{fd:FuncData}{ps:List Str}(h:∀us:List Value,us.length=ps.length->bindArgs fd ⟨us,[]⟩=pure (ps.zip us)):Binds K fd ps []:=λs us _ a=>by
 rw[vf]at a ⊢;exact .of_eq (h us a)
def Passes(CX:CXT)(X:Cx)(E:XK):Prop:=∀(pins:04) (a:St) (H:Hp) (s:Shared) (e:Value) (s':Shared),Inv X pins a H s->CX X.stack H s E e s'->X.xe e s'
section
variable{X:Cx}{CX:CXT}{k:Nat}{f C:Addr}{fd:FuncData}{ps:List Str}{sp:Sp}{dvs:List V}{ds:List Value}{E:XK}{x m:Str}{p pos apos:Pos}{e o:Expr}{es:List Expr}{ta:TE}{t:TA}
theorem qjR{pins:04}{b:St}{H:Hp}{s:Shared}{Q:VK}{us:List Value}{vs:List V}(F:FnOk X.prog X.w X.K X.mg X.base CX k f fd ps sp)(c:Room k X.A)(hb:Binds X.K fd ps ds)(hd:Vals dvs ds)(d:Passes CX X E)(I:Inv X pins b H s)(r:Vals vs us)(h:sp (vs++dvs) H Q E):wpAny 03 X.A (call (.ref f) us) (EP X pins b Q) X.xe s:=by
 have r2:Vals (vs++dvs) (us++ds):=r.append hd;have i:(us++ds).length=ps.length:=by rw[<-r2.length];exact F.len _ _ _ _ h
 refine wpAny_call (codeAny_mono (F.run X.A X.stack s H ⟨us,[]⟩ (us++ds) (vs++dvs) Q E c I.env0 (hb s us I.kIn i) r2 h) λr s' a=>?_);cases r with
 |error e=>exact d pins b H s e s' I a
 |ok j =>
  cases j with
  |ret u=>exact I.after a
  |next=>exact False.elim a
  |brk=>exact False.elim a
  |cont=>exact False.elim a
theorem qhI(F:FnOk X.prog X.w X.K X.mg X.base CX k f fd ps sp)(d:Room k X.A)(i:Gl X x)(hm:X.mg x=some (.ref f))(j:PySem.W.keepIn X.K (.ref f)=true)(hb:Binds X.K fd ps ds)(hd:Vals dvs ds)(l:Passes CX X E)(ha:PA X (e::es) t)(a:dB x:=by decide)(n:sE X e es:=by rfl)(b:bT X es pos:=by rfl):
  PE X (.Call (.Name x p) (e::es) [] pos) (tCall sp dvs E t):=by
 intro pins s u H Q I h;refine u7 (qdy I i hm ?_ a);refine PySem.W.callWith_K (h₀:=X.base) I.ok.mod.kin j (thn (ha pos pins s u H _ I h) λus s1 ⟨vs,v,c,r,q⟩=>⟨c.kIn,?_⟩) n b;exact qjR F d hb hd l c r q
end
structure FnScope (N P:List Str) (sc:Scope):Prop where
 kind:sc.kind=.function
 co:sc.isCoroutine=false
 gen:sc.isGenerator=false
 nd:N.Nodup
 pre:N.take P.length=P
 par:∀x∈P,sc.names.lookup x=some .local\/sc.names.lookup x=some .cell
 nofree:∀y∈sc.names,y.2≠.free
def qaK{kindOf:Str->Option NameKind}{x:Str}:∀{a:List (Str×Value)} {m:Str->Option Value},(∀v,(x,v)∉a)->bindL kindOf a m x=m x
 |[],_,_=>rfl
 | (n,v)::r,m,h=>by
  unfold bindL;rw[qaK λw b=>h w (wL _ b)];split
  .have:x≠n:=by rintro rfl;exact h v wH
   simp[this]
  .rfl
def qaL{kindOf:Str->Option NameKind}{x:Str}:∀{a:List (Str×Value)} {m:Str->Option Value},(∀v,(x,v)∉a)->bindC kindOf a m x=m x
 |[],_,_=>rfl
 | (n,v)::r,m,h=>by
  unfold bindC;rw[qaL λw b=>h w (wL _ b)];split
  .rfl
  .have:x≠n:=by rintro rfl;exact h v wH
   simp[this]
def qaM{kindOf:Str->Option NameKind}{x:Str}{v:Value}:∀{P:List Str} {vs:List Value} {i:Nat} {m:Str->Option Value},P.Nodup->P[i]?=some x->vs[i]?=some v->kindOf x=some .local ->
  bindL kindOf (P.zip vs) m x=some v
 |[],_,_,_,_,h,_,_=>by simp at h
 |_::_,[],_,_,_,_,h,_=>by simp at h
 |p::P,w::vs,0,m,nd,h1,h2,hk=>by
  simp at h1 h2;subst h1;subst h2;show bindL kindOf ((p,w)::P.zip vs) m p=_;unfold bindL;rw[qaK λv a=>(wh.mp nd).1 (wn a).1,wR hk];simp
 |p::P,w::vs,i+1,m,nd,h1,h2,hk=>by
  show bindL kindOf ((p,w)::P.zip vs) m x=_;unfold bindL;exact qaM (i:=i) (wh.mp nd).2 (by simpa using h1) (by simpa using h2) hk
def qaN{kindOf:Str->Option NameKind}{x:Str}{v:Value}:∀{P:List Str} {vs:List Value} {i:Nat} {m:Str->Option Value},P.Nodup->P[i]?=some x->vs[i]?=some v->kindOf x≠some .local ->
  bindC kindOf (P.zip vs) m x=some v
 |[],_,_,_,_,h,_,_=>by simp at h
 |_::_,[],_,_,_,_,h,_=>by simp at h
 |p::P,w::vs,0,m,nd,h1,h2,hk=>by
  simp at h1 h2;subst h1;subst h2;show bindC kindOf ((p,w)::P.zip vs) m p=_;unfold bindC;rw[qaL λv a=>(wh.mp nd).1 (wn a).1,wT hk];simp
 |p::P,w::vs,i+1,m,nd,h1,h2,hk=>by
  show bindC kindOf ((p,w)::P.zip vs) m x=_;unfold bindC;exact qaN (i:=i) (wh.mp nd).2 (by simpa using h1) (by simpa using h2) hk
noncomputable def start(N:List Str)(vs:List V):St:=vs.map some++List.replicate (N.length-vs.length) none
noncomputable def cxOf(CX:CXT)(P:Program)(w:World)(K:PySem.W.Frag)(mg:Str->Option Value)(base:Heap)(N:List Str)(a:Str)(scope:Scope)(f:Addr)(c:Value)(A:Around)(outer:List Env)(s:Shared)(H:Hp)(E:XK):Cx where
 prog:=P
 w:=w
 K:=K
 mg:=mg
 base:=base
 A:=A.deeper (envOfC a scope s.heap.objs.size f c)
 N:=N
 s₀:=s
 H₀:=H
 env:=envOfC a scope s.heap.objs.size f c
 outer:=outer
 stack:=envOfC a scope s.heap.objs.size f c::outer
 ex:=[]
 calm:=true
 fn:=λ_=>true
 pn:=[]
 xe:=λe s'=>wpAny (model P w) (A.deeper (envOfC a scope s.heap.objs.size f c)) (leaving (envOfC a scope s.heap.objs.size f c) e) (λ_ b=>CX outer H s E e b) (λd b=>CX outer H s E d b) s'
def qbS{sc:Scope}{n:Nat}{x:Str}(h:sc.names.lookup x=some .cell):∃c,(cellsFrom n sc.names []).lookup x=some c:=by
 have q:=PySem.W.cellsFrom_some sc.names n [] (.inl h);exact Option.isSome_iff_exists.mp q
def qeM{CX:CXT}{P:Program}{w:World}{K:PySem.W.Frag}{mg:Str->Option Value}{base:Heap}{N ps:List Str}{d:Str}{scope:Scope}{f:Addr}{F:Value}{A:Around}{outer:List Env}{s s1:Shared}{H:Hp}{E:XK}{us:List Value}{vs:List V}(S:FnScope N ps scope)(hd:A.handled=none)(l:Env0 P w K mg base A outer s H)(Q:vs.length=ps.length)(r:Vals vs us)(x:InCallC s s.heap.objs.size (bindL (envOfC d scope s.heap.objs.size f F).kindOf (ps.zip us) λ_=>none) (cellsFrom (s.heap.objs.size+1) scope.names []) (bindC (envOfC d scope s.heap.objs.size f F).kindOf (ps.zip us) λ_=>none) s1):
  Inv (cxOf CX P w K mg base N d scope f F A outer s H E) [] (start N vs) H s1:=by
 have M:ps.length<=N.length:=by have:=congrArg List.length S.pre;rw[wr]at this;lia
 obtain⟨I,tk,rfl,J⟩:=x.done;have m:∀b:Addr,b∉(cxOf CX P w K mg base N d scope f F A outer s H E).ex:=λb z=>absurd (show b∈([]:List Addr)from z) (by simp)
 refine⟨⟨l.mod,S.kind,rfl,rfl,wN _,λy z c I j=>?_,λy o=>?_,λy c _ h=>?_,λ_=>hd,Around.frames_deeper l.frames,.inr ⟨rfl,rfl⟩,λb z=>absurd z (m b),l.bs,l.bsz,λb _ _=>m b,λb z=>absurd z (m b),l.funs,l.frf,l.tab⟩,
  rfl,GK.refl l.bare,Un.kept J,⟨_,x.toInCall.ns,λi y v I j U=>?_⟩,λy c h=>⟨_,x.cell y c h⟩,l.hok.fresh (wN _),λy c h=>?_,λp B=>absurd (show p∈([]:List (Addr×Obj))from B) (by simp),l.hok.kept J,?_⟩
 .exact name_of_addr x.apart (vW I) (vW j)
 .have o:scope.names.lookup y=some .cell\/scope.names.lookup y=some .free:=o
  rcases o with o|o
  .exact qbS o
  .exact absurd rfl (S.nofree _ (vW o))
 .exact Nat.le_of_lt (x.above y c (vW h))
 .have hi:i<vs.length:=by
   unfold start at j;by_cases hi:i<vs.length
   .exact hi
   .rw [wI (by simpa using hi)]at j
    rw[vF]at j;split at j <;> cases j
  have ha:vs[i]?=some v:=by
   unfold start at j;rw[wQ (by simpa using hi),w5]at j;cases e:vs[i]? with
   |none=>rw[e]at j;cases j
   |some a=>rw[e]at j;cases j;rfl
  obtain⟨u,L,O⟩:=r.get ha;have B:ps[i]?=some y:=by
   rw[<-S.pre,u6 00];exact I
  have C:ps.Nodup:=by rw[<-S.pre];exact S.nd.sublist (List.take_sublist _ _)
  refine⟨u,O,?_⟩;rcases S.par y (wc B)with k|k
  .exact .inl ⟨k,qaM C B L k⟩
  .obtain ⟨c,e⟩:=qbS (n:=s.heap.objs.size+1) k
   refine .inr ⟨.inl k,c,e,?_⟩;have q:=x.cell y c e;rw[qaN C B L (by show scope.names.lookup y≠_;rw[k];decide)]at q;exact q
 .exact l.hok.fresh (Nat.le_of_lt (x.above y c (vW h)))
 .unfold start
  show _=N.length;rw[wV,wF,uP];lia
def qlz{CX:CXT}{P:Program}{w:World}{K:PySem.W.Frag}{mg:Str->Option Value}{base:Heap}{k:Nat}{f:Addr}{name a:Str}{d:Arguments}{body:List Stmt}{scope:Scope}{M kV doc pm c ct oc:Value}{an od:Option Addr}{osl:Array (Option Value)}{N ps:List Str}{sp:Sp}(U:K.lookup f=some ⟨oc,od,.func (PySem.W.fnOf name a d body scope M kV doc pm an c ct),osl⟩)(B:PySem.W.codeIn K c a=true)(S:FnScope N ps scope)(len:∀vs H Q E,sp vs H Q E->vs.length=ps.length)(i:∀(A:Around) (outer:List Env) (s:Shared) (H:Hp) (vs:List V) (Q:VK) (E:XK),Room k (A.deeper (envOfC a scope s.heap.objs.size f c))->sp vs H Q E ->
   ∃t,PSs (cxOf CX P w K mg base N a scope f c A outer s H E) body t/\t {nx:=λ_ H'=>Q .non H',rt:=Q} (start N vs) H):
  FnOk P w K mg base CX (k+1) f (PySem.W.fnOf name a d body scope M kV doc pm an c ct) ps sp:=by
 refine⟨len,λA outer s H args us vs Q E C m hb r p=>?_⟩;have X:=len _ _ _ _ p;have O:K.In s.heap:=m.mod.kin.keeps λb o e=>(m.bs b o e).1
 have F:s.heap.NoLimit:=m.mod.nolimit.keeps λb o e=>(m.bs b o e).1
 have j:∀y∈ps.zip us,scope.names.lookup y.1=some .local\/(scope.names.lookup y.1=some .cell/\((cellsFrom (s.heap.objs.size+1) scope.names []).lookup y.1).isSome=true):=λ⟨n,v⟩ Y=>by
  rcases S.par n (wn Y).1 with q|q
  .exact .inl q
  .exact .inr ⟨q,PySem.W.cellsFrom_some _ _ _ (.inl q)⟩
 refine codeAny_call_function C.depth (O _ _ U) rfl S.co S.gen rfl (PySem.W.codeRec_of O B) (hb _ _ _ _ ?_);refine wpAny_newFunctionEnv_cells S.kind j λenv Z s1 x=>?_
 subst Z;refine⟨F.keeps x.toInCall.keep,codeAny_func ?_⟩;obtain⟨t,ht,hq⟩:=i A outer s H vs Q E (C.deeper _) p;have I:Inv (cxOf CX P w K mg base N a scope f c A outer s H E) [] (start N vs) H s1:=qeM S C.hd m X r x;refine wz (ht [] s1 (start N vs) H _ I hq) (λfl s' l=>?_) λe s' l=>l
 have fin:∀{h:St} {H':Hp} {v:V} {u:Value},Inv (cxOf CX P w K mg base N a scope f c A outer s H E) [] h H' s'->RelV v u->Q v H'->CE outer P w H s Q u s' :=
  λ{h H' v u} J L q=>⟨v,H',J.os,J.bare,J.base,J.hok,L,q⟩
 cases fl with
 |ret u =>
  obtain⟨v,h,H',J,L,q⟩:=l;exact fin J L q
 |next =>
  obtain⟨h,H',J,q⟩:=l;exact fin (v:=V.non) (u:=Value.none) J rfl q
 |brk =>
  obtain⟨_,_,_,q⟩:=l;exact False.elim q
 |cont =>
  obtain⟨_,_,_,q⟩:=l;exact False.elim q
section
variable{X:Cx}{x:Str}{p pos:Pos}{e:Expr}{es:List Expr}{t:TA}{id T:String}{r:List V->Hp->VK->Prop}
noncomputable def tCB(r:List V->Hp->VK->Prop)(t:TA):TE:=λa H Q=>t a H λvs b=>r vs b Q
theorem qbT(d:CallR X (.builtin id) r)(f:Gl X x)(hm:X.mg x=none)(i:bootBuiltins x=some (.builtin id))(ha:PA X (e::es) t)(hn:x≠"__name__":=by decide)(a:dB x:=by decide)(j:sE X e es:=by rfl)(b:bT X es pos:=by rfl):PE X (.Call (.Name x p) (e::es) [] pos) (tCB r t):=by
 intro pins s c H Q I h;refine u7 (z9 I f hm i ?_ hn a);exact uk (thn (ha pos pins s c H _ I h) λus s1 ⟨vs,l,m,r1,q1⟩=>d pins s1 c l vs us Q m r1 q1) j b
theorem qeN(d:CallR X (.type T) r)(f:Gl X x)(hm:X.mg x=none)(i:bootBuiltins x=some (.type T))(ha:PA X (e::es) t)(hn:x≠"__name__":=by decide)(a:dB x:=by decide)(j:sE X e es:=by rfl)(b:bT X es pos:=by rfl):PE X (.Call (.Name x p) (e::es) [] pos) (tCB r t):=by
 intro pins s c H Q I h;refine u7 (z9 I f hm i ?_ hn a);exact ve (thn (ha pos pins s c H _ I h) λus s1 ⟨vs,l,m,r1,q1⟩=>d pins s1 c l vs us Q m r1 q1) j b
end
end L2
namespace HT
open PySem PyProof.Rows
noncomputable def lexLt:List Int->List Int->Bool
 |[],[]=>false
 |[],_::_=>true
 |_::_,[]=>false
 |x::xs,y::ys=>if x=y then lexLt xs ys else decide (x<y)
def qZ(x y:Int)(xs ys:List Int):lexLt (x::xs) (y::ys)=if x=y then lexLt xs ys else decide (x<y):=rfl
def yP:lexLt [] []=false:=rfl
def yk(y:Int)(ys:List Int):lexLt [] (y::ys)=true:=rfl
def ym(x:Int)(xs:List Int):lexLt (x::xs) []=false:=rfl
def qbU(A:Around)(s:Shared)(a:Int)(t:Tok)(c:Int)(u:Tok):∃e,SeqAt.EqAt A s (.int a t) (.int c u) e/\(e=true ↔ a=c) :=
 ⟨(a == c),SeqAt.EqAt.int_int a t c u,by simp⟩
def qfx(A:Around)(s:Shared)(a:Int)(t:Tok)(c:Int)(u:Tok)(prog:Program)(w:World)(E:06)(Q:06)(h:Q (.bool (decide (a<c))) s):
  wpAny (model prog w) A (richCompare .Lt (.int a t) (.int c u)) Q E s :=
 (PyProof.Rows.lt_int h:wpAny (model prog w) A (compareOp .Lt (.int a t) (.int c u)) Q E s)
section
open PySem.SeqAt
open PySem.AutoSeq1 (wpAny_loadPart')
open PySem.MeetsSeq PySem.MeetsSeq2 PySem.MeetsSeq3
def qaC(l b:Addr)(items f:Array Value)(n Q:Nat)(S K:Option Addr)(sl L:Array (Option Value))(ns H:List Int)(hi:IntsAre items.toList ns)(O:IntsAre f.toList H):
  Meets (Builtin.«tuple.__lt__» ⟨[.ref l,.ref b],[]⟩)
   (λ_ R s=>s.heap.get? l=some {cls:=.type "tuple",dict:=S,data:=.seq items n,slots:=sl}/\s.heap.get? b=some {cls:=.type "tuple",dict:=K,data:=.seq f Q,slots:=L} /\
    R (.ok (.ret (.bool (lexLt ns H)))) s) :=
 .of_wp λprog w A R s h=>by
  obtain⟨I,g,d,tk,os⟩:=s;obtain⟨U,hb,h⟩:=h;have Z:=AutoSeq1.sub_tuple_tuple;have z1:items.size=ns.length:=by rw[<-hi.length];simp
  have z2:f.size=H.length:=by rw[<-O.length];simp
  wp_walk using wpAny_loadPart' U,wpAny_loadPart' hb,wpAny_forIn_list _ (λrest b s'=>b.1=none/\s'=⟨I,g,d,tk,os⟩/\∃(vs J:List Value) (j m:List Int),rest=vs.zip J /\
   IntsAre vs j/\IntsAre J m/\j.length+f.size=m.length+items.size/\R (.ok (.ret (.bool (lexLt j m)))) ⟨I,g,d,tk,os⟩) _
  case turn =>
   rintro⟨y,x⟩ rest b s' ⟨B,rfl,vs,J,j,m,o,C,p,i,r⟩;cases C with
   |nil=>rw[List.zip_nil_left]at o;cases o
   |cons a t E =>
    cases p with
    |nil=>rw[List.zip_nil_right]at o;cases o
    |cons c u F =>
     rw[wv]at o;injection o with M hrest;injection M with W hx;subst W hx;rw[qZ]at r;simp only[wj]at i;obtain⟨e,X,v⟩:=qbU A.in1 ⟨I,g,d,tk,os⟩ a t c u;refine wB (X prog w _ _ ?_);cases e with
     |true =>
      rw[wR (v.mp rfl)]at r;wp_walk;exact⟨rfl,rfl,_,_,_,_,hrest,E,F,by lia,r⟩
     |false =>
      rw[wT (λq=>absurd (v.mpr q) wb)]at r;have N:=qfx A.in1 ⟨I,g,d,tk,os⟩ a t c u prog w;wp_walk using N;exact⟨_,rfl,by simpa using r⟩
  case fin =>
   rintro⟨b1,b2⟩ s' ⟨B,rfl,vs,J,j,m,o,C,p,i,r⟩;simp only at B;subst B;have P:lexLt j m=decide (items.size<f.size):=by
    cases C with
    |nil =>
     cases p with
     |nil =>
      simp only[vz]at i;rw[yP];exact(wd 00).symm
     |cons c u Y =>
      simp only[vz,wj]at i;rw[yk];exact(wq 00).symm
    |cons a t P =>
     cases p with
     |nil =>
      simp only[vz,wj]at i;rw[ym];exact(wd 00).symm
     |cons c u Y =>
      rw[wv]at o;cases o
   rw[P]at r;wp_walk;exact⟨_,rfl,by simpa[Builtin.Tuple.tupleCompareSizes]using r⟩
  case h =>
   exact⟨rfl,rfl,items.toList,f.toList,ns,H,rfl,hi,O,by lia,h⟩
end
section
variable{prog:Program}{w:World}{A:Around}{E:Value->Shared->Prop}{s:Shared}
theorem yS{l b:Addr}{items a:Array Value}{ns c:List Int}{Q:06}(u:IsTup s.heap l items)(hb:IsTup s.heap b a)(hi:IntsAre items.toList ns)(v:IntsAre a.toList c)(y:A.units<cLine)(h:Q (.bool (lexLt ns c)) s):wpAny (model prog w) A (compareOp .Lt (.ref l) (.ref b)) Q E s:=by
 obtain⟨⟨cls,B,data,sl⟩,p,q,n,hd⟩:=id u;obtain⟨⟨r,j,m,o⟩,d,f,C,i⟩:=id hb;simp only at q hd f i;subst q hd f i;exact xY (op:=.Lt) ⟨_,p,rfl⟩ ⟨_,d,rfl⟩ PySem.F.slot_tuple_lt PySem.F.entry_tuple_lt (PySem.F.args_tuple_lt_2 _ _) (qaC l b items a n C B j sl o ns c hi v)
  ⟨p,d,show Value.bool (lexLt ns c)≠Value.notImplemented/\Q (.bool (lexLt ns c)) s from⟨(λx=>nomatch x),h⟩⟩ y
theorem qhJ{t b:Addr}{vs a:List Value}{Q:06}(v:IsTup s.heap t vs.toArray)(hb:IsTup s.heap b a.toArray)(o:vs≠[])(x:a=[]->Q (.ref t) s)(y:a≠[]->Q (.ref s.heap.objs.size) {s with heap:=s.heap.push {cls:=.type "tuple",data:=.seq (vs++a).toArray}})(hsz:vs.length+a.length<=sizeLine):wpAny (model prog w) A (binaryOp .Add (.ref t) (.ref b)) Q E s:=by
 obtain⟨⟨cls,p,data,sl⟩,j,q,n,hd⟩:=id v;obtain⟨⟨r,d,m,f⟩,c,h,u,i⟩:=id hb;simp only at q hd h i;subst q hd h i;have e:vs.toArray++a.toArray=(vs++a).toArray:=by simp
 by_cases l:a=[]
 .exact concat_meets ⟨_,j,rfl⟩ ⟨_,c,rfl⟩ noFill_tuple_add seq_tuple_add xZ xP (xI _ _)
   (tuple_addW1 t b vs.toArray a.toArray n u p d sl f (by simpa using o) (by simp[l])) ⟨j,c,x l⟩
 .refine concat_meets ⟨_,j,rfl⟩ ⟨_,c,rfl⟩ noFill_tuple_add seq_tuple_add xZ xP (xI _ _)
   (tuple_addW2 t b vs.toArray a.toArray n u p d sl f (by simpa using o) (by simpa using l) (by rw[wS,wS];exact hsz)) ⟨j,c,?_⟩
  rw[e];exact y l
noncomputable def sIx(n d:Nat):Option Int->Nat
 |none=>d
 |some v=>if v<0 then(v+(n:Int)).toNat else min v.toNat n
theorem qjS(n d:Nat)(hd:d<=n)(o:Option Int):sIx n d o<=n:=by
 cases o with
 |none=>exact hd
 |some v =>
  show(if v<0 then(v+(n:Int)).toNat else min v.toNat n)<=n;by_cases a:v<0
  .rw [wR a];lia
  .rw [wT a];exact Nat.min_le_right _ _
theorem qdA(v:Int)(n d:Nat):(if v<0 then max (v+(n:Int)) 0 else min v (n:Int))=((sIx n d (some v):Nat):Int):=by
 show(if v<0 then max (v+(n:Int)) 0 else min v (n:Int))=(((if v<0 then(v+(n:Int)).toNat else min v.toNat n):Nat):Int);by_cases a:v<0
 .simp only[wR a];lia
 .simp only[wT a];lia
theorem qcW(lo hi:Option Int)(n:Nat):Builtin.Slice.sliceAdjust lo hi 1 (n:Int)=(((sIx n 0 lo:Nat):Int),((sIx n n hi:Nat):Int)):=by
 have a:¬((1:Int)<0):=by lia
 unfold Builtin.Slice.sliceAdjust;simp only[a,uB];refine Prod.ext ?_ ?_
 .cases lo with
  |none=>rfl
  |some v=>exact qdA v n 0
 .cases hi with
  |none=>rfl
  |some v=>exact qdA v n n
theorem qcX(i j:Nat):Builtin.Slice.slicePlaces (i:Int) (j:Int) 1=j-i:=by
 unfold Builtin.Slice.slicePlaces;have a:(1:Int)>0:=by lia
 simp only[a,v6,Int.ediv_one];split <;> lia
theorem j6{v:Value}{o:Option Int}{Q:Option Int->Shared->Prop}(p:IsPart v o)(h:Q o s):wpAny (model prog w) A (Builtin.Slice.slicePartIndex v) Q E s:=by
 cases p with
 |none=>exact slicePart_none h
 |int i t=>exact slicePart_int h
theorem zU{sl:Addr}{c d:Value}{lo hi:Option Int}{n:Nat}{Q:Int×Int×Nat->Shared->Prop}(f:s.heap.IsSliceOf sl c d .none)(pl:IsPart c lo)(i:IsPart d hi)(h:Q (((sIx n 0 lo:Nat):Int),1,sIx n n hi-sIx n 0 lo) s):wpAny (model prog w) A (Builtin.Slice.sliceApplied (.ref sl) (pure (n:Int))) Q E s:=by
 obtain⟨os,a,j,b⟩:=id f;unfold Builtin.Slice.sliceApplied Builtin.Slice.sliceFields;refine wB (wB (vU a b (x:=c) rfl (wB (vU a b (x:=d) rfl (wB (vU a b (x:=.none) rfl (wE ?_)))))));refine wB (slicePart_none ?_);show wpAny _ _ (if((1:Int) == 0)=true then _ else _) _ _ s;rw[wT 02];refine wB (j6 pl (wB (j6 i (wB (wE ?_)))));show wpAny _ _ (match Builtin.Slice.sliceAdjust lo hi 1 (n:Int)with|(lo,hi)=>pure (lo,(1:Int),Builtin.Slice.slicePlaces lo hi 1)) _ _ s;rw[qcW lo hi n];show wpAny _ _ (pure (((sIx n 0 lo:Nat):Int),(1:Int),Builtin.Slice.slicePlaces ((sIx n 0 lo:Nat):Int) ((sIx n n hi:Nat):Int) 1)) _ _ s;rw[qcX];exact wE h
theorem qfy(xs:Array Value)(i k:Nat):((List.range k).filterMap λ(m:Nat)=>xs[((i:Int)+(m:Int)*1).toNat]?).toArray=((xs.toList.drop i).take k).toArray:=by
 have e:(λ(m:Nat)=>xs[((i:Int)+(m:Int)*1).toNat]?)=λm=>xs[i+m]?:=by
  funext m;have:((i:Int)+(m:Int)*1).toNat=i+m:=by lia
  rw[this]
 rw[e];have:=pick_run xs i k;rw[List.filterMap_map]at this;have a:((λx=>xs[x]?)∘λx=>i+x)=λm=>xs[i+m]?:=rfl
 rw[a]at this;rw[this]
theorem yY{t sl:Addr}{items:Array Value}{j l:Value}{lo hi:Option Int}{Q:06}(b:IsTup s.heap t items)(n:s.heap.IsSliceOf sl j l .none)(pl:IsPart j lo)(o:IsPart l hi)(p:¬(sIx items.size 0 lo=0/\sIx items.size items.size hi=items.size))(h:Q (.ref s.heap.objs.size) {s with heap:=s.heap.push {cls:=.type "tuple",data:=.seq ((items.toList.drop (sIx items.size 0 lo)).take (sIx items.size items.size hi-sIx items.size 0 lo)).toArray}})(hsz:items.size<=sizeLine):wpAny (model prog w) A (getItem (.ref t) (.ref sl)) Q E s:=by
 have a:sizeOk (.seq ((items.toList.drop (sIx items.size 0 lo)).take (sIx items.size items.size hi-sIx items.size 0 lo)).toArray):=by
  show((items.toList.drop (sIx items.size 0 lo)).take (sIx items.size items.size hi-sIx items.size 0 lo)).toArray.size<=sizeLine;rw[wS,wr,List.length_drop,vh];lia
 have u:sIx items.size items.size hi<=items.size:=qjS _ _ (wN _) hi;obtain⟨os,c,d,r⟩:=id n;have f:s.TypeIs (.ref sl) "slice":=⟨os,c,d⟩;unfold getItem
 try with_reducible refine vE ?_
 first|refine wB (wE ?_)|skip
 refine wB (wpAny_sequenceKey b.typeIs 02 ?_);refine wB (vA (name:=Str.ofString "__getitem__") b.typeIs vN
  (vG vN b.typeIs entry_tuple_getitem ?_ (args_tuple_getitem _ _)))
 show wpAny _ _ (Builtin.Tuple.tupleItemsOf (.ref t) >>= _) _ _ s;refine wB (tupleItemsOf_ b ?_);refine wB (uz f ?_);rw[wR 02];refine wB (zU n pl o ?_);have i:¬((((sIx items.size 0 lo:Nat):Int) == 0&&(1:Int) == 1&&(sIx items.size items.size hi-sIx items.size 0 lo) == items.size)=true):=by
  intro q;rw[wZ,wZ]at q;have q1:((sIx items.size 0 lo:Nat):Int)=0:=eq_of_beq q.1.1;have q2:sIx items.size items.size hi-sIx items.size 0 lo=items.size:=eq_of_beq q.2;exact p ⟨by lia,by lia⟩
 show wpAny _ _ (if(((sIx items.size 0 lo:Nat):Int) == 0&&(1:Int) == 1&&(sIx items.size items.size hi-sIx items.size 0 lo) == items.size)=true then _ else _) _ _ s;rw[wT i,qfy]
 first
  |exact wB (m:=Builtin.Tuple.tupleExact _) (wa (wE ⟨_,rfl,wE h⟩) a)
  |exact wB (m:=Builtin.Tuple.tupleExact _) (wa (wB (wE (wE ⟨_,rfl,wE h⟩))) a)
  |exact wB (wB (m:=Builtin.Tuple.tupleExact _) (wa (wE (wE ⟨_,rfl,wE h⟩)) a))
  |exact wB (wB (m:=Builtin.Tuple.tupleExact _) (wa (wE ⟨_,rfl,wE h⟩) a))
end
end HT
namespace L2
open PySem PySem.Spec PyProof.Rows
noncomputable abbrev TO:=St->Hp->(Option Int->Hp->Prop)->Prop
noncomputable def PO(X:Cx)(e:Option Expr)(t:TO):Prop :=
 ∀(pins:04) (s:Shared) (a:St) (H:Hp) (Q:Option Int->Hp->Prop),Inv X pins a H s->t a H Q ->
  wpAny 03 X.A (evalPart e X.env) (λu s'=>∃o H',Inv X pins a H' s'/\IsPart u o/\Q o H') X.xe s
noncomputable def tNoPart:TO:=λ_ H Q=>Q none H
noncomputable def tPart(t:TE):TO:=λa H Q=>t a H λx b=>∃i,x=.int i/\Q (some i) b
def q8{ns:List Int}:∀{us:List Value},Vals (ns.map V.int) us->IntsAre us ns:=by
 induction ns with
 |nil=>intro us r;rw[u5]at r;cases r;exact .nil
 |cons n ns a =>
  intro us r;rw[wU]at r;cases r with
  |cons r1 r2 =>
   obtain⟨t,e⟩:=r1;subst e;exact .cons n t (a r2)
section
variable{X:Cx}{e:Expr}{te:TE}{lo hi:Option Expr}{tl th:TO}{pos p2:Pos}
theorem qhK:PO X none tNoPart:=by
 intro pins s a H Q I h;rw[evalPart_none];exact wE ⟨none,H,I,.none,h⟩
theorem qhL(h:PE X e te):PO X (some e) (tPart te):=by
 intro pins s a H Q I b;rw[evalPart_some];refine thn (h pins s a H _ I b) λu s1 ⟨x,c,d,r1,q1⟩=>?_
 obtain⟨i,rfl,q⟩:=q1;obtain⟨t,rfl⟩:=r1;exact⟨some i,c,d,.int i t,q⟩
noncomputable def SlR(X:Cx)(r:V->Option Int->Option Int->Hp->VK->Prop):Prop :=
 ∀(pins:04) (s:Shared) (a:St) (H:Hp) (x:V) (v b c:Value) (lo hi:Option Int) (sl:Addr) (Q:VK),Inv X pins a H s->RelV x v->s.heap.IsSliceOf sl b c .none->IsPart b lo->IsPart c hi->r x lo hi H Q ->
  ∃T id,typeLookup (.type T) "__getitem__"=pure (some (.builtin id))/\s.TypeIs v T/\wpAny 03 X.A (getItem v (.ref sl)) (EP X pins a Q) X.xe s
theorem SlR.or{r a:V->Option Int->Option Int->Hp->VK->Prop}(h:SlR X r)(h':SlR X a):SlR X (λx lo hi H Q=>r x lo hi H Q\/a x lo hi H Q):=by
 intro pins s b H x v c d lo hi sl Q I f i pl j q;rcases q with q|q
 .exact h pins s b H x v c d lo hi sl Q I f i pl j q
 .exact h' pins s b H x v c d lo hi sl Q I f i pl j q
noncomputable def tSl(r:V->Option Int->Option Int->Hp->VK->Prop)(te:TE)(tl th:TO):TE:=λa H Q=>te a H λx b=>tl a b λl H2=>th a H2 λu H3=>r x l u H3 Q
theorem qfz{r:V->Option Int->Option Int->Hp->VK->Prop}(i:SlR X r)(j:PE X e te)(m:PO X lo tl)(n:PO X hi th):PE X (.Subscript e (.Slice lo hi none p2) pos) (tSl r te tl th):=by
 intro pins s c H Q I h;refine Subscript_ (thn (j pins s c H _ I h) λv s1 ⟨x,o,p,r1,q1⟩=>?_);refine wpAny_Slice (thn (m pins s1 c o _ p q1) λd s2 ⟨l,H2,y,pl,q2⟩=>thn (n pins s2 c H2 _ y q2) λf a ⟨u,H3,B,C,E⟩=>?_);rw[evalPart_none];refine wE ?_;have F:Inv X pins c H3 {a with heap:=a.heap.push {cls:=.type "slice",data:=.fields #[d,f,.none]}}:=B.kept (t':=a.toks) λb ob q=>wC _ q
 obtain⟨T,id,J,K,L⟩:=i pins {a with heap:=a.heap.push {cls:=.type "slice",data:=.fields #[d,f,.none]}} c H3 x v d f l u a.heap.objs.size Q F r1 (Heap.IsSliceOf.new ..) pl C E;show wpAny 03 X.A (subscriptTail e (.Slice lo hi none p2) v (.ref a.heap.objs.size)) (EP X pins c Q) X.xe {a with heap:=a.heap.push {cls:=.type "slice",data:=.fields #[d,f,.none]}};exact tail_any (ops:=[.ref a.heap.objs.size,v]) K J L (by with_unfolding_all rfl)
noncomputable def cutV(xs:List V)(lo hi:Option Int):List V:=(xs.drop (HT.sIx xs.length 0 lo)).take (HT.sIx xs.length xs.length hi-HT.sIx xs.length 0 lo)
theorem jE(xs:List V)(lo hi:Option Int):(cutV xs lo hi).length<=xs.length:=by
 unfold cutV;rw[wr,List.length_drop];lia
def rSlT(K:PySem.W.Frag):V->Option Int->Option Int->Hp->VK->Prop:=λx lo hi H Q=>∃a xs,x=.ref a/\SqT K H a xs /\
 ¬(HT.sIx xs.length 0 lo=0/\HT.sIx xs.length xs.length hi=xs.length)/\∀p,H p=none->Q (.ref p) (upd H p (.t (cutV xs lo hi)))
theorem qjT:SlR X (rSlT X.K):=by
 intro pins s u H x v w y lo hi sl Q I j l pl m h;obtain⟨a,xs,rfl,n,p,q⟩:=h;cases j;obtain⟨d,r,f,i⟩:=I.tuple n;have c:d.toArray.size=xs.length:=by rw[wS];exact r.length.symm
 refine⟨"tuple",_,vN.lookup,f.typeIs,?_⟩;refine HT.yY f l pl m (by rw[c];exact p) ?_ (by rw[c];exact i);rw[c];refine⟨.ref s.heap.objs.size,_,I.laid (t':=s.toks) (o:=.t (cutV xs lo hi)) (λb ob q=>wC _ q) (wN _) ?_,rfl,q _ (I.hok.fresh (wN _))⟩;exact⟨vK (jE xs lo hi) i,_,(r.drop (HT.sIx xs.length 0 lo)).take (HT.sIx xs.length xs.length hi-HT.sIx xs.length 0 lo),IsTup.new _ _,yF _ _⟩
noncomputable def rLtT(K:PySem.W.Frag):R2:=λx y H Q=>∃a b ns c,x=.ref a/\y=.ref b/\SqT K H a (ns.map V.int)/\SqT K H b (c.map V.int)/\Q (.bl (HT.lexLt ns c)) H
theorem qjU(i:X.A.units<cLine):OpR X (compareOp .Lt) (rLtT X.K):=by
 intro pins s n H x y v u Q I j l h;obtain⟨a,b,ns,f,rfl,rfl,ha,hb,q⟩:=h;cases j;cases l;obtain⟨d,r1,m,_⟩:=I.tuple ha;obtain⟨c,r2,p2,_⟩:=I.tuple hb;have i1:IntsAre d.toArray.toList ns:=q8 r1;have i2:IntsAre c.toArray.toList f:=q8 r2;exact HT.yS m p2 i1 i2 i ⟨.bl (HT.lexLt ns f),H,I,rfl,q⟩
noncomputable def rCatT(K:PySem.W.Frag):R2:=λx y H Q=>∃a b xs ys,x=.ref a/\y=.ref b/\SqT K H a xs/\SqT K H b ys/\xs≠[]/\xs.length+ys.length<=sizeLine /\
 (ys=[]->Q (.ref a) H)/\(ys≠[]->∀p,H p=none->Q (.ref p) (upd H p (.t (xs++ys))))
theorem Vals.nil_iff{xs:List V}{us:List Value}(r:Vals xs us):us=[] ↔ xs=[]:=by
 cases r with
 |nil=>simp
 |cons _ _=>simp
theorem qhM:OpR X (binaryOp .Add) (rCatT X.K):=by
 intro pins s n H x y v u Q I f i h;obtain⟨a,b,xs,ys,rfl,rfl,ha,hb,j,c,q1,q2⟩:=h;cases f;cases i;obtain⟨l,r1,m,_⟩:=I.tuple ha;obtain⟨d,r2,p2,_⟩:=I.tuple hb;refine HT.qhJ m p2 (λz=>j (r1.nil_iff.mp z)) (λz=>⟨.ref a,H,I,rfl,q1 (r2.nil_iff.mp z)⟩) (λz=>?_) (by rw[<-r1.length,<-r2.length];exact c);refine⟨.ref s.heap.objs.size,_,I.laid (t':=s.toks) (o:=.t (xs++ys)) (λb ob q=>wC _ q) (wN _) ?_,rfl,q2 (λw=>z (r2.nil_iff.mpr w)) _ (I.hok.fresh (wN _))⟩;exact⟨by rw[wV];exact c,_,r1.append r2,IsTup.new _ _,yF _ _⟩
end
noncomputable def ixN(n:Nat)(i:Int):Option Nat:=if 0<=i then(if i<n then some i.toNat else none)else if -(n:Int)<=i then some (i+n).toNat else none
noncomputable def atI{a:Type}(xs:List a)(i:Int):Option a:=(ixN xs.length i).bind λj=>xs[j]?
def qdB{n:Nat}{i:Int}{j:Nat}(h:ixN n i=some j):seqIndex? i n=some j/\j<n/\-(n:Int)<=i/\i<n:=by
 unfold ixN at h;by_cases b:0<=i
 .rw [wR b]at h
  by_cases a:i<n
  .rw [wR a]at h
   have e:i.toNat=j:=Option.some.inj h;exact⟨by rw[seqIndex_of b a,e],by lia,by lia,a⟩
  .rw [wT a]at h;cases h
 .rw [wT b]at h
  by_cases a:-(n:Int)<=i
  .rw [wR a]at h
   have e:(i+n).toNat=j:=Option.some.inj h;exact⟨by rw[seqIndex_neg 00 a,e],by lia,a,by lia⟩
  .rw [wT a]at h;cases h
def qdC{a:Type}{xs:List a}{i:Int}{v:a}(h:atI xs i=some v):∃j,seqIndex? i xs.length=some j/\xs[j]?=some v/\j<xs.length/\-(xs.length:Int)<=i/\i<xs.length:=by
 unfold atI at h;cases e:ixN xs.length i with
 |none=>rw[e]at h;cases h
 |some j =>
  rw[e]at h;obtain⟨b,c,d,f⟩:=qdB e;exact⟨j,b,h,c,d,f⟩
def PlainIx(b:Expr):Prop:=∀o i,subscripted b false o i=operate [o,i] (getItem o i)
noncomputable def IxR(X:Cx)(r:R2):Prop :=
 ∀(b a:Expr) (pins:04) (s:Shared) (c:St) (H:Hp) (x y:V) (v u:Value) (Q:VK),Inv X pins c H s->RelV x v->RelV y u->r x y H Q ->
  subscripted a false v u=operate [v,u] (getItem v u)->wpAny 03 X.A (subscriptTail b a v u) (EP X pins c Q) X.xe s
noncomputable def MtR(X:Cx)(id:String)(r:V->List V->Hp->VK->Prop):Prop :=
 ∀(pins:04) (s:Shared) (a:St) (H:Hp) (x:V) (xs:List V) (v:Value) (us:List Value) (Q:VK),Inv X pins a H s->RelV x v->Vals xs us->r x xs H Q ->
  wpAny 03 X.A (call (.builtin id) (v::us)) (EP X pins a Q) X.xe s
section
variable{X:Cx}{a b:Expr}{ta tb:TE}{pos:Pos}
theorem IxR.or{r f:R2}(h:IxR X r)(h':IxR X f):IxR X (λx y H Q=>r x y H Q\/f x y H Q):=by
 intro c d pins s i H x y v u Q I j l q m;rcases q with q|q
 .exact h c d pins s i H x y v u Q I j l q m
 .exact h' c d pins s i H x y v u Q I j l q m
theorem qlA{r:R2}(c:IxR X r)(ha:PE X a ta)(hb:PE X b tb)(d:PlainIx b):PE X (.Subscript a b pos) (tOp r ta tb):=by
 intro pins s f H Q I h;exact Subscript_ (binT ha hb I h λv u s2 x y H2 i j l q=>c a b pins s2 f H2 x y v u Q i j l q (d _ _))
noncomputable def rIxL(K:PySem.W.Frag):R2:=λx y H Q=>∃p xs i v,x=.ref p/\y=.int i/\SqL K H p xs/\atI xs i=some v/\Q v H
noncomputable def rIxT(K:PySem.W.Frag):R2:=λx y H Q=>∃p xs i v,x=.ref p/\y=.int i/\SqT K H p xs/\atI xs i=some v/\Q v H
theorem qhN:IxR X (rIxL X.K):=by
 intro d f pins s o H x y v u Q I E F h A;obtain⟨p,xs,i,z,rfl,rfl,J,L,q⟩:=h;cases E;obtain⟨t,rfl⟩:=F;obtain⟨l,r,pl,S⟩:=I.list J;obtain⟨j,c,M,U,N,O⟩:=qdC L;obtain⟨w,B,m⟩:=r.get M;have P:=r.length;have hn:=line63;have fin:EP X pins o Q w s:=⟨z,H,I,m,q⟩;by_cases C:0<=i
 .have n:i.toNat=j:=by
   rw[seqIndex_of C O]at c;exact Option.some.inj c
  exact item_listR pl.isList C 00 (by rw[n];simpa using B) fin A
 .have n:(i+(l.toArray.size:Int)).toNat=j:=by
   rw[seqIndex_neg 00 N]at c;rw[wS,<-P];exact Option.some.inj c
  exact subscriptTail_builtinR (x:=w) pl.isList.typeIs slot_list_getitem.lookup
   (wpAny_getItem_list_neg (Q:=λr s'=>r=w/\EP X pins o Q r s') pl.isList 00 (by rw[wS] <;> lia) 00 (by rw[n];simpa using B) ⟨rfl,fin⟩) A
theorem qjV:IxR X (rIxT X.K):=by
 intro c d pins s l H x y v u Q I m n h o;obtain⟨p,xs,i,z,rfl,rfl,A,B,q⟩:=h;cases m;obtain⟨t,rfl⟩:=n;obtain⟨C,r,pl,M⟩:=I.tuple A;obtain⟨j,E,F,N,O,P⟩:=qdC B;obtain⟨w,J,f⟩:=r.get F;have L:=r.length;have hn:=line63;have fin:EP X pins l Q w s:=⟨z,H,I,f,q⟩;exact subscriptTail_builtinR (x:=w) pl.typeIs slot_tuple_getitem.lookup
  (getItem_tuple (j:=j) (Q:=λr s'=>r=w/\EP X pins l Q r s') pl 00 00 (by rw[wS,<-L];exact E) (by simpa using J) ⟨rfl,fin⟩) o
theorem qcY(c:List Value)(n j:Nat)(u:Value):Obj.mapSeq (·.setIfInBounds j u) {cls:=.type "list",data:=.seq c.toArray n}={cls:=.type "list",data:=.seq (c.set j u).toArray n}:=by
 simp[Obj.mapSeq]
theorem Inv.lst{pins:04}{d:St}{H:Hp}{s:Shared}{p:Addr}{xs:List V}(I:Inv X pins d H s)(h:H p=some (.l xs)):
  ∃(c:List Value) (n:Nat),Vals xs c/\s.heap.get? p=some {cls:=.type "list",data:=.seq c.toArray n}/\xs.length<=sizeLine:=by
 obtain⟨z,c,n,r,e⟩:=I.hok p _ h;exact⟨c,n,r,e,z⟩
theorem Inv.lstUpd{pins:04}{i:St}{H:Hp}{s:Shared}{p:Addr}{xs ys:List V}{c its':List Value}{n d:Nat}{f:Obj->Obj}(I:Inv X pins i H s)(h:H p=some (.l xs))(l:s.heap.get? p=some {cls:=.type "list",data:=.seq c.toArray n})(j:f {cls:=.type "list",data:=.seq c.toArray n}={cls:=.type "list",data:=.seq its'.toArray d})(r:Vals ys its')(m:ys.length<=sizeLine)(t:Nat):
  Inv X pins i (upd H p (.l ys)) {s with heap:=s.heap.update p f,toks:=t}:=by
 have e:(s.heap.update p f).get? p=some {cls:=.type "list",data:=.seq its'.toArray d}:=by
  rw[vr f l (by rw[j] <;> rfl),j]
 refine I.write (x:=p) (e:=p) (by rw[h];trivial) (.inl rfl) (λb u hb q=>(wy _ _ (Ne.symm hb)).trans q) ⟨_,e⟩ ?_;exact⟨m,its',d,r,e⟩
noncomputable def rSetL:V->V->V->Hp->(Hp->Prop)->Prop:=λo i v H Q=>∃p xs k j,o=.ref p/\i=.int k/\H p=some (.l xs)/\ixN xs.length k=some j/\Q (upd H p (.l (xs.set j v)))
theorem qfA:PSet X rSetL:=by
 intro pins s C H o i v L M u Q I E ri F h;obtain⟨p,xs,k,j,rfl,rfl,w,J,q⟩:=h;cases E;obtain⟨t,rfl⟩:=ri;obtain⟨c,n,r,f,K⟩:=I.lst w;obtain⟨d,N,x,y⟩:=qdB J;have l:=r.length;have hn:=line63;have A:Inv X pins C (upd H p (.l (xs.set j v))) {s with heap:=s.heap.update p (Obj.mapSeq (·.setIfInBounds j u))} :=
  I.lstUpd w f (qcY c n j u) (r.set F j) (by rw[x8];exact K) s.toks
 by_cases B:0<=k
 .have m:k.toNat=j:=by
   rw[seqIndex_of B y]at d;exact Option.some.inj d
  exact PySem.W.ki_setAt f B 00 (by rw[wS,<-l];exact y) (by rw[m];exact⟨_,A,q⟩)
 .have m:(k+(c.toArray.size:Int)).toNat=j:=by
   rw[seqIndex_neg 00 x]at d;rw[wS,<-l];exact Option.some.inj d
  exact PySem.W.ki_setBack f 00 (by rw[wS,<-l];exact x) 00 (by rw[m];exact⟨_,A,q⟩)
theorem qbc(lo hi:Option Int)(n:Nat):(sliceBounds lo hi none n).1=((HT.sIx n 0 lo:Nat):Int)/\(sliceBounds lo hi none n).2.1=((HT.sIx n n hi:Nat):Int)/\(sliceBounds lo hi none n).2.2=1:=by
 refine⟨?_,?_,rfl⟩
 .cases lo with
  |none=>simp[sliceBounds,HT.sIx]
  |some i =>
   simp only[sliceBounds,HT.sIx,Option.getD_none,show(1:Int)>0 by decide,v6];by_cases h:i<0
   .simp only[h,v6] <;> lia
   .simp only[h,uB] <;> lia
 .cases hi with
  |none=>simp[sliceBounds,HT.sIx]
  |some i =>
   simp only[sliceBounds,HT.sIx,Option.getD_none,show(1:Int)>0 by decide,v6];by_cases h:i<0
   .simp only[h,v6] <;> lia
   .simp only[h,uB] <;> lia
theorem qaD(c:List Value)(lo hi:Option Int):slicePick c.toArray lo hi none=((c.drop (HT.sIx c.length 0 lo)).take (HT.sIx c.length c.length hi-HT.sIx c.length 0 lo)).toArray:=by
 obtain⟨d,f,h⟩:=qbc lo hi c.toArray.size;unfold slicePick;rw[d,f,h];simp only[sliceRange_one,pick_run,wS] <;> rfl
def rSlL(K:PySem.W.Frag):V->Option Int->Option Int->Hp->VK->Prop:=λx lo hi H Q=>∃a xs,x=.ref a/\SqL K H a xs/\∀p,H p=none->Q (.ref p) (upd H p (.l (cutV xs lo hi)))
theorem qhO:SlR X (rSlL X.K):=by
 intro pins s p H x v u w lo hi sl Q I f i pl j h;obtain⟨a,xs,rfl,l,q⟩:=h;cases f;obtain⟨m,r,d,n⟩:=I.list l;have c:=r.length;refine⟨"list",_,slot_list_getitem.lookup,d.isList.typeIs,?_⟩;refine wpAny_getItem_list_slice d.isList i pl j .none (by simp) ?_ (by rw[wS] <;> lia);rw[qaD,<-c];refine⟨.ref s.heap.objs.size,_,I.laid (t':=s.toks) (o:=.l (cutV xs lo hi)) (λb ob q=>wC _ q) (wN _) ?_,rfl,q _ (I.hok.fresh (wN _))⟩;exact⟨vK (jE xs lo hi) n,_,0,(r.drop (HT.sIx xs.length 0 lo)).take (HT.sIx xs.length xs.length hi-HT.sIx xs.length 0 lo),wM _ rfl⟩
noncomputable def flatV:V->Bool
 | .non=>true
 | .bl _=>true
 | .int _=>true
 | .str _=>true
 |_=>false
noncomputable def eqV:V->V->Bool
 | .non,.non=>true
 | .bl a,.bl b=>a == b
 | .bl a,.int b=>(if a then 1 else 0) == b
 | .int a,.bl b=>a == (if b then 1 else 0)
 | .int a,.int b=>a == b
 | .str a,.str b=>a == b
 |_,_=>false
theorem qjW{A:Around}{s:Shared}{y x:V}{u v:Value}(d:RelV y u)(c:RelV x v)(h:flatV y=true)(f:flatV x=true):SeqAt.EqAt A s u v (eqV y x):=by
 cases y with
 |non =>
  cases d;cases x with
  |non=>cases c;exact SeqAt.EqAt.same _
  |bl b=>cases c;exact SeqAt.EqAt.none_bool b
  |int b=>obtain⟨t,rfl⟩:=c;exact SeqAt.EqAt.none_int b t
  |str b=>obtain⟨t,rfl⟩:=c;exact SeqAt.EqAt.none_str b t
  |_=>exact absurd (show false=true from f) wb
 |bl a =>
  cases d;cases x with
  |non=>cases c;exact SeqAt.EqAt.bool_none a
  |bl b=>cases c;exact SeqAt.EqAt.bool_bool a b
  |int b=>obtain⟨t,rfl⟩:=c;exact SeqAt.EqAt.bool_int a b t
  |str b=>obtain⟨t,rfl⟩:=c;exact SeqAt.EqAt.bool_str a b t
  |_=>exact absurd (show false=true from f) wb
 |int a =>
  obtain⟨t',rfl⟩:=d;cases x with
  |non=>cases c;exact SeqAt.EqAt.int_none a t'
  |bl b=>cases c;exact SeqAt.EqAt.int_bool a t' b
  |int b=>obtain⟨t,rfl⟩:=c;exact SeqAt.EqAt.int_int a t' b t
  |str b=>obtain⟨t,rfl⟩:=c;exact SeqAt.EqAt.int_str a t' b t
  |_=>exact absurd (show false=true from f) wb
 |str a =>
  obtain⟨t',rfl⟩:=d;cases x with
  |non=>cases c;exact SeqAt.EqAt.str_none a t'
  |bl b=>cases c;exact SeqAt.EqAt.str_bool a t' b
  |int b=>obtain⟨t,rfl⟩:=c;exact SeqAt.EqAt.str_int a t' b t
  |str b=>obtain⟨t,rfl⟩:=c;exact SeqAt.EqAt.str_str a t' b t
  |_=>exact absurd (show false=true from f) wb
 |_=>exact absurd (show false=true from h) wb
noncomputable def eqU(x:V)(u:Value):Bool:=match u with
 | .none=>eqV .non x
 | .bool b=>eqV (.bl b) x
 | .int i _=>eqV (.int i) x
 | .str z _=>eqV (.str z) x
 |_=>false
theorem qfB{x y:V}{u:Value}(r:RelV y u)(f:flatV y=true):eqU x u=eqV y x:=by
 cases y with
 |non=>cases r;rfl
 |bl b=>cases r;rfl
 |int i=>obtain⟨t,rfl⟩:=r;rfl
 |str z=>obtain⟨t,rfl⟩:=r;rfl
 |_=>exact absurd (show false=true from f) wb
theorem yZ{x:V}:∀{xs:List V} {us:List Value},Vals xs us->xs.all flatV=true->us.any (eqU x)=xs.any λy=>eqV y x
 |_,_,.nil,_=>rfl
 |y::xs,u::us,.cons r t,f=>by
  rw[uc,wZ]at f;rw[vq,vq,qfB r f.1,yZ t f.2]
theorem yn{A:Around}{s:Shared}{x:V}{v:Value}(d:RelV x v)(h:flatV x=true):∀{xs:List V} {us:List Value},Vals xs us->xs.all flatV=true->∀u∈us,SeqAt.EqAt A s u v (eqU x u)
 |_,_,.nil,_=>λu c=>by cases c
 |y::xs,u::us,.cons r t,f=>λi c=>by
  rw[uc,wZ]at f;rcases wX.mp c with rfl|c
  .rw [qfB r f.1];exact qjW r d f.1 h
  .exact yn d h t f.2 i c
noncomputable def inV(x:V)(xs:List V):Bool:=xs.any λy=>eqV y x
noncomputable def rIn(K:PySem.W.Frag)(c:Bool):R2:=λx y H Q=>∃p xs,y=.ref p/\(SqL K H p xs\/SqT K H p xs)/\flatV x=true/\xs.all flatV=true/\Q (.bl (if c then !inV x xs else inV x xs)) H
theorem qeO:OpR X (compareOp .In) (rIn X.K false):=by
 intro pins s n H x y v u Q I i l h;obtain⟨p,xs,rfl,d,j,fs,q⟩:=h;cases l;rcases d with d|d
 .obtain ⟨c,r,pl,m⟩:=I.list d
  refine SeqAt.in_listAt (eqU x) pl.isList (λw f=>yn i j r fs w (by simpa using f)) ⟨.bl _,H,I,rfl,?_⟩;rw[show c.toArray.any (eqU x)=c.any (eqU x) by simp,yZ r fs];exact q
 .obtain ⟨c,r,pl,m⟩:=I.tuple d
  refine SeqAt.in_tupleAt (eqU x) pl (λw f=>yn i j r fs w (by simpa using f)) ⟨.bl _,H,I,rfl,?_⟩;rw[show c.toArray.any (eqU x)=c.any (eqU x) by simp,yZ r fs];exact q
theorem qbd:OpR X (compareOp .NotIn) (rIn X.K true):=by
 intro pins s n H x y v u Q I i l h;obtain⟨p,xs,rfl,d,j,fs,q⟩:=h;cases l;rcases d with d|d
 .obtain ⟨c,r,pl,m⟩:=I.list d
  refine SeqAt.notIn_listAt (eqU x) pl.isList (λw f=>yn i j r fs w (by simpa using f)) ⟨.bl _,H,I,rfl,?_⟩;rw[show c.toArray.any (eqU x)=c.any (eqU x) by simp,yZ r fs];exact q
 .obtain ⟨c,r,pl,m⟩:=I.tuple d
  refine SeqAt.notIn_tupleAt (eqU x) pl (λw f=>yn i j r fs w (by simpa using f)) ⟨.bl _,H,I,rfl,?_⟩;rw[show c.toArray.any (eqU x)=c.any (eqU x) by simp,yZ r fs];exact q
theorem CallR.or{f:Value}{r c:List V->Hp->VK->Prop}(h:CallR X f r)(h':CallR X f c):CallR X f (λxs H Q=>r xs H Q\/c xs H Q):=by
 intro pins s d H xs us Q I i q;rcases q with q|q
 .exact h pins s d H xs us Q I i q
 .exact h' pins s d H xs us Q I i q
theorem qbe:CallR X (.type "list") (λxs H Q=>∃p ys,xs=[.ref p]/\(SqL X.K H p ys\/SqT X.K H p ys)/\∀l,H l=none->Q (.ref l) (upd H l (.l ys))):=by
 intro pins s y H xs us Q I r h;obtain⟨p,ys,rfl,i,q⟩:=h;obtain⟨u,rfl,A⟩:=vals1 r;cases A;have fin:∀(c:List Value),Vals ys c->ys.length<=sizeLine->∀(h':Heap) (d:Nat),(∀b o',s.heap.get? b=some o'->h'.get? b=some o') ->
   h'.get? s.heap.objs.size=some {cls:=.type "list",dict:=none,data:=.seq c.toArray d,slots:=#[]}->EP X pins y Q (.ref s.heap.objs.size) {s with heap:=h' }:=λc f j h' d kp e =>
  ⟨.ref s.heap.objs.size,_,I.laid (t':=s.toks) kp (wN _) (show ObjOk X.prog X.w _ h' _ (.l ys)from⟨j,c,d,f,e⟩),rfl,q _ (I.hok.fresh (wN _))⟩
 rcases i with i|i
 .obtain ⟨c,f,pl,j⟩:=I.list i
  have m:=f.length;obtain⟨o,v,x,n,hd⟩:=pl.isList;exact call_list_seq p (.inl rfl) v x hd (λh' d kp e=>fin c f j h' d kp e) (by simp only[wS] <;> lia)
 .obtain ⟨c,f,pl,j⟩:=I.tuple i
  have m:=f.length;obtain⟨o,v,x,n,hd⟩:=pl;exact call_list_seq p (.inr rfl) v x hd (λh' d kp e=>fin c f j h' d kp e) (by simp only[wS] <;> lia)
theorem qaE:CallR X (.type "tuple") (λxs H Q=>∃p ys,xs=[.ref p]/\((SqL X.K H p ys/\∀l,H l=none->Q (.ref l) (upd H l (.t ys)))\/(SqT X.K H p ys/\Q (.ref p) H))):=by
 intro pins s i H xs us Q I r h;obtain⟨p,ys,rfl,h⟩:=h;obtain⟨u,rfl,v⟩:=vals1 r;cases v;rcases h with ⟨d,q⟩|⟨d,q⟩
 .obtain ⟨c,f,pl,j⟩:=I.list d
  have m:=f.length;refine call_tuple_list pl.isList (λh' kp=>?_) (by simp only[wS] <;> lia);have n:Inv X pins i H {s with heap:=h' }:=I.kept (t':=s.toks) kp;have x:Inv X pins i (upd H h'.objs.size (.t ys)) {s with heap:=h'.push {cls:=.type "tuple",data:=.seq c.toArray}} :=
   n.laid (t':=s.toks) (λb o e=>wC _ e) (wN _) (show ObjOk X.prog X.w _ _ _ (.t ys)from⟨j,c,f,IsTup.new _ _,yF _ _⟩)
  exact⟨.ref h'.objs.size,_,x,rfl,q _ (n.hok.fresh (wN _))⟩
 .obtain ⟨c,f,pl,j⟩:=I.tuple d
  exact call_tuple_same pl ⟨.ref p,H,I,rfl,q⟩
def tyV(K:PySem.W.Frag)(T:String)(x:V)(H:Hp):Prop:=match x with
 | .str _=>T="str"
 | .int _=>T="int"
 | .ref p=>(T="list"/\∃xs,SqL K H p xs)\/(T="tuple"/\∃o,K.lookup p=some o/\o.cls=.type "tuple"/\o.dict=none) \/
   (T="dict"/\((∃kvs,H p=some (.dK kvs))\/∃kvs,H p=some (.dT kvs)))\/(T="set"/\∃S n,H p=some (.set S n))
 |_=>False
theorem qjX{pins:04}{h:St}{H:Hp}{s:Shared}{T:String}{x:V}{v:Value}(I:Inv X pins h H s)(r:RelV x v)(ty:tyV X.K T x H):
  s.TypeIs v T/\∀a,v=.ref a->∃ob,s.heap.get? a=some ob/\ob.dict=none:=by
 cases x with
 |str z =>
  obtain⟨t,rfl⟩:=r;cases (show T="str" from ty);exact⟨typeIs_str s z t,λ_ e=>nomatch e⟩
 |int i =>
  obtain⟨t,rfl⟩:=r;cases (show T="int" from ty);exact⟨typeIs_int s i t,λ_ e=>nomatch e⟩
 |ref p =>
  cases r;rcases ty with ⟨rfl,xs,j⟩|⟨rfl,o,d,hc,hd⟩|⟨rfl,d⟩|⟨rfl,S,n,d⟩
  .obtain ⟨l,_,pl,_⟩:=I.list j
   refine⟨pl.isList.typeIs,λa e=>?_⟩;cases e;obtain⟨o,n,e,c,hd,_⟩:=pl;exact⟨o,e,hd⟩
  .refine ⟨⟨o,I.kIn p o d,hc⟩,λa e=>?_⟩
   cases e;exact⟨o,I.kIn _ o d,hd⟩
  .have z:∃o,s.heap.get? p=some o/\o.ExactDict:=by
    rcases d with ⟨kvs,d⟩|⟨kvs,d⟩
    .obtain ⟨_,_,_,_,o,_,_,e,ex,_⟩:=I.hok p _ d
     exact⟨o,e,ex⟩
    .obtain ⟨_,_,_,_,o,_,_,e,ex,_⟩:=I.hok p _ d
     exact⟨o,e,ex⟩
   obtain⟨o,e,ex⟩:=z;refine⟨⟨o,e,ex.1⟩,λa f=>?_⟩;cases f;exact⟨o,e,ex.2.1⟩
  .obtain ⟨o,_,_,_,e,ex,_⟩:=I.hok p _ d
   refine⟨⟨o,e,ex.1⟩,λa f=>?_⟩;cases f;exact⟨o,e,ex.2.1⟩
 |_=>exact False.elim ty
noncomputable def tBM(K:PySem.W.Frag)(T:String)(r:V->List V->Hp->VK->Prop)(f:TE)(t:TA):TE:=λc H Q=>f c H λx d=>tyV K T x d/\t c d λxs H2=>r x xs H2 Q
variable{o e:Expr}{es:List Expr}{to:TE}{t:TA}{name:Str}{apos cpos:Pos}{T id:String}{r:V->List V->Hp->VK->Prop}
theorem qlB(p:PlainAttrs T)(slot:Slot T name id)(j:typeOf (.builtin id)=pure (.type "method_descriptor"))(hm:MtR X id r)(q:PE X o to)(ha:PA X (e::es) t)(d:attributeBase o name X.env (eval o X.env)=eval o X.env:=by rfl)(i:((backTo cpos (starEach (e::es) X.env)).all (λx=>!x.1)&&(backToKw cpos (keywordEach [] X.env)).all (λx=>x.1.isSome)
   && decide ((e::es).length+([]:List Keyword).length+(if([]:List Keyword).isEmpty then 0 else 1)<30))=true:=by rfl)(f:(apos.endLine == cpos.line)=true:=by rfl)(u:starEach (e::es) X.env=(false,eval e X.env)::starEach es X.env:=by rfl)(c:(backTo cpos (starEach es X.env)).any (·.1)=false:=by rfl):
  PE X (.Call (.Attribute o name apos) (e::es) [] cpos) (tBM X.K T r to t):=by
 intro pins s l H Q I h;refine wpAny_Call_method_late d i f rfl (thn (q pins s l H _ I h) λv s1 ⟨x,w,m,r1,ty,q1⟩=>?_);obtain⟨y,A⟩:=qjX m r1 ty;refine⟨T,id,p,slot,j,y,A,?_⟩;have n:=ha cpos pins s1 l w _ m q1;rw[u]at n ⊢;refine Calls.callWith_builtin (by show(false || (backTo cpos (starEach es X.env)).any (·.1))=false;rw[c] <;> rfl) (Calls.evalArgs_plain ?_);exact thn n λus s2 ⟨vs,H2,B,r2,q2⟩=>hm pins s2 l H2 x vs v us Q B r1 r2 q2
end
noncomputable def MtM(X:Cx)(id:String)(r:V->List V->Hp->VK->Prop):Prop :=
 ∀(pins:04) (s:Shared) (a:St) (H:Hp) (x:V) (xs:List V) (v:Value) (us:List Value) (Q:VK),Inv X pins a H s->RelV x v->Vals xs us->r x xs H Q ->
  wpAny 03 X.A (call (.builtin id) (v::us)) (EP X pins a Q) X.xe s
def Vals.one:∀{x:V} {us:List Value},Vals [x] us->∃u,us=[u]/\RelV x u
 |_,_,.cons r .nil=>⟨_,rfl,r⟩
def Vals.eraseIdx:∀{xs:List V} {us:List Value} (i:Nat),Vals xs us->Vals (xs.eraseIdx i) (us.eraseIdx i)
 |_,_,_,.nil=>.nil
 |_,_,0,.cons _ t=>t
 |_,_,i+1,.cons r t=>.cons r (Vals.eraseIdx i t)
def Vals.rep{xs:List V}{us:List Value}(h:Vals xs us):∀k:Nat,Vals (List.replicate k xs).flatten (List.replicate k us).flatten
 |0=>.nil
 |k+1=>by
  rw[vL,vL,uA,uA];exact Vals.append h (Vals.rep h k)
def qaO{a:Type}:∀(l:List a) (i:Nat),(l.eraseIdx i).length<=l.length
 |[],_=>wN _
 |_::_,0=>Nat.le_succ _
 |_::r,i+1=>Nat.succ_le_succ (qaO r i)
def jq(a:List Value):∀(k:Nat) (b:List Value),
  List.foldl (λc d=>c++d) b.toArray (List.replicate k a.toArray)=(b++(List.replicate k a).flatten).toArray
 |0,b=>by simp
 |k+1,b=>by
  have e:b.toArray++a.toArray=(b++a).toArray:=by simp
  have f:(b++a)++(List.replicate k a).flatten=b++(List.replicate (k+1) a).flatten:=by
   rw[vL,uA,wf]
  rw[<-f,<-jq a k (b++a),<-e,vL,ua]
section
variable{X:Cx}{pins:List (Addr×Obj)}{σ:St}{H:Hp}{s:Shared}{l b:Addr}{xs ys zs:List V}
theorem Inv.lset{a its':List Value}{n:Nat}{f:Array Value->Array Value}{t':Nat}(I:Inv X pins σ H s)(c:H l=some (.l xs))(e:s.heap.get? l=some {cls:=.type "list",data:=.seq a.toArray n})(d:f a.toArray=its'.toArray)(h:Vals ys its')(i:ys.length<=sizeLine):
  Inv X pins σ (upd H l (.l ys)) {s with heap:=s.heap.update l (Obj.mapSeq f),toks:=t' }:=by
 have q:=PySem.IsL.update e f;rw[d]at q;refine I.write (x:=l) (e:=l) (by rw[c];exact trivial) (.inl rfl) (λm u hb j=>(wy s.heap (Obj.mapSeq f) (Ne.symm hb)).trans j) ⟨_,q⟩ ?_;exact⟨i,its',_,h,q⟩
theorem Inv.lnew{a:List Value}{t':Nat}(I:Inv X pins σ H s)(c:Vals ys a)(d:ys.length<=sizeLine):
  Inv X pins σ (upd H s.heap.objs.size (.l ys)) {s with heap:=s.heap.push {cls:=.type "list",data:=.seq a.toArray},toks:=t' } :=
 I.laid (λ_ _ q=>wC _ q) (wN _) ⟨d,a,0,c,wM _ rfl⟩
theorem Inv.fresh(I:Inv X pins σ H s):H s.heap.objs.size=none:=I.hok.fresh (wN _)
theorem Inv.lstM(I:Inv X pins σ H s)(c:H l=some (.l xs)):xs.length<=sizeLine/\∃(a:List Value) (n:Nat),Vals xs a/\xs.length=a.length/\s.heap.get? l=some {cls:=.type "list",data:=.seq a.toArray n}:=by
 obtain⟨z,a,n,r,e⟩:=I.hok l _ c;exact⟨z,a,n,r,r.length,e⟩
theorem notLongL{n:Nat}(h:n<=sizeLine):Builtin.List.listTooLong n=false:=by
 unfold Builtin.List.listTooLong;exact wd 00
end
section
variable{X:Cx}
def rAppend:V->List V->Hp->VK->Prop:=λx vs H Q=>∃l xs y,x=.ref l/\vs=[y]/\H l=some (.l xs)/\xs.length<sizeLine/\Q .non (upd H l (.l (xs++[y])))
theorem jr:MtM X "list.append" rAppend:=by
 intro pins s i H x vs v us Q I c d h;obtain⟨l,xs,y,rfl,rfl,b,j,q⟩:=h;cases c;obtain⟨u,rfl,f⟩:=d.one;obtain⟨z,a,n,r,m,e⟩:=I.lstM b;refine uH F.slot_list_append ⟨_,e,rfl⟩ F.entry_list_append (F.args_list_append_2 _ _) (PySem.list_append l a.toArray n u (by rw[wS];lia)) ⟨e,?_⟩;refine⟨.non,_,I.lset (its':=a++[u]) b e (by simp) (r.append (.cons f .nil)) ?_,rfl,q⟩;rw[wV,vo];lia
def rPopAt:V->List V->Hp->VK->Prop:=λx vs H Q=>∃l xs i k y,x=.ref l/\vs=[.int i]/\H l=some (.l xs)/\-(2^63)<=i/\i<2^63/\seqIndex? i xs.length=some k/\xs[k]?=some y/\Q y (upd H l (.l (xs.eraseIdx k)))
theorem qfC:MtM X "list.pop" rPopAt:=by
 intro pins s E H x vs v us Q I d f h;obtain⟨l,xs,i,k,y,rfl,rfl,c,j,m,o,p,q⟩:=h;cases d;obtain⟨u,rfl,A⟩:=f.one;obtain⟨t,rfl⟩:=A;obtain⟨z,a,n,r,B,e⟩:=I.lstM c;obtain⟨w,C,b⟩:=r.get p;refine uH F.slot_list_pop ⟨_,e,rfl⟩ F.entry_list_pop (F.args_list_pop_2 _ _)
  (MeetsSeq.list_pop_at l a.toArray n i t k w (fitsIndex_both j m) (by rw[wS,<-B];exact o) (by rw[<-uQ];exact C) (by rw[wS];lia)) ⟨e,?_⟩
 refine⟨y,_,I.lset (its':=a.eraseIdx k) c e ?_ (r.eraseIdx k) ?_,b,q⟩
 .show a.toArray.eraseIdxIfInBounds k=(a.eraseIdx k).toArray
  rw[List.eraseIdxIfInBounds_toArray]
 .have:=qaO xs k
  lia
theorem qbf{a:Type}(xs:List a)(k:Nat):(List.replicate k xs).flatten.length=k*xs.length:=by
 induction k with
 |zero=>simp
 |succ k b=>rw[vL,uA,wV,b,Nat.succ_mul,Nat.add_comm]
end
section
variable{prog:Program}{w:World}{A:Around}{E:Value->Shared->Prop}{s:Shared}
set_option maxRecDepth 100000 in
end
section
variable{κ:Type}[DecidableEq κ]
noncomputable def valV(kvs:List (κ×V))(k:κ):Option V:=(kvs.find? λa=>decide (a.1=k)).map (·.2)
noncomputable def putK(kvs:List (κ×V))(k:κ)(v:V):List (κ×V) :=
 if(kvs.any λa=>decide (a.1=k))=true then kvs.map (λa=>if a.1=k then(a.1,v)else a)else kvs++[(k,v)]
theorem y4{p:κ×V}{r:List (κ×V)}{k:κ}(e:p.1=k):valV (p::r) k=some p.2:=by simp[valV,ub,e]
theorem y6{p:κ×V}{r:List (κ×V)}{k:κ}(e:¬p.1=k):valV (p::r) k=valV r k:=by simp[valV,ub,e]
theorem qbV(k:κ):∀kvs:List (κ×V),(kvs.any λa=>decide (a.1=k))=(valV kvs k).isSome
 |[]=>rfl
 |p::r=>by
  rw[vq];by_cases e:p.1=k
  .simp only[y4 e,wq e,Bool.true_or,Option.isSome_some]
  .rw [y6 e,wd e,Bool.false_or];exact qbV k r
theorem jF(kvs:List (κ×V))(k:κ)(v:V):(putK kvs k v).length<=kvs.length+1:=by
 unfold putK;split
 .rw [wF];lia
 .rw [wV,wj,vz];lia
theorem RelO.isSome_eq{o:Option V}{u:Option Value}(r:RelO o u):o.isSome=u.isSome:=by
 cases o with
 |none=>cases u with
  |none=>rfl
  |some _=>exact(show False from r).elim
 |some _=>cases u with
  |none=>exact(show False from r).elim
  |some _=>rfl
theorem KV.val{kvs:List (κ×V)}{vs:List (κ×Value)}(r:KV kvs vs)(k:κ):RelO (valV kvs k) (valueAt vs k):=by
 unfold KV at r;induction r with
 |nil=>exact True.intro
 | @cons p q ps qs h t d =>
  obtain⟨c,f⟩:=h;by_cases e:p.1=k
  .have a:q.1=k:=c.symm.trans e
   have b:valueAt (q::qs) k=some q.2:=by simp[valueAt,ub,a]
   rw[y4 e,b];exact f
  .have a:¬q.1=k:=λz=>e (c.trans z)
   have b:valueAt (q::qs) k=valueAt qs k:=by simp[valueAt,ub,a]
   rw[y6 e,b];exact d
theorem KV.any{kvs:List (κ×V)}{vs:List (κ×Value)}(r:KV kvs vs)(k:κ):(kvs.any λa=>decide (a.1=k))=vs.any λa=>decide (a.1=k):=by
 unfold KV at r;induction r with
 |nil=>rfl
 |cons h t b=>rw[vq,vq,b,h.1]
theorem KV.repl{kvs:List (κ×V)}{vs:List (κ×Value)}(r:KV kvs vs)(k:κ){y:V}{u:Value}(c:RelV y u):
  KV (kvs.map λa=>if a.1=k then(a.1,y)else a) (vs.map λa=>if a.1=k then(a.1,u)else a):=by
 unfold KV at r ⊢;induction r with
 |nil=>exact .nil
 | @cons p q ps qs h t d =>
  rw[wU,wU];refine .cons ?_ d;obtain⟨b,f⟩:=h;by_cases e:p.1=k
  .rw [wR e,wR (b.symm.trans e)];exact⟨b,c⟩
  .rw [wT e,wT (λz=>e (b.trans z))];exact⟨b,f⟩
theorem KV.put{kvs:List (κ×V)}{vs:List (κ×Value)}(r:KV kvs vs)(k:κ){y:V}{u:Value}(a:RelV y u):KV (putK kvs k y) (stored vs k u):=by
 unfold putK stored;rw[r.any k];by_cases e:(vs.any λb=>decide (b.1=k))=true
 .rw [wR e,wR e];exact r.repl k a
 .rw [wT e,wT e];exact Paired.snoc r ⟨rfl,a⟩
theorem KV.length{kvs:List (κ×V)}{vs:List (κ×Value)}(r:KV kvs vs):kvs.length=vs.length:=Paired.length r
end
def qfD{P:Program}{w:World}{k:Key}{u:Value}(r:RelV (kV k) u):(mixKind P w).is k u=true:=by
 cases k with
 |inl i=>obtain⟨t,e⟩:=(show ∃t,u=Value.int i t from r);subst e;exact qbP P w i t
 |inr x=>obtain⟨t,e⟩:=(show ∃t,u=Value.str x t from r);subst e;exact qbQ P w x t
def qaP{P:Program}{w:World}:∀{ks:List Key} {us:List Value},Vals (ks.map kV) us->ItemsAre (mixKind P w) ks us
 |[],_,r=>by rw[u5]at r;cases r;exact .nil
 |k::ks,_,r=>by
  rw[wU]at r;cases r with
  |cons h t=>exact .cons (qfD h) (qaP t)
noncomputable abbrev KT(H:Hp):List (List Key×V)->List (List Key×Addr×Value)->Prop:=Paired λp q=>p.1=q.1/\H q.2.1=some (.t (p.1.map kV))/\RelV p.2 q.2.2
def KT.val{H:Hp}{kvs:List (List Key×V)}{xs:List (List Key×Addr×Value)}(r:KT H kvs xs)(k:List Key):RelO (valV kvs k) ((atKey xs k).map (·.2)):=by
 induction r with
 |nil=>exact True.intro
 | @cons p q ps qs h t d =>
  obtain⟨c,_,f⟩:=h;by_cases e:p.1=k
  .have a:q.1=k:=c.symm.trans e
   have b:atKey (q::qs) k=some q.2:=by simp[atKey,ub,a]
   rw[y4 e,b];exact f
  .have a:¬q.1=k:=λz=>e (c.trans z)
   have b:atKey (q::qs) k=atKey qs k:=by simp[atKey,ub,a]
   rw[y6 e,b];exact d
def KT.repl{H:Hp}{kvs:List (List Key×V)}{xs:List (List Key×Addr×Value)}(r:KT H kvs xs)(k:List Key){y:V}{u:Value}(d:RelV y u):
  KT H (kvs.map λb=>if b.1=k then(b.1,y)else b) (xs.map (putAt k u)):=by
 induction r with
 |nil=>exact .nil
 | @cons p q ps qs h t f =>
  rw[wU,wU];refine .cons ?_ f;obtain⟨a,c,i⟩:=h;unfold putAt;by_cases e:p.1=k
  .rw [wR e,wR (a.symm.trans e)];exact⟨a,c,d⟩
  .rw [wT e,wT (λz=>e (a.trans z))];exact⟨a,c,i⟩
def KT.put{H:Hp}{kvs:List (List Key×V)}{xs:List (List Key×Addr×Value)}(r:KT H kvs xs)(k:List Key){b:Addr}{y:V}{u:Value}(hb:H b=some (.t (k.map kV)))(a:RelV y u):
  KT H (putK kvs k y) (storedH xs k b u):=by
 have e:(kvs.any λc=>decide (c.1=k))=(atKey xs k).isSome:=by
  rw[qbV,(r.val k).isSome_eq,Option.isSome_map]
 unfold putK storedH;rw[e];by_cases q:(atKey xs k).isSome=true
 .rw [wR q,wR q];exact r.repl k a
 .rw [wT q,wT q];exact Paired.snoc r ⟨rfl,hb,a⟩
def KT.keeps{H H':Hp}{kvs:List (List Key×V)}{xs:List (List Key×Addr×Value)}(r:KT H kvs xs)(a:∀b ys,H b=some (.t ys)->H' b=some (.t ys)):KT H' kvs xs :=
 Paired.mapP r λ_ _ z=>⟨z.1,a _ _ z.2.1,z.2.2⟩
section
variable{P:Program}{w:World}{H:Hp}{h:Heap}{a:Addr}
theorem qi5{u:HO}(ok:HOk P w H h)(e:Rd H a u):ObjOk P w H h a u:=e.ok ok
theorem qdD{kvs:List (Key×V)}(ok:HOk P w H h)(e:Rd H a (.dK kvs)):kvs.length<=sizeLine/\(a == sysModules)=false/\∃vs,KV kvs vs/\h.DictOf (mixKind P w) a vs :=
 show ObjOk P w H h a (.dK kvs)from qi5 ok e
theorem qlC{kvs:List (Key×V)}(ok:HOk P w H h)(e:H a=some (.dK kvs)):kvs.length<=sizeLine/\(a == sysModules)=false/\∃vs,KV kvs vs/\h.DictOf (mixKind P w) a vs:=qdD ok (.inl e)
theorem qcZ{ks:List Key}(ok:HOk P w H h)(e:H a=some (.t (ks.map kV))):(tupleKind (mixKind P w)).is h ks a:=by
 obtain⟨_,b,r,⟨o,c,d,n,f⟩,_⟩:=(show ObjOk P w H h a (.t (ks.map kV))from ok a _ e);exact⟨o,b.toArray,n,c,d,f,by simpa using qaP r⟩
theorem qdE{kvs:List (List Key×V)}(ok:HOk P w H h)(e:Rd H a (.dT kvs)):kvs.length<=sizeLine/\(a == sysModules)=false /\
  ∃xs,KT H kvs xs/\h.DictOfH (tupleKind (mixKind P w)) a xs:=by
 obtain⟨z,y,xs,r,o,es,d,f,i,j,n,s⟩:=(show ObjOk P w H h a (.dT kvs)from qi5 ok e);refine⟨z,y,xs,r,o,es,d,f,i,j,n,λx b=>?_,s⟩;have all:∀{l:List (List Key×V)} {m:List (List Key×Addr×Value)},KT H l m->∀x∈m,(tupleKind (mixKind P w)).is h x.1 x.2.1:=by
  intro l m q;induction q with
  |nil=>intro x b;exact nomatch b
  | @cons p q ps qs c t u =>
   intro x b;rcases wX.mp b with e|b
   .subst e
    exact qcZ ok (by rw[<-c.1];exact c.2.1)
   .exact u x b
 exact all r x b
theorem qlD{kvs:List (List Key×V)}(ok:HOk P w H h)(e:H a=some (.dT kvs)):kvs.length<=sizeLine/\(a == sysModules)=false /\
  ∃xs,KT H kvs xs/\h.DictOfH (tupleKind (mixKind P w)) a xs:=qdE ok (.inl e)
end
noncomputable def DGet(H:Hp)(a:Addr)(y:V)(r:Option V):Prop :=
 (∃kvs k,Rd H a (.dK kvs)/\y=kV k/\r=valV kvs k)\/∃kvs k b,Rd H a (.dT kvs)/\y=.ref b/\H b=some (.t (k.map kV))/\r=valV kvs k
noncomputable def DPut(H:Hp)(a:Addr)(y v:V)(H':Hp):Prop :=
 (∃kvs k,H a=some (.dK kvs)/\y=kV k/\kvs.length<sizeLine/\H'=upd H a (.dK (putK kvs k v))) \/
 ∃kvs k b,H a=some (.dT kvs)/\y=.ref b/\H b=some (.t (k.map kV))/\kvs.length<sizeLine/\H'=upd H a (.dT (putK kvs k v))
def DGet.t{H:Hp}{a b:Addr}{kvs:List (List Key×V)}{k:List Key}(e:H a=some (.dT kvs))(c:H b=some (.t (k.map kV))):DGet H a (.ref b) (valV kvs k):=.inr ⟨kvs,k,b,.inl e,rfl,c,rfl⟩
def DPut.k{H:Hp}{a:Addr}{kvs:List (Key×V)}{k:Key}{v:V}(e:H a=some (.dK kvs))(b:kvs.length<sizeLine):DPut H a (kV k) v (upd H a (.dK (putK kvs k v))):=.inl ⟨kvs,k,e,rfl,b,rfl⟩
def DPut.t{H:Hp}{a b:Addr}{kvs:List (List Key×V)}{k:List Key}{v:V}(e:H a=some (.dT kvs))(c:H b=some (.t (k.map kV)))(d:kvs.length<sizeLine):
  DPut H a (.ref b) v (upd H a (.dT (putK kvs k v))):=.inr ⟨kvs,k,b,e,rfl,c,d,rfl⟩
section
variable{X:Cx}{pins:List (Addr×Obj)}{σ:St}{H:Hp}{s:Shared}{a:Addr}{y v:V}{u r:Value}{o:Option V}{A:Around}{E:Value->Shared->Prop}
theorem Inv.big(I:Inv X pins σ H s):sysModules<s.heap.objs.size:=by
 have h:mainGlobals<s.heap.objs.size:=(I.mod.glob.keeps I.bk).lt;exact Nat.lt_trans 02 h
theorem qeP{Q:06}(x:A.units+1<cLine)(I:Inv X pins σ H s)(g:DGet H a y (some v))(q:RelV y u)(h:∀f s',Inv X pins σ H s'->RelV v f->Q f s'):
  wpAny 03 A (getItem (.ref a) u) Q E s:=by
 rcases g with ⟨kvs,k,e,i,l⟩|⟨kvs,k,b,e,i,eb,l⟩
 .subst i
  obtain⟨z,hd,vs,c,j⟩:=qdD I.hok e;obtain⟨f,m,d⟩:=RelO.some_of (v:=v) (o:=valueAt vs k) (by rw[l];exact c.val k);exact wpAny_getItem_of (qfD q) j.mapOf m (h f _ (I.tok _) d)
 .subst i
  cases (show u=Value.ref b from q);obtain⟨z,hd,xs,c,j⟩:=qdE I.hok e;obtain⟨f,m,d⟩:=RelO.some_of (v:=v) (o:=(atKey xs k).map (·.2)) (by rw[l];exact c.val k);obtain⟨p,B,n⟩:=Option.map_eq_some_iff.mp m;refine wpAny_getItem_heap (tupleKind_room_in1 x) (qcZ I.hok eb) j B ?_;rw[n];exact h f _ (I.tok _) d
theorem qdF{h':Heap}{t':Nat}{ob:HO}(I:Inv X pins σ H s)(c:Mut (H a))(d:Heap.SameBut a s.heap h')(f:∃q,h'.get? a=some q)(new:ObjOk X.prog X.w (upd H a ob) h' a ob):
  Inv X pins σ (upd H a ob) {s with heap:=h',toks:=t' } :=
 I.write (x:=a) (e:=a) c (.inl rfl) (λb q hb z=>(d.2 b hb).trans z) f new
theorem qjY{P:Program}{w:World}{H':Hp}{h':Heap}{kvs:List (Key×V)}{vs:List (Key×Value)}(z:kvs.length<=sizeLine)(hd:(a == sysModules)=false)(b:KV kvs vs)(c:h'.DictOf (mixKind P w) a vs):
  ObjOk P w H' h' a (.dK kvs):=⟨z,hd,vs,b,c⟩
theorem qeQ{H':Hp}{Q:Unit->Shared->Prop}(K:A.units+1<cLine)(I:Inv X pins σ H s)(g:DPut H a y v H')(C:RelV y u)(F:RelV v r)(h:∀s',Inv X pins σ H' s'->Q () s'):
  wpAny 03 A (setItem (.ref a) u r) Q E s:=by
 rcases g with ⟨kvs,k,e,j,l,m⟩|⟨kvs,k,b,e,j,eb,l,m⟩
 .subst j m
  obtain⟨z,hd,vs,d,n⟩:=qlC I.hok e;have p:vs.length<=sizeLine:=by rw[<-d.length];exact z
  have x:(putK kvs k v).length<=sizeLine:=by have:=jF kvs k v;lia
  refine wpAny_setItem_pairs (hsz:=p) (qfD C) n λh' f B=>h _ ?_
  have L:∃q,h'.get? a=some q:=let ⟨q,_,_,i,_⟩:=f;⟨q,i⟩;exact qdF I (by rw[e];exact True.intro) B L (qjY x hd (d.put k F) f)
 .subst j m
  cases (show u=Value.ref b from C);obtain⟨z,hd,xs,d,n⟩:=qlD I.hok e;have p:xs.length<=sizeLine:=by rw[<-Paired.length d];exact z
  have x:(putK kvs k v).length<=sizeLine:=by have:=jF kvs k v;lia
  refine wpAny_setItem_heap (hsz:=p) (tupleKind_room_in1 K) (qcZ I.hok eb) n λh' f B=>h _ ?_
  obtain⟨q,es,M,i,N,O,P,_,S⟩:=f;refine qdF I (by rw[e];exact True.intro) B ⟨q,i⟩ ⟨x,hd,_,(d.put k eb F).keeps λc ys J=>?_,q,es,M,i,N,O,P,S⟩;rw[qm (qlp J e (λz=>nomatch z))];exact J
end
def qbW{X:Cx}{pins:04}{d:St}{H:Hp}{s:Shared}{a:Addr}{y:V}{o:Option V}(I:Inv X pins d H s)(g:DGet H a y o):s.TypeIs (.ref a) "dict":=by
 rcases g with ⟨kvs,k,e,_,_⟩|⟨kvs,k,b,e,_,_,_⟩
 .obtain ⟨_,_,vs,_,c⟩:=qdD I.hok e
  exact c.typeIs
 .obtain ⟨_,_,xs,_,c⟩:=qdE I.hok e
  exact c.typeIs
def qfE{P:Program}{w:World}{H:Hp}(h:Heap)(hb:sysModules<h.objs.size):ObjOk P w H (h.push {cls:=.type "dict",data:=.dict #[]}) h.objs.size (.dK []) :=
 ⟨vP _,vB.mpr (Ne.symm (wk hb)),[],.nil,Heap.DictOf.new h⟩
def qfF{P:Program}{w:World}{H:Hp}(h:Heap)(hb:sysModules<h.objs.size):ObjOk P w H (h.push {cls:=.type "dict",data:=.dict #[]}) h.objs.size (.dT []) :=
 ⟨vP _,vB.mpr (Ne.symm (wk hb)),[],.nil,_,#[],0,wM _ rfl,⟨rfl,rfl,rfl⟩,rfl,rfl,List.nodup_nil⟩
noncomputable def tDNewK:TE:=λ_ H Q=>∀p,H p=none->Q (.ref p) (upd H p (.dK []))
noncomputable def tDNewT:TE:=λ_ H Q=>∀p,H p=none->Q (.ref p) (upd H p (.dT []))
section
variable{X:Cx}{pos:Pos}
theorem qfG:PE X (.Dict [] [] pos) tDNewK:=λpins s b H Q I h =>
 wpAny_Dict_empty ⟨.ref s.heap.objs.size,_,I.laid (a:=s.heap.objs.size) (o:=.dK []) (t':=s.toks) (λ_ _ q=>wC _ q) (wN _) (qfE s.heap I.big),rfl,h _ (I.hok.fresh (wN _))⟩
theorem qfH:PE X (.Dict [] [] pos) tDNewT:=λpins s b H Q I h =>
 wpAny_Dict_empty ⟨.ref s.heap.objs.size,_,I.laid (a:=s.heap.objs.size) (o:=.dT []) (t':=s.toks) (λ_ _ q=>wC _ q) (wN _) (qfF s.heap I.big),rfl,h _ (I.hok.fresh (wN _))⟩
end
def IsD(H:Hp)(a:Addr):Prop:=(∃kvs,Rd H a (.dK kvs))\/∃kvs,Rd H a (.dT kvs)
def qjZ{X:Cx}{pins:04}{i:St}{H:Hp}{s:Shared}{a:Addr}(I:Inv X pins i H s)(d:IsD H a):
  s.TypeIs (.ref a) "dict"/\(∀b,Value.ref a=.ref b->∃ob,s.heap.get? b=some ob/\ob.dict=none)/\(a == sysModules)=false:=by
 rcases d with ⟨kvs,e⟩|⟨kvs,e⟩
 .obtain ⟨_,hd,vs,_,c⟩:=qdD I.hok e
  refine⟨c.typeIs,λb q=>?_,hd⟩;cases q;obtain⟨ob,_,_,f,h,_⟩:=c;exact⟨ob,f,h.2.1⟩
 .obtain ⟨_,hd,xs,_,c⟩:=qdE I.hok e
  refine⟨c.typeIs,λb q=>?_,hd⟩;cases q;obtain⟨ob,_,_,f,h,_⟩:=c;exact⟨ob,f,h.2.1⟩
end L2
namespace Att
open PySem PySem.W PySem.Calls PyProof.Rows
def jN{P:Params}{h:Heap}:∀(ns:List Int) (vs:List Value),WellAll P h vs (ns.map WData.int)->IntsAre vs ns:=by
 intro ns;induction ns with
 |nil =>
  intro vs w;rw[u5]at w;cases w;exact .nil
 |cons n ns c =>
  intro vs w;rw[wU]at w;cases w with
  |cons a b =>
   cases a;exact .cons _ _ (c _ b)
def qeR{l:OpenLaw}{n:Nat}(hn:l.most=some n){P:Params}{h:Heap}{args:List WData}{b:List Value}(c:l.row.toRowW.claim.pre args=true)(o:WellAll P h b args):
  ∃a vs ns,b=[Value.ref a]/\args=[WData.list (ns.map WData.int)]/\h.get? a=some {cls:=.type "list",data:=.seq vs.toArray}/\IntsAre vs ns/\ns.length<=n:=by
 have p:WShape.hasAll [] args [.list .int]=true:=(pre_splitW c).1;have s:l.pre.holds [] {args:=args}=true:=(pre_splitW c).2;obtain⟨d,r,rfl,u,v⟩:=hasAllW_cons p;obtain rfl:=hasAllW_nil v;obtain⟨xs,rfl,w⟩:=hasW_list u;obtain⟨ns,rfl⟩:=items_int w;have f:ns.length<=n:=by
  unfold OpenLaw.pre at s;have j:(WTm.not (.lt (.lit (.int (n:Int))) (.len (.arg 0)))).holds [] {args:=[.list (ns.map .int)]}=true:=by
   have j:=(holds_andW s).1;rw[hn]at j;exact j
  have m:=condW_of j (w_not (w_lt w_lit (w_len_list (w_arg rfl))));rw[wF]at m;refine Nat.le_of_not_lt λq=>?_
  have x:(n:Int)<((ns.length:Nat):Int):=by omega
  first
   | (rw[wq x]at m;exact absurd m 02)
   | (simp at m;omega)
 cases o with
 |cons y A =>
  cases A;cases y with
  |list B i=>exact⟨_,_,ns,rfl,rfl,B,jN ns _ i,f⟩
def qeS(l:OpenLaw)(args:List WData):l.row.toRowW.claim.post args (.bool true) args=true :=
 postW_of (r:=l.row.toRowW) (X:=(true == true))
  (show WShape.has [] (.bool true) .bool=true by first|rfl|decide|simp[WShape.has,WShape.arms,WShape.armsAll])
  (show(WTm.eq .res (.lit (.bool true))).value [] {args:=args,res:=some (.bool true),after:=args}=some (.bool (true == true))from w_eq_bool (w_res rfl) w_lit) rfl
def attach_call{l:OpenLaw}{n:Nat}{q:Program}{c:List Str}{A:(Str->Option Value)->Heap->Prop}{B:World->Heap->Prop}{d:DefRec}(hn:l.most=some n)(u:d.params.defaults=[])(call:∀(w:World) (s₀ b:Shared) (mg mb:Str->Option Value) (i:Addr) (o:Obj) (pm s doc:Value) (a:Addr) (vs:List Value) (ns:List Int),
   Ground q c [] A w s₀ mg mb b.heap->B w b.heap ->
   b.heap.get? i=some o->o.data=.func (docDef d.name d.params d.body d.scope pm s doc)->b.heap.CodeRec s d.name->mg d.name=some (.ref i) ->
   b.heap.get? a=some {cls:=.type "list",data:=.seq vs.toArray}->IntsAre vs ns->ns.length<=n->b.gens=#[] ->
   codeAny (model l.prog w) callerA (.call (.ref i) ⟨[.ref a],[]⟩) (λr s'=>r=.ok (.ret (.bool true))/\OldK b.heap s'.heap/\s'.os=b.os/\AllBare s'.gens) b):
  WalkO q c A B l.row.toRowW d [] (λf vs=>PySem.call f vs):=by
 intro w s₀ b mg mb G Y i o pm s doc H kV I hd v C x J args E as j F K y L;obtain rfl:H=.none:=Dflts.none C u;obtain rfl:kV=.none:=Dflts.noKw C;obtain⟨a,vs,ns,rfl,rfl,m,h,p⟩:=qeR hn j y;refine enter_call (codeAny_mono (call w s₀ b mg mb i o pm s doc a vs ns G Y I (fd_plain hd) v x m h p J) λr s' M=>?_);obtain⟨rfl,N,O,P⟩:=M;exact⟨.inl ⟨.bool true,.bool true,[],rfl,λ_=>rfl,.bool true,qeS l _,λ_=>⟨List.Pairwise.nil,λ_ hm=>(nomatch hm)⟩⟩,N,O,P⟩
end Att
namespace L2
open PySem PySem.Spec PyProof.Rows
def qaQ:∀{vs:List Value} {ns:List Int},IntsAre vs ns->Vals (ns.map V.int) vs
 |_,_,.nil=>.nil
 |_,_,.cons n t h=>.cons ⟨t,rfl⟩ (qaQ h)
noncomputable def defArgs(s:Stmt):Arguments:=match s with
 | .FunctionDef _ a _ _ _ _ _ _ _ _=>a
 |_=>{posonlyargs:=[],args:=[],vararg:=none,kwonlyargs:=[],kw_defaults:=[],kwarg:=none,defaults:=[]}
noncomputable def defBody(s:Stmt):List Stmt:=match s with
 | .FunctionDef _ _ b _ _ _ _ _ _ _=>b
 |_=>[]
noncomputable def defScope(s:Stmt):Scope:=match s with
 | .FunctionDef _ _ _ _ _ _ sc _ _ _=>sc
 |_=>{kind:=.function,names:=[],isGenerator:=false,isCoroutine:=false}
noncomputable abbrev CX0:CXT:=λ_ _ _ _ _ _=>False
noncomputable abbrev E0:XK:=λ_ _ _=>False
def pass0{X:Cx}:Passes CX0 X E0:=λ_ _ _ _ _ _ _ h=>h.elim
def qi6{A:Around}{k:Nat}(a:Room k A):A.units+1<cLine:=Nat.lt_of_le_of_lt (Nat.add_le_add_left (by decide:1<=64) _) a.units
end L2
namespace HT
open PySem PySem.Spec PyProof.Rows
section
variable{prog:Program}{w:World}{A:Around}{E:Value->Shared->Prop}{s:Shared}
theorem qaF{t:Addr}{items:Array Value}{Q:Bool->Shared->Prop}(a:IsTup s.heap t items)(h:Q true s):wpAny (model prog w) A (Builtin.Tuple.tupleIsExact (.ref t)) Q E s:=by
 unfold Builtin.Tuple.tupleIsExact;refine wB (uz a.typeIs ?_);exact wE h
theorem yO{t sl:Addr}{items:Array Value}{i j:Value}{lo hi:Option Int}{Q:06}(a:IsTup s.heap t items)(l:s.heap.IsSliceOf sl i j .none)(pl:IsPart i lo)(n:IsPart j hi)(m:sIx items.size 0 lo=0/\sIx items.size items.size hi=items.size)(h:Q (.ref t) s):wpAny (model prog w) A (getItem (.ref t) (.ref sl)) Q E s:=by
 obtain⟨os,c,d,o⟩:=id l;have f:s.TypeIs (.ref sl) "slice":=⟨os,c,d⟩;unfold getItem
 try with_reducible refine vE ?_
 first|refine wB (wE ?_)|skip
 refine wB (wpAny_sequenceKey a.typeIs 02 ?_);refine wB (vA (name:=Str.ofString "__getitem__") a.typeIs vN
  (vG vN a.typeIs entry_tuple_getitem ?_ (args_tuple_getitem _ _)))
 show wpAny _ _ (Builtin.Tuple.tupleItemsOf (.ref t) >>= _) _ _ s;refine wB (tupleItemsOf_ a ?_);refine wB (uz f ?_);rw[wR 02];refine wB (zU l pl n ?_);have b:(((sIx items.size 0 lo:Nat):Int) == 0&&(1:Int) == 1&&(sIx items.size items.size hi-sIx items.size 0 lo) == items.size)=true:=by
  rw[m.1,m.2];simp
 show wpAny _ _ (if(((sIx items.size 0 lo:Nat):Int) == 0&&(1:Int) == 1&&(sIx items.size items.size hi-sIx items.size 0 lo) == items.size)=true then _ else _) _ _ s;rw[wR b];refine wB (qaF a ?_);rw[wR rfl];refine wB (vc ?_);exact wB (wE (wE ⟨_,rfl,wE h⟩))
end
def js:fillsNumberSlot (.type "tuple") "mul"=pure false :=
 PySem.fillsNumberSlot_seq (id:="tuple.__mul__") (r:=some (.builtin "tuple.__rmul__")) F.slot_tuple_mul.lookup (by decide +kernel) F.slot_tuple_rmul.lookup (by decide +kernel)
def qbg:seqRepeat? (.type "tuple")=pure (some (.builtin "tuple.__mul__")):=by
 unfold seqRepeat?;rw[PySem.seqSlot_of (T:="tuple") (name:="__mul__") (id:="tuple.__mul__") F.slot_tuple_mul.lookup (by decide +kernel),PySem.seqSlot_of (T:="tuple") (name:="__rmul__") (id:="tuple.__rmul__") F.slot_tuple_rmul.lookup (by decide +kernel)];rfl
section
variable{prog:Program}{w:World}{A:Around}{E:Value->Shared->Prop}{s:Shared}
theorem qfI{a:Int}{t:Tok}{l:Addr}{items:Array Value}{Q:_->Shared->Prop}(b:IsTup s.heap l items)(h:Q (.done (.ret Value.notImplemented)) s):wpAny (model prog w) A (Builtin.«int.__rmul__» ⟨[.int a t,.ref l],[]⟩) Q E s:=by
 obtain⟨o,i,f,n,hd⟩:=b;obtain⟨j,g,d,tk,os⟩:=s;obtain⟨c,m,p,sl⟩:=o;cases f;cases hd;wp_walk;exact h
theorem qhP{l:Addr}{items:Array Value}{k:Int}{t:Tok}{Q:_->Shared->Prop}(p:IsTup s.heap l items)(H:-(2^63)<=k)(I:k<2^63)(r:items.size*k.toNat<=sizeLine)(u:(items=#[]\/k=1)->Q (.done (.ret (.ref l))) s)(hn:(¬(items=#[]\/k=1))->Q (.done (.ret (.ref s.heap.objs.size))) {s with heap:=s.heap.push {cls:=.type "tuple",data:=.seq ((List.replicate k.toNat items.toList).flatten).toArray}}):
  wpAny (model prog w) A (Builtin.«tuple.__mul__» ⟨[.ref l,.int k t],[]⟩) Q E s:=by
 obtain⟨o,J,v,n,hd⟩:=p;obtain⟨K,g,d,tk,os⟩:=s;obtain⟨c,L,M,sl⟩:=o;cases v;cases hd;have b:(decide (k < -(2^63)) || decide (k>=2^63))=false:=by simp;lia
 by_cases z:items=#[]\/k=1
 .have f:(items.isEmpty || k == 1)=true:=by
   rcases z with z|z
   .rw [z];rfl
   .rw [z];simp
  wp_walk;rw[wT (by rw[b];exact wb)];wp_walk;exact u z
 .have f:(items.isEmpty || k == 1)=false:=by
   simp only[Bool.or_eq_false_iff,vB];exact⟨by rw[<-Bool.not_eq_true];intro q;exact z (.inl (by simpa using q)),λq=>z (.inr q)⟩
  wp_walk;rw[wT (by rw[b];exact wb)];wp_walk;have ne:items.isEmpty=false:=(Bool.or_eq_false_iff.mp f).1;by_cases h:k<=0
  .have a:(decide (k<=0) || items.isEmpty)=true:=by rw[wq h];rfl
   rw[wR a];wp_walk;have e:k.toNat=0:=by lia
   have:=hn z;rw[e]at this;exact this
  .have a:(decide (k<=0) || items.isEmpty)=false:=by rw[wd h,ne];rfl
   rw[wT (by rw[a];exact wb)];have i:(items.size:Int)*k=((items.size*k.toNat:Nat):Int):=by
    rw[Int.natCast_mul];congr 1;lia
   have x:¬((items.size:Int)*k>(2^63-1) / 8):=by
    rw[i];have:((sizeLine:Nat):Int)<=(2^63-1) / 8:=by decide
    lia
   have y:Builtin.Tuple.tupleTooMany ((items.size:Int)*k)=false:=by
    unfold Builtin.Tuple.tupleTooMany;rw[i,wd];lia
   have B:List.foldl (λC F=>C++F) #[] (List.replicate k.toNat items)=(List.replicate k.toNat items.toList).flatten.toArray:=by
    have:=L2.jq items.toList k.toNat [];rw[x5]at this;simpa using this
   rw[wT x];wp_walk;rw[B];rw[wT (by rw[y];exact wb)];have j:sizeOk (.seq (List.replicate k.toNat items.toList).flatten.toArray):=by
    show(List.replicate k.toNat items.toList).flatten.toArray.size<=sizeLine;rw[wS,L2.qbf,vh,Nat.mul_comm];exact r
   show wpAny _ _ (Builtin.Tuple.tupleExact _ >>= _) _ _ _
   first
    |exact wB (m:=Builtin.Tuple.tupleExact _) (wa (wE (hn z)) j)
    |exact wB (m:=Builtin.Tuple.tupleExact _) (wa (hn z) j)
end
end HT
namespace L2
open PySem PySem.Spec PyProof.Rows
section
variable{X:Cx}
def rSlW(K:PySem.W.Frag):V->Option Int->Option Int->Hp->VK->Prop:=λx lo hi H Q=>∃a xs,x=.ref a/\SqT K H a xs /\
 (HT.sIx xs.length 0 lo=0/\HT.sIx xs.length xs.length hi=xs.length)/\Q x H
theorem qhQ:SlR X (rSlW X.K):=by
 intro pins s n H x v o p lo hi sl Q I f i pl j h;obtain⟨a,xs,rfl,l,m,q⟩:=h;cases f;obtain⟨c,r,d,u⟩:=I.tuple l;have b:c.toArray.size=xs.length:=by rw[wS];exact r.length.symm
 refine⟨"tuple",_,vN.lookup,d.typeIs,?_⟩;exact HT.yO d i pl j (by rw[b];exact m) ⟨.ref a,H,I,rfl,q⟩
noncomputable def rRepT(K:PySem.W.Frag):R2:=λx y H Q=>∃a k xs,x=.ref a/\y=.int k/\SqT K H a xs/\-(2^63)<=k/\k<2^63/\xs.length*k.toNat<=sizeLine /\
 ((xs=[]\/k=1)->Q x H)/\((¬(xs=[]\/k=1))->∀p,H p=none->Q (.ref p) (upd H p (.t (List.replicate k.toNat xs).flatten)))
theorem qhR:OpR X (binaryOp .Mult) (rRepT X.K):=by
 intro pins s B H x y v u Q I l m h;obtain⟨a,k,xs,rfl,rfl,n,p,w,j,q1,q2⟩:=h;cases l;obtain⟨t,rfl⟩:=m;obtain⟨d,r,i,A⟩:=I.tuple n;have c:d.length=xs.length:=r.length.symm;have f:(d.toArray=#[]\/k=1) ↔ (xs=[]\/k=1):=by
  constructor
  .rintro (z|z)
   .left
    have:d=[]:=by simpa using z
    rw[this]at c;exact wt.mp (by simpa using c.symm)
   .exact .inr z
  .rintro (z|z)
   .left
    rw[z]at c;have:d=[]:=wt.mp (by simpa using c);rw[this]
   .exact .inr z
 refine wpAny_binaryOp_repeat_ref (T:="tuple") (U:="int") 02 i.typeIs (λs'=>typeIs_int s' k t) HT.js F.fills_int_mul xf HT.qbg F.slot_int_index.lookup ?_;refine vG xf (typeIs_int s k t) F.entry_int_rmul (HT.qfI i ⟨_,rfl,rfl,i.typeIs,?_⟩) (F.args_int_rmul_2 _ _);refine vG F.slot_tuple_mul i.typeIs F.entry_tuple_mul (HT.qhP i p w (by rw[wS,c];exact j) (λz=>⟨_,rfl,.ref a,H,I,rfl,q1 (f.mp z)⟩) λz=>⟨_,rfl,?_⟩) (F.args_tuple_mul_2 _ _);refine⟨.ref s.heap.objs.size,_,I.laid (t':=s.toks) (o:=.t (List.replicate k.toNat xs).flatten) (λb ob q=>wC _ q) (wN _) ?_,rfl,q2 (λy=>z (f.mpr y)) _ (I.hok.fresh (wN _))⟩;exact⟨by rw[qbf,Nat.mul_comm];exact j,_,r.rep k.toNat,IsTup.new _ _,yF _ _⟩
end
end L2
namespace HT
open PySem PyProof.Rows
def qfJ(A:Around)(s:Shared)(a:Int)(t:Tok)(c:Int)(u:Tok)(prog:Program)(w:World)(E:06)(Q:06)(h:Q (.bool (decide (c<=a))) s):
  wpAny (model prog w) A (richCompare .GtE (.int a t) (.int c u)) Q E s :=
 (PyProof.Rows.ge_int h:wpAny (model prog w) A (compareOp .GtE (.int a t) (.int c u)) Q E s)
def qfK(a c:Int):(!decide (a<c))=decide (c<=a):=by rw[ww];simp
def qfL(a c:Nat):(!decide (a<c))=decide (c<=a):=by rw[ww];simp
section
open PySem.SeqAt
open PySem.AutoSeq1 (wpAny_loadPart')
open PySem.MeetsSeq PySem.MeetsSeq2 PySem.MeetsSeq3
def qaG(l b:Addr)(items f:Array Value)(n Q:Nat)(S K:Option Addr)(sl L:Array (Option Value))(ns H:List Int)(hi:IntsAre items.toList ns)(O:IntsAre f.toList H):
  Meets (Builtin.«tuple.__ge__» ⟨[.ref l,.ref b],[]⟩)
   (λ_ R s=>s.heap.get? l=some {cls:=.type "tuple",dict:=S,data:=.seq items n,slots:=sl}/\s.heap.get? b=some {cls:=.type "tuple",dict:=K,data:=.seq f Q,slots:=L} /\
    R (.ok (.ret (.bool (!lexLt ns H)))) s) :=
 .of_wp λprog w A R s h=>by
  obtain⟨I,g,d,tk,os⟩:=s;obtain⟨U,hb,h⟩:=h;have Z:=AutoSeq1.sub_tuple_tuple;have z1:items.size=ns.length:=by rw[<-hi.length];simp
  have z2:f.size=H.length:=by rw[<-O.length];simp
  wp_walk using wpAny_loadPart' U,wpAny_loadPart' hb,wpAny_forIn_list _ (λrest b s'=>b.1=none/\s'=⟨I,g,d,tk,os⟩/\∃(vs J:List Value) (j m:List Int),rest=vs.zip J /\
   IntsAre vs j/\IntsAre J m/\j.length+f.size=m.length+items.size/\R (.ok (.ret (.bool (!lexLt j m)))) ⟨I,g,d,tk,os⟩) _
  case turn =>
   rintro⟨y,x⟩ rest b s' ⟨B,rfl,vs,J,j,m,o,C,p,i,r⟩;cases C with
   |nil=>rw[List.zip_nil_left]at o;cases o
   |cons a t E =>
    cases p with
    |nil=>rw[List.zip_nil_right]at o;cases o
    |cons c u F =>
     rw[wv]at o;injection o with M hrest;injection M with W hx;subst W hx;rw[qZ]at r;simp only[wj]at i;obtain⟨e,X,v⟩:=qbU A.in1 ⟨I,g,d,tk,os⟩ a t c u;refine wB (X prog w _ _ ?_);cases e with
     |true =>
      rw[wR (v.mp rfl)]at r;wp_walk;exact⟨rfl,rfl,_,_,_,_,hrest,E,F,by lia,r⟩
     |false =>
      rw[wT (λq=>absurd (v.mpr q) wb)]at r;have N:=qfJ A.in1 ⟨I,g,d,tk,os⟩ a t c u prog w;rw[qfK]at r;wp_walk using N;exact⟨_,rfl,by simpa using r⟩
  case fin =>
   rintro⟨b1,b2⟩ s' ⟨B,rfl,vs,J,j,m,o,C,p,i,r⟩;simp only at B;subst B;have P:lexLt j m=decide (items.size<f.size):=by
    cases C with
    |nil =>
     cases p with
     |nil =>
      simp only[vz]at i;rw[yP];exact(wd 00).symm
     |cons c u Y =>
      simp only[vz,wj]at i;rw[yk];exact(wq 00).symm
    |cons a t P =>
     cases p with
     |nil =>
      simp only[vz,wj]at i;rw[ym];exact(wd 00).symm
     |cons c u Y =>
      rw[wv]at o;cases o
   rw[P,qfL]at r;wp_walk;exact⟨_,rfl,by simpa[Builtin.Tuple.tupleCompareSizes]using r⟩
  case h =>
   exact⟨rfl,rfl,items.toList,f.toList,ns,H,rfl,hi,O,by lia,h⟩
end
section
variable{prog:Program}{w:World}{A:Around}{E:Value->Shared->Prop}{s:Shared}
theorem qc0{l b:Addr}{items a:Array Value}{ns c:List Int}{Q:06}(u:IsTup s.heap l items)(hb:IsTup s.heap b a)(hi:IntsAre items.toList ns)(v:IntsAre a.toList c)(y:A.units<cLine)(h:Q (.bool (!lexLt ns c)) s):wpAny (model prog w) A (compareOp .GtE (.ref l) (.ref b)) Q E s:=by
 obtain⟨⟨cls,B,data,sl⟩,p,q,n,hd⟩:=id u;obtain⟨⟨r,j,m,o⟩,d,f,C,i⟩:=id hb;simp only at q hd f i;subst q hd f i;exact xY (op:=.GtE) ⟨_,p,rfl⟩ ⟨_,d,rfl⟩ PySem.F.slot_tuple_ge PySem.F.entry_tuple_ge (PySem.F.args_tuple_ge_2 _ _) (qaG l b items a n C B j sl o ns c hi v)
  ⟨p,d,show Value.bool (!lexLt ns c)≠Value.notImplemented/\Q (.bool (!lexLt ns c)) s from⟨(λx=>nomatch x),h⟩⟩ y
end
end HT
namespace L2
open PySem PySem.Spec PyProof.Rows
section
variable{X:Cx}{e:Expr}{te:TE}{pos p2 p3 p4:Pos}
noncomputable def rGeT(K:PySem.W.Frag):R2:=λx y H Q=>∃a b ns c,x=.ref a/\y=.ref b/\SqT K H a (ns.map V.int)/\SqT K H b (c.map V.int)/\Q (.bl (!HT.lexLt ns c)) H
theorem qj0(i:X.A.units<cLine):OpR X (compareOp .GtE) (rGeT X.K):=by
 intro pins s n H x y v u Q I j l h;obtain⟨a,b,ns,f,rfl,rfl,ha,hb,q⟩:=h;cases j;cases l;obtain⟨d,r1,m,_⟩:=I.tuple ha;obtain⟨c,r2,p2,_⟩:=I.tuple hb;have i1:IntsAre d.toArray.toList ns:=q8 r1;have i2:IntsAre c.toArray.toList f:=q8 r2;exact HT.qc0 m p2 i1 i2 i ⟨.bl (!HT.lexLt ns f),H,I,rfl,q⟩
end
end L2
namespace HT
open PySem PyProof.Rows
section
variable{prog:Program}{w:World}{A:Around}{E:Value->Shared->Prop}{s:Shared}
def Many(h:Heap)(d:Addr)(n:Nat):Prop:=∃o es a,h.get? d=some o/\o.data=.dict es a/\es.size=n
theorem qc1{d:Addr}{n:Nat}(hd:(d == sysModules)=false):
  MeetsIn prog w (Builtin.«dict.__len__» ⟨[.ref d],[]⟩) (λ_ R s=>Many s.heap d n/\R (.ok (.ret (.int n s.toks))) {s with toks:=s.toks+1}):=by
 refine .of_wp λA R s b=>?_
 obtain⟨⟨o,es,i,c,a,rfl⟩,h⟩:=b;have size:∀{A:Around} {E:06},wpAny (model prog w) A (dictSize d) (λk s'=>k=es.size/\s'=s) E s:=by
  intro A E;unfold dictSize;exact wB (xH c a (wE ⟨rfl,rfl⟩))
 refine wB (m:=dictSize d) (wz size (λk s' ks=>?_) λ_ _ z=>z);obtain⟨e1,f⟩:=ks;subst e1 f;exact wB (wpAny_pendingCount_other hd (wpAny_ret_mkInt h))
theorem qeT{d:Addr}{n:Nat}{Q:06}(hd:(d == sysModules)=false)(hm:Many s.heap d n)(b:s.TypeIs (.ref d) "dict")(c:(n:Int)<2^63)(h:Q (.int n (s.toks+1)) {s with toks:=s.toks+1+1}):wpAny (model prog w) A (call (.builtin "len") [.ref d]) Q E s:=by
 have low:¬((n:Nat):Int)<0:=by lia
 have a:¬((n:Nat):Int)>=2^63:=by lia
 have slot:∀{A:Around} {Q:06},Q (.int n s.toks) {s with toks:=s.toks+1}->wpAny (model prog w) A (call (.builtin "dict.__len__") [.ref d]) Q E s:=λq =>
  call_meetsIn F.slot_dict_len b F.entry_dict_len (F.args_dict_len_1 _) (qc1 (n:=n) hd) ⟨hm,q⟩
 refine Calls.call_function_entry kind_len plain_len entry_len (args_len1 _) ?_;unfold Builtin.«len»;refine wB (m:=oneArg "len" _) (wE (wB (vA (name:=Str.ofString "__len__") b F.slot_dict_len (slot ?_))));refine wB (vE (wE (wB (uv ?_))));show wpAny _ _ (if((n:Nat):Int)<0 then _ else if((n:Nat):Int)>=2^63 then _ else _) _ _ _;rw[wT low,wT a];exact wB (wpAny_mkInt (wE ⟨_,rfl,h⟩))
end
end HT
namespace L2
open PySem PySem.Spec PyProof.Rows
section
variable{X:Cx}
theorem qeU:CallR X (.builtin "len") (λxs H Q=>∃a kvs,xs=[V.ref a]/\H a=some (.dT kvs)/\Q (.int kvs.length) H):=by
 intro pins s m H xs us Q I r h;obtain⟨a,kvs,rfl,ha,q⟩:=h;obtain⟨u,rfl,d⟩:=vals1 r;cases d;obtain⟨z,y,ys,c,o,es,f,i,n,j,l,p⟩:=(show ObjOk X.prog X.w H s.heap a (.dT kvs)from I.hok a _ ha);have hn:es.size=kvs.length:=by
  have e1:=congrArg List.length l;rw[wF,vh]at e1;rw[e1,c.length]
 have b:((kvs.length:Nat):Int)<2^63:=by rw[vV]at z;lia
 exact HT.qeT y ⟨o,es,f,i,j,hn⟩ (qjZ I (.inr ⟨kvs,.inl ha⟩)).1 b ⟨.int kvs.length,H,I.tok _,⟨_,rfl⟩,q⟩
end
end L2
namespace R
open PySem PySem.Spec L2 SeqAt
open PyProof.Rows hiding St
section
variable{A:Around}{s:Shared}{l b:Addr}{es:Array DictEntry}{n n2:Nat}{items:Array Value}{dd dd2:Option Addr}{sl sl2:Array (Option Value)}
noncomputable abbrev isDt(h:Heap)(l:Addr):Prop:=∃dd es n sl,h.get? l=some {cls:=.type "dict",dict:=dd,data:=.dict es n,slots:=sl}
theorem dq1:Meets (Builtin.«dict.__eq__» ⟨[.ref l,.ref b],[]⟩) (λ_ R s=>s.heap.get? l=some {cls:=.type "dict",dict:=dd,data:=.dict es n,slots:=sl}/\s.heap.get? b=some {cls:=.type "tuple",dict:=dd2,data:=.seq items n2,slots:=sl2}/\R (.ok (.ret .notImplemented)) s) :=
 .of_wp λprog w A R s h=>by
  obtain⟨c,g,d,tk,os⟩:=s;obtain⟨a,hb,h⟩:=h;have f:=ue;wp_walk using wpAny_loadPart' a,wpAny_loadPart' hb;exact⟨_,rfl,h⟩
theorem dq2:Meets (Builtin.«tuple.__eq__» ⟨[.ref b,.ref l],[]⟩) (λ_ R s=>s.heap.get? l=some {cls:=.type "dict",dict:=dd,data:=.dict es n,slots:=sl}/\s.heap.get? b=some {cls:=.type "tuple",dict:=dd2,data:=.seq items n2,slots:=sl2}/\R (.ok (.ret .notImplemented)) s) :=
 .of_wp λprog w A R s h=>by
  obtain⟨c,g,d,tk,os⟩:=s;obtain⟨a,hb,h⟩:=h;have f:=uf;wp_walk using wpAny_loadPart' a,wpAny_loadPart' hb;exact⟨_,rfl,h⟩
theorem dq3:Meets (Builtin.«dict.__ne__» ⟨[.ref l,.ref b],[]⟩) (λ_ R s=>s.heap.get? l=some {cls:=.type "dict",dict:=dd,data:=.dict es n,slots:=sl}/\s.heap.get? b=some {cls:=.type "tuple",dict:=dd2,data:=.seq items n2,slots:=sl2}/\R (.ok (.ret .notImplemented)) s) :=
 .of_wp λprog w A R s h=>by
  obtain⟨c,g,d,tk,os⟩:=s;obtain⟨a,hb,h⟩:=h;have f:=ue;wp_walk using wpAny_loadPart' a,wpAny_loadPart' hb;exact⟨_,rfl,h⟩
theorem dq4:Meets (Builtin.«tuple.__ne__» ⟨[.ref b,.ref l],[]⟩) (λ_ R s=>s.heap.get? l=some {cls:=.type "dict",dict:=dd,data:=.dict es n,slots:=sl}/\s.heap.get? b=some {cls:=.type "tuple",dict:=dd2,data:=.seq items n2,slots:=sl2}/\R (.ok (.ret .notImplemented)) s) :=
 .of_wp λprog w A R s h=>by
  obtain⟨c,g,d,tk,os⟩:=s;obtain⟨a,hb,h⟩:=h;have f:=uf;wp_walk using wpAny_loadPart' a,wpAny_loadPart' hb;exact⟨_,rfl,h⟩
variable(hl:isDt s.heap l)(hb:s.heap.IsTuple b items)(hu:A.units<cLine)
include hl hb
theorem qaR:l≠b:=λe=>by
 obtain⟨dd,es,n,sl,h⟩:=hl;obtain⟨o,a,c,_⟩:=hb;subst e;rw[h]at a;cases a;exact absurd (show Value.type "dict"=Value.type "tuple" from c) 02
include hu
theorem qi7:RcAt A s (.ref l) (.ref b) false:=λprog w E Q h=>by
 have j:=qaR hl hb;obtain⟨dd,es,n,sl,c⟩:=hl;obtain⟨⟨o,dd2,m,sl2⟩,a,d,n2,f⟩:=id hb;simp only at d f;subst d f;exact(rc_eq_decline_or (k:=false) ⟨_,c,rfl⟩ ⟨_,a,rfl⟩ 02 ue PySem.F.slot_dict_eq PySem.F.slot_tuple_eq_refl
  (λ_ i=>uH PySem.F.slot_dict_eq ⟨_,c,rfl⟩ PySem.F.entry_dict_eq (PySem.F.args_dict_eq_2 _ _) dq1 ⟨c,a,i⟩)
  (λ_ i=>uH PySem.F.slot_tuple_eq_refl ⟨_,a,rfl⟩ PySem.F.entry_tuple_eq (PySem.F.args_tuple_eq_2 _ _) dq2 ⟨c,a,i⟩)
  (λ_ i=>wpAny_isSame_ref_other j c a (by simp) i) (.inr hu) h)
theorem qi8:RcAt A s (.ref b) (.ref l) false:=λprog w E Q h=>by
 have j:=(qaR hl hb).symm;obtain⟨dd,es,n,sl,c⟩:=hl;obtain⟨⟨o,dd2,m,sl2⟩,a,d,n2,f⟩:=id hb;simp only at d f;subst d f;exact(rc_eq_decline_or (k:=false) ⟨_,a,rfl⟩ ⟨_,c,rfl⟩ 02 uf PySem.F.slot_tuple_eq PySem.F.slot_dict_eq_refl
  (λ_ i=>uH PySem.F.slot_tuple_eq ⟨_,a,rfl⟩ PySem.F.entry_tuple_eq (PySem.F.args_tuple_eq_2 _ _) dq2 ⟨c,a,i⟩)
  (λ_ i=>uH PySem.F.slot_dict_eq_refl ⟨_,c,rfl⟩ PySem.F.entry_dict_eq (PySem.F.args_dict_eq_2 _ _) dq1 ⟨c,a,i⟩)
  (λ_ i=>wpAny_isSame_ref_other' j a c (by simp) i) (.inr hu) h)
theorem qlE:RcNeAt A s (.ref l) (.ref b) true:=λprog w E Q h=>by
 have j:=qaR hl hb;obtain⟨dd,es,n,sl,c⟩:=hl;obtain⟨⟨o,dd2,m,sl2⟩,a,d,n2,f⟩:=id hb;simp only at d f;subst d f;exact(rc_ne_decline_or (k:=false) ⟨_,c,rfl⟩ ⟨_,a,rfl⟩ 02 ue PySem.F.slot_dict_ne PySem.F.slot_tuple_ne_refl
  (λ_ i=>uH PySem.F.slot_dict_ne ⟨_,c,rfl⟩ PySem.F.entry_dict_ne (PySem.F.args_dict_ne_2 _ _) dq3 ⟨c,a,i⟩)
  (λ_ i=>uH PySem.F.slot_tuple_ne_refl ⟨_,a,rfl⟩ PySem.F.entry_tuple_ne (PySem.F.args_tuple_ne_2 _ _) dq4 ⟨c,a,i⟩)
  (λ_ i=>wpAny_isSame_ref_other j c a (by simp) i) (.inr hu) h)
theorem qlF:RcNeAt A s (.ref b) (.ref l) true:=λprog w E Q h=>by
 have j:=(qaR hl hb).symm;obtain⟨dd,es,n,sl,c⟩:=hl;obtain⟨⟨o,dd2,m,sl2⟩,a,d,n2,f⟩:=id hb;simp only at d f;subst d f;exact(rc_ne_decline_or (k:=false) ⟨_,a,rfl⟩ ⟨_,c,rfl⟩ 02 uf PySem.F.slot_tuple_ne PySem.F.slot_dict_ne_refl
  (λ_ i=>uH PySem.F.slot_tuple_ne ⟨_,a,rfl⟩ PySem.F.entry_tuple_ne (PySem.F.args_tuple_ne_2 _ _) dq4 ⟨c,a,i⟩)
  (λ_ i=>uH PySem.F.slot_dict_ne_refl ⟨_,c,rfl⟩ PySem.F.entry_dict_ne (PySem.F.args_dict_ne_2 _ _) dq3 ⟨c,a,i⟩)
  (λ_ i=>wpAny_isSame_ref_other' j a c (by simp) i) (.inr hu) h)
end
end R
section
set_option maxHeartbeats 400000
end
section
set_option maxHeartbeats 400000
end
section
set_option maxHeartbeats 400000
end
section
set_option maxHeartbeats 400000
end
namespace R
open PySem PySem.Spec PyProof.Rows L2
namespace EX
def Errs(a C:Addr)(h:Heap):Prop:=∃o vs,h.get? a=some o/\o.cls=.ref C/\o.data=.fields vs
end EX
inductive D where
 |non|bl (b:Bool)|int (i:Int)|str (x:Str)
 |t (l:List D)|l (l:List D)|emp
 |ref (n:Nat)
 |exc (C:Addr)
mutual
def Den(ι:01)(H:Hp):D->V->Prop
 | .non,v=>v=.non
 | .bl b,v=>v=.bl b
 | .int i,v=>v=.int i
 | .str x,v=>v=.str x
 | .t ds,v=>∃a xs,v=.ref a/\a∉ι/\H a=some (.t xs)/\Dens ι H ds xs
 | .l ds,v=>∃a xs,v=.ref a/\a∉ι/\Rd H a (.l xs)/\Dens ι H ds xs
 | .emp,v=>∃a,v=.ref a/\a∉ι/\H a=some (.dK [])
 | .ref n,v=>∃a,v=.ref a/\ι[n]?=some a
 | .exc C,v=>∃a,v=.ref a/\a∉ι/\H a=some (.ext (EX.Errs a C))
def Dens(ι:01)(H:Hp):List D->List V->Prop
 |[],xs=>xs=[]
 |d::ds,xs=>∃x r,xs=x::r/\Den ι H d x/\Dens ι H ds r
end
def NT:HO->Prop
 | .tbl _=>False
 |_=>True
structure Stp (ι:01) (H:Hp) (ι':01) (H':Hp):Prop where
 pre:ι <+: ι'
 new:∀a∈ι',a∈ι\/H a=none
 keep:∀a o,H a=some o->a∉ι->NT o->H' a=some o
 there:∀a,H a≠none->H' a≠none
def Stp.refl(ι:01)(H:Hp):Stp ι H ι H:=⟨um _,λ_ h=>.inl h,λ_ _ h _ _=>h,λ_ h=>h⟩
def Stp.notin{ι b:01}{H H':Hp}(s:Stp ι H b H'){a:Addr}{o:HO}(h:H a=some o)(n:a∉ι):a∉b:=λm=>by
 rcases s.new a m with z|z
 .exact n z
 .rw [h]at z;cases z
def Stp.trans{ι b c:01}{H d H2:Hp}(s:Stp ι H b d)(t:Stp b d c H2):Stp ι H c H2 where
 pre:=s.pre.trans t.pre
 new:=λa m=>by
  rcases t.new a m with z|z
  .exact s.new a z
  .cases q:H a with
   |none=>exact .inr rfl
   |some o=>exact absurd z (s.there a (by rw[q];simp))
 keep:=λa o h n z=>t.keep a o (s.keep a o h n z) (s.notin h n) z
 there:=λa h=>t.there a (s.there a h)
def Stp.get{ι b:01}{H H':Hp}(s:Stp ι H b H'){n:Nat}{a:Addr}(h:ι[n]?=some a):b[n]?=some a:=by
 obtain⟨t,rfl⟩:=s.pre;rw[wQ (wO.mp h).1];exact h
def Stp.rd{ι b:01}{H H':Hp}(s:Stp ι H b H'){a:Addr}{u:HO}(h:Rd H a u)(n:a∉ι)(z:NT u:=by trivial):Rd H' a u/\a∉b:=by
 rcases h with h|⟨o,h⟩
 .exact ⟨.inl (s.keep _ _ h n z),s.notin h n⟩
 .exact ⟨.inr ⟨o,s.keep _ _ h n trivial⟩,s.notin h n⟩
mutual
def Den.mono{ι ι':01}{H H':Hp}(s:Stp ι H ι' H'):∀(d:D) {v:V},Den ι H d v->Den ι' H' d v
 | .non,_,h=>h
 | .bl _,_,h=>h
 | .int _,_,h=>h
 | .str _,_,h=>h
 | .t ds,_,h=>by
  obtain⟨a,xs,e,n,ha,r⟩:=h;exact⟨a,xs,e,s.notin ha n,s.keep _ _ ha n trivial,Dens.mono s ds r⟩
 | .l ds,_,h=>by
  obtain⟨a,xs,e,n,ha,r⟩:=h;exact⟨a,xs,e,(s.rd ha n).2,(s.rd ha n).1,Dens.mono s ds r⟩
 | .emp,_,h=>by
  obtain⟨a,e,n,ha⟩:=h;exact⟨a,e,s.notin ha n,s.keep _ _ ha n trivial⟩
 | .ref _,_,h=>by
  obtain⟨a,e,ha⟩:=h;exact⟨a,e,s.get ha⟩
 | .exc _,_,h=>by
  obtain⟨a,e,n,ha⟩:=h;exact⟨a,e,s.notin ha n,s.keep _ _ ha n trivial⟩
def Dens.mono{ι ι':01}{H H':Hp}(s:Stp ι H ι' H'):∀(ds:List D) {xs:List V},Dens ι H ds xs->Dens ι' H' ds xs
 |[],_,h=>h
 |d::ds,_,h=>by
  obtain⟨x,r,e,h1,h2⟩:=h;exact⟨x,r,e,Den.mono s d h1,Dens.mono s ds h2⟩
end
def Dens.length{ι:01}{H:Hp}:∀{ds:List D} {xs:List V},Dens ι H ds xs->ds.length=xs.length
 |[],_,h=>by cases (show _=[]from h);rfl
 |d::ds,_,h=>by
  obtain⟨x,r,rfl,_,a⟩:=h;simp[Dens.length a]
def Dens.append{ι:01}{H:Hp}:∀{ds es:List D} {xs ys:List V},Dens ι H ds xs->Dens ι H es ys->Dens ι H (ds++es) (xs++ys)
 |[],_,_,_,h,k=>by cases (show _=[]from h);exact k
 |d::ds,_,_,_,h,k=>by
  obtain⟨x,r,rfl,a,b⟩:=h;exact⟨x,_,rfl,a,Dens.append b k⟩
def Dens.get{ι:01}{H:Hp}:∀{ds:List D} {xs:List V} {i:Nat} {d:D},Dens ι H ds xs->ds[i]?=some d->∃x,xs[i]?=some x/\Den ι H d x
 |[],_,_,_,_,e=>by simp at e
 |d::ds,_,0,_,h,e=>by
  obtain⟨x,r,rfl,a,b⟩:=h;simp at e;subst e;exact⟨x,rfl,a⟩
 |d::ds,_,i+1,_,h,e=>by
  obtain⟨x,r,rfl,a,b⟩:=h;obtain⟨y,e1,c⟩:=Dens.get (i:=i) b (by simpa using e);exact⟨y,by simpa using e1,c⟩
def Dens.take{ι:01}{H:Hp}:∀{ds:List D} {xs:List V} (n:Nat),Dens ι H ds xs->Dens ι H (ds.take n) (xs.take n)
 |_,_,0,_=>by simp[Dens]
 |[],_,n+1,h=>by cases (show _=[]from h);simp[Dens]
 |d::ds,_,n+1,h=>by
  obtain⟨x,r,rfl,a,b⟩:=h;exact⟨x,_,rfl,a,Dens.take n b⟩
def Dens.drop{ι:01}{H:Hp}:∀{ds:List D} {xs:List V} (n:Nat),Dens ι H ds xs->Dens ι H (ds.drop n) (xs.drop n)
 |_,_,0,h=>by simpa using h
 |[],_,n+1,h=>by cases (show _=[]from h);simp[Dens]
 |d::ds,_,n+1,h=>by
  obtain⟨x,r,rfl,b,a⟩:=h;exact Dens.drop n a
def Dens.set{ι:01}{H:Hp}{d:D}{x:V}(hd:Den ι H d x):∀{ds:List D} {xs:List V} (i:Nat),Dens ι H ds xs->Dens ι H (ds.set i d) (xs.set i x)
 |[],_,_,h=>by cases (show _=[]from h);simp[Dens]
 |d::ds,_,0,h=>by
  obtain⟨x,r,rfl,b,a⟩:=h;exact⟨_,_,rfl,hd,a⟩
 |d::ds,_,i+1,h=>by
  obtain⟨x,r,rfl,b,a⟩:=h;exact⟨_,_,rfl,b,Dens.set hd i a⟩
def Dens.snoc{ι:01}{H:Hp}{d:D}{x:V}{ds:List D}{xs:List V}(h:Dens ι H ds xs)(hd:Den ι H d x):Dens ι H (ds++[d]) (xs++[x]) :=
 h.append ⟨x,[],rfl,hd,rfl⟩
mutual
noncomputable def refsLt(n:Nat):D->Bool
 | .ref k=>decide (k<n)
 | .t l=>refsLts n l
 | .l l=>refsLts n l
 | .exc _=>false
 |_=>true
noncomputable def refsLts(n:Nat):List D->Bool
 |[]=>true
 |d::r=>refsLt n d&&refsLts n r
end
def yo(n:Nat):∀(a b:List D),refsLts n (a++b)=(refsLts n a&&refsLts n b)
 |[],b=>by simp[refsLts]
 |d::r,b=>by simp only[List.cons_append,refsLts,yo n r b,Bool.and_assoc]
def qQ{n:Nat}:∀{l:List D} {d:D},refsLts n l=true->d∈l->refsLt n d=true
 |[],_,_,h=>by cases h
 |x::r,d,h,m=>by
  simp only[refsLts,wZ]at h;rcases wX.mp m with z|z
  .rw [z];exact h.1
  .exact qQ h.2 z
def qU{n:Nat}:∀{l:List D},(∀d∈l,refsLt n d=true)->refsLts n l=true
 |[],_=>rfl
 |x::r,h=>by
  simp only[refsLts,wZ];exact⟨h x wH,qU λd m=>h d (wL _ m)⟩
mutual
def Den.less{ι:01}{H:Hp}{n:Nat}:∀(d:D) {v:V},refsLt n d=true->Den ι H d v->Den (ι.take n) H d v
 | .non,_,_,h=>h
 | .bl _,_,_,h=>h
 | .int _,_,_,h=>h
 | .str _,_,_,h=>h
 | .t ds,_,r,h=>by
  obtain⟨a,xs,e,m,ha,q⟩:=h;exact⟨a,xs,e,λz=>m (vy z),ha,Dens.less ds r q⟩
 | .l ds,_,r,h=>by
  obtain⟨a,xs,e,m,ha,q⟩:=h;exact⟨a,xs,e,λz=>m (vy z),ha,Dens.less ds r q⟩
 | .emp,_,_,h=>by
  obtain⟨a,e,m,ha⟩:=h;exact⟨a,e,λz=>m (vy z),ha⟩
 | .ref k,_,r,h=>by
  obtain⟨a,e,ha⟩:=h;exact⟨a,e,by rw[u6 (vM r)];exact ha⟩
 | .exc _,_,r,_=>by cases r
def Dens.less{ι:01}{H:Hp}{n:Nat}:∀(ds:List D) {xs:List V},refsLts n ds=true->Dens ι H ds xs->Dens (ι.take n) H ds xs
 |[],_,_,h=>h
 |d::ds,_,r,h=>by
  obtain⟨x,t,e,h1,h2⟩:=h;simp only[refsLts,wZ]at r;exact⟨x,t,e,Den.less d r.1 h1,Dens.less ds r.2 h2⟩
end
mutual
def yp{n:Nat}:∀(d:D),refsLt 0 d=true->refsLt n d=true
 | .non,_=>rfl
 | .bl _,_=>rfl
 | .int _,_=>rfl
 | .str _,_=>rfl
 | .t ds,h=>qR ds h
 | .l ds,h=>qR ds h
 | .emp,_=>rfl
 | .ref k,h=>absurd (vM (show decide (k<0)=true from h)) (Nat.not_lt_zero _)
 | .exc _,h=>by cases h
def qR{n:Nat}:∀(ds:List D),refsLts 0 ds=true->refsLts n ds=true
 |[],_=>rfl
 |d::ds,h=>by
  simp only[refsLts,wZ]at h ⊢;exact⟨yp d h.1,qR ds h.2⟩
end
mutual
def qeV{m n:Nat}(h:m<=n):∀(d:D),refsLt m d=true->refsLt n d=true
 | .non,_=>rfl
 | .bl _,_=>rfl
 | .int _,_=>rfl
 | .str _,_=>rfl
 | .t ds,q=>yd h ds q
 | .l ds,q=>yd h ds q
 | .emp,_=>rfl
 | .ref k,q=>wq (w8 (vM (show decide (k<m)=true from q)) h)
 | .exc _,h=>by cases h
def yd{m n:Nat}(h:m<=n):∀(ds:List D),refsLts m ds=true->refsLts n ds=true
 |[],_=>rfl
 |d::ds,q=>by
  simp only[refsLts,wZ]at q ⊢;exact⟨qeV h d q.1,yd h ds q.2⟩
end
inductive SO where
 |l (l:List D)
 |dic (l:List (List Int×D))
 |dis (l:List (Key×D))
noncomputable def keyT(k:List Int):List Key:=k.map Sum.inl
noncomputable def DGs{κ K:Type}(f:κ->K)(ι:01)(H:Hp):List (κ×D)->List (K×V)->Prop
 |[],kvs=>kvs=[]
 |p::l,kvs=>∃v r,kvs=(f p.1,v)::r/\Den ι H p.2 v/\DGs f ι H l r
def DGs.mono{κ K:Type}{f:κ->K}{ι a:01}{H H':Hp}(s:Stp ι H a H'):∀{l:List (κ×D)} {kvs:List (K×V)},DGs f ι H l kvs->DGs f a H' l kvs
 |[],_,h=>h
 |_::_,_,h=>let ⟨v,r,e,b,c⟩:=h;⟨v,r,e,Den.mono s _ b,DGs.mono s c⟩
def DGs.length{κ K:Type}{f:κ->K}{ι:01}{H:Hp}:∀{l:List (κ×D)} {kvs:List (K×V)},DGs f ι H l kvs->l.length=kvs.length
 |[],_,h=>by cases (show _=[]from h);rfl
 |_::_,_,h=>by obtain⟨v,r,rfl,_,a⟩:=h;simp[DGs.length a]
def DGs.less{κ K:Type}{f:κ->K}{ι:01}{H:Hp}{n:Nat}:∀{l:List (κ×D)} {kvs:List (K×V)},refsLts n (l.map (·.2))=true->DGs f ι H l kvs->DGs f (ι.take n) H l kvs
 |[],_,_,h=>h
 |_::_,_,r,h=>by
  obtain⟨v,t,e,a,b⟩:=h;simp only[wU,refsLts,wZ]at r;exact⟨v,t,e,Den.less _ r.1 a,DGs.less r.2 b⟩
def SOk(ι:01)(H:Hp)(a:Addr):SO->Prop
 | .l ds=>(∃j,ι[j]?=some a/\refsLts j ds=true)/\∃xs,H a=some (.l xs)/\Dens ι H ds xs
 | .dic l=>refsLts 0 (l.map (·.2))=true/\∃kvs,H a=some (.dT kvs)/\DGs keyT ι H l kvs
 | .dis l=>refsLts 0 (l.map (·.2))=true/\∃kvs,H a=some (.dK kvs)/\DGs id ι H l kvs
structure Sto (ι:01) (H:Hp) (S:List SO):Prop where
 len:ι.length=S.length
 nd:ι.Nodup
 obj:∀(n:Nat) (a:Addr) (so:SO),ι[n]?=some a->S[n]?=some so->SOk ι H a so
def SOk.some{ι:01}{H:Hp}{a:Addr}:∀{so:SO},SOk ι H a so->H a≠none
 | .l _,⟨_,_,h,_⟩=>by rw[h];simp
 | .dic _,⟨_,_,h,_⟩=>by rw[h];simp
 | .dis _,⟨_,_,h,_⟩=>by rw[h];simp
def Sto.there{ι:01}{H:Hp}{S:List SO}(s:Sto ι H S){a:Addr}(m:a∈ι):H a≠none:=by
 obtain⟨n,hn,e⟩:=vS m;have b:n<S.length:=by rw[<-s.len];exact hn
 exact(s.obj n a S[n] (by rw[wD hn,e]) (wD b)).some
def Sto.fresh{ι:01}{H:Hp}{S:List SO}(s:Sto ι H S){a:Addr}(h:H a=none):a∉ι:=λm=>s.there m h
def SOk.mono{ι b:01}{H H':Hp}(s:Stp ι H b H'){a:Addr}(c:H' a=H a):∀{so:SO},SOk ι H a so->SOk b H' a so
 | .l ds,⟨⟨j,e,f⟩,xs,h,r⟩=>⟨⟨j,s.get e,f⟩,xs,by rw[c];exact h,Dens.mono s _ r⟩
 | .dic l,⟨f,vs,h,r⟩=>⟨f,vs,by rw[c];exact h,DGs.mono s r⟩
 | .dis l,⟨f,vs,h,r⟩=>⟨f,vs,by rw[c];exact h,DGs.mono s r⟩
def Stp.laid{ι:01}{H:Hp}{p:Addr}(h:H p=none)(o:HO):Stp ι H ι (upd H p o) where
 pre:=um _
 new:=λ_ m=>.inl m
 keep:=λa u e _ _=>by rw[qm (zz e h)];exact e
 there:=λa e=>by
  by_cases z:a=p
  .subst z;rw[qB];simp
  .rw [qm z];exact e
def Sto.laid{ι:01}{H:Hp}{S:List SO}(s:Sto ι H S){p:Addr}(h:H p=none)(o:HO):Sto ι (upd H p o) S where
 len:=s.len
 nd:=s.nd
 obj:=λn a so e1 b=>(s.obj n a so e1 b).mono (Stp.laid h o) (by
  rw[qm];intro z;subst z;exact s.there (wc e1) h)
def Stp.grow{ι:01}{H:Hp}{p:Addr}(h:H p=none)(o:HO):Stp ι H (ι++[p]) (upd H p o) where
 pre:=List.prefix_append _ _
 new:=λa m=>by
  rcases w9.mp m with z|z
  .exact .inl z
  .rw [w6.mp z];exact .inr h
 keep:=(Stp.laid (ι:=ι) h o).keep
 there:=(Stp.laid (ι:=ι) h o).there
def Sto.grow{ι:01}{H:Hp}{S:List SO}(s:Sto ι H S){p:Addr}(h:H p=none){o:HO}{so:SO}(k:SOk (ι++[p]) (upd H p o) p so):Sto (ι++[p]) (upd H p o) (S++[so]) where
 len:=by simp[s.len]
 nd:=by
  rw[vX];refine⟨s.nd,by simp,λa ha b hb e=>?_⟩;rw[w6.mp hb]at e;subst e;exact s.fresh h ha
 obj:=λn a x e1 c=>by
  by_cases hn:n<ι.length
  .rw [wQ hn]at e1
   rw[wQ (by rw[<-s.len];exact hn)]at c;exact(s.obj n a x e1 c).mono (Stp.grow h o) (by
    rw[qm];intro z;subst z;exact s.there (wc e1) h)
  .rw [wI 00]at e1
   rw[wI (by rw[<-s.len];lia)]at c;have z:n-ι.length=0:=by
    have:=(wO.mp e1).1;simp at this;lia
   rw[z]at e1;rw[<-s.len,z]at c;simp at e1 c;subst e1 c;exact k
def Stp.put{ι:01}{H:Hp}{p:Addr}(m:p∈ι)(o:HO):Stp ι H ι (upd H p o) where
 pre:=um _
 new:=λ_ m=>.inl m
 keep:=λa u e n _=>by rw[qm (λz=>n (by rw[z];exact m))];exact e
 there:=λa e=>by
  by_cases z:a=p
  .subst z;rw[qB];simp
  .rw [qm z];exact e
def zA{ι:01}(c:ι.Nodup){i j:Nat}{x:Addr}(a:ι[i]?=some x)(b:ι[j]?=some x):i=j:=by
 obtain⟨f,e1⟩:=wO.mp a;obtain⟨h,d⟩:=wO.mp b;exact(xW c).mp (e1.trans d.symm)
def Sto.put{ι:01}{H:Hp}{S:List SO}(s:Sto ι H S){n:Nat}{p:Addr}(b:ι[n]?=some p){o:HO}{so:SO}(k:SOk ι (upd H p o) p so):Sto ι (upd H p o) (S.set n so) where
 len:=by rw[x8];exact s.len
 nd:=s.nd
 obj:=λj a x e1 c=>by
  by_cases d:j=n
  .subst d
   rw[b]at e1;obtain rfl:=Option.some.inj e1;have f:j<S.length:=by rw[<-s.len];exact(wO.mp b).1
   rw[vj f]at c;obtain rfl:=Option.some.inj c;exact k
  .rw [v8 (Ne.symm d)]at c
   refine(s.obj j a x e1 c).mono (Stp.put (wc b) o) ?_;rw[qm];intro z;subst z;exact d (zA s.nd e1 b)
def Sto.less{ι:01}{H:Hp}{S:List SO}(s:Sto ι H S)(n:Nat):Sto (ι.take n) H (S.take n) where
 len:=by rw[wr,wr,s.len]
 nd:=s.nd.sublist (List.take_sublist _ _)
 obj:=λj a so e1 b=>by
  have c:ι[j]?=some a:=by
   have:=(wO.mp e1).1;rw[wr]at this;rw[u6 00]at e1;exact e1
  have d:S[j]?=some so:=by
   have:=(wO.mp b).1;rw[wr]at this;rw[u6 00]at b;exact b
  have k:=s.obj j a so c d;cases so with
  |l ds =>
   obtain⟨⟨i,m,f⟩,xs,h,r⟩:=k;have o:j<(ι.take n).length:=(wO.mp e1).1;rw[wr]at o;obtain rfl:i=j:=zA s.nd m c;exact⟨⟨i,e1,f⟩,xs,h,Dens.less ds (yd 00 ds f) r⟩
  |dic l =>
   obtain⟨f,kvs,h,r⟩:=k;exact⟨f,kvs,h,DGs.less (qR _ f) r⟩
  |dis l =>
   obtain⟨f,kvs,h,r⟩:=k;exact⟨f,kvs,h,DGs.less (qR _ f) r⟩
def Stp.less{ι a:01}{H H':Hp}(s:Stp ι H a H'):Stp ι H (a.take ι.length) H':=by
 have e:a.take ι.length=ι:=by
  obtain⟨t,rfl⟩:=s.pre;simp
 rw[e];exact⟨um _,λ_ m=>.inl m,s.keep,s.there⟩
def Stp.take_eq{ι a:01}{H H':Hp}(s:Stp ι H a H'):a.take ι.length=ι:=by
 obtain⟨t,rfl⟩:=s.pre;simp
noncomputable abbrev Sr:=List SO
noncomputable abbrev En:=List (Option D)
inductive Res (α:Type) where
 |ok (a:α) (S:Sr)|err (x:D) (S:Sr)|no
@[reducible] noncomputable def Res.bind{α β:Type}(r:Res α)(f:α->Sr->Res β):Res β:=match r with
 | .ok a S=>f a S
 | .err x S=>.err x S
 | .no=>.no
@[simp] theorem Res.bind_ok{α β:Type}(a:α)(S:Sr)(f:α->Sr->Res β):(Res.ok a S).bind f=f a S:=rfl
@[simp] theorem Res.bind_err{α β:Type}(x:D)(S:Sr)(f:α->Sr->Res β):(Res.err x S).bind f=.err x S:=rfl
@[simp] theorem Res.bind_no{α β:Type}(f:α->Sr->Res β):(Res.no:Res α).bind f=.no:=rfl
noncomputable def ofO{b:Type}(o:Option b)(S:Sr):Res b:=match o with
 |some a=>.ok a S
 |none=>.no
@[simp] theorem qlG{α:Type}(a:α)(S:Sr):ofO (some a) S=.ok a S:=rfl
@[simp] theorem qlH{α:Type}(S:Sr):(ofO none S:Res α)=.no:=rfl
inductive BOp where|add|sub|mul|fdiv|mod|pow|shl|shr|band
inductive COp where|eq|ne|lt|le|gt|ge|is|isn|inn|nin
inductive Ty where|int|bool|tuple|list|str|dict
noncomputable def Ty.nm:Ty->String
 | .int=>"int" | .bool=>"bool" | .tuple=>"tuple" | .list=>"list" | .str=>"str" | .dict=>"dict"
noncomputable def mulOk(a b:Int):Bool:=!((decide (Builtin.Int.intBits a>shortFactorBits)&&decide (Builtin.Int.intBits b>shortFactorBits)&&Builtin.Int.intTooBig (Builtin.Int.intBits a+Builtin.Int.intBits b)))
noncomputable def divOk(a b:Int):Bool:=!(b == 0)&&!(Builtin.divisionGoesByPylong a b)
noncomputable def lstOf(S:Sr):D->Option (List D)
 | .l l=>some l
 | .ref n=>match S[n]? with|some (.l l)=>some l|_=>none
 |_=>none
noncomputable def binI:BOp->Int->Int->Option Int
 | .add,i,j=>some (i+j)
 | .sub,i,j=>some (i-j)
 | .mul,i,j=>if mulOk i j then some (i*j)else none
 | .fdiv,i,j=>if divOk i j then some (i.fdiv j)else none
 | .mod,i,j=>if j=0 then none else some (i.fmod j)
 | .pow,i,j=>if 0<=j/\j<=1000000/\i.natAbs<2^64 then some (i^j.toNat)else none
 | .shl,i,j=>if 0<=j/\j<=1000000/\i.natAbs<2^64 then some (i*2^j.toNat)else none
 | .shr,i,j=>if 0<=j then some (i / 2^j.toNat)else none
 | .band,i,j=>some (Builtin.bitAnd i j)
noncomputable def catOk{c:Type}(a b:List c):Bool:=decide (a.length+b.length<=sizeLine)
noncomputable def repOk{b:Type}(a:List b)(k:Int):Bool:=decide (-(2^63)<=k/\k<2^63/\a.length*k.toNat<=sizeLine)
noncomputable def rep{b:Type}(a:List b)(k:Int):List b:=(List.replicate k.toNat a).flatten
noncomputable def binD(o:BOp)(x y:D)(S:Sr):Option D :=
 match x,y with
 | .int i,.int j=>(binI o i j).map .int
 | .str a,.str b=>match o with
  | .add=>if a.length+b.length<=sizeLine then some (.str (a++b))else none
  |_=>none
 | .t a,.t b=>match o with
  | .add=>if catOk a b then some (.t (a++b))else none
  |_=>none
 | .t a,.int k=>match o with
  | .mul=>if repOk a k then some (.t (rep a k))else none
  |_=>none
 |x,.int k=>match o with
  | .mul=>match lstOf S x with
   |some a=>if repOk a k then some (.l (rep a k))else none
   |none=>none
  |_=>none
 |x,y=>match o with
  | .add=>match lstOf S x,lstOf S y with
   |some a,some b=>if catOk a b then some (.l (a++b))else none
   |_,_=>none
  |_=>none
noncomputable def eqL(f:D->D->Option Bool):List D->List D->Option Bool
 |[],[]=>some true
 |[],_::_=>some false
 |_::_,[]=>some false
 |a::r,b::t=>match f a b,eqL f r t with
  |some x,some y=>some (x&&y)
  |_,_=>none
noncomputable def eqD:Nat->D->D->Option Bool
 |0,_,_=>none
 |n+1,x,y=>match x,y with
  | .non,.non=>some true
  | .bl a,.bl b=>some (a == b)
  | .int a,.int b=>some (a == b)
  | .str a,.str b=>some (a == b)
  | .bl a,.int b=>some ((if a then 1 else 0) == b)
  | .int a,.bl b=>some (a == (if b then 1 else 0))
  | .t a,.t b=>eqL (eqD n) a b
  | .l a,.l b=>if a.length=b.length then eqL (eqD n) a b else some false
  | .emp,.t _=>some false
  | .t _,.emp=>some false
  | .emp,_=>none
  |_,.emp=>none
  | .ref _,_=>none
  |_,.ref _=>none
  | .exc _,_=>none
  |_,.exc _=>none
  |_,_=>some false
noncomputable def intsOf:List D->Option (List Int)
 |[]=>some []
 | .int i::r=>(intsOf r).map (i::·)
 |_=>none
noncomputable def flatD:D->Bool
 | .non|.bl _|.int _|.str _=>true
 |_=>false
noncomputable def eqF:D->D->Bool
 | .non,.non=>true
 | .bl a,.bl b=>decide (a=b)
 | .int i,.int j=>decide (i=j)
 | .bl a,.int j=>decide ((if a then 1 else 0)=j)
 | .int i,.bl b=>decide (i=(if b then 1 else 0))
 | .str a,.str b=>decide (a=b)
 |_,_=>false
noncomputable def tupsOf:List D->Option (List (List Int))
 |[]=>some []
 | .t a::r=>(intsOf a).bind λm=>(tupsOf r).map (m::·)
 |_=>none
noncomputable def inT(x:D)(l:List D):Option Bool:=match x with
 | .t a=>(intsOf a).bind λm=>(tupsOf l).map λks=>decide (m∈ks)
 |_=>none
noncomputable def inD(x:D)(l:List D):Option Bool:=if flatD x&&l.all flatD then some (l.any λy=>eqF y x)else inT x l
noncomputable def seqOf(S:Sr):D->Option (List D)
 | .t l=>some l
 |d=>lstOf S d
noncomputable def cmpD(o:COp)(x y:D)(S:Sr):Option Bool:=match o with
 | .eq=>eqD 20 x y
 | .ne=>(eqD 20 x y).map (!·)
 | .lt=>match x,y with
  | .int i,.int j=>some (decide (i<j))
  | .t a,.t b=>match intsOf a,intsOf b with
   |some m,some n=>some (HT.lexLt m n)
   |_,_=>none
  |_,_=>none
 | .le=>match x,y with|.int i,.int j=>some (decide (i<=j))|_,_=>none
 | .gt=>match x,y with|.int i,.int j=>some (decide (j<i))|_,_=>none
 | .ge=>match x,y with
  | .int i,.int j=>some (decide (j<=i))
  | .t a,.t b=>match intsOf a,intsOf b with
   |some m,some n=>some (!HT.lexLt m n)
   |_,_=>none
  |_,_=>none
 | .is=>match y with
  | .non=>some (match x with|.non=>true|_=>false)
  | .bl b=>match x with|.bl a=>some (a == b)|.non=>some false|_=>none
  |_=>none
 | .isn=>match y with
  | .non=>some (match x with|.non=>false|_=>true)
  | .bl b=>match x with|.bl a=>some (!(a == b))|.non=>some true|_=>none
  |_=>none
 | .inn=>(seqOf S y).bind (inD x)
 | .nin=>(seqOf S y).bind λl=>(inD x l).map (!·)
noncomputable def truD(S:Sr):D->Option Bool
 | .non=>some false
 | .bl b=>some b
 | .int i=>some (i != 0)
 | .str x=>if x.length<=sizeLine then some ((x.length:Int) != 0)else none
 | .t l=>some (!l.isEmpty)
 | .emp=>some false
 |d=>(lstOf S d).map λl=>!l.isEmpty
noncomputable def isiD(S:Sr)(t:Ty):D->Option Bool
 | .non=>some false
 | .bl _=>some (match t with|.int=>true|.bool=>true|_=>false)
 | .int _=>some (match t with|.int=>true|_=>false)
 | .str _=>some (match t with|.str=>true|_=>false)
 | .t _=>some (match t with|.tuple=>true|_=>false)
 | .l _=>some (match t with|.list=>true|_=>false)
 | .emp=>some (match t with|.dict=>true|_=>false)
 | .ref n=>match S[n]? with
  |some (.l _)=>some (match t with|.list=>true|_=>false)
  |some (.dic _)=>some (match t with|.dict=>true|_=>false)
  |some (.dis _)=>some (match t with|.dict=>true|_=>false)
  |none=>none
 | .exc _=>none
noncomputable def lookA(C:Addr):List (Addr×Bool)->Option Bool
 |[]=>none
 | (c,b)::r=>if c=C then some b else lookA C r
noncomputable def isxD(t:List (Addr×Bool)):D->Option Bool
 | .exc C=>lookA C t
 |_=>none
noncomputable def keyD:D->Option Key
 | .int i=>some (.inl i)
 | .str x=>some (.inr x)
 |_=>none
noncomputable def lookT{κ:Type}[DecidableEq κ](k:κ):List (κ×D)->Option D
 |[]=>none
 | (j,d)::r=>if j=k then some d else lookT k r
noncomputable def putT{κ:Type}[DecidableEq κ](k:κ)(d:D)(l:List (κ×D)):List (κ×D) :=
 if l.any (λp=>decide (p.1=k))then l.map (λp=>if p.1=k then(p.1,d)else p)else l++[(k,d)]
noncomputable def idxD(S:Sr)(x i:D):Option D:=match i with
 | .int k=>(seqOf S x).bind λl=>atI l k
 | .t ks=>match x with
  | .ref n=>match S[n]? with
   |some (.dic l)=>(intsOf ks).bind λk=>lookT k l
   |_=>none
  |_=>none
 |_=>none
noncomputable def cutD(l:List D)(lo hi:Option Int):List D:=(l.drop (HT.sIx l.length 0 lo)).take (HT.sIx l.length l.length hi-HT.sIx l.length 0 lo)
noncomputable def slcD(S:Sr)(x:D)(lo hi:Option Int):Option D:=match x with
 | .t l=>some (.t (cutD l lo hi))
 |d=>(lstOf S d).map λl=>.l (cutD l lo hi)
noncomputable def rngL(a b s:Int):List D:=(List.range ((b-a+s-1) / s).toNat).map λ(k:Nat)=>D.int (a+s*k)
noncomputable def insI(x:Int):List Int->List Int
 |[]=>[x]
 |y::r=>if x<=y then x::y::r else y::insI x r
noncomputable def sortI(l:List Int):List Int:=l.foldr insI []
noncomputable def insT(x:List Int):List (List Int)->List (List Int)
 |[]=>[x]
 |y::r=>if HT.lexLt y x then y::insT x r else x::y::r
noncomputable def sortT(l:07):List (List Int):=l.foldr insT []
noncomputable def tupI(m:List Int):D:=.t (m.map .int)
noncomputable def sortL(l:List D):Option (List D) :=
 if l.length<64 then
  match intsOf l with
  |some ns=>some ((sortI ns).map .int)
  |none=>(tupsOf l).bind λts=>if ts.Nodup/\∀t∈ts,t≠[]then some ((sortT ts).map tupI)else none
 else none
noncomputable def walkD(S:Sr):D->Option (List D)
 | .l l=>some l
 | .emp=>some []
 | .ref n=>match S[n]? with
  |some (.l l)=>some l
  |some (.dic l)=>some (l.map λp=>tupI p.1)
  |_=>none
 |_=>none
inductive Blt where|len|abs|min2|max2|divmod|list (m:Bool)|tuple|sorted (m:Bool)|all|any|sum|str|int|sortp (m:Bool)|dict|sset (m:Bool)|dictL|sumT|sumB|sortq (m:Bool)
noncomputable def newL(m:Bool)(l:List D)(S:Sr):Res D:=if m then(if refsLts 0 l then .ok (.ref S.length) (S++[.l l])else .no)else .ok (.l l) S
noncomputable def binM(o:BOp)(x y:D)(S:Sr):Res D:=match o with
 | .add=>match lstOf S x,lstOf S y with
  |some a,some b=>if catOk a b then newL true (a++b) S else .no
  |_,_=>.no
 | .mul=>match lstOf S x,y with
  |some a,.int k=>if repOk a k then newL true (rep a k) S else .no
  |_,_=>.no
 |_=>.no
noncomputable def lenD(S:Sr):D->Option Nat
 | .str x=>if x.length<=sizeLine then some x.length else none
 | .ref n=>match S[n]? with
  |some (.l l)=>some l.length
  |some (.dic l)=>some l.length
  |some (.dis _)=>none
  |none=>none
 | .t l=>some l.length
 | .l l=>some l.length
 |_=>none
noncomputable def boolsOf:List D->Option (List Bool)
 |[]=>some []
 | .bl b::r=>(boolsOf r).map (b::·)
 |_=>none
noncomputable def one(f:D->Sr->Res D)(xs:List D)(S:Sr):Res D:=match xs with
 |[x]=>f x S
 |_=>.no
noncomputable def two(f:D->D->Sr->Res D)(xs:List D)(S:Sr):Res D:=match xs with
 |[x,y]=>f x y S
 |_=>.no
noncomputable def bLen(x:D)(S:Sr):Res D:=ofO ((lenD S x).map λn=>.int n) S
noncomputable def bAbs(x:D)(S:Sr):Res D:=match x with
 | .int i=>.ok (.int (if i<0 then -i else i)) S
 |_=>.no
noncomputable def bMin(x y:D)(S:Sr):Res D:=match x,y with
 | .int i,.int j=>.ok (.int (if j<i then j else i)) S
 |_,_=>.no
noncomputable def bMax(x y:D)(S:Sr):Res D:=match x,y with
 | .int i,.int j=>.ok (.int (if j>i then j else i)) S
 |_,_=>.no
noncomputable def bDivmod(x y:D)(S:Sr):Res D:=match x,y with
 | .int i,.int j=>if divOk i j then .ok (.t [.int (i.fdiv j),.int (i.fmod j)]) S else .no
 |_,_=>.no
noncomputable def bList(m:Bool)(x:D)(S:Sr):Res D:=match seqOf S x with
 |some l=>newL m l S
 |none=>.no
noncomputable def bTuple(x:D)(S:Sr):Res D:=ofO ((seqOf S x).map .t) S
noncomputable def bSorted(m:Bool)(x:D)(S:Sr):Res D:=match(walkD S x).bind sortL with
 |some l=>newL m l S
 |none=>.no
noncomputable def pairsD:List D->Option (List (List Int×Int))
 |[]=>some []
 | .t [.t a,.int i]::r=>(intsOf a).bind λm=>(pairsD r).map ((m,i)::·)
 |_=>none
noncomputable def pairD(p:List Int×Int):D:=.t [tupI p.1,.int p.2]
noncomputable def atP(k:List Int):List (List Int×Int)->Int
 |[]=>0
 |p::r=>if p.1=k then p.2 else atP k r
noncomputable def sortP(ps:List (List Int×Int)):List (List Int×Int):=(sortT (ps.map (·.1))).map λk=>(k,atP k ps)
noncomputable def bSortp(m:Bool)(x:D)(S:Sr):Res D:=match(lstOf S x).bind pairsD with
 |some ps=>if ps.length<64/\(ps.map (·.1)).Nodup then newL m ((sortP ps).map pairD) S else .no
 |none=>.no
noncomputable def headK:D->Option (Nat×List Int)
 | .int i=>some (0,[i])
 | .t [.t b,.int _]=>(intsOf b).map λm=>(2,m)
 | .t a=>(intsOf a).map λm=>(1,m)
 |_=>none
noncomputable def keyK(k:Nat):D->Option (List Int)
 | .t (x::_)=>(headK x).bind λp=>if p.1=k then some p.2 else none
 |_=>none
noncomputable def keysK(k:Nat):List D->Option (List (List Int))
 |[]=>some []
 |d::r=>(keyK k d).bind λm=>(keysK k r).map (m::·)
noncomputable def kindK:List D->Nat
 | .t (x::_)::_=>((headK x).map (·.1)).getD 0
 |_=>0
noncomputable def atK(k:List Int):List (List Int×D)->D
 |[]=>.non
 |p::r=>if p.1=k then p.2 else atK k r
noncomputable def sortK(ks:07)(l:List D):List D:=(sortT ks).map λk=>atK k (ks.zip l)
noncomputable def bSortq(m:Bool)(l:List D)(S:Sr):Res D:=match keysK (kindK l) l with
 |some ks=>if ks.length<64/\ks.Nodup then newL m (sortK ks l) S else .no
 |none=>.no
noncomputable def bSortQ(m:Bool)(x:D)(S:Sr):Res D:=match lstOf S x with|some l=>bSortq m l S|none=>.no
noncomputable def bAll(x:D)(S:Sr):Res D:=ofO (((seqOf S x).bind boolsOf).map λl=>.bl (l.all id)) S
noncomputable def bAny(x:D)(S:Sr):Res D:=ofO (((seqOf S x).bind boolsOf).map λl=>.bl (l.any id)) S
noncomputable def bSum(x:D)(S:Sr):Res D:=ofO (((seqOf S x).bind intsOf).map λl=>.int l.sum) S
noncomputable def bStr(x:D)(S:Sr):Res D:=match x with
 | .int i=>if i.natAbs.log2<1920 then .ok (.str (toString i)) S else .no
 |_=>.no
noncomputable def joinD(x y z:D):Option D:=match x,y,z with
 | .str a,.str b,.str c=>if a.length+b.length+c.length<=sizeLine then some (.str (a++b++c))else none
 |_,_,_=>none
noncomputable def bInt(x:D)(S:Sr):Res D:=match x with
 | .bl b=>.ok (.int (if b then 1 else 0)) S
 |_=>.no
noncomputable def pairsV:List D->Option (List (List Int×D))
 |[]=>some []
 | .t [.t a,v]::r=>if refsLt 0 v then(intsOf a).bind λm=>(pairsV r).map ((m,v)::·)else none
 |_=>none
noncomputable def dicL(ps:List (List Int×D)):List (List Int×D):=ps.foldl (λl p=>putT p.1 p.2 l) []
noncomputable def bDict(x:D)(S:Sr):Res D:=match x with
 | .t l=>match pairsV l with
  |some ps=>.ok (.ref S.length) (S++[.dic (dicL ps)])
  |none=>.no
 |_=>.no
noncomputable def ddI(l:List Int):List Int:=l.foldl PyProof.Rows.step_dedup []
noncomputable def bSset(m:Bool)(x:D)(S:Sr):Res D:=match x with
 | .t l=>match intsOf l with
  |some ns=>if ns.length<4000/\(ddI ns).length<64 then newL m ((sortI (ddI ns)).map .int) S else .no
  |none=>.no
 |_=>.no
noncomputable def bDictL(x:D)(S:Sr):Res D:=match x with
 | .l l=>match pairsV l with
  |some ps=>.ok (.ref S.length) (S++[.dic (dicL ps)])
  |none=>.no
 |_=>.no
noncomputable def tupLs:List D->Option (List (List D))
 |[]=>some []
 | .t a::r=>(tupLs r).map (a::·)
 |_=>none
noncomputable def bSumT(x y:D)(S:Sr):Res D:=match x,y with
 | .l l,.t []=>match tupLs l with
  |some ts=>if ts.flatten.length<=4000 then .ok (.t ts.flatten) S else .no
  |none=>.no
 |_,_=>.no
noncomputable def bSumB(x:D)(S:Sr):Res D:=ofO (((lstOf S x).bind boolsOf).map λl=>.int (l.count true)) S
noncomputable def bltD:Blt->List D->Sr->Res D
 | .len=>one bLen|.abs=>one bAbs|.min2=>two bMin|.max2=>two bMax|.divmod=>two bDivmod|.list m=>one (bList m)|.tuple=>one bTuple
 | .sorted m=>one (bSorted m)|.all=>one bAll|.any=>one bAny|.sum=>one bSum|.str=>one bStr|.int=>one bInt|.sortp m=>one (bSortp m)|.dict=>one bDict|.sset m=>one (bSset m)|.dictL=>one bDictL|.sumT=>two bSumT|.sumB=>one bSumB|.sortq m=>one (bSortQ m)
noncomputable def walkF:D->Option (List D)
 | .t l=>some l
 | .l l=>some l
 |_=>none
inductive GW where|all|any|sum|tuple
mutual
inductive CE where
 |v (i:Nat)|k (d:D)
 |bin (o:BOp) (a b:CE)|neg (a:CE)
 |cmp (o:COp) (a b:CE)|chain (o o':COp) (a b c:CE)
 |and (a b:CE)|or (a b:CE)|not (a:CE)|ife (c:CB) (a b:CE)
 |t (es:CEs)|l (m:Bool) (es:CEs)|dic (m:Bool)|dis|fmt (a:CE)|join3 (a b c:CE)
 |call (f:Nat) (es:CEs)|blt (b:Blt) (es:CEs)|isi (t:Ty) (a:CE)|isx (t:List (Addr×Bool)) (a:CE)|ixT (o:CE)
 |popAt (o i:CE)|neF (a b:CE)|rem (o e:CE)|dcK (d:Int) (e:CE)|idk (a i:CE)|lls (e:CE)|app (o e:CE)|ext (o e:CE)|binM (o:BOp) (a b:CE)|get (o k e:CE)
 |idx (a i:CE)|slc (a:CE) (lo hi:CO)|rev (a:CE)
 |rng (k:Option Bool) (es:CEs)
 |lc (m:Bool) (fr:List Nat) (nt:Nat) (elt:CE) (tg:CT) (it:CI) (ifs:CBs)
 |lcR (m:Bool) (fr:List Nat) (nt:Nat) (elt:CE) (tg:CT) (e:CE) (ifs:CBs)
 |gen (w:GW) (fr:List Nat) (nt:Nat) (elt:CE) (tg:CT) (it:CI) (ifs:CBs)
 |lcX (m:Bool) (fr:List Nat) (nt:Nat) (elt:CE) (tg:CT) (e:CE) (ifs:CBs)
 |genX (w:GW) (fr:List Nat) (nt:Nat) (elt:CE) (tg:CT) (e:CE) (ifs:CBs)
inductive CEs where|nil|cons (e:CE) (r:CEs)
inductive CB where|val (e:CE)|and (a b:CB)|or (a b:CB)|not (a:CB)|cal (a:CB)
inductive CBs where|nil|cons (e:CB) (r:CBs)
inductive CO where|none|some (e:CE)
inductive CI where|seq (e:CE)|rng (es:CEs)|zip (a b:CE)
inductive CT where|v (i:Nat)|t (r:CTs)|sub (o i:CE)
inductive CTs where|nil|cons (t:CT) (r:CTs)
end
abbrev CEs.c:=@CEs.cons
abbrev CEs.n:=@CEs.nil
abbrev CTs.c:=@CTs.cons
abbrev CTs.n:=@CTs.nil
abbrev CBs.c:=@CBs.cons
abbrev CBs.n:=@CBs.nil
noncomputable abbrev Fs:=Nat->List D->Sr->Res D
noncomputable def noE{b:Type}:Res b->Res b
 | .ok a S=>.ok a S
 |_=>.no
@[simp] theorem qmC{α:Type}(a:α)(S:Sr):noE (.ok a S)=.ok a S:=rfl
noncomputable def ixtD(S:Sr)(x:D):Option D:=(lstOf S x).bind λl=>(boolsOf l).bind λbs=>if true∈bs/\bs.length<4000 then some (.int (bs.idxOf true))else none
noncomputable def varE(ρ:En)(i:Nat)(S:Sr):Res D:=match ρ[i]? with|some (some d)=>.ok d S|_=>.no
noncomputable def putN(S:Sr)(n:Nat)(i v:D):Option Sr:=match S[n]? with
 |some (.l l)=>match i with
  | .int k=>(ixN l.length k).map λj=>S.set n (.l (l.set j v))
  |_=>none
 |some (.dic l)=>match i with
  | .t ks=>(intsOf ks).bind λk=>if l.length<1000 then some (S.set n (.dic (putT k v l)))else none
  |_=>none
 |some (.dis l)=>(keyD i).bind λk=>if l.length<1000 then some (S.set n (.dis (putT k v l)))else none
 |none=>none
noncomputable def putE(S:Sr)(o i v:D):Option Sr:=if refsLt 0 v then(match o with
 | .ref n=>putN S n i v
 |_=>none)else none
noncomputable def isLst(S:Sr):D->Bool
 | .ref n=>match S[n]? with|some (.l _)=>true|_=>false
 |_=>false
noncomputable def isDic(S:Sr):D->Bool
 | .ref n=>match S[n]? with|some (.dic _)=>true|some (.dis _)=>true|_=>false
 |_=>false
noncomputable def getD(S:Sr)(x y z:D):Option D:=match x,y with
 | .ref n,.t ks=>match S[n]? with
  |some (.dic l)=>(intsOf ks).map λk=>(lookT k l).getD z
  |_=>none
 | .ref n,.str t=>match S[n]? with
  |some (.dis l)=>some ((lookT (.inr t) l).getD z)
  |_=>none
 |_,_=>none
noncomputable def popD(S:Sr)(o i:D):Res D:=match o,i with
 | .ref n,.int k=>match S[n]? with
  |some (.l l)=>if 0<=k/\k<2^62 then(match l[k.toNat]? with
   |some d=>.ok d (S.set n (.l (l.eraseIdx k.toNat)))
   |none=>.no)else .no
  |_=>.no
 |_,_=>.no
noncomputable def appD(S:Sr)(o e:D):Res D:=match o with
 | .ref n=>match S[n]? with
  |some (.l l)=>if l.length<sizeLine/\refsLt 0 e=true then .ok .non (S.set n (.l (l++[e])))else .no
  |_=>.no
 |_=>.no
noncomputable def remD(S:Sr)(o i:D):Res D:=match o,i with
 | .ref n,.int k=>match S[n]? with
  |some (.l l)=>match intsOf l with
   |some ns=>if k∈ns then .ok .non (S.set n (.l ((ns.erase k).map .int)))else .no
   |none=>.no
  |_=>.no
 |_,_=>.no
noncomputable def neFD(S:Sr)(x y:D):Option Bool:=match x with
 | .ref n=>match S[n]? with
  |some (.l l)=>if refsLt n y then(eqD 20 (.l l) y).map (!·)else none
  |_=>none
 |_=>none
noncomputable def idkD(S:Sr)(x i:D):Option D:=match x with
 | .ref n=>match S[n]? with
  |some (.dis l)=>(keyD i).bind λk=>lookT k l
  |_=>none
 |_=>none
noncomputable def dcKL(d:Int)(ns:List Int):List (Key×D):=ns.foldl (λl k=>putT (.inl k:Key) (.int d) l) []
noncomputable def extD(S:Sr)(o e:D):Res D:=match o,e with
 | .ref n,.l z=>match S[n]? with
  |some (.l l)=>if l.length+z.length<=sizeLine/\refsLts 0 z=true then .ok .non (S.set n (.l (l++z)))else .no
  |_=>.no
 |_,_=>.no
noncomputable def rngD:List D->Option (List D)
 |[.int b]=>if -(2^62)<=b/\b<2^62 then some (rngL 0 b 1)else none
 |[.int a,.int b]=>if -(2^62)<=a/\a<2^62/\-(2^62)<=b/\b<2^62 then some (rngL a b 1)else none
 |[.int a,.int b,.int s]=>if -(2^62)<=a/\a<2^62/\-(2^62)<=b/\b<2^62/\0<s/\s<2^62 then some (rngL a b s)else none
 |_=>none
noncomputable def frE(ρ:En)(fr:List Nat)(nt:Nat):En:=fr.map (λi=>(ρ[i]?).getD none)++List.replicate nt none
noncomputable def lcLoop(n:Nat)(bind:D->En->Sr->Res En)(test:En->Sr->Res Bool)(elt:05):List D->En->Sr->Res En
 |[],ρ,S=>.ok ρ S
 |d::r,ρ,S=>(bind d ρ S).bind λρ1 S1=>(test ρ1 S1).bind λb S2 =>
   if b then(elt ρ1 S2).bind λv S3=>(appD S3 (.ref n) v).bind λ_ a=>lcLoop n bind test elt r ρ1 a
   else lcLoop n bind test elt r ρ1 S2
noncomputable def lcEnd(m:Bool)(n:Nat)(S:Sr):Res D :=
 if m then .ok (.ref n) S
 else if S.length=n+1 then(match S[n]? with
  |some (.l l)=>.ok (.l l) (S.take n)
  |_=>.no)else .no
def own(n:Nat)(l:List D)(S:Sr):Prop:=S[n]?=some (.l l)
noncomputable def grd{a:Type}(gd:Sr->Prop)(S:Sr)(r:Res a):Res a:=@ite _ (gd S) (Classical.propDecidable _) r .no
def zh{a:Type}{gd:Sr->Prop}{S:Sr}(h:gd S)(r:Res a):grd gd S r=r:=wR h
def yq{a:Type}{gd:Sr->Prop}{S:Sr}(h:¬gd S)(r:Res a):grd gd S r=.no:=wT h
noncomputable def refX(x:D)(S:Sr):Option (List D×(Sr->Prop)):=match x with
 | .ref n=>match S[n]? with
  |some (.l l)=>some (l,own n l)
  |_=>none
 | .t l=>some (l,λ_=>True)
 | .l l=>some (l,λ_=>True)
 |_=>none
noncomputable def refL(x:D)(S:Sr):Option (Nat×List D):=match x with
 | .ref n=>match S[n]? with
  |some (.l l)=>some (n,l)
  |_=>none
 |_=>none
noncomputable def genLoop{a:Type}(bind:D->En->Sr->Res En)(test:En->Sr->Res Bool)(elt:05)(step:a->D->Option (a ⊕ D))(fin:a->Option D):List D->En->a->Sr->Res D
 |[],_,b,S=>ofO (fin b) S
 |d::r,ρ,b,S=>(bind d ρ S).bind λρ1 S1=>(test ρ1 S1).bind λt S2 =>
   if t then(elt ρ1 S2).bind λv S3=>match step b v with
    |some (.inl b')=>genLoop bind test elt step fin r ρ1 b' S3
    |some (.inr x)=>.ok x S3
    |none=>.no
   else genLoop bind test elt step fin r ρ1 b S2
noncomputable def genLoopG{a:Type}(gd:Sr->Prop)(bind:D->En->Sr->Res En)(test:En->Sr->Res Bool)(elt:05)(step:a->D->Option (a ⊕ D))(fin:a->Option D):List D->En->a->Sr->Res D
 |[],_,b,S=>grd gd S (ofO (fin b) S)
 |d::r,ρ,b,S=>grd gd S ((bind d ρ S).bind λρ1 S1=>(test ρ1 S1).bind λt S2 =>
   if t then(elt ρ1 S2).bind λv S3=>match step b v with
    |some (.inl b')=>genLoopG gd bind test elt step fin r ρ1 b' S3
    |some (.inr x)=>.ok x S3
    |none=>.no
   else genLoopG gd bind test elt step fin r ρ1 b S2)
def zP{a:Type}{bind:D->En->Sr->Res En}{test:En->Sr->Res Bool}{elt:05}{step:a->D->Option (a ⊕ D)}{fin:a->Option D}:∀(l:List D) (ρ:En) (b:a) (S:Sr),genLoopG (λ_=>True) bind test elt step fin l ρ b S=genLoop bind test elt step fin l ρ b S
 |[],_,_,_=>zh trivial _
 |d::r,ρ,b,S=>by
  unfold genLoopG genLoop;rw[zh trivial];congr 1;funext ρ1 S1;congr 1;funext t S2;cases t
  .exact zP r ρ1 b S2
  .simp only[v6]
   congr 1;funext v S3;cases step b v with
   |none=>rfl
   |some x=>cases x with
    |inl c=>exact zP r ρ1 c S3
    |inr x=>rfl
noncomputable def newLls(k:Nat)(S:Sr):Res D:=if k<=sizeLine then .ok (.ref (S.length+k)) (S++List.replicate k (.l [])++[.l ((List.range k).map λi=>.ref (S.length+i))])else .no
noncomputable def stepG(w:GW)(b:D)(v:D):Option (D ⊕ D):=match w,b,v with
 | .all,_,.bl true=>some (.inl .non)
 | .all,_,.bl false=>some (.inr (.bl false))
 | .any,_,.bl false=>some (.inl .non)
 | .any,_,.bl true=>some (.inr (.bl true))
 | .sum,.int i,.int j=>some (.inl (.int (i+j)))
 | .tuple,.t l,v=>if l.length<sizeLine then some (.inl (.t (l++[v])))else none
 |_,_,_=>none
noncomputable def startG:GW->D
 | .all=>.non|.any=>.non|.sum=>.int 0|.tuple=>.t []
noncomputable def finG(w:GW)(b:D):Option D:=match w with
 | .all=>some (.bl true)
 | .any=>some (.bl false)
 | .sum=>some b
 | .tuple=>some b
mutual
noncomputable def ev(F:Fs):CE->En->Sr->Res D
 | .v i,ρ,S=>varE ρ i S
 | .k d,_,S=>.ok d S
 | .bin o a b,ρ,S=>(ev F a ρ S).bind λx S1=>(ev F b ρ S1).bind λy S2=>ofO (binD o x y S2) S2
 | .neg a,ρ,S=>(ev F a ρ S).bind λx S1=>match x with|.int i=>.ok (.int (-i)) S1|_=>.no
 | .cmp o a b,ρ,S=>(ev F a ρ S).bind λx S1=>(ev F b ρ S1).bind λy S2=>ofO ((cmpD o x y S2).map .bl) S2
 | .chain o o' a b c,ρ,S=>(ev F a ρ S).bind λx S1=>(ev F b ρ S1).bind λy S2=>match cmpD o x y S2 with
  |some true=>(ev F c ρ S2).bind λz S3=>ofO ((cmpD o' y z S3).map .bl) S3
  |some false=>.ok (.bl false) S2
  |none=>.no
 | .and a b,ρ,S=>(ev F a ρ S).bind λx S1=>match x with
  | .bl true=>ev F b ρ S1
  | .bl false=>.ok (.bl false) S1
  |_=>.no
 | .or a b,ρ,S=>(ev F a ρ S).bind λx S1=>match x with
  | .bl true=>.ok (.bl true) S1
  | .bl false=>ev F b ρ S1
  |_=>.no
 | .not a,ρ,S=>(ev F a ρ S).bind λx S1=>match x with
  | .bl b=>.ok (.bl (!b)) S1
  |_=>.no
 | .ife c a b,ρ,S=>(tst F c ρ S).bind λt S1=>if t then ev F a ρ S1 else ev F b ρ S1
 | .t es,ρ,S=>(evs F es ρ S).bind λl S1=>if l.length<=sizeLine then .ok (.t l) S1 else .no
 | .l m es,ρ,S=>(evs F es ρ S).bind λl S1=>if l.length<=sizeLine then newL m l S1 else .no
 | .dic m,_,S=>if m then .ok (.ref S.length) (S++[.dic []])else .ok .emp S
 | .dis,_,S=>.ok (.ref S.length) (S++[.dis []])
 | .fmt a,ρ,S=>(ev F a ρ S).bind λx S1=>bStr x S1
 | .join3 a b c,ρ,S=>(ev F a ρ S).bind λx S1=>(ev F b ρ S1).bind λy S2=>(ev F c ρ S2).bind λz S3=>ofO (joinD x y z) S3
 | .call f es,ρ,S=>(evs F es ρ S).bind λl S1=>F f l S1
 | .blt b es,ρ,S=>(evs F es ρ S).bind λl S1=>bltD b l S1
 | .isi t a,ρ,S=>(ev F a ρ S).bind λx S1=>ofO ((isiD S1 t x).map .bl) S1
 | .isx t a,ρ,S=>(ev F a ρ S).bind λx S1=>ofO ((isxD t x).map .bl) S1
 | .ixT a,ρ,S=>(ev F a ρ S).bind λx S1=>ofO (ixtD S1 x) S1
 | .binM o a b,ρ,S=>(ev F a ρ S).bind λx S1=>(ev F b ρ S1).bind λy S2=>R.binM o x y S2
 | .popAt o i,ρ,S=>(ev F o ρ S).bind λx S1=>if isLst S1 x then(ev F i ρ S1).bind λy S2=>popD S2 x y else .no
 | .app o e,ρ,S=>(ev F o ρ S).bind λx S1=>if isLst S1 x then(ev F e ρ S1).bind λy S2=>appD S2 x y else .no
 | .ext o e,ρ,S=>(ev F o ρ S).bind λx S1=>if isLst S1 x then(ev F e ρ S1).bind λy S2=>extD S2 x y else .no
 | .get o k e,ρ,S=>(ev F o ρ S).bind λx S1=>if isDic S1 x then(ev F k ρ S1).bind λy S2=>(ev F e ρ S2).bind λz S3=>ofO (getD S3 x y z) S3 else .no
 | .idx a i,ρ,S=>(ev F a ρ S).bind λx S1=>(ev F i ρ S1).bind λy S2=>ofO (idxD S2 x y) S2
 | .slc a lo hi,ρ,S=>(ev F a ρ S).bind λx S1=>(evO F lo ρ S1).bind λl S2=>(evO F hi ρ S2).bind λh S3=>ofO (slcD S3 x l h) S3
 | .rev a,ρ,S=>(ev F a ρ S).bind λx S1=>match x with
  | .t l=>.ok (.t l.reverse) S1
  |_=>.no
 | .rng k es,ρ,S=>(evs F es ρ S).bind λl S1=>match rngD l with
  |some ds=>if ds.length<=1000000 then(match k with
   |some m=>newL m ds S1
   |none=>.ok (.t ds) S1)else .no
  |none=>.no
 | .lc m fr nt elt tg it ifs,ρ,S=>(evI F it ρ S).bind λds S1 =>
   (lcLoop S1.length (λd ρ S=>asg F tg d ρ S) (λρ S=>tsts F ifs ρ S) (λρ S=>ev F elt ρ S) ds (frE ρ fr nt) (S1++[.l []])).bind λ_ S2=>lcEnd m S1.length S2
 | .lcR m fr nt elt tg e ifs,ρ,S=>(ev F e ρ S).bind λx S1=>match refL x S1 with
  |some p=>(lcLoop S1.length (λd ρ S=>grd (own p.1 p.2) S (asg F tg d ρ S)) (λρ S=>tsts F ifs ρ S) (λρ S=>ev F elt ρ S) p.2 (frE ρ fr nt) (S1++[.l []])).bind λ_ S2=>grd (own p.1 p.2) S2 (lcEnd m S1.length S2)
  |none=>.no
 | .lcX m fr nt elt tg e ifs,ρ,S=>(ev F e ρ S).bind λx S1=>match refX x S1 with
  |some p=>(lcLoop S1.length (λd ρ S=>grd p.2 S (asg F tg d ρ S)) (λρ S=>tsts F ifs ρ S) (λρ S=>ev F elt ρ S) p.1 (frE ρ fr nt) (S1++[.l []])).bind λ_ S2=>grd p.2 S2 (lcEnd m S1.length S2)
  |none=>.no
 | .genX w fr nt elt tg e ifs,ρ,S=>(ev F e ρ S).bind λx S1=>match refX x S1 with
  |some p=>genLoopG p.2 (λd ρ S=>asg F tg d ρ S) (λρ S=>tsts F ifs ρ S) (λρ S=>ev F elt ρ S) (stepG w) (finG w) p.1 (frE ρ fr nt) (startG w) S1
  |none=>.no
 | .neF a b,ρ,S=>(ev F a ρ S).bind λx S1=>(ev F b ρ S1).bind λy S2=>ofO ((neFD S2 x y).map .bl) S2
 | .rem o i,ρ,S=>(ev F o ρ S).bind λx S1=>if isLst S1 x then(ev F i ρ S1).bind λy S2=>remD S2 x y else .no
 | .idk a i,ρ,S=>(ev F a ρ S).bind λx S1=>(ev F i ρ S1).bind λy S2=>ofO (idkD S2 x y) S2
 | .dcK d e,ρ,S=>(ev F e ρ S).bind λx S1=>match refX x S1 with
  |some p=>match intsOf p.1 with
   |some ns=>if ns.length<1000 then .ok (.ref S1.length) (S1++[.dis (dcKL d ns)])else .no
   |none=>.no
  |none=>.no
 | .lls e,ρ,S=>(ev F e ρ S).bind λx S1=>match x with
  | .t l=>newLls l.length S1
  |_=>.no
 | .gen w fr nt elt tg it ifs,ρ,S=>(evI F it ρ S).bind λds S1 =>
   genLoop (λd ρ S=>asg F tg d ρ S) (λρ S=>tsts F ifs ρ S) (λρ S=>ev F elt ρ S) (stepG w) (finG w) ds (frE ρ fr nt) (startG w) S1
noncomputable def evs(F:Fs):CEs->En->Sr->Res (List D)
 | .nil,_,S=>.ok [] S
 | .cons e r,ρ,S=>(ev F e ρ S).bind λx S1=>(evs F r ρ S1).bind λl S2=>.ok (x::l) S2
noncomputable def evO(F:Fs):CO->En->Sr->Res (Option Int)
 | .none,_,S=>.ok none S
 | .some e,ρ,S=>(ev F e ρ S).bind λx S1=>match x with|.int i=>.ok (some i) S1|_=>.no
noncomputable def evI(F:Fs):CI->En->Sr->Res (List D)
 | .seq e,ρ,S=>(ev F e ρ S).bind λx S1=>match x with
  | .t l=>.ok l S1
  | .l l=>.ok l S1
  |_=>.no
 | .rng es,ρ,S=>(evs F es ρ S).bind λl S1=>ofO (rngD l) S1
 | .zip a b,ρ,S=>(ev F a ρ S).bind λx S1=>(ev F b ρ S1).bind λy S2=>match walkF x,walkF y with
  |some l,some m=>.ok ((l.zip m).map λp=>.t [p.1,p.2]) S2
  |_,_=>.no
noncomputable def asg(F:Fs):CT->D->En->Sr->Res En
 | .v i,d,ρ,S=>.ok (ρ.set i (some d)) S
 | .t r,d,ρ,S=>match d with
  | .t l=>asgs F r l ρ S
  |_=>.no
 | .sub o i,d,ρ,S=>(ev F o ρ S).bind λx S1=>(ev F i ρ S1).bind λy S2=>match putE S2 x y d with
  |some S3=>.ok ρ S3
  |none=>.no
noncomputable def asgs(F:Fs):CTs->List D->En->Sr->Res En
 | .nil,l,ρ,S=>match l with|[]=>.ok ρ S|_=>.no
 | .cons t r,l,ρ,S=>match l with
  |d::m=>(asg F t d ρ S).bind λρ1 S1=>asgs F r m ρ1 S1
  |[]=>.no
noncomputable def tst(F:Fs):CB->En->Sr->Res Bool
 | .val e,ρ,S=>(ev F e ρ S).bind λx S1=>ofO (truD S1 x) S1
 | .and a b,ρ,S=>(tst F a ρ S).bind λt S1=>if t then tst F b ρ S1 else .ok false S1
 | .or a b,ρ,S=>(tst F a ρ S).bind λt S1=>if t then .ok true S1 else tst F b ρ S1
 | .not a,ρ,S=>(tst F a ρ S).bind λt S1=>.ok (!t) S1
 | .cal a,ρ,S=>noE (tst F a ρ S)
noncomputable def tsts(F:Fs):CBs->En->Sr->Res Bool
 | .nil,_,S=>.ok true S
 | .cons e r,ρ,S=>(tst F e ρ S).bind λt S1=>if t then tsts F r ρ S1 else .ok false S1
end
mutual
inductive CS where
 |expr (e:CE)|ret (e:CE)|retN|set (t:CT) (e:CE)|par (i j:Nat) (a b:CE)
 |aug (i:Nat) (o:BOp) (e:CE)|augK (o i e:CE)
 |ifs (c:CB) (a b:CSs)|forS (t:CT) (it:CI) (body:CSs)|forR (t:CT) (e:CE) (body:CSs)|forX (t:CT) (e:CE) (body:CSs)|whileS (c:CB) (body:CSs)
 |pass|brk|cont|never
 |cal (s:CS)|grd (e:CE) (s:CS)|raise (C:Addr)|tryX (t:List (Addr×Bool)) (i:Nat) (body suite:CSs)
inductive CSs where|nil|cons (s:CS) (r:CSs)
end
abbrev CSs.c:=@CSs.cons
abbrev CSs.n:=@CSs.nil
inductive Fl where|nx (ρ:En)|bk (ρ:En)|ct (ρ:En)|rt (d:D)
noncomputable def forLoop(body:D->En->Sr->Res Fl):List D->En->Sr->Res Fl
 |[],ρ,S=>.ok (.nx ρ) S
 |d::r,ρ,S=>(body d ρ S).bind λf S1=>match f with
  | .nx ρ1=>forLoop body r ρ1 S1
  | .ct ρ1=>forLoop body r ρ1 S1
  | .bk ρ1=>.ok (.nx ρ1) S1
  | .rt d=>.ok (.rt d) S1
noncomputable def endG(gd:Sr->Prop)(r:Res Fl):Res Fl:=r.bind λf S=>match f with
 | .rt d=>.ok (.rt d) S
 |f=>grd gd S (.ok f S)
noncomputable def whileLoop(test:En->Sr->Res Bool)(body:En->Sr->Res Fl):Nat->En->Sr->Res Fl
 |0,_,_=>.no
 |n+1,ρ,S=>(test ρ S).bind λt S1=>if t then(body ρ S1).bind λf S2=>(match f with
   | .nx ρ1=>whileLoop test body n ρ1 S2
   | .ct ρ1=>whileLoop test body n ρ1 S2
   | .bk ρ1=>.ok (.nx ρ1) S2
   | .rt d=>.ok (.rt d) S2)
  else .ok (.nx ρ) S1
mutual
noncomputable def ex(F:Fs)(N:Nat):CS->En->Sr->Res Fl
 | .expr e,ρ,S=>(ev F e ρ S).bind λ_ S1=>.ok (.nx ρ) S1
 | .ret e,ρ,S=>(ev F e ρ S).bind λd S1=>.ok (.rt d) S1
 | .retN,_,S=>.ok (.rt .non) S
 | .set t e,ρ,S=>(ev F e ρ S).bind λd S1=>(asg F t d ρ S1).bind λρ1 S2=>.ok (.nx ρ1) S2
 | .par i j a b,ρ,S=>(ev F a ρ S).bind λx S1=>(ev F b ρ S1).bind λy S2=>.ok (.nx ((ρ.set i (some x)).set j (some y))) S2
 | .aug i o e,ρ,S=>(varE ρ i S).bind λx S0=>(ev F e ρ S0).bind λy S1=>match x,y with
  | .int a,.int b=>match o with
   | .add=>.ok (.nx (ρ.set i (some (.int (a+b))))) S1
   | .sub=>.ok (.nx (ρ.set i (some (.int (a-b))))) S1
   |_=>.no
  |_,_=>.no
 | .augK o i e,ρ,S=>(ev F o ρ S).bind λx S1=>(ev F i ρ S1).bind λy S2=>match idkD S2 x y with
  |some (.int a)=>(ev F e ρ S2).bind λz S3=>match z with
   | .int b=>match putE S3 x y (.int (a+b))with
    |some S4=>.ok (.nx ρ) S4
    |none=>.no
   |_=>.no
  |_=>.no
 | .ifs c a b,ρ,S=>(tst F c ρ S).bind λt S1=>if t then exs F N a ρ S1 else exs F N b ρ S1
 | .forS t it body,ρ,S=>(evI F it ρ S).bind λds S1=>forLoop (λd ρ S=>(asg F t d ρ S).bind λρ1 S1=>exs F N body ρ1 S1) ds ρ S1
 | .forX t e body,ρ,S=>(ev F e ρ S).bind λx S1=>match refX x S1 with
  |some p=>endG p.2 (forLoop (λd ρ S=>(grd p.2 S (asg F t d ρ S)).bind λρ1 S1=>exs F N body ρ1 S1) p.1 ρ S1)
  |none=>.no
 | .forR t e body,ρ,S=>(ev F e ρ S).bind λx S1=>match refL x S1 with
  |some p=>endG (own p.1 p.2) (forLoop (λd ρ S=>(grd (own p.1 p.2) S (asg F t d ρ S)).bind λρ1 S1=>exs F N body ρ1 S1) p.2 ρ S1)
  |none=>.no
 | .whileS c body,ρ,S=>whileLoop (λρ S=>tst F c ρ S) (λρ S=>exs F N body ρ S) N ρ S
 | .pass,ρ,S=>.ok (.nx ρ) S
 | .brk,ρ,S=>.ok (.bk ρ) S
 | .cont,ρ,S=>.ok (.ct ρ) S
 | .never,_,_=>.no
 | .cal s,ρ,S=>noE (ex F N s ρ S)
 | .grd e s,ρ,S=>match ev F e ρ S with
  | .ok _ _=>noE (ex F N s ρ S)
  | .err x S1=>.err x S1
  | .no=>.no
 | .raise C,_,S=>.err (.exc C) S
 | .tryX t i body suite,ρ,S=>match exs F N body ρ S with
  | .ok f S1=>.ok f S1
  | .err (.exc C) S1=>match lookA C t with
   |some true=>(exs F N suite (ρ.set i (some (.exc C))) S1).bind λf S2=>match f with
    | .nx ρ'=>.ok (.nx (ρ'.set i none)) S2
    |_=>.no
   |_=>.no
  |_=>.no
noncomputable def exs(F:Fs)(N:Nat):CSs->En->Sr->Res Fl
 | .nil,ρ,S=>.ok (.nx ρ) S
 | .cons s r,ρ,S=>(ex F N s ρ S).bind λf S1=>match f with
  | .nx ρ1=>exs F N r ρ1 S1
  |f=>.ok f S1
end
structure CF where
 np:Nat
 nn:Nat
 keeps:Bool
 body:CSs
mutual
noncomputable def frz(S:Sr)(n:Nat):D->Option D
 | .t l=>(frzs S n l).map .t
 | .l l=>(frzs S n l).map .l
 | .ref m=>if m<n then some (.ref m)else match S[m]? with
  |some (.l l)=>if refsLts n l then some (.l l)else none
  |_=>none
 | .non=>some .non|.bl b=>some (.bl b)|.int i=>some (.int i)|.str x=>some (.str x)|.emp=>some .emp|.exc _=>none
noncomputable def frzs(S:Sr)(n:Nat):List D->Option (List D)
 |[]=>some []
 |d::r=>match frz S n d,frzs S n r with
  |some d',some r'=>some (d'::r')
  |_,_=>none
end
noncomputable def leave(keeps:Bool)(n:Nat)(d:D)(S:Sr):Res D :=
 if keeps then .ok d S
 else if S.length=n then .ok d S
 else if refsLt n d then .ok d (S.take n)else match frz S n d with
  |some d'=>.ok d' (S.take n)
  |none=>.no
noncomputable def callC(F:Fs)(N:Nat)(c:CF)(l:List D)(S:Sr):Res D :=
 if l.length=c.np then
  (exs F N c.body (l.map some++List.replicate (c.nn-c.np) none) S).bind λf S1=>match f with
   | .nx _=>leave c.keeps S.length .non S1
   | .rt d=>leave c.keeps S.length d S1
   |_=>.no
 else .no
noncomputable def run(P:List CF)(N:Nat):Nat->Fs
 |0,_,_,_=>.no
 |k+1,f,l,S=>match P[f]? with
  |some c=>callC (run P N k) N c l S
  |none=>.no
end R
namespace R
open PySem PySem.Spec L2
open PyProof.Rows hiding St
structure EnR (ι:01) (H:Hp) (ρ:En) (σ:St):Prop where
 len:ρ.length=σ.length
 get:∀(i:Nat) (d:D),ρ[i]?=some (some d)->∃v,σ[i]?=some (some v)/\Den ι H d v
def EnR.mono{ι c:01}{H H':Hp}{ρ:En}{f:St}(e:EnR ι H ρ f)(s:Stp ι H c H'):EnR c H' ρ f :=
 ⟨e.len,λi d h=>let ⟨v,a,b⟩:=e.get i d h;⟨v,a,Den.mono s d b⟩⟩
def EnR.set{ι:01}{H:Hp}{ρ:En}{a:St}(e:EnR ι H ρ a){i:Nat}{d:D}{v:V}(h:Den ι H d v):EnR ι H (ρ.set i (some d)) (a.set i (some v)):=by
 refine⟨by simp[e.len],λj x q=>?_⟩;by_cases z:i=j
 .subst z
  have b:i<ρ.length:=by
   have:=(wO.mp q).1;simpa using this
  rw[vj b]at q;cases q;exact⟨v,vj (by rw[<-e.len];exact b),h⟩
 .rw [v8 z]at q ⊢
  exact e.get j x q
def Pst{d f:Type}(R:List Addr->Hp->d->f->Prop)(r:Res d)(ι:01)(H:Hp)(Q:f->Hp->Prop):Prop:=match r with
 | .ok a h=>∀b c H',Stp ι H c H'->Sto c H' h->R c H' a b->Q b H'
 | .err _ _=>False
 | .no=>False
def Pst.from{f i:Type}{R:List Addr->Hp->f->i->Prop}{r:Res f}{ι c:01}{H H':Hp}{Q:i->Hp->Prop}(h:Pst R r ι H Q)(s:Stp ι H c H'):Pst R r c H' Q:=by
 cases r with
 |ok a S=>exact λb d H2 t st q=>h b d H2 (s.trans t) st q
 |err=>exact h
 |no=>exact h
def Pst.bind{d j l m:Type}{R:List Addr->Hp->d->j->Prop}{n:List Addr->Hp->l->m->Prop}{r:Res d}{f:d->Sr->Res l}{ι:01}{H:Hp}{Q:m->Hp->Prop}{K:j->Hp->Prop}(h:Pst n (r.bind f) ι H Q)(k:∀a o c H' b,Stp ι H c H'->Sto c H' o->R c H' a b->Pst n (f a o) c H' Q->K b H'):Pst R r ι H K:=by
 cases r with
 |ok a S=>exact λb i H2 t st q=>k a S i H2 b t st q (Pst.from h t)
 |err=>exact h
 |no=>exact h
def Pst.ofO{d f:Type}{R:List Addr->Hp->d->f->Prop}{o:Option d}{S:Sr}{ι:01}{H:Hp}{Q:f->Hp->Prop}(h:Pst R (ofO o S) ι H Q)(st:Sto ι H S):∃a,o=some a/\∀b c H',Stp ι H c H'->Sto c H' S->R c H' a b->Q b H':=by
 cases o with
 |none=>exact h.elim
 |some a=>exact⟨a,rfl,h⟩
noncomputable def TG{a b:Type}(R:List Addr->Hp->a->b->Prop)(m:En->Sr->Res a):St->Hp->(b->Hp->Prop)->Prop:=λc H Q=>∃ι S ρ,EnR ι H ρ c/\Sto ι H S/\Pst R (m ρ S) ι H Q
noncomputable abbrev T(m:05):TE:=TG Den m
noncomputable abbrev TL(m:En->Sr->Res (List D)):TA:=TG Dens m
def EqR{c:Type}(_:01)(_:Hp)(a b:c):Prop:=a=b
noncomputable abbrev TB(m:En->Sr->Res Bool):TT:=TG EqR m
noncomputable abbrev TOp(m:En->Sr->Res (Option Int)):TO:=TG EqR m
def TG.b1{d n o q:Type}{R:List Addr->Hp->d->n->Prop}{r:List Addr->Hp->o->q->Prop}{m:En->Sr->Res d}{f:En->d->Sr->Res o}{i:St}{H:Hp}{Q:q->Hp->Prop}{K:n->Hp->Prop}(h:TG r (λρ S=>(m ρ S).bind λa S1=>f ρ a S1) i H Q)(k:∀ι S ρ a b c,EnR ι c ρ i->Sto ι c S->R ι c a b->Pst r (f ρ a S) ι c Q->K b c):TG R m i H K:=by
 obtain⟨ι,S,ρ,u,st,h⟩:=h;exact⟨ι,S,ρ,u,st,Pst.bind h λa v j H' b s l w p=>k j v ρ a b H' (u.mono s) l w p⟩
def Pst.tg{i n o q:Type}{R:List Addr->Hp->i->n->Prop}{r:List Addr->Hp->o->q->Prop}{m:En->Sr->Res i}{ρ:En}{S:Sr}{f:i->Sr->Res o}{ι:01}{j:St}{H:Hp}{Q:q->Hp->Prop}{K:n->Hp->Prop}(h:Pst r ((m ρ S).bind f) ι H Q)(u:EnR ι H ρ j)(st:Sto ι H S)(k:∀a d c H' b,Stp ι H c H'->EnR c H' ρ j->Sto c H' d->R c H' a b->Pst r (f a d) c H' Q->K b H'):TG R m j H K :=
 ⟨ι,S,ρ,u,st,Pst.bind h λa d c H' b s l v p=>k a d c H' b s (u.mono s) l v p⟩
def PEimp{X:Cx}{e:Expr}{t t':TE}(h:PE X e t)(k:∀a H Q,t' a H Q->t a H Q):PE X e t':=λpins s a H Q I b=>h pins s a H Q I (k a H Q b)
def PTimp{X:Cx}{e:Expr}{t t':TT}(h:PT X e t)(k:∀a H Q,t' a H Q->t a H Q):PT X e t':=λpins s a H Q I b=>h pins s a H Q I (k a H Q b)
def PAimp{X:Cx}{e:List Expr}{t t':TA}(h:PA X e t)(k:∀a H Q,t' a H Q->t a H Q):PA X e t':=λpos pins s a H Q I b=>h pos pins s a H Q I (k a H Q b)
section
variable{ι:List Addr}{H:Hp}{S:Sr}{v:V}
theorem qP(st:Sto ι H S):∀{d:D} {l:List D},lstOf S d=some l->Den ι H d v->∃a xs,v=.ref a/\Rd H a (.l xs)/\Dens ι H l xs
 | .l b,l,h,hd=>by
  cases h;obtain⟨a,xs,e,_,r,q⟩:=hd;exact⟨a,xs,e,r,q⟩
 | .ref n,l,h,hd=>by
  obtain⟨a,e,ha⟩:=hd;simp only[lstOf]at h;split at h
  .rename_i b c
   cases h;obtain⟨_,xs,f,i⟩:=st.obj n a _ ha c;exact⟨a,xs,e,.inl f,i⟩
  .cases h
 | .non,_,h,_=>by cases h
 | .bl _,_,h,_=>by cases h
 | .int _,_,h,_=>by cases h
 | .str _,_,h,_=>by cases h
 | .t _,_,h,_=>by cases h
 | .emp,_,h,_=>by cases h
 | .exc _,_,h,_=>by cases h
theorem zb{m:Bool}{l:List D}{xs:List V}{Q:V->Hp->Prop}(st:Sto ι H S)(c:Dens ι H l xs)(h:Pst Den (newL m l S) ι H Q):∀p,H p=none->Q (.ref p) (upd H p (.l xs)):=by
 intro p a;unfold newL at h;cases m with
 |true =>
  rw[wR rfl]at h;by_cases b:refsLts 0 l=true
  .rw [wR b]at h
   have g:=Stp.grow (ι:=ι) a (.l xs);have d:(ι++[p])[ι.length]?=some p:=by simp
   refine h (.ref p) _ _ g (st.grow a ⟨⟨_,d,qR l b⟩,xs,qB,Dens.mono g l c⟩) ⟨p,rfl,?_⟩;rw[<-st.len];exact d
  .rw [wT b]at h;exact h.elim
 |false =>
  have g:=Stp.laid (ι:=ι) a (.l xs);exact h (.ref p) _ _ g (st.laid a _) ⟨p,xs,rfl,st.fresh a,.inl qB,Dens.mono g l c⟩
theorem zt{l:List D}{xs:List V}{Q:V->Hp->Prop}(st:Sto ι H S)(c:Dens ι H l xs)(h:∀v a H',Stp ι H a H'->Sto a H' S->Den a H' (.t l) v->Q v H'):∀p,H p=none->Q (.ref p) (upd H p (.t xs)):=by
 intro p b;have g:=Stp.laid (ι:=ι) b (.t xs);exact h (.ref p) _ _ g (st.laid b _) ⟨p,xs,rfl,st.fresh b,qB,Dens.mono g l c⟩
end
section
variable{X:Cx}
theorem qlI{i:Nat}{x:Str}{pos:Pos}(h:PE X (.Name x pos) (tVar i)):PE X (.Name x pos) (T λρ S=>varE ρ i S):=PEimp h λj H Q a=>by
 obtain⟨ι,S,ρ,b,st,p⟩:=a;dsimp only[varE]at p;split at p
 .rename_i d hd
  obtain⟨v,c,f⟩:=b.get i d hd;exact⟨v,c,p v ι H (Stp.refl _ _) st f⟩
 .exact p.elim
theorem qfM{e:Expr}{d:D}{v:V}(h:PE X e (tC v))(hd:∀ι H,Den ι H d v):PE X e (T λ_ S=>.ok d S):=PEimp h λb H Q a=>by
 obtain⟨ι,S,ρ,c,st,p⟩:=a;exact p v ι H (Stp.refl _ _) st (hd ι H)
theorem qj1{e:Expr}{d:D}{v:V}(h:PE X e (λ_ H Q=>Q v H))(hd:∀ι H,Den ι H d v):PE X e (T λ_ S=>.ok d S):=qfM h hd
theorem qlJ:PA X [] (TL λ_ S=>.ok [] S):=PAimp qbb λb H Q a=>by
 obtain⟨ι,S,ρ,c,st,p⟩:=a;exact p [] ι H (Stp.refl _ _) st rfl
theorem qj2{e:Expr}{es:List Expr}{m:05}{f:En->Sr->Res (List D)}(h:PE X e (T m))(i:PA X es (TL f))(j:sE X e es):
  PA X (e::es) (TL λρ S=>(m ρ S).bind λx S1=>(f ρ S1).bind λl S2=>.ok (x::l) S2):=PAimp (jO h i j) λv H Q n=>by
 refine TG.b1 n λι S ρ a b w o st q p=>Pst.tg p o st λl S2 c H2 xs s2 r d s u=>?_
 exact u _ c H2 (Stp.refl _ _) d ⟨b,xs,rfl,Den.mono s2 a q,s⟩
noncomputable def G2(g:D->D->Sr->Res D):R2:=λx y H Q=>∃ι S dx a,Sto ι H S/\Den ι H dx x/\Den ι H a y/\Pst Den (g dx a S) ι H Q
theorem T2{i mb:05}{g:D->D->Sr->Res D}{j:St}{H:Hp}{Q:VK}(h:T (λρ S=>(i ρ S).bind λx S1=>(mb ρ S1).bind λy S2=>g x y S2) j H Q):tOp (G2 g) (T i) (T mb) j H Q :=
 TG.b1 h λι S ρ a b r l st m p=>Pst.tg p l st λn S2 c H2 b2 s2 o d f q=>⟨c,S2,a,n,d,Den.mono s2 a m,f,q⟩
theorem qi9{a b:Expr}{op:Operator}{pos:Pos}{c mb:05}{g:D->D->Sr->Res D}(d:OpR X (binaryOp op) (G2 g))(ha:PE X a (T c))(hb:PE X b (T mb)):
  PE X (.BinOp a op b pos) (T λρ S=>(c ρ S).bind λx S1=>(mb ρ S1).bind λy S2=>g x y S2):=PEimp (qlt d ha hb) λf H Q=>T2
theorem qlK{a b:Expr}{op:CmpOp}{pos:Pos}{c mb:05}{g:D->D->Sr->Res D}(d:OpR X (compareOp op) (G2 g))(ha:PE X a (T c))(hb:PE X b (T mb))(hm:behindInMarks op b=false):
  PE X (.Compare a [op] [b] pos) (T λρ S=>(c ρ S).bind λx S1=>(mb ρ S1).bind λy S2=>g x y S2):=PEimp (qhF d ha hb hm) λf H Q=>T2
theorem qc2{pins:04}{b:St}{H:Hp}{s:Shared}{l:Addr}{xs:List V}(I:Inv X pins b H s)(c:Rd H l (.l xs)):xs.length<=sizeLine/\∃(a:List Value) (n:Nat),Vals xs a/\xs.length=a.length/\s.heap.get? l=some {cls:=.type "list",data:=.seq a.toArray n}:=by
 obtain⟨z,a,n,r,e⟩:=c.ok I.hok;exact⟨z,a,n,r,r.length,e⟩
theorem qdG:OpR X (binaryOp .Add) (λx y H Q=>∃l b xs d,x=.ref l/\y=.ref b/\Rd H l (.l xs)/\Rd H b (.l d)/\xs.length+d.length<=sizeLine/\∀p,H p=none->Q (.ref p) (upd H p (.l (xs++d)))):=by
 intro pins s B H x y v u Q I f i h;obtain⟨l,b,xs,d,rfl,rfl,j,m,C,q⟩:=h;cases f;cases i;obtain⟨z,c,n,r,E,e⟩:=qc2 I j;obtain⟨F,a,J,r2,o,w⟩:=qc2 I m;refine PySem.P.add_list e w ?_ (by rw[wS,wS];lia);have A:c.toArray++a.toArray=(c++a).toArray:=by simp
 rw[A];exact⟨.ref _,_,I.lnew (t':=s.toks) (r.append r2) (by rw[wV];lia),rfl,q _ I.fresh⟩
theorem qdH:OpR X (binaryOp .Mult) (λx y H Q=>∃l k xs,x=.ref l/\y=.int k/\Rd H l (.l xs)/\-(2^63)<=k/\k<2^63/\xs.length*k.toNat<=sizeLine /\
 ∀p,H p=none->Q (.ref p) (upd H p (.l (List.replicate k.toNat xs).flatten))):=by
 intro pins s N H x y v u Q I B C h;obtain⟨l,k,xs,rfl,rfl,E,J,K,A,q⟩:=h;cases B;obtain⟨t,rfl⟩:=C;obtain⟨z,b,n,r,L,e⟩:=qc2 I E;have d:b.toArray.size*k.toNat<=sizeLine:=by rw[wS,<-L];exact A
 have f:¬b.toArray.size*k.toNat>(2^63-1) / 8:=by
  have:(sizeLine:Nat)<=(2^63-1) / 8:=by decide
  lia
 have i:¬(!Builtin.List.listFitsIndex k)=true:=by
  rw[fitsIndex_both J K];exact wb
 have c:¬Builtin.List.listTooLong (b.toArray.size*k.toNat)=true:=by
  rw[notLongL d];exact wb
 have j:List.foldl (λo w=>o++w) #[] (List.replicate (if b.toArray.isEmpty=true then 0 else k.toNat) b.toArray)=(List.replicate k.toNat b).flatten.toArray:=by
  have M:∀m:Nat,List.foldl (λo w=>o++w) #[] (List.replicate m b.toArray)=(List.replicate m b).flatten.toArray:=λm=>by
   have:=jq b m [];rw[x5]at this;exact this
  rw[M];cases b with
  |nil=>simp
  |cons a O=>rw[wT (by simp)]
 refine wpAny_binaryOp_repeat_ref (T:="list") (U:="int") 02 ⟨_,e,rfl⟩ (λs'=>typeIs_int s' k t) noFill_list_mul F.fills_int_mul xf repeat_list F.slot_int_index.lookup
  (uH xf (typeIs_int s k t) F.entry_int_rmul (F.args_int_rmul_2 _ _) (int___rmul___int_list k t l b.toArray n)
   ⟨e,rfl,⟨_,e,rfl⟩,uH F.slot_list_mul ⟨_,e,rfl⟩ F.entry_list_mul (F.args_list_mul_2 _ _) (AutoListH.list___mul___list_int_3 l b.toArray n k t i f c) ⟨e,?_⟩⟩)
 rw[j];exact⟨.ref _,_,I.lnew (t':=s.toks) (r.rep k.toNat) (by rw[qbf,Nat.mul_comm];exact A),rfl,q _ I.fresh⟩
noncomputable def opOf:BOp->Operator
 | .add=>.Add|.sub=>.Sub|.mul=>.Mult|.fdiv=>.FloorDiv|.mod=>.Mod|.pow=>.Pow|.shl=>.LShift|.shr=>.RShift|.band=>.BitAnd
theorem qj3(o:BOp):OpR X (binaryOp (opOf o)) (λx y H Q=>∃i j r,x=.int i/\y=.int j/\binI o i j=some r/\Q (.int r) H):=by
 intro pins s b H x y v u Q I c d h;obtain⟨i,j,r,rfl,rfl,e,q⟩:=h;have fin:∀{a:Int} {t:Tok} {tk:Nat},r=a->EP X pins b Q (.int a t) {s with toks:=tk}:=λ{a t tk} z=>by subst z;exact⟨.int r,H,I.tok _,⟨_,rfl⟩,q⟩
 obtain⟨f,rfl⟩:=c;obtain⟨l,rfl⟩:=d;cases o with
 |add=>exact add_int (fin (by cases e;rfl))
 |sub=>exact sub_int (fin (by cases e;rfl))
 |mul =>
  simp only[binI]at e;split at e
  .rename_i hm
   exact mul_int (fin (by cases e;rfl)) (by unfold mulOk at hm;unfold IntMulOk;intro z;rw[z]at hm;exact absurd hm 02)
  .cases e
 |fdiv =>
  simp only[binI]at e;split at e
  .rename_i hm
   simp only[divOk,wZ,vd,vB]at hm;exact floordiv_int hm.1 (fin (by cases e;rfl)) (.inl hm.2)
  .cases e
 |mod =>
  simp only[binI]at e;split at e
  .cases e
  .rename_i hm
   exact mod_int' hm (fin (by cases e;rfl))
 |pow =>
  simp only[binI]at e;split at e
  .rename_i hm
   exact pow_int_small hm.1 hm.2.1 hm.2.2 (fin (by cases e;rfl))
  .cases e
 |shl =>
  simp only[binI]at e;split at e
  .rename_i hm
   exact lshift_int_small hm.1 hm.2.1 hm.2.2 (fin (by cases e;rfl))
  .cases e
 |shr =>
  simp only[binI]at e;split at e
  .rename_i hm
   exact qjM pins s b H (.int i) (.int j) _ _ Q I ⟨f,rfl⟩ ⟨l,rfl⟩ ⟨i,j,rfl,rfl,hm,by cases e;exact q⟩
  .cases e
 |band=>exact and_int (fin (by cases e;rfl))
end
end R
namespace R
open PySem PySem.Spec L2 SeqAt
open PyProof.Rows hiding St
def qbX{f:D->D->Option Bool}:∀{a b:List D} {r:Bool},eqL f a b=some r ->
  (∀(j:Nat) (x y:D),a[j]?=some x->b[j]?=some y->∃c,f x y=some c) /\
  r=((List.range (min a.length b.length)).all (λj=>match a[j]?,b[j]? with|some x,some y=>(f x y).getD false|_,_=>false)&&a.length == b.length)
 |[],[],r,h=>by cases h;exact⟨λj x y h _=>by simp at h,by simp⟩
 |[],_::_,r,h=>by cases h;exact⟨λj x y h _=>by simp at h,by simp⟩
 |_::_,[],r,h=>by cases h;exact⟨λj x y _ h=>by simp at h,by simp⟩
 |a::p,b::q,r,h=>by
  simp only[eqL]at h;split at h
  .rename_i x y n o
   obtain⟨d,i⟩:=qbX o;cases h;refine⟨λj z w l m=>?_,?_⟩
   .cases j with
    |zero=>simp at l m;subst l m;exact⟨x,n⟩
    |succ j=>exact d j z w (by simpa using l) (by simpa using m)
   .have e:min (a::p).length (b::q).length=min p.length q.length+1:=by simp only[wj];lia
    rw[e,List.range_succ_eq_map,uc,xD];simp only[uD,n,Option.getD_some];rw[i,Bool.and_assoc];congr 1;congr 1;simp only[wj];rw[ww,uI,uI];lia
  .cases h
section
variable{ι:List Addr}{H:Hp}
theorem j7{a:Addr}{xs ys:List V}(h:H a=some (.t xs))(k:Rd H a (.l ys)):False:=by
 rcases k with k|⟨o,k⟩ <;> (rw[h]at k;cases k)
theorem rd_inj{a:Addr}{xs ys:List V}(h:Rd H a (.l xs))(k:Rd H a (.l ys)):xs=ys:=by
 rcases h with h|⟨o,h⟩ <;> rcases k with k|⟨o',k⟩ <;> (rw[h]at k;first|(cases k;done)|(cases k;rfl))
theorem j8{f:D->D->Option Bool}(c:∀x y v b,Den ι H x v->Den ι H y v->f x y=some b->b=true):∀{a b:List D} {xs:List V} {r:Bool},Dens ι H a xs->Dens ι H b xs->eqL f a b=some r->r=true
 |[],[],_,r,_,_,h=>by cases h;rfl
 |[],_::_,_,r,h1,h2,h=>by
  cases (show _=[]from h1);obtain⟨x,r,e,_⟩:=h2;cases e
 |_::_,[],_,r,h1,h2,h=>by
  cases (show _=[]from h2);obtain⟨x,r,e,_⟩:=h1;cases e
 |a::p,b::q,_,r,h1,h2,h=>by
  obtain⟨x,t,rfl,d1,e1⟩:=h1;obtain⟨l,t',e,d2,d⟩:=h2;cases e;simp only[eqL]at h;split at h
  .rename_i y z i j
   cases h;rw[c a b x y d1 d2 i,j8 c e1 d j]
   all_goals rfl
  .cases h
theorem j9:∀(n:Nat) (x y:D) (v:V) (b:Bool),Den ι H x v->Den ι H y v->eqD n x y=some b->b=true
 |0,_,_,_,_,_,_,h=>by cases h
 |n+1,x,y,v,b,hx,hy,h=>by
  cases x <;> cases y <;> simp only[eqD,Den]at h hx hy <;> first
   | (cases h;rfl)
   | (cases h;subst hx;first|(cases hy;done)|(cases hy;simp;done))
   | (obtain⟨a,rfl,_,ha⟩:=hx;obtain⟨i,d,e,_,c,_⟩:=hy;cases e;rw[ha]at c;cases c;done)
   | (obtain⟨a,rfl,_,ha⟩:=hy;obtain⟨i,d,e,_,c,_⟩:=hx;cases e;rw[ha]at c;cases c;done)
   | (obtain⟨a,xs,rfl,_⟩:=hx;cases hy;done)
   | (obtain⟨a,xs,rfl,_⟩:=hy;cases hx;done)
   | (obtain⟨a,rfl,_⟩:=hx;cases h;done)
   | (obtain⟨a,rfl,_⟩:=hy;cases h;done)
   | (obtain⟨a,xs,rfl,_,ha,r⟩:=hx
      obtain⟨i,d,e,_,c,f⟩:=hy;cases e
      first
        | (rw[ha]at c;cases c;exact j8 (λx y v b=>j9 n x y v b) r f h)
        | (cases rd_inj ha c
           have j:_=_:=r.length.trans f.length.symm;rw[wR j]at h;exact j8 (λx y v b=>j9 n x y v b) r f h)
        |exact(j7 ha c).elim
        |exact(j7 c ha).elim)
end
section
variable{X:Cx}{pins:List (Addr×Obj)}{σ:St}{H:Hp}{s:Shared}{ι:List Addr}
theorem Vals.at{xs:List V}{us:List Value}(r:Vals xs us){j:Nat}(h:j<us.length):∃x,xs[j]?=some x/\RelV x us[j]:=by
 have c:=r.length;obtain⟨u,a,b⟩:=r.get (i:=j) (x:=xs[j]' 00) (wD 00);rw[wD h]at a;cases a;exact⟨_,wD 00,b⟩
theorem Dens.at{ds:List D}{xs:List V}{j:Nat}{x:V}(h:Dens ι H ds xs)(e:xs[j]?=some x):∃d,ds[j]?=some d/\Den ι H d x:=by
 have c:=h.length;have f:=(wO.mp e).1;obtain⟨y,a,b⟩:=h.get (i:=j) (d:=ds[j]' 00) (wD 00);rw[e]at a;cases a;exact⟨_,wD 00,b⟩
theorem yT(I:Inv X pins σ H s){a:Addr}{xs:List V}(h:H a=some (.t xs)):∃b:List Value,Vals xs b/\IsTup s.heap a b.toArray/\xs.length<=sizeLine:=by
 obtain⟨z,b,r,p,_⟩:=I.hok a _ h;exact⟨b,r,p,z⟩
theorem jt(I:Inv X pins σ H s){a:Addr}{xs:List V}(h:Rd H a (.l xs)):∃b:List Value,Vals xs b/\s.heap.IsList a b.toArray/\xs.length<=sizeLine:=by
 obtain⟨z,b,n,r,e⟩:=h.ok I.hok;exact⟨b,r,⟨_,e,rfl,n,rfl⟩,z⟩
theorem qja(I:Inv X pins σ H s){a:Addr}{kvs:List (Key×V)}(h:H a=some (.dK kvs)):isDt s.heap a:=by
 obtain⟨_,lo,ys,p,o,es,i,j,ex,l,_⟩:=I.hok a _ h;obtain⟨oc,od,m,osl⟩:=o;obtain⟨b,e1,c,d⟩:∃b,s.heap.get? a=some b/\b.cls=.type "dict"/\b.data=.dict es i:=⟨_,j,ex.1,l⟩;obtain⟨c2,d2,f,n⟩:=b;dsimp only at c d;subst c d;exact⟨_,_,_,_,e1⟩
def EqAll(A:Around)(s:Shared)(v u:Value)(b:Bool):Prop:=RcAt A s v u b/\RcNeAt A s v u (!b)/\EqAt A s v u b
theorem zS{v:V}{i:Int}{u:Value}(h:Den ι H (.int i) v)(r:RelV v u):∃t,u=.int i t:=by cases (show v=_ from h);exact r
theorem yU{v:V}{i:Str}{u:Value}(h:Den ι H (.str i) v)(r:RelV v u):∃t,u=.str i t:=by cases (show v=_ from h);exact r
theorem vs_bl{v:V}{i:Bool}{u:Value}(h:Den ι H (.bl i) v)(r:RelV v u):u=.bool i:=by cases (show v=_ from h);exact r
theorem vs_non{v:V}{u:Value}(h:Den ι H .non v)(r:RelV v u):u=.none:=by cases (show v=_ from h);exact r
theorem zu(I:Inv X pins σ H s){v:V}{l:List D}{u:Value}(h:Den ι H (.t l) v)(r:RelV v u):∃a b xs,v=.ref a/\u=.ref a/\Vals xs b/\Dens ι H l xs/\s.heap.IsTuple a b.toArray/\H a=some (.t xs):=by
 obtain⟨a,xs,rfl,_,ha,d⟩:=h;cases r;obtain⟨b,c,p,_⟩:=yT I ha;exact⟨a,b,xs,rfl,rfl,c,d,p,ha⟩
theorem yV(I:Inv X pins σ H s){v:V}{l:List D}{u:Value}(h:Den ι H (.l l) v)(r:RelV v u):∃a b xs,v=.ref a/\u=.ref a/\Vals xs b/\Dens ι H l xs/\s.heap.IsList a b.toArray/\Rd H a (.l xs):=by
 obtain⟨a,xs,rfl,_,ha,d⟩:=h;cases r;obtain⟨b,c,p,_⟩:=jt I ha;exact⟨a,b,xs,rfl,rfl,c,d,p,ha⟩
theorem qfN{f:D->D->Option Bool}{A:Around}{a b:List D}{xs ys:List V}{i d:List Value}{r:Bool}(K:∀x y c v u l m,f x y=some c->Den ι H x v->Den ι H y u->RelV v l->RelV u m->EqAt A s l m c)(h:eqL f a b=some r)(n:Dens ι H a xs)(o:Dens ι H b ys)(p:Vals xs i)(q:Vals ys d):
  ∃e:Nat->Bool,(∀j (w:j<i.toArray.size) (B:j<d.toArray.size),EqAt A s i.toArray[j] d.toArray[j] (e j))/\r=((List.range (min i.toArray.size d.toArray.size)).all e&&i.toArray.size == d.toArray.size) /\
   a.length=i.length/\b.length=d.length:=by
 obtain⟨w,B⟩:=qbX h;have C:a.length=i.length:=n.length.trans p.length;have E:b.length=d.length:=o.length.trans q.length;refine⟨_,λj F I=>?_,by rw[wS,wS,<-C,<-E];exact B,C,E⟩;simp only[wS]at F I;obtain⟨x,e1,r1⟩:=Vals.at p F;obtain⟨y,L,r2⟩:=Vals.at q I;obtain⟨d1,g1,M⟩:=n.at e1;obtain⟨d2,g2,N⟩:=o.at L;obtain⟨c,J⟩:=w j d1 d2 g1 g2;simp only[g1,g2,J,Option.getD_some,List.getElem_toArray];exact K d1 d2 c x y _ _ J M N r1 r2
theorem ju(I:Inv X pins σ H s):∀(n:Nat) (A:Around) (x y:D) (b:Bool) (v u:V) (q r:Value),eqD n x y=some b->Den ι H x v->Den ι H y u->RelV v q->RelV u r->A.units+n<cLine->EqAll A s q r b
 |0,_,_,_,_,_,_,_,_,h,_,_,_,_,_=>by cases h
 |n+1,A,x,y,b,v,u,q,r,h,hx,hy,rx,ry,hu=>by
  have f:A.units<cLine:=by lia
  have w:=j9 (ι:=ι) (H:=H) (n+1) x y;have S:∀x y c v u q r,eqD n x y=some c->Den ι H x v->Den ι H y u->RelV v q->RelV u r->EqAt A.in1 s q r c:=λx y c v u q r Y Z h3 h4 h5 =>
   (ju I n A.in1 x y c v u q r Y Z h3 h4 h5 (by show A.units+1+n<cLine;lia)).2.2
  cases x with
  |exc k=>cases y <;> cases h
  |ref k=>cases y <;> cases h
  |emp =>
   cases y with
   |t l =>
    obtain⟨m,rfl,_,M⟩:=hx;cases rx;obtain⟨a,j,xs,_,rfl,_,_,p,_⟩:=zu I hy ry;have o:=qja I M;cases h;exact⟨qi7 o p f,qlE o p f,EqAt.of_refs (qaR o p) (qi7 o p f)⟩
   |_=>cases h
  |non =>
   cases vs_non hx rx;cases y with
   |ref k=>cases h
   |emp=>cases h
   |exc _=>cases h
   |non=>cases vs_non hy ry;cases h;exact⟨RcAt.none_none,RcNeAt.none_none,EqAt.same _⟩
   |bl c=>cases vs_bl hy ry;cases h;exact⟨RcAt.none_bool _,RcNeAt.none_bool _,EqAt.none_bool _⟩
   |int c=>obtain⟨t,rfl⟩:=zS hy ry;cases h;exact⟨RcAt.none_int _ _,RcNeAt.none_int _ _,EqAt.none_int _ _⟩
   |str c=>obtain⟨t,rfl⟩:=yU hy ry;cases h;exact⟨RcAt.none_str _ _,RcNeAt.none_str _ _,EqAt.none_str _ _⟩
   |t l=>obtain⟨a,j,xs,_,rfl,_,_,p,_⟩:=zu I hy ry;cases h;exact⟨RcAt.none_tuple p f,RcNeAt.none_tuple p f,EqAt.none_tuple p f⟩
   |l l=>obtain⟨a,j,xs,_,rfl,_,_,p,_⟩:=yV I hy ry;cases h;exact⟨RcAt.none_list p f,RcNeAt.none_list p f,EqAt.none_list p f⟩
  |bl d =>
   cases vs_bl hx rx;cases y with
   |ref k=>cases h
   |emp=>cases h
   |exc _=>cases h
   |non=>cases vs_non hy ry;cases h;exact⟨RcAt.bool_none _,RcNeAt.bool_none _,EqAt.bool_none _⟩
   |bl c=>cases vs_bl hy ry;cases h;exact⟨RcAt.bool_bool _ _,RcNeAt.bool_bool _ _,EqAt.bool_bool _ _⟩
   |int c=>obtain⟨t,rfl⟩:=zS hy ry;cases h;exact⟨RcAt.bool_int _ _ _,RcNeAt.bool_int _ _ _,EqAt.bool_int _ _ _⟩
   |str c=>obtain⟨t,rfl⟩:=yU hy ry;cases h;exact⟨RcAt.bool_str _ _ _,RcNeAt.bool_str _ _ _,EqAt.bool_str _ _ _⟩
   |t l=>obtain⟨a,j,xs,_,rfl,_,_,p,_⟩:=zu I hy ry;cases h;exact⟨RcAt.bool_tuple _ p f,RcNeAt.bool_tuple _ p f,EqAt.bool_tuple _ p f⟩
   |l l=>obtain⟨a,j,xs,_,rfl,_,_,p,_⟩:=yV I hy ry;cases h;exact⟨RcAt.bool_list _ p f,RcNeAt.bool_list _ p f,EqAt.bool_list _ p f⟩
  |int d =>
   obtain⟨tt,rfl⟩:=zS hx rx;cases y with
   |ref k=>cases h
   |emp=>cases h
   |exc _=>cases h
   |non=>cases vs_non hy ry;cases h;exact⟨RcAt.int_none _ _,RcNeAt.int_none _ _,EqAt.int_none _ _⟩
   |bl c=>cases vs_bl hy ry;cases h;exact⟨RcAt.int_bool _ _ _,RcNeAt.int_bool _ _ _,EqAt.int_bool _ _ _⟩
   |int c=>obtain⟨t,rfl⟩:=zS hy ry;cases h;exact⟨RcAt.int_int _ _ _ _,RcNeAt.int_int _ _ _ _,EqAt.int_int _ _ _ _⟩
   |str c=>obtain⟨t,rfl⟩:=yU hy ry;cases h;exact⟨RcAt.int_str _ _ _ _,RcNeAt.int_str _ _ _ _,EqAt.int_str _ _ _ _⟩
   |t l=>obtain⟨a,j,xs,_,rfl,_,_,p,_⟩:=zu I hy ry;cases h;exact⟨RcAt.int_tuple _ _ p f,RcNeAt.int_tuple _ _ p f,EqAt.int_tuple _ _ p f⟩
   |l l=>obtain⟨a,j,xs,_,rfl,_,_,p,_⟩:=yV I hy ry;cases h;exact⟨RcAt.int_list _ _ p f,RcNeAt.int_list _ _ p f,EqAt.int_list _ _ p f⟩
  |str d =>
   obtain⟨tt,rfl⟩:=yU hx rx;cases y with
   |ref k=>cases h
   |emp=>cases h
   |exc _=>cases h
   |non=>cases vs_non hy ry;cases h;exact⟨RcAt.str_none _ _,RcNeAt.str_none _ _,EqAt.str_none _ _⟩
   |bl c=>cases vs_bl hy ry;cases h;exact⟨RcAt.str_bool _ _ _,RcNeAt.str_bool _ _ _,EqAt.str_bool _ _ _⟩
   |int c=>obtain⟨t,rfl⟩:=zS hy ry;cases h;exact⟨RcAt.str_int _ _ _ _,RcNeAt.str_int _ _ _ _,EqAt.str_int _ _ _ _⟩
   |str c=>obtain⟨t,rfl⟩:=yU hy ry;cases h;exact⟨RcAt.str_str _ _ _ _,RcNeAt.str_str _ _ _ _,EqAt.str_str _ _ _ _⟩
   |t l=>obtain⟨a,j,xs,_,rfl,_,_,p,_⟩:=zu I hy ry;cases h;exact⟨RcAt.str_tuple _ _ p f,RcNeAt.str_tuple _ _ p f,EqAt.str_tuple _ _ p f⟩
   |l l=>obtain⟨a,j,xs,_,rfl,_,_,p,_⟩:=yV I hy ry;cases h;exact⟨RcAt.str_list _ _ p f,RcNeAt.str_list _ _ p f,EqAt.str_list _ _ p f⟩
  |t d =>
   obtain⟨m,its',N,e1,rfl,E,F,i,ha⟩:=zu I hx rx;cases y with
   |ref k=>cases h
   |emp =>
    obtain⟨a,rfl,_,O⟩:=hy;cases ry;have o:=qja I O;cases h;exact⟨qi8 o i f,qlF o i f,EqAt.of_refs (qaR o i).symm (qi8 o i f)⟩
   |exc _=>cases h
   |non=>cases vs_non hy ry;cases h;exact⟨RcAt.tuple_none i f,RcNeAt.tuple_none i f,EqAt.tuple_none i f⟩
   |bl c=>cases vs_bl hy ry;cases h;exact⟨RcAt.tuple_bool _ i f,RcNeAt.tuple_bool _ i f,EqAt.tuple_bool _ i f⟩
   |int c=>obtain⟨t,rfl⟩:=zS hy ry;cases h;exact⟨RcAt.tuple_int _ _ i f,RcNeAt.tuple_int _ _ i f,EqAt.tuple_int _ _ i f⟩
   |str c=>obtain⟨t,rfl⟩:=yU hy ry;cases h;exact⟨RcAt.tuple_str _ _ i f,RcNeAt.tuple_str _ _ i f,EqAt.tuple_str _ _ i f⟩
   |t l =>
    obtain⟨a,j,xs,P,rfl,J,K,p,hb⟩:=zu I hy ry;have B:eqL (eqD n) d l=some b:=h;obtain⟨e,C,L,_⟩:=qfN S B F K E J;have U:RcAt A s (.ref m) (.ref a) b:=by rw[L];exact RcAt.tuples i p f C
    have R2:RcNeAt A s (.ref m) (.ref a) (!b):=by rw[L];exact RcNeAt.tuples i p f C
    refine⟨U,R2,?_⟩;by_cases z:m=a
    .subst z
     rw[w (.ref m) b (e1 ▸ hx) (P ▸ hy) h];exact EqAt.same _
    .exact EqAt.of_refs z U
   |l l=>obtain⟨a,j,xs,_,rfl,_,_,p,_⟩:=yV I hy ry;cases h;exact⟨RcAt.tuple_list i p f,RcNeAt.tuple_list i p f,EqAt.tuple_list i p f⟩
  |l d =>
   obtain⟨m,its',N,e1,rfl,E,F,i,ha⟩:=yV I hx rx;cases y with
   |ref k=>cases h
   |emp=>cases h
   |exc _=>cases h
   |non=>cases vs_non hy ry;cases h;exact⟨RcAt.list_none i f,RcNeAt.list_none i f,EqAt.list_none i f⟩
   |bl c=>cases vs_bl hy ry;cases h;exact⟨RcAt.list_bool _ i f,RcNeAt.list_bool _ i f,EqAt.list_bool _ i f⟩
   |int c=>obtain⟨t,rfl⟩:=zS hy ry;cases h;exact⟨RcAt.list_int _ _ i f,RcNeAt.list_int _ _ i f,EqAt.list_int _ _ i f⟩
   |str c=>obtain⟨t,rfl⟩:=yU hy ry;cases h;exact⟨RcAt.list_str _ _ i f,RcNeAt.list_str _ _ i f,EqAt.list_str _ _ i f⟩
   |t l=>obtain⟨a,j,xs,_,rfl,_,_,p,_⟩:=zu I hy ry;cases h;exact⟨RcAt.list_tuple i p f,RcNeAt.list_tuple i p f,EqAt.list_tuple i p f⟩
   |l l =>
    obtain⟨a,j,xs,P,rfl,J,K,p,hb⟩:=yV I hy ry;have B:(if d.length=l.length then eqL (eqD n) d l else some false)=some b:=h;have la:d.length=its'.length:=F.length.trans E.length;have lb:l.length=j.length:=K.length.trans J.length;have R:RcAt A s (.ref m) (.ref a) b/\RcNeAt A s (.ref m) (.ref a) (!b):=by
     by_cases W:d.length=l.length
     .rw [wR W]at B
      obtain⟨e,C,L,_⟩:=qfN S B F K E J;have hsz:its'.toArray.size=j.toArray.size:=by rw[wS,wS];lia
      have Q:b=(List.range its'.toArray.size).all e:=by
       rw[L,hsz];simp
      rw[Q];exact⟨RcAt.lists i p hsz f C,RcNeAt.lists i p hsz f C⟩
     .rw [wT W]at B
      cases B;have hsz:(its'.toArray.size != j.toArray.size)=true:=by
       rw[wS,wS];simp;lia
      exact⟨RcAt.lists_lengths i p hsz f,RcNeAt.lists_lengths i p hsz f⟩
    refine⟨R.1,R.2,?_⟩;by_cases z:m=a
    .subst z
     rw[w (.ref m) b (e1 ▸ hx) (P ▸ hy) h];exact EqAt.same _
    .exact EqAt.of_refs z R.1
end
section
variable{X:Cx}
theorem Dens.rep{ι:01}{H:Hp}{ds:List D}{xs:List V}(h:Dens ι H ds xs):∀k:Nat,Dens ι H (List.replicate k ds).flatten (List.replicate k xs).flatten
 |0=>by simp[Dens]
 |k+1=>by
  simp only[vL,uA];exact h.append (Dens.rep h k)
theorem qfO:OpR X (binaryOp .Add) (λx y H Q=>∃a b xs ys,x=.ref a/\y=.ref b/\H a=some (.t xs)/\H b=some (.t ys)/\xs.length+ys.length<=sizeLine /\
  (xs=[]->Q (.ref b) H)/\(xs≠[]->ys=[]->Q (.ref a) H)/\(xs≠[]->ys≠[]->∀p,H p=none->Q (.ref p) (upd H p (.t (xs++ys))))):=by
 intro pins s E H x y v u Q I r w h;obtain⟨a,b,xs,ys,rfl,rfl,ha,hb,J,K,q1,q2⟩:=h;by_cases j:xs=[]
 .subst j
  cases r;cases w;obtain⟨l,r1,L,_⟩:=yT I ha;obtain⟨c,r2,M,_⟩:=yT I hb;obtain⟨⟨cls,N,data,sl⟩,A,B,n,hd⟩:=id L;obtain⟨⟨C,m,o,q⟩,d,f,O,i⟩:=id M;simp only at B hd f i;subst B hd f i;have P:l=[]:=r1.nil_iff.mpr rfl;subst P;exact concat_meets ⟨_,A,rfl⟩ ⟨_,d,rfl⟩ noFill_tuple_add seq_tuple_add xZ xP (xI _ _)
   (tuple_addW0 a b _ c.toArray n O N m sl q (by simp)) ⟨A,d,⟨.ref b,H,I,rfl,K rfl⟩⟩
 .exact qhM pins s E H _ _ v u Q I r w ⟨a,b,xs,ys,rfl,rfl,.inl (.inl ha),.inl (.inl hb),j,J,q1 j,q2 j⟩
theorem qhS(o:BOp):OpR X (binaryOp (opOf o)) (G2 λx y S=>ofO (binD o x y S) S):=by
 intro pins s n H x y v u Q I w A h;obtain⟨ι,S,dx,O,st,B,C,p⟩:=h;obtain⟨d,e,q⟩:=Pst.ofO p st;have E:∀v,Den ι H d v->Q v H:=λv L=>q v ι H (Stp.refl _ _) st L
 unfold binD at e;split at e
 .rename_i i j
  cases (show x=_ from B);cases (show y=_ from C);cases hb:binI o i j with
  |none=>rw[hb]at e;cases e
  |some r =>
   rw[hb]at e;cases e;exact qj3 o pins s n H _ _ v u Q I w A ⟨i,j,r,rfl,rfl,hb,E _ rfl⟩
 .rename_i a b
  cases o <;> try (cases e;done)
  dsimp only at e;split at e
  .rename_i c
   cases e;cases (show x=_ from B);cases (show y=_ from C);exact qcV pins s n H _ _ v u Q I w A ⟨a,b,rfl,rfl,c,E _ rfl⟩
  .cases e
 .rename_i a b
  cases o <;> try (cases e;done)
  dsimp only at e;split at e
  .rename_i c
   cases e;obtain⟨l,xs,rfl,J,f,d1⟩:=B;obtain⟨m,ys,rfl,M,F,d2⟩:=C;have K:xs.length+ys.length<=sizeLine:=by
    have:=vM c;rw[d1.length,d2.length]at this;exact this
   refine qfO pins s n H _ _ v u Q I w A ⟨l,m,xs,ys,rfl,rfl,f,F,K,λz=>?_,λ_ z=>?_,λ_ _=>zt st (d1.append d2) q⟩
   .subst z
    have:a=[]:=wt.mp (by rw[d1.length];rfl);subst this;exact E _ ⟨m,ys,rfl,M,F,by simpa using d2⟩
   .subst z
    have:b=[]:=wt.mp (by rw[d2.length];rfl);subst this;exact E _ ⟨l,xs,rfl,J,f,by simpa using d1⟩
  .cases e
 .rename_i a k
  cases o <;> try (cases e;done)
  dsimp only at e;split at e
  .rename_i c
   cases e;obtain⟨l,xs,rfl,J,f,d1⟩:=B;cases (show y=_ from C);obtain⟨c1,c2,c3⟩:=vM c;refine qhR pins s n H _ _ v u Q I w A ⟨l,k,xs,rfl,rfl,.inl (.inl f),c1,c2,by rw[<-d1.length];exact c3,λz=>?_,λ_=>zt st (d1.rep _) q⟩;have N:rep a k=a:=by
    unfold rep;rcases z with z|z
    .subst z
     have:a=[]:=wt.mp (by rw[d1.length];rfl);subst this;simp
    .subst z;simp
   rw[N]at E;exact E _ ⟨l,xs,rfl,J,f,d1⟩
  .cases e
 .rename_i k _ _
  cases o <;> try (cases e;done)
  dsimp only at e;split at e
  .rename_i a ha
   split at e
   .rename_i c
    cases e;obtain⟨l,xs,rfl,f,d1⟩:=qP st ha B;cases (show y=_ from C);obtain⟨c1,c2,c3⟩:=vM c;exact qdH pins s n H _ _ v u Q I w A ⟨l,k,xs,rfl,rfl,f,c1,c2,by rw[<-d1.length];exact c3,zb (m:=false) st (d1.rep _) q⟩
   .cases e
  .cases e
 .cases o <;> try (cases e;done)
  dsimp only at e;split at e
  .rename_i a b ha hb
   split at e
   .rename_i c
    cases e;obtain⟨l,xs,rfl,f,d1⟩:=qP st ha B;obtain⟨m,ys,rfl,F,d2⟩:=qP st hb C;have K:xs.length+ys.length<=sizeLine:=by
     have:=vM c;rw[d1.length,d2.length]at this;exact this
    exact qdG pins s n H _ _ v u Q I w A ⟨l,m,xs,ys,rfl,rfl,f,F,K,zb (m:=false) st (d1.append d2) q⟩
   .cases e
  .cases e
theorem qhT(o:BOp):OpR X (binaryOp (opOf o)) (G2 λx y S=>binM o x y S):=by
 intro pins s f H x y v u Q I i j h;obtain⟨ι,S,dx,A,st,n,p,q⟩:=h;dsimp only at q;unfold binM at q;split at q
 .split at q
  .rename_i a b ha hb
   split at q
   .rename_i c
    obtain⟨l,xs,rfl,d,d1⟩:=qP st ha n;obtain⟨m,ys,rfl,r,d2⟩:=qP st hb p;have w:xs.length+ys.length<=sizeLine:=by
     have:=vM c;rw[d1.length,d2.length]at this;exact this
    exact qdG pins s f H _ _ v u Q I i j ⟨l,m,xs,ys,rfl,rfl,d,r,w,zb (m:=true) st (d1.append d2) q⟩
   .exact q.elim
  .exact q.elim
 .split at q
  .rename_i a k ha
   split at q
   .rename_i c
    obtain⟨l,xs,rfl,d,d1⟩:=qP st ha n;cases (show y=_ from p);obtain⟨c1,c2,c3⟩:=vM c;exact qdH pins s f H _ _ v u Q I i j ⟨l,k,xs,rfl,rfl,d,c1,c2,by rw[<-d1.length];exact c3,zb (m:=true) st (d1.rep _) q⟩
   .exact q.elim
  .exact q.elim
 .exact q.elim
theorem intsOf_eq:∀{l:List D} {m:List Int},intsOf l=some m->l=m.map .int
 |[],m,h=>by cases h;rfl
 | .int i::r,m,h=>by
  simp only[intsOf]at h;cases e:intsOf r with
  |none=>rw[e]at h;cases h
  |some a=>rw[e]at h;cases h;rw[intsOf_eq e];rfl
 | .non::_,_,h=>by cases h
 | .bl _::_,_,h=>by cases h
 | .str _::_,_,h=>by cases h
 | .t _::_,_,h=>by cases h
 | .l _::_,_,h=>by cases h
 | .emp::_,_,h=>by cases h
 | .exc _::_,_,h=>by cases h
 | .ref _::_,_,h=>by cases h
theorem dens_ints{ι:01}{H:Hp}:∀{m:List Int} {xs:List V},Dens ι H (m.map .int) xs->xs=m.map .int
 |[],xs,h=>h
 |i::m,xs,h=>by
  obtain⟨x,r,rfl,a,b⟩:=h;rw[dens_ints b,show x=_ from a];rfl
noncomputable def cOf:COp->CmpOp
 | .eq=>.Eq|.ne=>.NotEq|.lt=>.Lt|.le=>.LtE|.gt=>.Gt|.ge=>.GtE|.is=>.Is|.isn=>.IsNot|.inn=>.In|.nin=>.NotIn
theorem qaa{ι:01}{H:Hp}:∀{d:D} {v:V},flatD d=true->Den ι H d v->flatV v=true
 | .non,_,_,h=>by cases (show _=_ from h);rfl
 | .bl _,_,_,h=>by cases (show _=_ from h);rfl
 | .int _,_,_,h=>by cases (show _=_ from h);rfl
 | .str _,_,_,h=>by cases (show _=_ from h);rfl
 | .t _,_,h,_=>by cases h
 | .l _,_,h,_=>by cases h
 | .emp,_,h,_=>by cases h
 | .exc _,_,h,_=>by cases h
 | .ref _,_,h,_=>by cases h
theorem qhU{ι:01}{H:Hp}{d e:D}{v u:V}(fd:flatD d=true)(a:flatD e=true)(h:Den ι H d v)(k:Den ι H e u):eqV v u=eqF d e:=by
 cases d <;> cases e <;> first
  | (cases fd;done)
  | (cases a;done)
  | (cases (show v=_ from h);cases (show u=_ from k);simp[eqV,eqF,Bool.beq_eq_decide_eq];done)
theorem qc3{ι:01}{H:Hp}{x:D}{v:V}(a:flatD x=true)(b:Den ι H x v):∀{l:List D} {xs:List V},l.all flatD=true->Dens ι H l xs->xs.all flatV=true/\inV v xs=l.any λy=>eqF y x
 |[],xs,_,h=>by cases (show _=[]from h);exact⟨rfl,rfl⟩
 |d::l,xs,hf,h=>by
  obtain⟨y,r,rfl,c,f⟩:=h;simp only[uc,wZ]at hf;obtain⟨i1,i2⟩:=qc3 a b hf.2 f;refine⟨by simp[qaa hf.1 c,i1],?_⟩;unfold inV at i2 ⊢;rw[vq,vq,qhU hf.1 a c b,i2]
theorem zB{ι:01}{H:Hp}{S:Sr}{v:V}(st:Sto ι H S){d:D}{l:List D}(h:seqOf S d=some l)(hd:Den ι H d v):∃a xs,v=.ref a/\(Rd H a (.l xs)\/H a=some (.t xs))/\Dens ι H l xs:=by
 unfold seqOf at h;split at h
 .cases h
  obtain⟨a,xs,e,_,ha,r⟩:=hd;exact⟨a,xs,e,.inr ha,r⟩
 .obtain ⟨a,xs,e,ha,r⟩:=qP st h hd
  exact⟨a,xs,e,.inl ha,r⟩
theorem qhV{a b:Bool}{M:Model}{A:Around}{E:06}{s:Shared}{Q:06}(h:Q (.bool (a == b)) s):wpAny M A (compareOp .Is (.bool a) (.bool b)) Q E s :=
 wpAny_is_plain (by rfl) (by cases a <;> cases b <;> exact h)
theorem qfP{a b:Bool}{M:Model}{A:Around}{E:06}{s:Shared}{Q:06}(h:Q (.bool (!(a == b))) s):wpAny M A (compareOp .IsNot (.bool a) (.bool b)) Q E s :=
 wpAny_isNot_plain (by rfl) (by cases a <;> cases b <;> exact h)
theorem yt(n:Nat):∀a b:List Int,eqL (eqD (n+1)) (a.map .int) (b.map .int)=some (decide (a=b))
 |[],[]=>rfl
 |[],_::_=>rfl
 |_::_,[]=>rfl
 |a::r,b::t=>by
  rw[wU,wU,eqL,yt n r t];show some ((a == b)&&decide (r=t))=_;congr 1;rw[ww];simp
theorem jG:∀{a:List Value} {k m:List Int},IntsAre a k->IntsAre a m->k=m
 |[],k,m,h,h'=>by cases h;cases h';rfl
 |v::r,k,m,h,h'=>by
  cases h with
  |cons x t b =>
   cases h' with
   |cons y u c=>rw[jG b c]
noncomputable def hasI(h:Heap)(m:List Int)(y:Value):Bool:=@decide (∃b a,y=.ref b/\h.IsTuple b (List.toArray a)/\IntsAre a m) (Classical.propDecidable _)
theorem qfQ{h:Heap}{m:List Int}{y:Value}:hasI h m y=true ↔ ∃b a,y=.ref b/\h.IsTuple b (List.toArray a)/\IntsAre a m:=by
 unfold hasI;exact @decide_eq_true_iff _ (Classical.propDecidable _)
theorem qdI{X:Cx}{pins:04}{K:St}{H:Hp}{s:Shared}{ι:01}(I:Inv X pins K H s){A:Around}(L:A.units+20<cLine){m:List Int}{x:V}{u:Value}(M:Den ι H (.t (m.map .int)) x)(N:RelV x u):
  ∃e:Value->Bool,∀{l:List D} {ks:07} {xs:List V} {c:List Value},tupsOf l=some ks->Dens ι H l xs->Vals xs c->(∀y∈c,EqAt A s y u (e y))/\c.any e=decide (m∈ks):=by
 refine⟨hasI s.heap m,?_⟩;have one:∀{k:List Int} {v:V} {y:Value},Den ι H (.t (k.map .int)) v->RelV v y->EqAt A s y u (hasI s.heap m y)/\hasI s.heap m y=decide (k=m):=λ{k v y} i f=>by
  obtain⟨b,F,bs,_,rfl,O,bd,p,_⟩:=zu I i f;cases dens_ints bd;have J:=q8 O;have e1:hasI s.heap m (.ref b)=decide (k=m):=by
   rw[ww,qfQ,wm];constructor
   .rintro ⟨b',q,e,⟨o',j,_,n',d'⟩,P⟩
    cases e;obtain⟨o,Q,_,n,d⟩:=p;rw[Q]at j;cases j;rw[d]at d';injection d' with d1 _;have d2:F=q:=by simpa using d1
    subst d2;exact jG J P
   .rintro rfl
    exact⟨b,F,rfl,p,J⟩
  refine⟨?_,e1⟩;rw[e1];exact(ju I 20 A (.t (k.map .int)) (.t (m.map .int)) (decide (k=m)) _ _ _ _ (yt 18 k m) i M f N L).2.2
 intro l;induction l with
 |nil =>
  intro ks xs c h B f;cases h;cases (show xs=[]from B);cases f;exact⟨λy S=>(by cases S),rfl⟩
 |cons d l U =>
  intro ks xs c h B f;obtain⟨v,W,rfl,i,C⟩:=B;cases f with
  |cons r1 r2 =>
   rename_i y ys;unfold tupsOf at h;split at h
   .rename_i z;cases z
   .rename_i a r z
    injection z with Y z2;subst Y z2;cases e1:intsOf a with
    |none=>rw[e1]at h;cases h
    |some k =>
     rw[e1,wY]at h;cases e2:tupsOf l with
     |none=>rw[e2]at h;cases h
     |some kr =>
      rw[e2]at h;cases h;rw[intsOf_eq e1]at i;obtain⟨Z,o2⟩:=one i r1;obtain⟨i1,i2⟩:=U e2 C r2;refine⟨λw E=>?_,?_⟩
      .rcases wX.mp E with rfl|E
       .exact Z
       .exact i1 w E
      .rw [vq,i2,o2,ww]
       simp only[vg,wm,wX];exact⟨λz=>z.imp Eq.symm id,λz=>z.imp Eq.symm id⟩
   .cases h
theorem yG(o:COp)(hu:X.A.units+30<cLine):OpR X (compareOp (cOf o)) (G2 λx y S=>ofO ((cmpD o x y S).map .bl) S):=by
 intro pins s J H x y v u Q I j r h;obtain⟨ι,S,dx,O,st,f,B,p⟩:=h;obtain⟨d,e,q⟩:=Pst.ofO p st;obtain⟨b,eb,rfl⟩:∃b,cmpD o dx O S=some b/\d=.bl b:=by
  cases z:cmpD o dx O S with
  |none=>rw[z]at e;cases e
  |some b=>rw[z]at e;cases e;exact⟨b,rfl,rfl⟩
 clear e p;have e:=eb;clear eb;have C:Q (.bl b) H:=q (.bl b) ι H (Stp.refl _ _) st rfl;have fin:EP X pins J Q (.bool b) s:=⟨.bl b,H,I,rfl,C⟩;cases o with
 |eq=>exact(ju I 20 X.A dx O b x y v u e f B j r 00).1 _ _ _ _ fin
 |ne =>
  cases z:eqD 20 dx O with
  |none=>simp only[cmpD,z]at e;cases e
  |some c =>
   simp only[cmpD,z]at e;cases e;exact(ju I 20 X.A dx O c x y v u z f B j r 00).2.1 _ _ _ _ fin
 |lt =>
  simp only[cmpD]at e;split at e
  .cases (show x=_ from f);cases (show y=_ from B);cases e
   exact qlv pins s J H _ _ v u Q I j r ⟨_,_,rfl,rfl,C⟩
  .split at e
   .rename_i m n hm hn
    cases e;cases intsOf_eq hm;cases intsOf_eq hn;obtain⟨Y,xs,rfl,_,K,d1⟩:=f;obtain⟨Z,ys,rfl,_,L,d2⟩:=B;cases dens_ints d1;cases dens_ints d2;exact qjU 00 pins s J H _ _ v u Q I j r ⟨Y,Z,m,n,rfl,rfl,.inl (.inl K),.inl (.inl L),C⟩
   .cases e
  .cases e
 |le =>
  simp only[cmpD]at e;split at e
  .cases (show x=_ from f);cases (show y=_ from B);cases e
   exact qlw pins s J H _ _ v u Q I j r ⟨_,_,rfl,rfl,C⟩
  .cases e
 |gt =>
  simp only[cmpD]at e;split at e
  .cases (show x=_ from f);cases (show y=_ from B);cases e
   exact qlx pins s J H _ _ v u Q I j r ⟨_,_,rfl,rfl,C⟩
  .cases e
 |ge =>
  simp only[cmpD]at e;split at e
  .cases (show x=_ from f);cases (show y=_ from B);cases e
   exact qly pins s J H _ _ v u Q I j r ⟨_,_,rfl,rfl,C⟩
  .split at e
   .rename_i m n hm hn
    cases e;cases intsOf_eq hm;cases intsOf_eq hn;obtain⟨Y,xs,rfl,_,K,d1⟩:=f;obtain⟨Z,ys,rfl,_,L,d2⟩:=B;cases dens_ints d1;cases dens_ints d2;exact qj0 00 pins s J H _ _ v u Q I j r ⟨Y,Z,m,n,rfl,rfl,.inl (.inl K),.inl (.inl L),C⟩
   .cases e
  .cases e
 |is =>
  simp only[cmpD]at e;split at e
  .cases (show y=_ from B)
   refine qjO pins s J H _ _ v u Q I j r ⟨rfl,?_⟩;cases dx <;> simp only[Option.some.injEq]at e <;> subst e <;> first
    | (cases (show x=_ from f);exact C)
    | (obtain⟨a,_,rfl,_⟩:=f;exact C)
    | (obtain⟨a,rfl,_⟩:=f;exact C)
  .split at e
   .cases (show x=_ from f);cases (show y=_ from B);cases e
    cases j;cases r;exact qhV fin
   .cases (show x=_ from f);cases (show y=_ from B);cases e
    cases j;cases r;exact wpAny_is_other (by rfl) (by intro z;cases z) fin
   .cases e
  .cases e
 |isn =>
  simp only[cmpD]at e;split at e
  .cases (show y=_ from B)
   refine qhE pins s J H _ _ v u Q I j r ⟨rfl,?_⟩;cases dx <;> simp only[Option.some.injEq]at e <;> subst e <;> first
    | (cases (show x=_ from f);exact C)
    | (obtain⟨a,_,rfl,_⟩:=f;exact C)
    | (obtain⟨a,rfl,_⟩:=f;exact C)
  .split at e
   .cases (show x=_ from f);cases (show y=_ from B);cases e
    cases j;cases r;exact qfP fin
   .cases (show x=_ from f);cases (show y=_ from B);cases e
    cases j;cases r;exact wpAny_isNot_other (by rfl) (by intro z;cases z) fin
   .cases e
  .cases e
 |inn =>
  simp only[cmpD]at e;cases z:seqOf S O with
  |none=>rw[z]at e;cases e
  |some l =>
   rw[z]at e;have e:inD dx l=some b:=e;unfold inD at e;split at e
   .rename_i M
    simp only[wZ]at M;cases e;obtain⟨a,xs,rfl,E,N⟩:=zB st z B;obtain⟨i1,i2⟩:=qc3 M.1 f M.2 N;refine qeO pins s J H _ _ v u Q I j r ⟨a,xs,rfl,E.elim (λz=>.inl (.inl z)) (λz=>.inr (.inl (.inl z))),qaa M.1 f,i1,?_⟩;rw[wT 02,i2];exact C
   .unfold inT at e
    split at e
    .rename_i aa _ _
     cases z1:intsOf aa with
     |none=>rw[z1]at e;cases e
     |some m =>
      rw[z1,wY]at e;cases z2:tupsOf l with
      |none=>rw[z2]at e;cases e
      |some ks =>
       rw[z2]at e;cases e;rw[intsOf_eq z1]at f;obtain⟨a,xs,rfl,E,N⟩:=zB st z B;obtain⟨F,W⟩:=qdI I (A:=X.A.in1) (by show X.A.units+1+20<cLine;lia) f j;cases r;rcases E with E|E
       .obtain ⟨i,P,pl,_⟩:=jt I E
        obtain⟨K,L⟩:=W z2 N P;refine SeqAt.in_listAt F pl (λw U=>K w (by simpa using U)) ?_;rw[show i.toArray.any F=i.any F by simp,L];exact fin
       .obtain ⟨i,P,pl,_⟩:=yT I E
        obtain⟨K,L⟩:=W z2 N P;refine SeqAt.in_tupleAt F pl (λw U=>K w (by simpa using U)) ?_;rw[show i.toArray.any F=i.any F by simp,L];exact fin
    .cases e
 |nin =>
  simp only[cmpD]at e;cases z:seqOf S O with
  |none=>rw[z]at e;cases e
  |some l =>
   rw[z]at e;have e:(inD dx l).map (!·)=some b:=e;unfold inD at e;split at e
   .rename_i M
    simp only[wZ]at M;cases e;obtain⟨a,xs,rfl,E,N⟩:=zB st z B;obtain⟨i1,i2⟩:=qc3 M.1 f M.2 N;refine qbd pins s J H _ _ v u Q I j r ⟨a,xs,rfl,E.elim (λz=>.inl (.inl z)) (λz=>.inr (.inl (.inl z))),qaa M.1 f,i1,?_⟩;rw[wR 02,i2];exact C
   .unfold inT at e
    split at e
    .rename_i aa _ _
     cases z1:intsOf aa with
     |none=>rw[z1]at e;cases e
     |some m =>
      rw[z1,wY]at e;cases z2:tupsOf l with
      |none=>rw[z2]at e;cases e
      |some ks =>
       rw[z2]at e;cases e;rw[intsOf_eq z1]at f;obtain⟨a,xs,rfl,E,N⟩:=zB st z B;obtain⟨F,W⟩:=qdI I (A:=X.A.in1) (by show X.A.units+1+20<cLine;lia) f j;cases r;rcases E with E|E
       .obtain ⟨i,P,pl,_⟩:=jt I E
        obtain⟨K,L⟩:=W z2 N P;refine SeqAt.notIn_listAt F pl (λw U=>K w (by simpa using U)) ?_;rw[show i.toArray.any F=i.any F by simp,L];exact fin
       .obtain ⟨i,P,pl,_⟩:=yT I E
        obtain⟨K,L⟩:=W z2 N P;refine SeqAt.notIn_tupleAt F pl (λw U=>K w (by simpa using U)) ?_;rw[show i.toArray.any F=i.any F by simp,L];exact fin
    .cases e
end
section
variable{X:Cx}{pos:Pos}
theorem qhW{ι:01}{H:Hp}{S:Sr}{K:PySem.W.Frag}(st:Sto ι H S){d:D}{v:V}{b:Bool}(h:truD S d=some b)(hd:Den ι H d v):TruV K v H b:=by
 have f:∀{l:List D},lstOf S d=some l->b=(!l.isEmpty)->TruV K v H b:=λ{l} hl hb=>by
  obtain⟨a,xs,rfl,m,j⟩:=qP st hl hd;refine .inl ⟨xs,.inl m,?_⟩;rw[hb];have:=j.length;cases l <;> cases xs <;> first|rfl|(simp at this;done)
 cases d with
 |non=>cases h;cases (show v=_ from hd);exact(rfl:false=false)
 |bl c=>cases h;cases (show v=_ from hd);exact(show b=b from rfl)
 |int i=>cases h;cases (show v=_ from hd);exact(rfl:(i != 0)=(i != 0))
 |str x =>
  cases (show v=_ from hd);simp only[truD]at h;split at h
  .cases h;exact⟨by assumption,rfl⟩
  .cases h
 |t l =>
  cases h;obtain⟨a,xs,rfl,_,ha,j⟩:=hd;refine .inr (.inl ⟨xs,.inl (.inl ha),?_⟩);have:=j.length;cases l <;> cases xs <;> first|rfl|(simp at this;done)
 |emp =>
  cases h;obtain⟨a,rfl,_,ha⟩:=hd;exact .inr (.inr ⟨[],ha,rfl⟩)
 |l l =>
  simp only[truD,lstOf,wg,Option.some.injEq]at h;exact f rfl h.symm
 |exc C=>simp[truD,lstOf]at h
 |ref n =>
  simp only[truD]at h;cases z:lstOf S (.ref n)with
  |none=>rw[z]at h;cases h
  |some l=>rw[z]at h;cases h;exact f z rfl
noncomputable def mVal(m:05):En->Sr->Res Bool:=λρ S=>(m ρ S).bind λx S1=>ofO (truD S1 x) S1
theorem qj4{e:Expr}{m:05}(h:PE X e (T m))(d:∀c,isTrue e X.env c=(do let v <-c;standAt e.pos;holding [v] (truthy v))):PT X e (TB (mVal m)) :=
 PTimp (qft h d) λl H Q f=>TG.b1 f λι S ρ a b i n st j p=>by
  obtain⟨k,e1,q⟩:=Pst.ofO p st;exact⟨k,qhW st e1 j,q k ι i (Stp.refl _ _) st rfl⟩
def IsB(m:05):Prop:=∀ρ S d a,m ρ S=.ok d a->∃c,d=.bl c
theorem toTest{m:05}(hb:IsB m){i:St}{H:Hp}{Q:Bool->Hp->Prop}(l:TB (mVal m) i H Q):tTest (T m) i H Q:=by
 obtain⟨ι,S,ρ,n,st,p⟩:=l;refine⟨ι,S,ρ,n,st,?_⟩;dsimp only[mVal]at p ⊢;cases z:m ρ S with
 |no=>rw[z]at p;exact p
 |err x j=>rw[z]at p;exact p
 |ok d j =>
  rw[z]at p;obtain⟨c,rfl⟩:=hb ρ S d j z;intro b a H' s' f h;cases (show b=_ from h);exact⟨c,rfl,p c a H' s' f rfl⟩
theorem qhX{a mb:05}{g:D->D->Sr->Option Bool}:IsB (λρ S=>(a ρ S).bind λx S1=>(mb ρ S1).bind λy S2=>ofO ((g x y S2).map D.bl) S2):=by
 intro ρ S d b z;dsimp only at z;cases z1:a ρ S with
 |no=>rw[z1]at z;cases z
 |err=>rw[z1]at z;cases z
 |ok x S1 =>
  rw[z1,Res.bind_ok]at z;cases z2:mb ρ S1 with
  |no=>rw[z2]at z;cases z
  |err=>rw[z2]at z;cases z
  |ok y S2 =>
   rw[z2,Res.bind_ok]at z;cases z3:g x y S2 with
   |none=>rw[z3]at z;cases z
   |some c=>rw[z3]at z;cases z;exact⟨c,rfl⟩
theorem qj5{a b:Expr}{op:CmpOp}{c mb:05}{g:D->D->Sr->Option Bool}(d:OpR X (compareOp op) (G2 λx y S=>ofO ((g x y S).map D.bl) S))(ha:PE X a (T c))(hb:PE X b (T mb))(hm:behindInMarks op b=false):
  PT X (.Compare a [op] [b] pos) (TB (mVal λρ S=>(c ρ S).bind λx S1=>(mb ρ S1).bind λy S2=>ofO ((g x y S2).map D.bl) S2)) :=
 PTimp (qhG d ha hb hm) λh H Q f=>T2 (toTest qhX f)
noncomputable def mChain(g g':D->D->Sr->Option Bool)(a mb b:05):En->Sr->Res D:=λρ S=>(a ρ S).bind λx S1=>(mb ρ S1).bind λy S2=>match g x y S2 with
 |some true=>(b ρ S2).bind λz S3=>ofO ((g' y z S3).map D.bl) S3
 |some false=>.ok (.bl false) S2
 |none=>.no
theorem qdJ{w mb A:05}{g g':D->D->Sr->Option Bool}{B:St}{H:Hp}{Q:VK}(h:T (mChain g g' w mb A) B H Q):
  tChain (G2 λx y S=>ofO ((g x y S).map D.bl) S) (G2 λx y S=>ofO ((g' x y S).map D.bl) S) (T w) (T mb) (T A) B H Q:=by
 refine TG.b1 h λι S ρ a b N C st E p=>Pst.tg p C st λd S2 m H2 b2 s2 n o f i=>?_
 refine⟨m,S2,a,d,o,Den.mono s2 a E,f,?_⟩;cases z:g a d S2 with
 |none=>rw[z]at i;exact i.elim
 |some c =>
  rw[z]at i;show Pst Den (ofO (Option.map D.bl (g a d S2)) S2) _ _ _;rw[z];intro v q H3 l j F;cases (show v=_ from F);refine⟨c,rfl,?_⟩;cases c with
  |false=>rw[wT 02];exact i _ q H3 l j rfl
  |true =>
   rw[wR rfl];refine Pst.tg (ρ:=ρ) (Pst.from i l) (n.mono l) j λI J r O P K L s u M=>?_
   exact⟨r,J,d,I,s,Den.mono (l.trans K) d f,u,M⟩
theorem qeW{a mb b:05}{g g':D->D->Sr->Option Bool}:IsB (mChain g g' a mb b):=by
 intro ρ S d f z;dsimp only[mChain]at z;cases z1:a ρ S with
 |no=>rw[z1]at z;cases z
 |err=>rw[z1]at z;cases z
 |ok x S1 =>
  rw[z1,Res.bind_ok]at z;cases z2:mb ρ S1 with
  |no=>rw[z2]at z;cases z
  |err=>rw[z2]at z;cases z
  |ok y S2 =>
   rw[z2,Res.bind_ok]at z;cases z3:g x y S2 with
   |none=>rw[z3]at z;cases z
   |some c =>
    rw[z3]at z;cases c with
    |false=>cases z;exact⟨_,rfl⟩
    |true =>
     dsimp only at z;cases z4:b ρ S2 with
     |no=>rw[z4]at z;cases z
     |err=>rw[z4]at z;cases z
     |ok w S3 =>
      rw[z4,Res.bind_ok]at z;cases z5:g' y w S3 with
      |none=>rw[z5]at z;cases z
      |some c=>rw[z5]at z;cases z;exact⟨_,rfl⟩
theorem qhY{a b c:Expr}{op d:CmpOp}{h mb i:05}{g g':D->D->Sr->Option Bool}(j:OpR X (compareOp op) (G2 λx y S=>ofO ((g x y S).map D.bl) S))(f:OpR X (compareOp d) (G2 λx y S=>ofO ((g' x y S).map D.bl) S))(ha:PE X a (T h))(hb:PE X b (T mb))(l:PE X c (T i))(hm:lastMarks [op,d] [b,c]=false):PE X (.Compare a [op,d] [b,c] pos) (T (mChain g g' h mb i)) :=
 PEimp (qfr j f ha hb l hm) λm H Q=>qdJ
theorem qfR{a b c:Expr}{op d:CmpOp}{h mb i:05}{g g':D->D->Sr->Option Bool}(j:OpR X (compareOp op) (G2 λx y S=>ofO ((g x y S).map D.bl) S))(f:OpR X (compareOp d) (G2 λx y S=>ofO ((g' x y S).map D.bl) S))(ha:PE X a (T h))(hb:PE X b (T mb))(l:PE X c (T i))(hm:lastMarks [op,d] [b,c]=false):PT X (.Compare a [op,d] [b,c] pos) (TB (mVal (mChain g g' h mb i))) :=
 PTimp (qfs j f ha hb l hm) λn H Q m=>qdJ (toTest qeW m)
theorem qlL{a:Expr}{b:Expr}{rest:List Expr}{c mb:En->Sr->Res Bool}(ha:PT X a (TB c))(hb:PW X (.BoolOp .Or (b::rest) pos) (TB mb)):
  PW X (.BoolOp .Or (a::b::rest) pos) (TB λρ S=>(c ρ S).bind λt S1=>if t then .ok true S1 else mb ρ S1):=λd pins s f H Q I h=>by
 refine qlr ha hb d pins s f H Q I (TG.b1 h λι S ρ x y i j st l p=>?_);cases (show x=y from l);cases x with
 |true=>rw[wR rfl];exact p true ι i (Stp.refl _ _) st rfl
 |false=>rw[wT 02];exact⟨ι,S,ρ,j,st,p⟩
theorem qj6{a:Expr}{b:En->Sr->Res Bool}(ha:PT X a (TB b)):PT X (.UnaryOp .Not a pos) (TB λρ S=>(b ρ S).bind λt S1=>.ok (!t) S1) :=
 PTimp (qjB ha) λh H Q c=>TG.b1 c λι S ρ x y d i st f p=>by
  cases (show x=y from f);exact p _ ι d (Stp.refl _ _) st rfl
theorem qlM{a:Expr}{b:Expr}{rest:List Expr}{d mb:05}(ha:PE X a (T d))(hb:PE X (.BoolOp .And (b::rest) pos) (T mb)):
  PE X (.BoolOp .And (a::b::rest) pos) (T λρ S=>(d ρ S).bind λx S1=>match x with|.bl true=>mb ρ S1|.bl false=>.ok (.bl false) S1|_=>.no) :=
 PEimp (qjD ha hb) λl H Q f=>TG.b1 f λι S ρ x y h i st j p=>by
  cases x with
  |bl c =>
   cases (show y=_ from j);refine⟨c,rfl,?_⟩;cases c with
   |true=>rw[wR rfl];exact⟨ι,S,ρ,i,st,p⟩
   |false=>rw[wT 02];exact p _ ι h (Stp.refl _ _) st rfl
  |_=>exact p.elim
theorem qlN{a:Expr}{d:05}(ha:PE X a (T d)):PE X (.UnaryOp .Not a pos) (T λρ S=>(d ρ S).bind λx S1=>match x with|.bl b=>.ok (.bl (!b)) S1|_=>.no) :=
 PEimp (qjE ha) λj H Q f=>TG.b1 f λι S ρ x y h l st i p=>by
  cases x with
  |bl c =>
   cases (show y=_ from i);exact⟨c,rfl,p _ ι h (Stp.refl _ _) st rfl⟩
  |_=>exact p.elim
theorem qlO{a:Expr}{b:05}(ha:PE X a (T b)):PE X (.UnaryOp .USub a pos) (T λρ S=>(b ρ S).bind λx S1=>match x with|.int i=>.ok (.int (-i)) S1|_=>.no) :=
 PEimp (qlu qjN ha) λh H Q c=>TG.b1 c λι S ρ x y d j st f p=>by
  cases x with
  |int i =>
   cases (show y=_ from f);exact⟨i,rfl,p _ ι d (Stp.refl _ _) st rfl⟩
  |_=>exact p.elim
theorem qlP{es:List Expr}{k:Nat}{b:En->Sr->Res (List D)}(h:PA X es (TL b)):PE X (.Tuple es k pos) (T λρ S=>(b ρ S).bind λl S1=>if l.length<=sizeLine then .ok (.t l) S1 else .no) :=
 PEimp (qjQ h) λf H Q d=>TG.b1 d λι S ρ x y i j st c p=>by
  by_cases a:x.length<=sizeLine
  .rw [wR a]at p
   exact⟨by rw[<-c.length];exact a,zt st c p⟩
  .rw [wT a]at p;exact p.elim
theorem qlQ{es:List Expr}{m:Bool}{b:En->Sr->Res (List D)}(h:PA X es (TL b)):PE X (.List es pos) (T λρ S=>(b ρ S).bind λl S1=>if l.length<=sizeLine then newL m l S1 else .no) :=
 PEimp (qfw h) λf H Q d=>TG.b1 d λι S ρ x y i j st c p=>by
  by_cases a:x.length<=sizeLine
  .rw [wR a]at p
   exact⟨by rw[<-c.length];exact a,zb st c p⟩
  .rw [wT a]at p;exact p.elim
theorem qlR{m:Bool}:PE X (.Dict [] [] pos) (T λ_ S=>if m then .ok (.ref S.length) (S++[.dic []])else .ok .emp S):=by
 cases m with
 |true =>
  refine PEimp qfH λc H Q b=>?_
  obtain⟨ι,S,ρ,d,st,p⟩:=b;intro q a;have g:=Stp.grow (ι:=ι) a (.dT []);refine p (.ref q) _ _ g (st.grow a ⟨rfl,[],qB,rfl⟩) ⟨q,rfl,?_⟩;rw[<-st.len];simp
 |false =>
  refine PEimp qfG λc H Q b=>?_
  obtain⟨ι,S,ρ,d,st,p⟩:=b;intro q a;have g:=Stp.laid (ι:=ι) a (.dK []);exact p (.ref q) _ _ g (st.laid a _) ⟨q,rfl,st.fresh a,qB⟩
theorem key_den{ι:01}{H:Hp}{d:D}{v:V}{k:Key}(h:keyD d=some k)(hd:Den ι H d v):v=kV k:=by
 cases d <;> simp only[keyD]at h <;> cases h <;> exact hd
theorem qhZ{ι:01}{H:Hp}{l:List D}{xs:List V}{k:Int}{d:D}(a:Dens ι H l xs)(h:atI l k=some d):∃v,atI xs k=some v/\Den ι H d v:=by
 unfold atI at h ⊢;rw[<-a.length];cases z:ixN l.length k with
 |none=>rw[z]at h;cases h
 |some j =>
  rw[z]at h;exact a.get h
theorem qbY{a b:List Int}:keyT a=keyT b ↔ a=b:=by
 refine⟨λh=>?_,λh=>by rw[h]⟩;unfold keyT at h;exact(List.map_inj_right (λx y h=>Sum.inl.inj h)).mp h
theorem qdK(k:List Int):(keyT k).map kV=k.map V.int:=by
 unfold keyT;rw[wJ];rfl
theorem qbZ{κ K:Type}[DecidableEq κ][DecidableEq K]{f:κ->K}(c:∀{a b},f a=f b ↔ a=b){ι:01}{H:Hp}{k:κ}:∀{l:List (κ×D)} {kvs:List (K×V)} {d:D},DGs f ι H l kvs->lookT k l=some d->∃v,valV kvs (f k)=some v/\Den ι H d v
 |[],_,_,_,h=>by cases h
 |p::l,_,d,hk,h=>by
  obtain⟨v,r,rfl,i,m⟩:=hk;obtain⟨j,e⟩:=p;simp only[lookT]at h;by_cases z:j=k
  .rw [wR z]at h;cases h
   exact⟨v,y4 (by simp[z]),i⟩
  .rw [wT z]at h
   obtain⟨w,e1,n⟩:=qbZ c m h;exact⟨w,by rw[y6 (by simpa[c]using z)];exact e1,n⟩
theorem qdL{κ K:Type}[DecidableEq κ][DecidableEq K]{f:κ->K}(c:∀{a b},f a=f b ↔ a=b){ι:01}{H:Hp}{k:κ}:∀{l:List (κ×D)} {kvs:List (K×V)},DGs f ι H l kvs->(kvs.any λd=>decide (d.1=f k))=l.any λp=>decide (p.1=k)
 |[],_,h=>by cases (show _=[]from h);rfl
 |p::l,_,h=>by
  obtain⟨v,r,rfl,j,i⟩:=h;rw[vq,vq,qdL c i];simp[c]
theorem qb0{κ:Type}[DecidableEq κ]{k:κ}{d:D}(hd:refsLt 0 d=true):∀{l:List (κ×D)},refsLts 0 (l.map (·.2))=true->refsLts 0 ((putT k d l).map (·.2))=true:=by
 intro l c;refine qU λx f=>?_
 obtain⟨p,a,rfl⟩:=wW.mp f;unfold putT at a;split at a
 .obtain ⟨q,h,e⟩:=wW.mp a
  have b:=qQ c (wW.mpr ⟨q,h,rfl⟩);split at e
  .subst e;exact hd
  .subst e;exact b
 .rcases w9.mp a with z|z
  .exact qQ c (wW.mpr ⟨p,z,rfl⟩)
  .rw [w6.mp z];exact hd
theorem qdM{κ K:Type}[DecidableEq κ][DecidableEq K]{f:κ->K}(n:∀{a b},f a=f b ↔ a=b){ι:01}{H:Hp}{k:κ}{d:D}{v:V}(hd:Den ι H d v){l:List (κ×D)}{kvs:List (K×V)}(h:DGs f ι H l kvs):DGs f ι H (putT k d l) (putK kvs (f k) v):=by
 unfold putT putK;rw[qdL n h];split
 .rename_i j
  clear j;induction l generalizing kvs with
  |nil=>cases (show _=[]from h);exact(rfl:_=_)
  |cons p l c =>
   obtain⟨w,r,rfl,m,i⟩:=h;rw[wU,wU];by_cases z:p.1=k
   .rw [wR z,wR (by simp[z])]
    exact⟨v,_,rfl,hd,c i⟩
   .rw [wT z,wT (by simpa[n]using z)]
    exact⟨w,_,rfl,m,c i⟩
 .rename_i j
  clear j;induction l generalizing kvs with
  |nil=>cases (show _=[]from h);exact⟨v,[],rfl,hd,rfl⟩
  |cons p l c =>
   obtain⟨w,r,rfl,m,i⟩:=h;exact⟨w,_,rfl,m,c i⟩
theorem qh0(j:X.A.units+1<cLine):IxR X (λx y H Q=>∃a v,x=.ref a/\DGet H a y (some v)/\Q v H):=by
 intro b c pins s l H x y v u Q I m n h o;obtain⟨a,z,rfl,g,q⟩:=h;cases m;have i:=qbW I g;unfold subscriptTail;refine wB ?_;rw[getitemInPython_of_ne i.not_modules];refine wB (wpAny_specialOf i PySem.F.slot_dict_getitem.lookup ?_);have fin:wpAny 03 X.A (subscripted c false (.ref a) u) (λr d=>wpAny 03 X.A (letTemporaryGo b (.ref a) r >>= λ_=>pure r) (EP X pins l Q) X.xe d) X.xe s:=by
  rw[o];exact wpAny_operating (qeP j I g n λB C p f=>wB (wpAny_letTemporaryGo (wE ⟨z,H,p,f,q⟩)))
 first
  |exact wE (wB fin)
  |exact wB fin
theorem qlS{a b:Expr}{m mb:05}(r:X.A.units+1<cLine)(ha:PE X a (T m))(hb:PE X b (T mb))(f:PlainIx b):
  PE X (.Subscript a b pos) (T λρ S=>(m ρ S).bind λx S1=>(mb ρ S1).bind λy S2=>ofO (idxD S2 x y) S2) :=
 PEimp (qlA (qhN.or (qjV.or (qh0 r))) ha hb f) λL H Q s=>by
  refine TG.b1 s λι S ρ a b M u st o p=>Pst.tg p u st λN S2 h H2 b2 s2 w c i B=>?_
  obtain⟨d,e,q⟩:=Pst.ofO B c;unfold idxD at e;split at e
  .rename_i k
   cases (show b2=_ from i);cases z:seqOf S2 a with
   |none=>rw[z]at e;cases e
   |some l =>
    rw[z]at e;obtain⟨p,xs,rfl,f,C⟩:=zB c z (Den.mono s2 a o);obtain⟨v,e1,j⟩:=qhZ C e;have fin:=q v h H2 (Stp.refl _ _) c j;rcases f with f|f
    .exact .inl ⟨p,xs,k,v,rfl,rfl,.inl f,e1,fin⟩
    .exact .inr (.inl ⟨p,xs,k,v,rfl,rfl,.inl (.inl f),e1,fin⟩)
  .rename_i ks
   split at e
   .rename_i n
    split at e
    .rename_i l E
     cases z:intsOf ks with
     |none=>rw[z]at e;cases e
     |some k =>
      rw[z]at e;cases intsOf_eq z;obtain⟨p,F,hn⟩:=Den.mono s2 _ o;subst F;obtain⟨_,kvs,I,J⟩:=c.obj n p _ hn E;obtain⟨v,e1,j⟩:=qbZ qbY J e;obtain⟨b,xs,rfl,_,hb,K⟩:=i;cases dens_ints K;refine .inr (.inr ⟨p,v,rfl,?_,q v h H2 (Stp.refl _ _) c j⟩);rw[<-e1];exact DGet.t I (by rw[qdK];exact hb)
    .cases e
   .cases e
  .cases e
end
section
variable{X:Cx}{pos:Pos}
theorem qj7{ι:01}{H:Hp}{S:Sr}{K:PySem.W.Frag}(st:Sto ι H S)(t:Ty):∀{d:D} {v:V} {b:Bool},isiD S t d=some b->Den ι H d v->∃ty,TyOf K H v ty/\PySem.W.kitOne K ty (.type t.nm)=some b
 | .non,v,b,h,hd=>by
  cases (show v=_ from hd);cases h;exact⟨_,.non,by cases t <;> (first|rfl|decide +kernel)⟩
 | .bl c,v,b,h,hd=>by
  cases (show v=_ from hd);cases t <;> cases h <;> exact⟨_,.bl c,by first|rfl|decide +kernel⟩
 | .int c,v,b,h,hd=>by
  cases (show v=_ from hd);cases t <;> cases h <;> exact⟨_,.int c,by first|rfl|decide +kernel⟩
 | .str c,v,b,h,hd=>by
  cases (show v=_ from hd);cases t <;> cases h <;> exact⟨_,.str c,by first|rfl|decide +kernel⟩
 | .t l,v,b,h,hd=>by
  obtain⟨a,xs,rfl,_,ha,_⟩:=hd;cases t <;> cases h <;> exact⟨_,.t ha,by first|rfl|decide +kernel⟩
 | .l l,v,b,h,hd=>by
  obtain⟨a,xs,rfl,_,ha,_⟩:=hd;rcases ha with ha|⟨o,ha⟩
  .cases t <;> cases h <;> exact⟨_,.l ha,by first|rfl|decide +kernel⟩
  .cases t <;> cases h <;> exact⟨_,.frz ha,by first|rfl|decide +kernel⟩
 | .exc C,v,b,h,hd=>by cases h
 | .emp,v,b,h,hd=>by
  obtain⟨a,rfl,_,ha⟩:=hd;cases t <;> cases h <;> exact⟨_,.dK ha,by first|rfl|decide +kernel⟩
 | .ref n,v,b,h,hd=>by
  obtain⟨a,rfl,ha⟩:=hd;simp only[isiD]at h;split at h
  .rename_i l f
   obtain⟨_,xs,i,_⟩:=st.obj n a _ ha f;cases t <;> cases h <;> exact⟨_,.l i,by first|rfl|decide +kernel⟩
  .rename_i l f
   obtain⟨_,xs,i,_⟩:=st.obj n a _ ha f;cases t <;> cases h <;> exact⟨_,.dT i,by first|rfl|decide +kernel⟩
  .rename_i l f
   obtain⟨_,xs,i,_⟩:=st.obj n a _ ha f;cases t <;> cases h <;> exact⟨_,.dK i,by first|rfl|decide +kernel⟩
  .cases h
theorem qfS:CallR X (.builtin "isinstance") (λxs H Q=>∃x n ty b,xs=[x,.ty n]/\TyOf X.K H x ty/\PySem.W.kitOne X.K ty (.type n)=some b/\Q (.bl b) H):=by
 intro pins s d H xs us Q I r h;obtain⟨x,n,ty,b,rfl,a,c,q⟩:=h;obtain⟨u,f,rfl,r1,r2⟩:=vals2 r;cases r2;exact qeL I r1 a c λtk=>⟨.bl b,H,I.tok _,rfl,q⟩
theorem qh1(t:Ty):bootBuiltins (Str.ofString t.nm)=some (.type t.nm):=by cases t <;> decide +kernel
theorem qfT:bootBuiltins "isinstance"=some (.builtin "isinstance"):=by decide +kernel
theorem qlT{a:Expr}{p f:Pos}{m:05}{t:Ty}(n:Gl X "isinstance")(hm:X.mg "isinstance"=none)(hgt:Gl X (Str.ofString t.nm))(h:X.mg (Str.ofString t.nm)=none)(ha:PE X a (T m))(l:starEach [a,.Name (Str.ofString t.nm) f] X.env=(false,eval a X.env)::starEach [.Name (Str.ofString t.nm) f] X.env)(i:starEach [.Name (Str.ofString t.nm) f] X.env=(false,eval (.Name (Str.ofString t.nm) f) X.env)::starEach [] X.env)(j:(backTo pos (starEach [.Name (Str.ofString t.nm) f] X.env)).any (·.1)=false):
  PE X (.Call (.Name "isinstance" p) [a,.Name (Str.ofString t.nm) f] [] pos) (T λρ S=>(m ρ S).bind λx S1=>ofO ((isiD S1 t x).map .bl) S1):=by
 have hn:(Str.ofString t.nm)≠"__name__":=by cases t <;> decide
 have hd:((Str.ofString t.nm) == ("__debug__":Str))=false:=by cases t <;> decide
 have o:PE X (.Name (Str.ofString t.nm) f) (λ_ H Q=>Q (.ty t.nm) H):=qhA (v:=.ty t.nm) hgt h (qh1 t) rfl hn hd;refine PEimp (qbT qfS n hm qfT (jO ha (jO o qbb i) l) 02 02 l j) λA H Q r=>?_
 refine TG.b1 r λι S ρ a b s B st u p=>?_
 obtain⟨d,e,q⟩:=Pst.ofO p st;cases z:isiD S t a with
 |none=>rw[z]at e;cases e
 |some c =>
  rw[z]at e;cases e;obtain⟨ty,w,y⟩:=qj7 (K:=X.K) st t z u;exact⟨b,t.nm,ty,c,rfl,w,y,q _ ι s (Stp.refl _ _) st rfl⟩
theorem Dens.cut{ι:01}{H:Hp}{l:List D}{xs:List V}(h:Dens ι H l xs)(lo hi:Option Int):Dens ι H (cutD l lo hi) (cutV xs lo hi):=by
 unfold cutD cutV;rw[h.length];exact(h.drop _).take _
theorem qfU{e:Expr}{m:05}(h:PE X e (T m)):PO X (some e) (TOp λρ S=>(m ρ S).bind λx S1=>match x with|.int i=>.ok (some i) S1|_=>.no):=by
 intro pins s c H Q I d;refine qhL h pins s c H Q I (TG.b1 d λι S ρ a b f l st j p=>?_);cases a with
 |int i =>
  cases (show b=_ from j);exact⟨i,rfl,p _ ι f (Stp.refl _ _) st rfl⟩
 |_=>exact p.elim
theorem qfV:PO X none (TOp λ_ S=>.ok none S):=by
 intro pins s a H Q I b;obtain⟨ι,S,ρ,c,st,p⟩:=b;exact qhK pins s a H Q I (p _ ι H (Stp.refl _ _) st rfl)
theorem qlU{e:Expr}{lo hi:Option Expr}{o:Pos}{m:05}{B C:En->Sr->Res (Option Int)}(E:PE X e (T m))(F:PO X lo (TOp B))(I:PO X hi (TOp C)):
  PE X (.Subscript e (.Slice lo hi none o) pos) (T λρ S=>(m ρ S).bind λx S1=>(B ρ S1).bind λl S2=>(C ρ S2).bind λh S3=>ofO (slcD S3 x l h) S3) :=
 PEimp (qfz (qhO.or (qjT.or qhQ)) E F I) λσ H Q J=>by
  refine TG.b1 J λι S ρ a b H1 K st L p=>Pst.tg p K st λr S2 M H2 N s2 s u v o=>Pst.tg o s u λw S3 y H3 O P U f A W=>?_
  cases (show r=N from v);cases (show w=O from A);obtain⟨d,e,q⟩:=Pst.ofO W f;have j:=Den.mono (s2.trans P) a L;unfold slcD at e;split at e
  .rename_i l
   cases e;obtain⟨c,xs,rfl,Y,n,i⟩:=j;by_cases hn:HT.sIx xs.length 0 r=0/\HT.sIx xs.length xs.length w=xs.length
   .refine .inr (.inr ⟨c,xs,rfl,.inl (.inl n),hn,?_⟩)
    have Z:cutD l r w=l:=by
     unfold cutD;rw[i.length,hn.1,hn.2,xG,Nat.sub_zero,<-i.length,List.take_length]
    rw[Z]at q;exact q _ y H3 (Stp.refl _ _) f ⟨c,xs,rfl,Y,n,i⟩
   .exact .inr (.inl ⟨c,xs,rfl,.inl (.inl n),hn,zt f (i.cut _ _) q⟩)
  .cases z:lstOf S3 a with
   |none=>rw[z]at e;cases e
   |some l =>
    rw[z]at e;cases e;obtain⟨c,xs,rfl,n,i⟩:=qP f z j;exact .inl ⟨c,xs,rfl,.inl n,zb (m:=false) f (i.cut _ _) q⟩
def Gn(g:List D->Sr->Res D):List V->Hp->VK->Prop:=λxs H Q=>∃ι S ds,Sto ι H S/\Dens ι H ds xs/\Pst Den (g ds S) ι H Q
theorem qh2{x:Str}{id:String}{e:Expr}{es:List Expr}{p:Pos}{g:List D->Sr->Res D}{f:En->Sr->Res (List D)}(h:CallR X (.builtin id) (Gn g))(i:Gl X x)(hm:X.mg x=none)(j:bootBuiltins x=some (.builtin id))(ha:PA X (e::es) (TL f))(hn:x≠"__name__")(c:dB x)(m:sE X e es)(d:bT X es pos):
  PE X (.Call (.Name x p) (e::es) [] pos) (T λρ S=>(f ρ S).bind λl S1=>g l S1) :=
 PEimp (qbT h i hm j ha hn c m d) λq H Q n=>TG.b1 n λι S ρ a b r s st o p=>⟨ι,S,a,st,o,p⟩
theorem qfW{x:Str}{ty:String}{e:Expr}{es:List Expr}{p:Pos}{g:List D->Sr->Res D}{f:En->Sr->Res (List D)}(h:CallR X (.type ty) (Gn g))(i:Gl X x)(hm:X.mg x=none)(j:bootBuiltins x=some (.type ty))(ha:PA X (e::es) (TL f))(hn:x≠"__name__")(c:dB x)(m:sE X e es)(d:bT X es pos):
  PE X (.Call (.Name x p) (e::es) [] pos) (T λρ S=>(f ρ S).bind λl S1=>g l S1) :=
 PEimp (qeN h i hm j ha hn c m d) λq H Q n=>TG.b1 n λι S ρ a b r s st o p=>⟨ι,S,a,st,o,p⟩
noncomputable def SpD(np:Nat)(g:List D->Sr->Res D):Sp:=λvs H Q _=>vs.length=np/\∃ι S ds,Sto ι H S/\Dens ι H ds vs/\Pst Den (g ds S) ι H Q
theorem qj8{CX:CXT}{k:Nat}{f:Addr}{fd:FuncData}{ps:List Str}{g:List D->Sr->Res D}{x:Str}{p:Pos}{e:Expr}{es:List Expr}{b:En->Sr->Res (List D)}{E:XK}(F:FnOk X.prog X.w X.K X.mg X.base CX k f fd ps (SpD ps.length g))(m:Room k X.A)(n:Gl X x)(hm:X.mg x=some (.ref f))(o:PySem.W.keepIn X.K (.ref f)=true)(hb:Binds X.K fd ps [])(q:Passes CX X E)(ha:PA X (e::es) (TL b))(a:∀ρ S l r,b ρ S=.ok l r->l.length=ps.length)(c:dB x)(s:sE X e es)(d:bT X es pos):
  PE X (.Call (.Name x p) (e::es) [] pos) (T λρ S=>(b ρ S).bind λl S1=>g l S1) :=
 PEimp (qhI F m n hm o hb (dvs:=[]) .nil q ha c s d) λy H Q u=>by
  obtain⟨ι,S,ρ,v,st,p⟩:=u;refine⟨ι,S,ρ,v,st,?_⟩;dsimp only at p ⊢;cases z:b ρ S with
  |no=>rw[z]at p;exact p
  |err=>rw[z]at p;exact p
  |ok l S1 =>
   rw[z]at p;intro xs h B s1 i j;refine⟨?_,h,S1,l,i,by simpa using j,Pst.from p s1⟩;rw[vf,<-j.length];exact a ρ S l S1 z
end
section
variable{X:Cx}{pos:Pos}
theorem dens1{ι:01}{H:Hp}{d:D}{xs:List V}(h:Dens ι H [d] xs):∃x,xs=[x]/\Den ι H d x:=by
 obtain⟨x,r,rfl,a,b⟩:=h;cases (show r=[]from b);exact⟨x,rfl,a⟩
theorem dens2{ι:01}{H:Hp}{d e:D}{xs:List V}(h:Dens ι H [d,e] xs):∃x y,xs=[x,y]/\Den ι H d x/\Den ι H e y:=by
 obtain⟨x,r,rfl,a,b⟩:=h;obtain⟨y,rfl,c⟩:=dens1 b;exact⟨x,y,rfl,a,c⟩
theorem CallRimp{f:Value}{r a:List V->Hp->VK->Prop}(h:CallR X f r)(k:∀xs H Q,a xs H Q->r xs H Q):CallR X f a:=λpins s b H xs us Q I c q=>h pins s b H xs us Q I c (k xs H Q q)
theorem qbh{g:D->Sr->Res D}{ds:List D}{S:Sr}{ι:01}{H:Hp}{Q:VK}(p:Pst Den (one g ds S) ι H Q):∃d,ds=[d]/\Pst Den (g d S) ι H Q:=by
 cases ds with
 |nil=>exact(show False from p).elim
 |cons d r =>
  cases r with
  |nil=>exact⟨d,rfl,p⟩
  |cons e r=>exact(show False from p).elim
theorem qj9{g:D->D->Sr->Res D}{ds:List D}{S:Sr}{ι:01}{H:Hp}{Q:VK}(p:Pst Den (two g ds S) ι H Q):∃d e,ds=[d,e]/\Pst Den (g d e S) ι H Q:=by
 cases ds with
 |nil=>exact(show False from p).elim
 |cons d r =>
  cases r with
  |nil=>exact(show False from p).elim
  |cons e r =>
   cases r with
   |nil=>exact⟨d,e,rfl,p⟩
   |cons f r=>exact(show False from p).elim
theorem qdN{f:Value}{g:D->Sr->Res D}{r:V->Hp->VK->Prop}(h:CallR X f (λxs H Q=>∃x,xs=[x]/\r x H Q))(k:∀ι S d x H Q,Sto ι H S->Den ι H d x->Pst Den (g d S) ι H Q->r x H Q):CallR X f (Gn (one g)):=CallRimp h λxs H Q a=>by
 obtain⟨ι,S,ds,st,hd,p⟩:=a;obtain⟨d,rfl,p⟩:=qbh p
 .skip
  obtain⟨x,rfl,b⟩:=dens1 hd;exact⟨x,rfl,k ι S d x H Q st b p⟩
theorem qfX{f:Value}{g:D->D->Sr->Res D}{r:V->V->Hp->VK->Prop}(h:CallR X f (λxs H Q=>∃x y,xs=[x,y]/\r x y H Q))(k:∀ι S d e x y H Q,Sto ι H S->Den ι H d x->Den ι H e y->Pst Den (g d e S) ι H Q->r x y H Q):CallR X f (Gn (two g)):=CallRimp h λxs H Q a=>by
 obtain⟨ι,S,ds,st,hd,p⟩:=a;obtain⟨d,e,rfl,p⟩:=qj9 p
 .skip
  obtain⟨x,y,rfl,b,c⟩:=dens2 hd;exact⟨x,y,rfl,k ι S d e x y H Q st b c p⟩
theorem qlV:CallR X (.builtin "len") (Gn (one bLen)) :=
 qdN (r:=λx H Q=>(∃n,LenV X.K x H n/\Q (.int n) H)\/∃a kvs,x=V.ref a/\H a=some (.dT kvs)/\Q (.int kvs.length) H) (CallRimp (qfv.or qeU) λxs H Q ⟨x,e,h⟩=>h.elim (λ⟨n,b,i⟩=>.inl ⟨x,n,e,b,i⟩) λ⟨a,kvs,b,i,m⟩=>.inr ⟨a,kvs,by rw[e,b],i,m⟩) λι S d x H Q st f p=>by
  obtain⟨r,e,q⟩:=Pst.ofO p st;cases z:lenD S d with
  |none=>rw[z]at e;cases e
  |some n =>
   rw[z]at e;cases e;have fin:=q _ ι H (Stp.refl _ _) st rfl;cases d with
   |str y =>
    cases (show x=_ from f);simp only[lenD]at z;split at z
    .cases z;exact .inl ⟨_,⟨by assumption,rfl⟩,fin⟩
    .cases z
   |t l =>
    cases z;obtain⟨a,xs,rfl,_,ha,c⟩:=f;exact .inl ⟨_,.inr ⟨xs,.inl (.inl ha),c.length⟩,fin⟩
   |l l =>
    cases z;obtain⟨a,xs,rfl,_,ha,c⟩:=f;exact .inl ⟨_,.inl ⟨xs,.inl ha,c.length⟩,fin⟩
   |ref k =>
    simp only[lenD]at z;split at z
    .rename_i l j
     cases z;obtain⟨a,rfl,ha⟩:=f;obtain⟨_,xs,b,c⟩:=st.obj k a _ ha j;exact .inl ⟨_,.inl ⟨xs,.inl (.inl b),c.length⟩,fin⟩
    .rename_i l j
     cases z;obtain⟨a,rfl,ha⟩:=f;obtain⟨_,kvs,b,c⟩:=st.obj k a _ ha j;exact .inr ⟨a,kvs,rfl,b,by rw[<-c.length];exact fin⟩
    .cases z
    .cases z
   |_=>cases z
theorem qlW:CallR X (.builtin "abs") (Gn (one bAbs)) :=
 qdN (r:=λx H Q=>∃i,x=.int i/\Q (.int (if i<0 then -i else i)) H) (CallRimp qfu λxs H Q ⟨x,e,i,a,b⟩=>⟨i,by rw[e,a],b⟩) λι S d x H Q st c p=>by
  cases d with
  |int i=>cases (show x=_ from c);exact⟨i,rfl,p _ ι H (Stp.refl _ _) st rfl⟩
  |_=>exact p.elim
theorem qlX(a:X.calm=true):CallR X (.builtin "min") (Gn (two bMin)) :=
 qfX (r:=λx y H Q=>∃i j,x=.int i/\y=.int j/\Q (.int (if j<i then j else i)) H) (CallRimp (qeJ a) λxs H Q ⟨x,y,e,i,j,b,c,f⟩=>⟨i,j,by rw[e,b,c],f⟩) λι S d e x y H Q st h l p=>by
  cases d with
  |int i =>
   cases e with
   |int j=>cases (show x=_ from h);cases (show y=_ from l);exact⟨i,j,rfl,rfl,p _ ι H (Stp.refl _ _) st rfl⟩
   |_=>exact p.elim
  |_=>exact p.elim
theorem qlY(a:X.calm=true):CallR X (.builtin "max") (Gn (two bMax)) :=
 qfX (r:=λx y H Q=>∃i j,x=.int i/\y=.int j/\Q (.int (if j>i then j else i)) H) (CallRimp (qeI a) λxs H Q ⟨x,y,e,i,j,b,c,f⟩=>⟨i,j,by rw[e,b,c],f⟩) λι S d e x y H Q st h l p=>by
  cases d with
  |int i =>
   cases e with
   |int j=>cases (show x=_ from h);cases (show y=_ from l);exact⟨i,j,rfl,rfl,p _ ι H (Stp.refl _ _) st rfl⟩
   |_=>exact p.elim
  |_=>exact p.elim
theorem qbi:CallR X (.builtin "divmod") (λxs H Q=>∃x y,xs=[x,y]/\∃i j,x=.int i/\y=.int j/\divOk i j=true/\∀p,H p=none->Q (.ref p) (upd H p (.t [.int (i.fdiv j),.int (i.fmod j)]))):=by
 intro pins s a H xs us Q I r h;obtain⟨x,y,rfl,i,j,rfl,rfl,hd,q⟩:=h;obtain⟨u,c,rfl,⟨t,rfl⟩,⟨t',rfl⟩⟩:=vals2 r;simp only[divOk,wZ,vd,vB]at hd;refine divmod_int hd.1 ?_ (.inl hd.2);have hn:H s.heap.objs.size=none:=I.hok.fresh (wN _);refine⟨.ref s.heap.objs.size,_,?_,rfl,q _ hn⟩;refine I.laid (λb o e=>wC _ e) (wN _) ⟨by simp only[wj,vz];rw[vV];decide,[.int (i.fdiv j) s.toks,.int (i.fmod j) (s.toks+1)],.cons ⟨_,rfl⟩ (.cons ⟨_,rfl⟩ .nil),?_⟩;exact⟨⟨_,wM s.heap rfl,rfl,0,rfl⟩,yF _ _⟩
theorem qfY:CallR X (.builtin "divmod") (Gn (two bDivmod)) :=
 qfX qbi λι S d e x y H Q st a b p=>by
  cases d with
  |int i =>
   cases e with
   |int j =>
    cases (show x=_ from a);cases (show y=_ from b);simp only[bDivmod]at p;split at p
    .rename_i hd
     exact⟨i,j,rfl,rfl,hd,zt (l:=[.int (i.fdiv j),.int (i.fmod j)]) (xs:=[.int (i.fdiv j),.int (i.fmod j)]) st ⟨_,_,rfl,rfl,_,_,rfl,rfl,rfl⟩ p⟩
    .exact p.elim
   |_=>exact p.elim
  |_=>exact p.elim
theorem qka(m:Bool):CallR X (.type "list") (Gn (one (bList m))) :=
 qdN (r:=λx H Q=>∃p ys,x=.ref p/\(SqL X.K H p ys\/SqT X.K H p ys)/\∀l,H l=none->Q (.ref l) (upd H l (.l ys))) (CallRimp qbe λxs H Q ⟨x,e,p,ys,b,c,f⟩=>⟨p,ys,by rw[e,b],c,f⟩) λι S d x H Q st h p=>by
  unfold bList at p;split at p
  .rename_i l i
   obtain⟨a,xs,rfl,j,n⟩:=zB st i h;exact⟨a,xs,rfl,j.elim (λz=>.inl (.inl z)) (λz=>.inr (.inl (.inl z))),zb st n p⟩
  .exact p.elim
theorem qh3:CallR X (.type "tuple") (Gn (one bTuple)) :=
 qdN (r:=λx H Q=>∃p ys,x=.ref p/\((SqL X.K H p ys/\∀l,H l=none->Q (.ref l) (upd H l (.t ys)))\/(SqT X.K H p ys/\Q (.ref p) H))) (CallRimp qaE λxs H Q ⟨x,e,p,ys,f,h⟩=>⟨p,ys,by rw[e,f],h⟩) λι S d x H Q st c p=>by
  obtain⟨r,e,q⟩:=Pst.ofO p st;cases z:seqOf S d with
  |none=>rw[z]at e;cases e
  |some l =>
   rw[z]at e;cases e;cases d with
   |t i =>
    cases z;obtain⟨a,xs,rfl,hn,ha,b⟩:=c;exact⟨a,xs,rfl,.inr ⟨.inl (.inl ha),q _ ι H (Stp.refl _ _) st ⟨a,xs,rfl,hn,ha,b⟩⟩⟩
   |l i =>
    cases z;obtain⟨a,xs,rfl,hn,ha,b⟩:=c;exact⟨a,xs,rfl,.inl ⟨.inl ha,zt st b q⟩⟩
   |ref k =>
    obtain⟨a,xs,rfl,j,b⟩:=qP st (show lstOf S (.ref k)=some l from z) c;exact⟨a,xs,rfl,.inl ⟨.inl j,zt st b q⟩⟩
   |_=>cases z
theorem qfZ{pins:04}{p:St}{H:Hp}{s:Shared}{A:Around}{a:Addr}{xs:List V}(I:Inv X pins p H s)(r:A.handled=none)(l:Rd H a (.l xs)\/H a=some (.t xs)):
  ∃c:List Value,Vals xs c/\∀(E:06) (Q:06),
   (∀(It:Addr) (fp y:01) (m:Nat->Heap->Prop) (d:Shared),Walks X.prog X.w A It fp y c.length (λi v=>c[i]?=some v) m->m 0 d.heap->(∀b∈fp,b<d.heap.objs.size) ->
    (∀h' tk,(∀b o,b∉y->d.heap.get? b=some o->h'.get? b=some o)->Inv X pins p H {d with heap:=h',toks:=tk})->Q (.ref It) d) ->
   wpAny 03 A (pyIter (.ref a)) Q E s:=by
 have base:∀(o:Obj) (h':Heap) (tk:Nat),(∀b x,b∉[s.heap.objs.size]->(s.heap.push o).get? b=some x->h'.get? b=some x)->Inv X pins p H {s with heap:=h',toks:=tk}:=λo h' tk n =>
  I.kept λb u e=>n b u (λhm=>by rw[w6.mp hm]at e;exact vR _ (wP e)) (wC _ e)
 rcases l with l|l
 .obtain ⟨c,q,j,B⟩:=jt I l
  refine⟨c,q,λE Q k=>wpAny_pyIter_list j ?_⟩;have f:a<s.heap.objs.size:=by obtain⟨_,e,_⟩:=j;exact wP e
  have W:=Walks.list (prog:=X.prog) (w:=X.w) (A:=A) r s.heap.objs.size a (wk f) c.toArray;refine k s.heap.objs.size [s.heap.objs.size,a] [s.heap.objs.size] (λi h=>h.IsListIter s.heap.objs.size a i/\h.IsList a c.toArray) _ (by simpa using W) ⟨⟨_,wM _ rfl,rfl,rfl⟩,j.push _⟩ (λb hb=>?_) (λh' tk n=>base _ h' tk n);simp only[wX,uF,or_false]at hb;have e1:=vZ s.heap;rcases hb with rfl|rfl
  .exact xB (xT _) (e1 _).symm
  .exact xB (uR f) (e1 _).symm
 .obtain ⟨c,q,j,B⟩:=yT I l
  refine⟨c,q,λE Q k=>wpAny_pyIter_tuple j ?_⟩;have f:a<s.heap.objs.size:=by obtain⟨_,e,_⟩:=j;exact wP e
  have W:=Walks.tuple (prog:=X.prog) (w:=X.w) (A:=A) r s.heap.objs.size a (wk f) c.toArray;refine k s.heap.objs.size [s.heap.objs.size,a] [s.heap.objs.size] (λi h=>h.IsTupleIter s.heap.objs.size a i/\h.IsTuple a c.toArray) _ (by simpa using W) ⟨⟨_,wM _ rfl,rfl,rfl⟩,j.push _⟩ (λb hb=>?_) (λh' tk n=>base _ h' tk n);simp only[wX,uF,or_false]at hb;have e1:=vZ s.heap;rcases hb with rfl|rfl
  .exact xB (xT _) (e1 _).symm
  .exact xB (uR f) (e1 _).symm
theorem jH(ns:List Int):∀n,n<=ns.length->preSum (λi=>(ns[i]?).getD 0) n=(ns.take n).sum
 |0,_=>by simp[preSum]
 |n+1,h=>by
  rw[preSum,jH ns n 00,List.take_succ,x4];simp[wD (show n<ns.length by lia)]
theorem qlZ(B:X.calm=true):CallR X (.builtin "sum") (Gn (one bSum)):=by
 intro pins s Z H xs us Q I r h;obtain⟨ι,S,ds,st,hd,p⟩:=h;obtain⟨d,rfl,p⟩:=qbh p
 .skip
  obtain⟨x,rfl,C⟩:=dens1 hd;obtain⟨u,rfl,E⟩:=vals1 r;obtain⟨r0,e,q⟩:=Pst.ofO p st;cases z:seqOf S d with
  |none=>rw[z]at e;cases e
  |some l =>
   rw[z]at e;cases z2:intsOf l with
   |none=>rw[wY,z2]at e;cases e
   |some ns =>
    rw[wY,z2]at e;cases e;obtain⟨a,xs,rfl,F,J⟩:=zB st z C;cases E;obtain⟨b,f,w⟩:=qfZ (A:=X.A.in1) I (I.ok.hd B) F;cases intsOf_eq z2;cases dens_ints J;have K:IntsAre b ns:=q8 f;have L:b.length=ns.length:=K.length;refine call_sum_walkG (w _ _ λIt fp M c m W N O P=>⟨It,fp,M,_,_,c,λi=>(ns[i]?).getD 0,rfl,W,N,O,λi v o=>?_,λh' tk t' U=>?_⟩)
    .obtain ⟨j,Y⟩:=Vals.at f (wO.mp o).1
     obtain⟨e1,y⟩:=Y;rw[(wO.mp o).2]at y;rw[w5]at e1;cases z3:ns[i]? with
     |none=>rw[z3]at e1;cases e1
     |some n =>
      rw[z3]at e1;cases e1;obtain⟨t,rfl⟩:=y;exact⟨t,by simp[z3]⟩
    .rw [L,jH ns _ (wN _),List.take_length]
     exact⟨.int ns.sum,H,P h' tk U,⟨_,rfl⟩,q _ ι H (Stp.refl _ _) st rfl⟩
end
section
variable{X:Cx}{pos:Pos}
theorem Dens.erase{ι:01}{H:Hp}:∀{ds:List D} {xs:List V} (i:Nat),Dens ι H ds xs->Dens ι H (ds.eraseIdx i) (xs.eraseIdx i)
 |[],_,_,h=>by cases (show _=[]from h);exact(rfl:_=_)
 |d::ds,_,0,h=>by
  obtain⟨x,r,rfl,b,a⟩:=h;exact a
 |d::ds,_,i+1,h=>by
  obtain⟨x,r,rfl,b,a⟩:=h;exact⟨x,_,rfl,b,Dens.erase i a⟩
theorem put_lst{ι:01}{H:Hp}{S:Sr}{n:Nat}{a:Addr}{l:List D}{xs:List V}(st:Sto ι H S)(ha:ι[n]?=some a)(f:refsLts n l=true)(b:Dens ι H l xs):Stp ι H ι (upd H a (.l xs))/\Sto ι (upd H a (.l xs)) (S.set n (.l l)):=by
 have g:=Stp.put (H:=H) (wc ha) (.l xs);exact⟨g,st.put ha ⟨⟨n,ha,f⟩,xs,qB,Dens.mono g l b⟩⟩
theorem qeX{ι:01}{H:Hp}{S:Sr}{x:D}{v:V}{K:PySem.W.Frag}(st:Sto ι H S)(h:isLst S x=true)(b:Den ι H x v):tyV K "list" v H:=by
 cases x with
 |ref n =>
  obtain⟨a,rfl,ha⟩:=b;simp only[isLst]at h;split at h
  .rename_i l c
   obtain⟨_,xs,d,_⟩:=st.obj n a _ ha c;exact .inl ⟨rfl,xs,.inl (.inl d)⟩
  .cases h
 |_=>cases h
theorem qf0{o e:Expr}{name:Str}{id:String}{b:Pos}{mo me:05}{g:Sr->D->D->Res D}{r:V->List V->Hp->VK->Prop}(slot:Slot "list" name id)(i:typeOf (.builtin id)=pure (.type "method_descriptor"))(hm:MtM X id r)(q:∀ι S x y v u H Q,Sto ι H S->Den ι H x v->Den ι H y u->Pst Den (g S x y) ι H Q->r v [u] H Q)(s:PE X o (T mo))(w:PE X e (T me))(f:starEach [e] X.env=(false,eval e X.env)::starEach [] X.env)(c:attributeBase o name X.env (eval o X.env)=eval o X.env)(d:(b.endLine == pos.line)=true)(h:((backTo pos (starEach [e] X.env)).all (λx=>!x.1)&&(backToKw pos (keywordEach [] X.env)).all (λx=>x.1.isSome)&&decide ([e].length+([]:List Keyword).length+(if([]:List Keyword).isEmpty then 0 else 1)<30))=true)(a:(backTo pos (starEach [] X.env)).any (·.1)=false):
  PE X (.Call (.Attribute o name b) [e] [] pos) (T λρ S=>(mo ρ S).bind λx S1=>if isLst S1 x then(me ρ S1).bind λy S2=>g S2 x y else .no) :=
 PEimp (qlB PySem.F.plainAttrs_list slot i hm s (jO w qbb f) c h d f a) λJ H Q A=>by
  refine TG.b1 A λι S ρ x v K B st n p=>?_
  by_cases j:isLst S x=true
  .rw [wR j]at p
   refine⟨qeX st j n,Pst.tg p B st λy S2 l H2 u s2 C m E I=>?_⟩;exact q l S2 x y v u H2 Q m (Den.mono s2 x n) E I
  .rw [wT j]at p;exact p.elim
theorem ql0{ι:01}{S:Sr}{x y:D}{v u:V}{H:Hp}{Q:VK}(st:Sto ι H S)(f:Den ι H x v)(h:Den ι H y u)(p:Pst Den (popD S x y) ι H Q):rPopAt v [u] H Q:=by
 unfold popD at p;split at p
 .rename_i n k
  split at p
  .rename_i l i
   split at p
   .rename_i j
    split at p
    .rename_i d hd
     obtain⟨a,rfl,ha⟩:=f;cases (show u=_ from h);obtain⟨⟨o,q,r⟩,xs,s,c⟩:=st.obj n a _ ha i;obtain rfl:o=n:=zA st.nd q ha;obtain⟨z,e1,w⟩:=c.get hd;have A:k.toNat<xs.length:=(wO.mp e1).1;obtain⟨g,b⟩:=put_lst st ha (qU λd m=>qQ r (List.mem_of_mem_eraseIdx m)) (Dens.erase k.toNat c);refine⟨a,xs,k,k.toNat,z,rfl,rfl,s,?_,?_,?_,e1,p z ι _ g b (Den.mono g d w)⟩
     .lia
     .lia
     .exact seqIndex_of j.1 00
    .exact p.elim
   .exact p.elim
  .exact p.elim
 .exact p.elim
theorem qjb{ι:01}{S:Sr}{x y:D}{v u:V}{H:Hp}{Q:VK}(st:Sto ι H S)(f:Den ι H x v)(h:Den ι H y u)(p:Pst Den (appD S x y) ι H Q):rAppend v [u] H Q:=by
 unfold appD at p;split at p
 .rename_i n
  split at p
  .rename_i l i
   split at p
   .rename_i c
    obtain⟨a,rfl,ha⟩:=f;obtain⟨⟨j,m,o⟩,xs,q,d⟩:=st.obj n a _ ha i;obtain rfl:j=n:=zA st.nd m ha;obtain⟨g,b⟩:=put_lst st ha (by rw[yo,o];simp[refsLts,yp _ c.2]) (d.snoc h);exact⟨a,xs,u,rfl,rfl,q,by rw[<-d.length];exact c.1,p .non ι _ g b rfl⟩
   .exact p.elim
  .exact p.elim
 .exact p.elim
noncomputable def TGt(m:D->En->Sr->Res En):L2.TG:=λv a H Q=>∃ι S ρ d,EnR ι H ρ a/\Sto ι H S/\Den ι H d v/\Pst EnR (m d ρ S) ι H Q
noncomputable def TGts(m:List D->En->Sr->Res En):TGs:=λvs a H Q=>∃ι S ρ ds,EnR ι H ρ a/\Sto ι H S/\Dens ι H ds vs/\Pst EnR (m ds ρ S) ι H Q
theorem PGimp{tg:Expr}{t t':L2.TG}(h:PG X tg t)(k:∀v a H Q,t' v a H Q->t v a H Q):PG X tg t':=λpins s a H v u Q I r b=>h pins s a H v u Q I r (k v a H Q b)
theorem PGsimp{ts:List Expr}{t t':TGs}(h:PGs X ts t)(k:∀v a H Q,t' v a H Q->t v a H Q):PGs X ts t':=λpins s a H v u Q I r b=>h pins s a H v u Q I r (k v a H Q b)
theorem ql1{i:Nat}{tg:Expr}(h:PG X tg (gName i)):PG X tg (TGt λd ρ S=>.ok (ρ.set i (some d)) S):=PGimp h λv c H Q a=>by
 obtain⟨ι,S,ρ,d,b,st,hd,p⟩:=a;exact p _ ι H (Stp.refl _ _) st (b.set hd)
theorem ql2:PGs X [] (TGts λl ρ S=>match l with|[]=>.ok ρ S|_=>.no):=PGsimp qhD λvs c H Q a=>by
 obtain⟨ι,S,ρ,ds,b,st,hd,p⟩:=a;cases ds with
 |nil=>exact⟨hd,p _ ι H (Stp.refl _ _) st b⟩
 |cons=>exact p.elim
theorem qkb{e:Expr}{es:List Expr}{m:D->En->Sr->Res En}{f:List D->En->Sr->Res En}(h:PG X e (TGt m))(i:PGs X es (TGts f))(j:(assignEach (e::es) X.env).map (·.2)=assign e X.env::(assignEach es X.env).map (·.2)):
  PGs X (e::es) (TGts λl ρ S=>match l with|d::r=>(m d ρ S).bind λρ1 S1=>f r ρ1 S1|[]=>.no):=PGsimp (qfn h i j) λvs y H Q n=>by
 obtain⟨ι,S,ρ,ds,o,st,hd,p⟩:=n;cases ds with
 |nil=>exact p.elim
 |cons d r =>
  obtain⟨v,q,rfl,s,u⟩:=hd;refine⟨v,q,rfl,ι,S,ρ,d,o,st,s,Pst.bind p λρ1 S1 a A w s1 b c x=>?_⟩;exact⟨a,S1,ρ1,r,c,b,Dens.mono s1 r u,x⟩
theorem ql3{es:List Expr}{k n:Nat}{c:List D->En->Sr->Res En}(m:X.calm=true)(h:PGs X es (TGts c))(hn:(assignEach es X.env).length=n)(f:(assignEach es X.env).findIdx? (·.1)=none)(o:∀l ρ S b i,c l ρ S=.ok b i->l.length=n):PG X (.Tuple es k pos) (TGt λd ρ S=>match d with|.t l=>c l ρ S|_=>.no):=PGimp (qjG m h hn f) λv s H Q q=>by
 obtain⟨ι,S,ρ,d,r,st,hd,p⟩:=q;cases d with
 |t l =>
  obtain⟨a,xs,rfl,_,ha,j⟩:=hd;refine⟨a,xs,rfl,.inl (.inl ha),?_,ι,S,ρ,l,r,st,j,p⟩;rw[<-j.length];cases z:c l ρ S with
  |ok b i=>exact o l ρ S b i z
  |no=>simp only[z]at p;exact p.elim
  |err=>simp only[z]at p;exact p.elim
 |_=>exact p.elim
theorem qb1(b:X.A.units+1<cLine):PSet X (λo i v H Q=>∃a H',o=.ref a/\DPut H a i v H'/\Q H'):=by
 intro pins s j H o i v l m u Q I c ri d h;obtain⟨a,H',rfl,g,q⟩:=h;cases c;exact qeQ b I g ri d λn f=>⟨H',f,q⟩
theorem qf1(P:X.A.units+1<cLine){pins:04}{s:Shared}{p:St}{H:Hp}{a:Addr}{i v:V}{r B u:Value}{Q:Hp->Prop}{ι:01}{S U:Sr}{n:Nat}{y d:D}(I:Inv X pins p H s)(K:RelV (.ref a) r)(ri:RelV i B)(L:RelV v u)(st:Sto ι H S)(ha:ι[n]?=some a)(h:refsLt 0 d=true)(M:Den ι H y i)(hd:Den ι H d v)(e:putN S n y d=some U)(q:∀C H',Stp ι H C H'->Sto C H' U->Q H'):wpAny 03 X.A (setItem r B u) (λ_ s'=>∃H',Inv X pins p H' s'/\Q H') X.xe s:=by
 unfold putN at e;split at e
 .rename_i l E
  obtain⟨⟨W,Y,F⟩,xs,J,c⟩:=st.obj n a _ ha E;obtain rfl:W=n:=zA st.nd Y ha;split at e
  .rename_i k
   cases (show i=_ from M);cases z:ixN l.length k with
   |none=>rw[z]at e;cases e
   |some j =>
    rw[z]at e;cases e;obtain⟨g,N⟩:=put_lst st ha (qU λx m=>(xF m).elim (λz=>qQ F z) λz=>z ▸ yp _ h) (c.set hd j);exact qfA pins s p H _ _ v r B u Q I K ri L ⟨a,xs,k,j,rfl,rfl,J,by rw[<-c.length];exact z,q ι _ g N⟩
  .cases e
 .rename_i l E
  obtain⟨F,kvs,J,c⟩:=st.obj n a _ ha E;split at e
  .rename_i ks
   cases z:intsOf ks with
   |none=>rw[z]at e;cases e
   |some k =>
    rw[z,wY]at e;split at e
    .rename_i o
     cases e;cases intsOf_eq z;obtain⟨b,ys,rfl,_,hb,Z⟩:=M;cases dens_ints Z;have g:=Stp.put (H:=H) (wc ha) (.dT (putK kvs (keyT k) v));refine qb1 P pins s p H _ _ v r B u Q I K ri L ⟨a,_,rfl,DPut.t (k:=keyT k) J (by rw[qdK];exact hb) ?_,q ι _ g (st.put ha ⟨qb0 h F,_,qB,qdM qbY (Den.mono g d hd) (DGs.mono g c)⟩)⟩;have O:kvs.length<1000:=by rw[<-c.length];exact o
     exact w8 O (by rw[vV];decide)
    .cases e
  .cases e
 .rename_i l E
  obtain⟨F,kvs,J,c⟩:=st.obj n a _ ha E;cases z:keyD y with
  |none=>rw[z]at e;cases e
  |some k =>
   rw[z,wY]at e;split at e
   .rename_i o
    cases e;cases key_den z M;have g:=Stp.put (H:=H) (wc ha) (.dK (putK kvs k v));refine qb1 P pins s p H _ _ v r B u Q I K ri L ⟨a,_,rfl,DPut.k (k:=k) J ?_,q ι _ g (st.put ha ⟨qb0 h F,_,qB,qdM (f:=id) Iff.rfl (Den.mono g d hd) (DGs.mono g c)⟩)⟩;have O:kvs.length<1000:=by rw[<-c.length];exact o
    exact w8 O (by rw[vV];decide)
   .cases e
 .cases e
theorem qh4(j:X.A.units+1<cLine):PSet X (λo i v H Q=>∃ι S x y d f,Sto ι H S/\Den ι H x o/\Den ι H y i/\Den ι H d v/\putE S x y d=some f/\∀c H',Stp ι H c H'->Sto c H' f->Q H'):=by
 intro pins s w H o i v B C u Q I l ri m h;obtain⟨ι,S,x,y,d,f,st,p,r,hd,e,q⟩:=h;unfold putE at e;by_cases b:refsLt 0 d=true
 .rw [wR b]at e
  split at e
  .rename_i n
   obtain⟨a,rfl,ha⟩:=p;exact qf1 j I l ri m st ha b r hd e q
  .cases e
 .rw [wT b]at e;cases e
theorem ql4{o i:Expr}{mo mi:05}(r:X.A.units+1<cLine)(s:PE X o (T mo))(hi:PE X i (T mi))(ha:∀v,assign (.Subscript o i pos) X.env v=(do
   let a <-holding [v] (eval o X.env)
   let c <-holding [v,a] (eval i X.env)
   standAt pos
   holding [v,a,c] (setItem a c v)
   release [v,a,c] [])):
  PG X (.Subscript o i pos) (TGt λd ρ S=>(mo ρ S).bind λx S1=>(mi ρ S1).bind λy S2=>match putE S2 x y d with|some S3=>.ok ρ S3|none=>.no):=PGimp (qjH s hi (qh4 r) ha) λv u H Q w=>by
 obtain⟨ι,S,ρ,d,B,st,hd,p⟩:=w;refine Pst.tg (ρ:=ρ) p B st λx S1 C J K s1 f h E F=>Pst.tg (ρ:=ρ) F f h λy S2 j H2 L s2 l m I b=>?_
 cases z:putE S2 x y d with
 |none=>rw[z]at b;exact b.elim
 |some S3 =>
  rw[z]at b;exact⟨j,S2,x,y,d,S3,m,Den.mono s2 x E,I,Den.mono (s1.trans s2) d hd,z,λn H' g q=>b u n H' g q (l.mono g)⟩
def FlOk(f:Fl)(ι:01)(H:Hp)(D:Ends):Prop:=match f with
 | .nx ρ=>∀a,EnR ι H ρ a->D.nx a H
 | .bk ρ=>∀a,EnR ι H ρ a->D.bk a H
 | .ct ρ=>∀a,EnR ι H ρ a->D.ct a H
 | .rt d=>∀v,Den ι H d v->D.rt v H
def PsF(r:Res Fl)(ι:01)(H:Hp)(D:Ends):Prop:=match r with
 | .ok f b=>∀a H',Stp ι H a H'->Sto a H' b->FlOk f a H' D
 | .err _ _=>False
 | .no=>False
theorem PsF.from{r:Res Fl}{ι a:01}{H H':Hp}{D:Ends}(h:PsF r ι H D)(s:Stp ι H a H'):PsF r a H' D:=by
 cases r with
 |ok f S=>exact λb H2 t st=>h b H2 (s.trans t) st
 |err=>exact h
 |no=>exact h
theorem PsF.bind{d j:Type}{R:List Addr->Hp->d->j->Prop}{r:Res d}{f:d->Sr->Res Fl}{ι:01}{H:Hp}{D:Ends}{K:j->Hp->Prop}(h:PsF (r.bind f) ι H D)(k:∀a l c H' b,Stp ι H c H'->Sto c H' l->R c H' a b->PsF (f a l) c H' D->K b H'):Pst R r ι H K:=by
 cases r with
 |ok a S=>exact λb i H2 t st q=>k a S i H2 b t st q (PsF.from h t)
 |err=>exact h
 |no=>exact h
noncomputable def TSm(m:En->Sr->Res Fl):TS:=λD a H=>∃ι S ρ,EnR ι H ρ a/\Sto ι H S/\PsF (m ρ S) ι H D
theorem PSimp{st:Stmt}{t t':TS}(h:PS X st t)(k:∀D a H,t' D a H->t D a H):PS X st t':=λpins s a H D I b=>h pins s a H D I (k D a H b)
theorem PSsimp{st:List Stmt}{t t':TS}(h:PSs X st t)(k:∀D a H,t' D a H->t D a H):PSs X st t':=λpins s a H D I b=>h pins s a H D I (k D a H b)
theorem ql5:PSs X [] (TSm λρ S=>.ok (.nx ρ) S):=PSsimp qhB λD a H b=>by
 obtain⟨ι,S,ρ,c,st,p⟩:=b;exact p ι H (Stp.refl _ _) st a c
theorem qkc{st:Stmt}{rest:List Stmt}{m j:En->Sr->Res Fl}(l:PS X st (TSm m))(n:PSs X rest (TSm j)):
  PSs X (st::rest) (TSm λρ S=>(m ρ S).bind λf S1=>match f with|.nx ρ1=>j ρ1 S1|f=>.ok f S1):=PSsimp (qfl l n) λD s H o=>by
 obtain⟨ι,S,ρ,q,st,p⟩:=o;refine⟨ι,S,ρ,q,st,?_⟩;dsimp only at p;cases z:m ρ S with
 |no=>rw[z]at p;exact p
 |err=>rw[z]at p;exact p
 |ok f S1 =>
  rw[z]at p;intro b i s1 c;cases f with
  |nx ρ1=>exact λh a=>⟨b,S1,ρ1,a,c,PsF.from p s1⟩
  |bk ρ1=>exact λh a=>p b i s1 c h a
  |ct ρ1=>exact λh a=>p b i s1 c h a
  |rt d=>exact λv r=>p b i s1 c v r
theorem qkd{e:Expr}{m:05}(h:PE X e (T m))(i:swapsWith e none pos.line X.env=pure false):PS X (.Expr e pos) (TSm λρ S=>(m ρ S).bind λ_ S1=>.ok (.nx ρ) S1):=PSimp (qhC h i) λD j H l=>by
 obtain⟨ι,S,ρ,f,st,p⟩:=l;exact⟨ι,S,ρ,f,st,PsF.bind p λa S1 c n b s1 d q o=>o c n (Stp.refl _ _) d j (f.mono s1)⟩
theorem ql6{e:Expr}{m:05}(h:PE X e (T m)):PS X (.Return (some e) pos) (TSm λρ S=>(m ρ S).bind λd S1=>.ok (.rt d) S1):=PSimp (qjF h) λD q H i=>by
 obtain⟨ι,S,ρ,j,st,p⟩:=i;exact⟨ι,S,ρ,j,st,PsF.bind p λa S1 c l b s1 f n o=>o c l (Stp.refl _ _) f b n⟩
theorem qh5{st:Stmt}:PS X st (TSm λ_ _=>.no):=PSimp qfm λD b H a=>by
 obtain⟨ι,S,ρ,c,st,p⟩:=a;exact p
theorem s_if{c:Expr}{a b:List Stmt}{i:En->Sr->Res Bool}{j mb:En->Sr->Res Fl}(m:PT X c (TB i))(ha:PSs X a (TSm j))(hb:PSs X b (TSm mb)):
  PS X (.If c a b pos) (TSm λρ S=>(i ρ S).bind λt S1=>if t then j ρ S1 else mb ρ S1):=PSimp (qls m ha hb) λD q H n=>by
 obtain⟨ι,S,ρ,h,st,p⟩:=n;refine⟨ι,S,ρ,h,st,PsF.bind p λa S1 d r b s1 f o l=>?_⟩;cases (show a=b from o);cases a with
 |true=>rw[wR rfl];exact⟨d,S1,ρ,h.mono s1,f,l⟩
 |false=>rw[wT 02];exact⟨d,S1,ρ,h.mono s1,f,l⟩
theorem qjc{tg e:Expr}{m:05}{g:D->En->Sr->Res En}(h:PS X (.Assign [tg] e pos) (tAsg (T m) (TGt g))):
  PS X (.Assign [tg] e pos) (TSm λρ S=>(m ρ S).bind λd S1=>(g d ρ S1).bind λρ1 S2=>.ok (.nx ρ1) S2):=PSimp h λD r H n=>by
 obtain⟨ι,S,ρ,l,st,p⟩:=n;refine⟨ι,S,ρ,l,st,PsF.bind p λd S1 a s v s1 b rd o=>?_⟩;refine⟨a,S1,ρ,d,l.mono s1,b,rd,PsF.bind o λρ1 S2 c H2 f s2 i j q=>?_⟩;exact q c H2 (Stp.refl _ _) i f j
theorem qh6{c:Expr}{body:List Stmt}{o:En->Sr->Res Bool}{mb:En->Sr->Res Fl}{N:Nat}(y:PassesOwn 03 X.A X.env X.xe)(B:PT X c (TB o))(hb:PSs X body (TSm mb)):
  PS X (.While c body [] pos) (TSm λρ S=>whileLoop o mb N ρ S):=PSimp (qfo y B hb) λD x H C=>by
 obtain⟨ι,S,ρ,q,st,p⟩:=C;refine⟨λm x H=>∃ι S ρ,EnR ι H ρ x/\Sto ι H S/\PsF (whileLoop o mb m ρ S) ι H D,⟨N,ι,S,ρ,q,st,p⟩,?_⟩;rintro m x H ⟨ι,S,ρ,q,st,p⟩;cases m with
 |zero=>exact p.elim
 |succ m =>
  refine⟨ι,S,ρ,q,st,PsF.bind (show PsF ((o ρ S).bind _) ι H D from p) λa S1 r E b s1 s F i=>?_⟩;cases (show a=b from F);cases a with
  |false=>exact i r E (Stp.refl _ _) s x (q.mono s1)
  |true =>
   refine⟨λu H'=>∃ι S ρ,EnR ι H' ρ u/\Sto ι H' S/\PsF (whileLoop o mb m ρ S) ι H' D,λu H' h'=>⟨m,xT _,h'⟩,r,S1,ρ,q.mono s1,s,?_⟩;cases z:mb ρ S1 with
   |no=>simp only[z,v6]at i;exact i
   |err=>simp only[z,v6]at i;exact i
   |ok f S2 =>
    simp only[z,v6,Res.bind_ok]at i;intro j H2 s2 l;cases f with
    |nx ρ1=>exact λn h=>⟨j,S2,ρ1,h,l,PsF.from i s2⟩
    |ct ρ1=>exact λn h=>⟨j,S2,ρ1,h,l,PsF.from i s2⟩
    |bk ρ1=>exact λn h=>i j H2 s2 l n h
    |rt d=>exact λv I=>i j H2 s2 l v I
end
structure ItOk (ι:01) (H:Hp) (J:It) (ds:List D):Prop where
 go:∀(i:Nat) (d:D) (ι2:01) (H2:Hp),Stp ι H ι2 H2->ds[i]?=some d->J.go i H2/\∀x H3,J.yld i H2 x H3->Stp ι2 H2 ι2 H3/\∀S,Sto ι2 H2 S->Sto ι2 H3 S/\Den ι2 H3 d x
 stop:∀(ι2:01) (H2:Hp),Stp ι H ι2 H2->J.stop ds.length H2
def ItOk.mono{ι b:01}{H H':Hp}{J:It}{ds:List D}(h:ItOk ι H J ds)(s:Stp ι H b H'):ItOk b H' J ds :=
 ⟨λi d a H2 t e=>h.go i d a H2 (s.trans t) e,λa H2 t=>h.stop a H2 (s.trans t)⟩
def qf2{ι:01}{H:Hp}{K:PySem.W.Frag}{a:Addr}{xs:List V}{ds:List D}(n:a∉ι)(h:Rd H a (.l xs))(f:Dens ι H ds xs):ItOk ι H (Itl K a) ds where
 go:=λi d b H2 s e=>by
  obtain⟨x,e1,j⟩:=(Dens.mono s ds f).get e;obtain⟨r2,l⟩:=s.rd h n;refine⟨⟨xs,x,.inl r2,e1⟩,λy H3 c=>?_⟩;obtain⟨rfl,c⟩:=c;have:=c xs (.inl r2);rw[e1]at this;cases this;exact⟨Stp.refl _ _,λ_ z=>⟨z,j⟩⟩
 stop:=λb H2 s=>⟨xs,.inl (s.rd h n).1,Nat.le_of_eq f.length.symm⟩
def qf3{ι:01}{H:Hp}{K:PySem.W.Frag}{a:Addr}{xs:List V}{ds:List D}(n:a∉ι)(h:H a=some (.t xs))(f:Dens ι H ds xs):ItOk ι H (Itt K a) ds where
 go:=λi d b H2 s e=>by
  obtain⟨x,e1,j⟩:=(Dens.mono s ds f).get e;have r2:=s.keep _ _ h n trivial;refine⟨⟨xs,x,.inl (.inl r2),e1⟩,λy H3 c=>?_⟩;obtain⟨rfl,c⟩:=c;have:=c xs (.inl (.inl r2));rw[e1]at this;cases this;exact⟨Stp.refl _ _,λ_ z=>⟨z,j⟩⟩
 stop:=λb H2 s=>⟨xs,.inl (.inl (s.keep _ _ h n trivial)),Nat.le_of_eq f.length.symm⟩
structure ItG (ι:01) (H:Hp) (J:It) (ds:List D) (gd:Sr->Prop):Prop where
 go:∀(i:Nat) (d:D) (ι2:01) (H2:Hp) (S2:Sr),Stp ι H ι2 H2->Sto ι2 H2 S2->gd S2->ds[i]?=some d->J.go i H2/\∀x H3,J.yld i H2 x H3->Stp ι2 H2 ι2 H3/\∀S,Sto ι2 H2 S->Sto ι2 H3 S/\Den ι2 H3 d x
 stop:∀(ι2:01) (H2:Hp) (S2:Sr),Stp ι H ι2 H2->Sto ι2 H2 S2->gd S2->J.stop ds.length H2
def ItG.mono{ι b:01}{H H':Hp}{J:It}{ds:List D}{gd:Sr->Prop}(h:ItG ι H J ds gd)(s:Stp ι H b H'):ItG b H' J ds gd :=
 ⟨λi d a H2 S2 t st g e=>h.go i d a H2 S2 (s.trans t) st g e,λa H2 S2 t st g=>h.stop a H2 S2 (s.trans t) st g⟩
def ItOk.g{ι:01}{H:Hp}{J:It}{ds:List D}(h:ItOk ι H J ds):ItG ι H J ds λ_=>True :=
 ⟨λi d a H2 _ t _ _ e=>h.go i d a H2 t e,λa H2 _ t _ _=>h.stop a H2 t⟩
def qdO{ι:01}{H:Hp}{K:PySem.W.Frag}{a:Addr}{n:Nat}{l:List D}(h:ι[n]?=some a):ItG ι H (Itl K a) l (own n l) where
 go:=λi d b H2 S2 s st g e=>by
  obtain⟨_,xs,ha,c⟩:=st.obj n a _ (s.get h) g;obtain⟨x,e1,j⟩:=c.get e;refine⟨⟨xs,x,.inl (.inl ha),e1⟩,λy H3 f=>?_⟩;obtain⟨rfl,f⟩:=f;have:=f xs (.inl (.inl ha));rw[e1]at this;cases this;exact⟨Stp.refl _ _,λ_ z=>⟨z,j⟩⟩
 stop:=λb H2 S2 s st g=>by
  obtain⟨_,xs,ha,c⟩:=st.obj n a _ (s.get h) g;exact⟨xs,.inl (.inl ha),Nat.le_of_eq c.length.symm⟩
noncomputable def TIg(m:En->Sr->Res (List D×(Sr->Prop))):TI:=λb H R=>∃ι S ρ,EnR ι H ρ b/\Sto ι H S/\match m ρ S with
 | .ok p c=>∀a H' J,Stp ι H a H'->Sto a H' c->ItG a H' J p.1 p.2->R J H'
 | .err _ _=>False
 | .no=>False
noncomputable def TIt(m:En->Sr->Res (List D)):TI:=λb H R=>∃ι S ρ,EnR ι H ρ b/\Sto ι H S/\match m ρ S with
 | .ok ds c=>∀a H' J,Stp ι H a H'->Sto a H' c->ItOk a H' J ds->R J H'
 | .err _ _=>False
 | .no=>False
section
variable{X:Cx}{pos:Pos}{tg:Expr}
theorem PIimp{iter:Expr}{t t':TI}(h:PI X tg iter t)(k:∀a H R,t' a H R->t a H R):PI X tg iter t':=λpins s a H R I b=>h pins s a H R I (k a H R b)
theorem qbj{l:Expr}{tl:TE}(m:PE X l tl):PI X tg l (λi H R=>tl i H λx d=>(∃a,x=.ref a/\(∃xs,SqL X.K d a xs)/\R (Itl X.K a) d)\/(∃a,x=.ref a/\(∃xs,SqT X.K d a xs)/\R (Itt X.K a) d)):=by
 intro pins s i H R I h;refine thn (m pins s i H _ I h) λv s1 ⟨x,d,c,r1,q1⟩=>?_
 rcases q1 with ⟨a,e,⟨xs,j⟩,q⟩|⟨a,e,⟨xs,j⟩,q⟩
 .subst e
  cases r1;obtain⟨f,n,p,r⟩:=c.list j;refine wpAny_pyIter_list p.isList ?_;refine⟨s1.heap.objs.size,[s1.heap.objs.size],_,_,d,rfl,c.kept (t':=s1.toks) λb o e=>wC _ e,qeH a _,⟨_,wM _ rfl,rfl,rfl⟩,λb hb=>?_,q⟩;have e:b=s1.heap.objs.size:=by simpa using hb
  subst e;exact c.fpOk (wN _) (c.hok.fresh (wN _))
 .subst e
  cases r1;obtain⟨f,n,p,r⟩:=c.tuple j;refine wpAny_pyIter_tuple (show s1.heap.IsTuple a f.toArray from p) ?_;refine⟨s1.heap.objs.size,[s1.heap.objs.size],_,_,d,rfl,c.kept (t':=s1.toks) λb o e=>wC _ e,qcS a _,⟨_,wM _ rfl,rfl,rfl⟩,λb hb=>?_,q⟩;have e:b=s1.heap.objs.size:=by simpa using hb
  subst e;exact c.fpOk (wN _) (c.hok.fresh (wN _))
noncomputable def mSeq(m:05):En->Sr->Res (List D):=λρ S=>(m ρ S).bind λx S1=>match x with
 | .t l=>.ok l S1
 | .l l=>.ok l S1
 |_=>.no
theorem ql7{e:Expr}{m:05}(h:PE X e (T m)):PI X tg e (TIt (mSeq m)):=PIimp (qbj h) λq H R n=>by
 obtain⟨ι,S,ρ,o,st,p⟩:=n;refine⟨ι,S,ρ,o,st,?_⟩;dsimp only[mSeq]at p;cases z:m ρ S with
 |no=>rw[z]at p;exact p
 |err=>rw[z]at p;exact p
 |ok d S1 =>
  rw[z,Res.bind_ok]at p;intro v b i s1 c j;cases d with
  |t l =>
   obtain⟨a,xs,rfl,hn,ha,f⟩:=j;exact .inr ⟨a,rfl,⟨xs,.inl (.inl ha)⟩,p b i _ s1 c (qf3 hn ha f)⟩
  |l l =>
   obtain⟨a,xs,rfl,hn,ha,f⟩:=j;exact .inl ⟨a,rfl,⟨xs,.inl ha⟩,p b i _ s1 c (qf2 hn ha f)⟩
  |_=>exact p.elim
theorem qf4{iter:Expr}{body:List Stmt}{mi:En->Sr->Res (List D×(Sr->Prop))}{g:D->En->Sr->Res En}{mb:En->Sr->Res Fl}(hp:PassesOwn 03 X.A X.env X.xe)(hc:X.calm=true)(hi:PI X tg iter (TIg mi))(hg:PG X tg (TGt g))(hb:PSs X body (TSm mb))(hs:∀x,foldedSetIterable iter X.env x=pure x):
  PS X (.For tg iter body [] pos) (TSm λρ S=>(mi ρ S).bind λp S1=>endG p.2 (forLoop (λd ρ S=>(grd p.2 S (g d ρ S)).bind λρ1 S1=>mb ρ1 S1) p.1 ρ S1)):=PSimp (qjL hp hc hi hg hb hs) λD K H hw=>by
 obtain⟨ι,S,ρ,W,st,p⟩:=hw;refine⟨ι,S,ρ,W,st,?_⟩;dsimp only at p;cases z:mi ρ S with
 |no=>rw[z]at p;exact p
 |err=>rw[z]at p;exact p
 |ok dg S1 =>
  obtain⟨ds,gd⟩:=dg;rw[z,Res.bind_ok]at p;dsimp only at p;intro q Y J s1 L y;refine⟨λi m K H=>m=ds.length-i/\i<=ds.length/\∃ι S ρ,Stp q Y ι H/\EnR ι H ρ K/\Sto ι H S/\PsF (endG gd (forLoop (λd ρ S=>(grd gd S (g d ρ S)).bind λρ1 S1=>mb ρ1 S1) (ds.drop i) ρ S)) ι H D,
   ⟨_,rfl,vP _,q,S1,ρ,Stp.refl _ _,W.mono s1,L,by simpa using PsF.from p s1⟩,?_⟩
  rintro i m K H ⟨rfl,hi,ι,S,ρ,s2,B,h,j⟩;by_cases r:i<ds.length
  .have hd:ds[i]?=some ds[i]:=wD r
   rw[vw r]at j;have b:gd S:=by
    apply Classical.byContradiction;intro hn;simp only[forLoop,yq hn,Res.bind_no,endG]at j;exact j
   obtain⟨go,yl⟩:=y.go i _ ι H S s2 h b hd;refine .inr ⟨go,λC H'=>∃ι S ρ,Stp q Y ι H'/\EnR ι H' ρ C/\Sto ι H' S/\PsF (endG gd (forLoop (λd ρ S=>(grd gd S (g d ρ S)).bind λρ1 S1=>mb ρ1 S1) (ds.drop (i+1)) ρ S)) ι H' D,λC H' h'=>⟨_,by omega,rfl,r,h'⟩,λx H3 hy=>?_⟩;obtain⟨M,N⟩:=yl x H3 hy;obtain⟨k3,d3⟩:=N S h;refine⟨ι,S,ρ,ds[i],B.mono M,k3,d3,?_⟩;have s:=PsF.from j M;simp only[forLoop,zh b]at s;cases z2:g ds[i] ρ S with
   |no=>simp only[z2,endG,Res.bind_no]at s;exact s
   |err=>simp only[z2,endG,Res.bind_err]at s;exact s
   |ok E Z =>
    rw[z2,Res.bind_ok]at s;intro a0 O H4 s4 P Q;refine⟨O,Z,E,Q,P,?_⟩;have a:=PsF.from s s4;cases z3:mb E Z with
    |no=>simp only[z3,endG,Res.bind_no]at a;exact a
    |err=>simp only[z3,endG,Res.bind_err]at a;exact a
    |ok f U =>
     rw[z3,Res.bind_ok]at a;intro l H5 F n;have tot:=((s2.trans M).trans s4).trans F;cases f with
     |nx o=>exact λu c=>⟨l,U,o,tot,c,n,PsF.from a F⟩
     |ct o=>exact λu c=>⟨l,U,o,tot,c,n,PsF.from a F⟩
     |bk o =>
      by_cases I:gd U
      .simp only[endG,Res.bind_ok,zh I]at a
       exact λu c=>a l H5 F n u c
      .simp only[endG,Res.bind_ok,yq I]at a
       exact a.elim
     |rt d=>exact λv hv=>a l H5 F n v hv
  .have e:i=ds.length:=by omega
   subst e;rw[vk (wN _)]at j;have b:gd S:=by
    apply Classical.byContradiction;intro hn;simp only[forLoop,Res.bind_ok,endG,yq hn]at j;exact j
   simp only[forLoop,Res.bind_ok,endG,zh b]at j;refine .inl ⟨y.stop ι H S s2 h b,?_⟩;exact j ι H (Stp.refl _ _) h K B
theorem pi_g{iter:Expr}{mi:En->Sr->Res (List D)}(h:PI X tg iter (TIt mi)):PI X tg iter (TIg λρ S=>(mi ρ S).bind λds S1=>.ok (ds,λ_=>True) S1):=PIimp h λf H R c=>by
 obtain⟨ι,S,ρ,d,st,p⟩:=c;refine⟨ι,S,ρ,d,st,?_⟩;dsimp only at p;cases z:mi ρ S with
 |no=>rw[z]at p;exact p
 |err=>rw[z]at p;exact p
 |ok ds S1 =>
  rw[z,Res.bind_ok]at p;exact λa H' J s1 b ok=>p a H' J s1 b ok.g
theorem qc4{a:Type}(S:Sr)(r:Res a):grd (λ_=>True) S r=r:=zh (gd:=λ_=>True) trivial r
theorem qh7(r:Res Fl):endG (λ_=>True) r=r:=by
 cases r with
 |ok f S=>cases f <;> simp only[endG,Res.bind_ok,qc4]
 |err=>rfl
 |no=>rfl
theorem ql8{iter:Expr}{body:List Stmt}{mi:En->Sr->Res (List D)}{g:D->En->Sr->Res En}{mb:En->Sr->Res Fl}(a:PassesOwn 03 X.A X.env X.xe)(b:X.calm=true)(hi:PI X tg iter (TIt mi))(c:PG X tg (TGt g))(hb:PSs X body (TSm mb))(f:∀x,foldedSetIterable iter X.env x=pure x):
  PS X (.For tg iter body [] pos) (TSm λρ S=>(mi ρ S).bind λds S1=>forLoop (λd ρ S=>(g d ρ S).bind λρ1 S1=>mb ρ1 S1) ds ρ S1):=by
 have h:=qf4 (pos:=pos) a b (pi_g hi) c hb f;have e:(λ(ρ:En) (S:Sr)=>((mi ρ S).bind λds S1=>.ok (ds,λ_=>True) S1:Res (List D×(Sr->Prop))).bind λp S1=>endG p.2 (forLoop (λd ρ S=>(grd p.2 S (g d ρ S)).bind λρ1 S1=>mb ρ1 S1) p.1 ρ S1))=λρ S=>(mi ρ S).bind λds S1=>forLoop (λd ρ S=>(g d ρ S).bind λρ1 S1=>mb ρ1 S1) ds ρ S1:=by
  funext ρ S;cases mi ρ S with
  |ok ds S1 =>
   show endG (λ_=>True) (forLoop (λd ρ S=>(grd (λ_=>True) S (g d ρ S)).bind λρ1 S1=>mb ρ1 S1) ds ρ S1)=_;rw[qh7];simp only[qc4]
  |err=>rfl
  |no=>rfl
 rw[<-e];exact h
noncomputable def mRef(m:05):En->Sr->Res (List D×(Sr->Prop)):=λρ S=>(m ρ S).bind λx S1=>match refL x S1 with
 |some p=>.ok (p.2,own p.1 p.2) S1
 |none=>.no
theorem ql9{e:Expr}{m:05}(h:PE X e (T m)):PI X tg e (TIg (mRef m)):=PIimp (qbj h) λr H R f=>by
 obtain⟨ι,S,ρ,i,st,p⟩:=f;refine⟨ι,S,ρ,i,st,?_⟩;dsimp only[mRef]at p;cases z:m ρ S with
 |no=>rw[z]at p;exact p
 |err=>rw[z]at p;exact p
 |ok d S1 =>
  rw[z,Res.bind_ok]at p;intro v c j s1 b o;cases d with
  |ref n =>
   obtain⟨a,rfl,ha⟩:=o;cases zn:S1[n]? with
   |none=>simp only[refL,zn]at p
   |some so =>
    cases so with
    |l l =>
     simp only[refL,zn]at p;obtain⟨_,xs,q,_⟩:=b.obj n a _ ha zn;exact .inl ⟨a,rfl,⟨xs,.inl (.inl q)⟩,p c j _ s1 b (qdO ha)⟩
    |dic l=>simp only[refL,zn]at p
    |dis l=>simp only[refL,zn]at p
  |_=>exact p.elim
end
noncomputable def compCx(X:Cx)(sc:Scope)(cl:List (Str×Addr))(C:Addr)(N':List Str)(fp:01)(s:Shared)(H:Hp):Cx :=
 {X with N:=N',s₀:=s,H₀:=H,env:=compEnvC sc cl C X.env,outer:=X.stack,ex:=fp,fn:=λ_=>false,pn:=[],xe:=λ_ _=>False}
structure Clos (X:Cx) (sc:Scope) (cl:List (Str×Addr)):Prop where
 eq:closureFor sc X.env=pure cl
 sub:∀x c,cl.lookup x=some c->X.env.cells.lookup x=some c
 all:∀x,sc.names.lookup x=some .free->∃c,cl.lookup x=some c
def qbk{env:Env}:∀(names:List (Str×NameKind)) (b:List (Str×Addr)),(∀x∈names,x.2=.free->∃c,env.cells.lookup x.1=some c) ->
  ∃cl,(forIn names b λ(p:Str×NameKind) (cs:List (Str×Addr))=>(if p.2 == NameKind.free then(do let a <-cellOf env p.1;pure (ForInStep.yield ((p.1,a)::cs)))else pure (ForInStep.yield cs):Sem (ForInStep (List (Str×Addr)))))=pure cl /\
   (∀x c,cl.lookup x=some c->env.cells.lookup x=some c\/b.lookup x=some c)/\(∀x c,b.lookup x=some c->(∃f,cl.lookup x=some f))/\(∀x∈names,x.2=.free->∃c,cl.lookup x.1=some c)
 |[],b,_=>⟨b,rfl,λx c h=>.inr h,λx c h=>⟨c,h⟩,λx h=>by cases h⟩
 | (n,k)::r,b,h=>by
  by_cases j:k=.free
  .subst j
   obtain⟨c,m⟩:=h (n,.free) wH rfl;obtain⟨cl,e,i1,i2,l⟩:=qbk r ((n,c)::b) λx d=>h x (wL _ d)
   have e1:cellOf env n=pure c:=by unfold cellOf;rw[m]
   refine⟨cl,?_,λx f d=>?_,λx f d=>?_,λx d i=>?_⟩
   .rw [u9]
    simp only[beq_self_eq_true,v6,e1,pure_bind];exact e
   .rcases i1 x f d with z|z
    .exact .inl z
    .rw [v7]at z
     cases q:x == n with
     |true=>rw[q]at z;cases z;rw[uI.mp q];exact .inl m
     |false=>rw[q]at z;exact .inr z
   .cases q:x == n with
    |true=>exact i2 x c (by rw[v7,q])
    |false=>exact i2 x f (by rw[v7,q];exact d)
   .rcases wX.mp d with z|z
    .subst z;exact i2 n c (by simp[v7])
    .exact l x z i
  .have hb:(k == NameKind.free)=false:=by simpa using j
   obtain⟨cl,e,i1,i2,l⟩:=qbk r b λx d=>h x (wL _ d)
   refine⟨cl,?_,i1,i2,λx d i=>?_⟩
   .rw [u9]
    simp only[hb,vI,uB,pure_bind];exact e
   .rcases wX.mp d with z|z
    .subst z;exact absurd i j
    .exact l x z i
def jP{X:Cx}{sc:Scope}(h:∀x∈sc.names,x.2=.free->∃c,X.env.cells.lookup x.1=some c):∃cl,Clos X sc cl:=by
 obtain⟨cl,e,i1,i2,b⟩:=qbk (env:=X.env) sc.names [] h;refine⟨cl,⟨?_,λx c a=>?_,λx a=>?_⟩⟩
 .unfold closureFor
  show(forIn sc.names [] _ >>= λr=>pure r)=_;rw[bind_pure];exact e
 .rcases i1 x c a with z|z
  .exact z
  .cases z
 .exact b (x,.free) (vW a) rfl
def zL{env:Env}:∀{names:List (Str×NameKind)} {x:Str},(names.map λ(n,k)=>if(k == NameKind.free&&env.scope.kind == .function&&env.kindOf n == some .cell)then(n,NameKind.cell)else(n,k)).lookup x =
  (names.lookup x).map λk=>if(k == NameKind.free&&env.scope.kind == .function&&env.kindOf x == some .cell)then NameKind.cell else k
 |[],_=>rfl
 | (n,k)::r,x=>by
  show List.lookup x ((if(k == NameKind.free&&env.scope.kind == .function&&env.kindOf n == some .cell)=true then(n,NameKind.cell)else(n,k))::_)=_;have c:=@zL env r x;cases hx:x == n with
  |true =>
   have b:=uI.mp hx;subst b;by_cases a:(k == NameKind.free&&env.scope.kind == .function&&env.kindOf x == some .cell)=true
   .rw [wR a];simp only[v7,hx,wg,wR a]
   .rw [wT a];simp only[v7,hx,wg,wT a]
  |false =>
   by_cases a:(k == NameKind.free&&env.scope.kind == .function&&env.kindOf n == some .cell)=true
   .rw [wR a];simp only[v7,hx];exact c
   .rw [wT a];simp only[v7,hx];exact c
section
variable{X:Cx}{pos:Pos}
theorem qeY{sc:Scope}{cl:List (Str×Addr)}{N':List Str}{fp:01}{pins:04}{j:St}{H:Hp}{s:Shared}(I:Inv X pins j H s)(l:sc.kind=.function)(a:∀y∈sc.names,y.2≠.cell)(f:Clos X sc cl)(i:∀b∈fp,FpOk X pins H b)(n:∀b∈fp,b<s.heap.objs.size):(compCx X sc cl s.heap.objs.size N' fp s H).Ok where
 mod:=I.ok.mod
 kind:=l
 glob:=I.ok.glob
 blt:=I.ok.blt
 above:=wN _
 inj:=λx y c p q=>I.ok.inj x y c (f.sub x c p) (f.sub y c q)
 has:=λx d=>by
  have d:(relabel sc X.env).names.lookup x=some .cell\/(relabel sc X.env).names.lookup x=some .free:=d;have e:(relabel sc X.env).names.lookup x=_:=zL (env:=X.env) (names:=sc.names) (x:=x);rw[e]at d;cases z:sc.names.lookup x with
  |none=>rw[z]at d;simp at d
  |some k =>
   cases k with
   |free=>exact f.all x z
   |cell=>exact absurd rfl (a _ (vW z))
   |_=>rw[z]at d;simp at d
 cab:=λx c h _=>by cases h
 hd:=I.ok.hd
 frames:=I.ok.frames
 stk:=.inl rfl
 exf:=λb hb=>⟨wk (n b hb),λx c h=>(i b hb).2.2.2.2.1 x c (f.sub x c h)⟩
 bs:=I.bs
 bsz:=vK I.ok.bsz I.sz
 noex:=λb o e hb=>by
  rcases(i b hb).2.2.2.1 with z|z
  .exact I.ok.noex b o e z
  .exact absurd (w8 (wP e) (vK I.ok.bsz z)) (vR _)
 exfs:=λb hb r=>by
  rcases wX.mp (I.stkSub b r)with z|z
  .exact (i b hb).2.1 z
  .exact (i b hb).2.2.1 z
 funs:=I.stack
 frf:=I.stkFree
 tab:=λc T z=>let ⟨ps,e⟩:=I.ok.tab c T z;let ⟨m,u⟩:=I.base.tbls _ _ e;⟨_,u⟩
structure Frs (X:Cx) (sc:Scope) (fr:List Nat) (xs ts:List Str):Prop where
 len:fr.length=xs.length
 at':∀(i j:Nat) (x:Str),fr[i]?=some j->xs[i]?=some x->X.N[j]?=some x
 kd:∀x∈xs,sc.names.lookup x=some .free/\(X.env.kindOf x=some .cell\/X.env.kindOf x=some .free)
 tl:∀x∈ts,sc.names.lookup x=some .local
 nd:(xs++ts).Nodup
noncomputable def frS(a:St)(fr:List Nat)(nt:Nat):St:=fr.map (λi=>(a[i]?).getD none)++List.replicate nt none
theorem qbl{ι:01}{H:Hp}{ρ:En}{a:St}(e:EnR ι H ρ a)(fr:List Nat)(nt:Nat):EnR ι H (frE ρ fr nt) (frS a fr nt):=by
 refine⟨by simp[frE,frS],λi d h=>?_⟩;unfold frE at h;unfold frS;by_cases hi:i<fr.length
 .rw [wQ (by simpa using hi),w5,wD hi]at h
  rw[wQ (by simpa using hi),w5,wD hi];simp only[wg,Option.some.injEq]at h ⊢;cases z:ρ[fr[i]]? with
  |none=>rw[z]at h;cases h
  |some o =>
   rw[z]at h;cases h;obtain⟨v,b,c⟩:=e.get _ d z;exact⟨v,by rw[b];rfl,c⟩
 .rw [wI (by simpa using hi),vF]at h
  split at h <;> cases h
theorem qab{sc:Scope}{cl:List (Str×Addr)}{fp:01}{pins:04}{h:St}{H:Hp}{s:Shared}{fr:List Nat}{xs ts:List Str}(I:Inv X pins h H s)(M:sc.kind=.function)(f:∀y∈sc.names,y.2≠.cell)(j:Clos X sc cl)(N:∀b∈fp,FpOk X pins H b)(O:∀b∈fp,b<s.heap.objs.size)(F:Frs X sc fr xs ts){h':Heap}{m:Str->Option Value}{tk:Nat}(hn:h'.Ns s.heap.objs.size m)(a:∀b o,s.heap.get? b=some o->h'.get? b=some o):
  Inv (compCx X sc cl s.heap.objs.size (xs++ts) fp s H) [] (frS h fr ts.length) H {s with heap:=h',toks:=tk}:=by
 refine⟨qeY I M f j N O,rfl,GK.refl I.bare.bare,Un.kept a,⟨m,hn,λi x v n d Z=>?_⟩,λx c e=>?_,I.hok.fresh (wN _),λx c e=>I.freeC x c (j.sub x c e),λp P=>absurd (show p∈([]:List (Addr×Obj))from P) (by simp),I.hok.kept a,?_⟩
 .have n:(xs++ts)[i]?=some x:=n
  have d:(frS h fr ts.length)[i]?=some (some v):=d;unfold frS at d;by_cases hi:i<fr.length
  .rw [wQ (by simpa using hi),w5,wD hi]at d
   rw[wQ (by rw[<-F.len];exact hi)]at n;simp only[wg,Option.some.injEq]at d;have Q:=F.at' i fr[i] x (wD hi) n;have B:h[fr[i]]?=some (some v):=by
    cases z:h[fr[i]]? with
    |none=>rw[z]at d;cases d
    |some o=>rw[z]at d;simp at d;rw[d]
   obtain⟨E,J⟩:=F.kd x (wc n);obtain⟨m0,S,C⟩:=I.loc;have w:Vis X.env.scope x:=by
    rcases J with z|z
    .exact .inr (.inl z)
    .exact .inr (.inr z)
   obtain⟨u,r,l⟩:=C fr[i] x v Q B w;refine⟨u,r,.inr ?_⟩;have U:∃c,X.env.cells.lookup x=some c/\s.heap.IsCell c (some u):=by
    rcases l with ⟨z,_⟩|⟨_,c,e1,A⟩
    .rcases J with q|q <;> (rw[z]at q;cases q)
    .exact ⟨c,e1,A⟩
   obtain⟨c,e1,o,A,W⟩:=U;obtain⟨Y,K⟩:=j.all x E;have L:=j.sub x Y K;rw[e1]at L;cases L;refine⟨?_,c,K,o,a _ _ A,W⟩;have e:(relabel sc X.env).names.lookup x=_:=zL (env:=X.env) (names:=sc.names) (x:=x);show(relabel sc X.env).names.lookup x=some .cell\/(relabel sc X.env).names.lookup x=some .free;rw[e,E];simp only[wg];split
   .exact .inl rfl
   .exact .inr rfl
  .rw [wI (by simpa using hi),vF]at d
   split at d <;> cases d
 .obtain ⟨v,o,e1,A⟩:=I.cell x c (j.sub x c e)
  exact⟨v,o,a _ _ e1,A⟩
 .show (frS h fr ts.length).length=(xs++ts).length
  simp[frS,F.len]
theorem qac{sc:Scope}{cl:List (Str×Addr)}{N':List Str}{fp:01}{pins:04}{j i:St}{H H':Hp}{s s':Shared}{h':Heap}(I:Inv X pins j H s)(d:∀b∈fp,FpOk X pins H b)(J:Inv (compCx X sc cl s.heap.objs.size N' fp s H) [] i H' s')(m:Heap.SameBut s.heap.objs.size s'.heap h'):Inv X pins j H' {s' with heap:=h' }:=by
 have l:H' s.heap.objs.size=none:=J.free;have u:=J.base;have f:∀b o,b≠s.heap.objs.size->s'.heap.get? b=some o->h'.get? b=some o:=λb o hb e=>m.extBut b o hb e
 have ne:∀b o,s.heap.get? b=some o->b≠s.heap.objs.size:=λb o e=>wk (wP e)
 have un:Un (frs X.stack) fp H H' s.heap h':=⟨λb o e n hb a=>f b o (ne b o e) (u.keep b o e n hb a),λb o e n hb a=>by
   obtain⟨sl,q⟩:=u.slot b o e n hb a;exact⟨sl,f b _ (ne b o e) q⟩,λb o e n a=>u.free b o e n a,λb o e a=>by
   obtain⟨o',q⟩:=u.there b o e a;exact⟨o',f b o' (ne b o e) q⟩,u.tups,u.frzs,u.tbls⟩
 have hok:HOk X.prog X.w H' h':=λb o e=>(J.hok b o e).stay (λc w p q=>f c w (λz=>by
   subst z;rcases p with h|h
   .rw [<-h,l]at e;cases e
   .rw [l]at h;cases h) q) (λ_ q=>q) λ_ _ q=>q
 exact I.call' (s':={s' with heap:=h' }) (ch:=fp) J.os un hok J.bare λb hb=>⟨(d b hb).2.2.2.1,(d b hb).2.1,(d b hb).2.2.2.2.1,(d b hb).2.2.2.2.2⟩
end
def thnF{b:Type}{t:Sem b}{Q Q':b->Shared->Prop}{M:Model}{A:Around}{E:06}{s:Shared}(h:wpAny M A t Q (λ_ _=>False) s)(c:∀a s,Q a s->Q' a s):wpAny M A t Q' E s:=wz h c λ_ _ x=>x.elim
section
variable{X:Cx}{pos:Pos}
def PTl(X:Cx)(ifs:List Expr)(t:TT):Prop:=∀(pins:04) (s:Shared) (a:St) (H:Hp) (Q:Bool->Hp->Prop),Inv X pins a H s->t a H Q ->
 wpAny 03 X.A (forIn ifs true λc r=>(if r=true then do let ok <-isTrue c X.env (eval c X.env);pure (ForInStep.yield ok)else pure (ForInStep.yield r):Sem (ForInStep Bool))) (TP X pins a Q) X.xe s
theorem qke:PTl X [] (TB λ_ S=>.ok true S):=λpins s a H Q I h=>by
 obtain⟨ι,S,ρ,b,st,p⟩:=h;exact wE ⟨H,I,p true ι H (Stp.refl _ _) st rfl⟩
theorem qb2{M:Model}{A:Around}{E:06}{s:Shared}{env:Env}{Q:Bool->Shared->Prop}:∀(ifs:List Expr),Q false s->wpAny M A (forIn ifs false λc r=>(if r=true then do let ok <-isTrue c env (eval c env);pure (ForInStep.yield ok)else pure (ForInStep.yield r):Sem (ForInStep Bool))) Q E s
 |[],h=>wE h
 |c::r,h=>by
  rw[u9];refine wB ?_;rw[wT 02];exact wE (qb2 r h)
theorem qh8{c:Expr}{ifs:List Expr}{m i:En->Sr->Res Bool}(q:PT X c (TB m))(r:PTl X ifs (TB i)):PTl X (c::ifs) (TB λρ S=>(m ρ S).bind λt S1=>if t then i ρ S1 else .ok false S1):=λpins s j H Q I u=>by
 rw[u9];refine wB ?_;rw[wR rfl];obtain⟨ι,S,ρ,v,st,p⟩:=u;refine wB (thn (q pins s j H _ I (Pst.tg (ρ:=ρ) p v st (K:=λb d=>if b=true then TB i j d Q else Q false d) λa S1 f d b s1 l h w n=>?_)) λb s1 ⟨d,o,q1⟩=>?_)
 .cases (show a=b from w)
  cases a with
  |true=>rw[wR rfl];exact⟨f,S1,ρ,l,h,n⟩
  |false=>rw[wT 02];exact n false f d (Stp.refl _ _) h rfl
 .refine wE ?_
  cases b with
  |true=>rw[wR rfl]at q1;exact r pins s1 j d Q o q1
  |false=>rw[wT 02]at q1;exact qb2 ifs ⟨d,o,q1⟩
theorem qh9{tg elt iter:Expr}{ifs:List Expr}{sc:Scope}{J:It}{fp:01}{it Dl:Addr}{tn:Nat->Heap->Prop}{g:D->En->Sr->Res En}{mt:En->Sr->Res Bool}{me:05}{n:Nat}{ds:List D}{gd:Sr->Prop}{R:Result->Shared->Prop}(O:X.xe=λ_ _=>False)(hc:X.calm=true)(a4:X.ex=fp)(a5:X.pn=[])(T':Turn X.prog X.w X.K tg J fp it tn)(hg:PG X tg (TGt g))(ht:PTl X ifs (TB mt))(he:PE X elt (T me))(a6:∀d ρ S,¬gd S->g d ρ S=.no){ι:01}{H:Hp}{S:Sr}{ρ P:En}{Sf:Sr}{σ:St}{s:Shared}(hD:ι[n]?=some Dl)(ok:ItG ι H J ds gd)(I:Inv X [] σ H s)(h0:tn 0 s.heap)(a7:∀b∈fp,H b=none)(er:EnR ι H ρ σ)(st:Sto ι H S)(e:lcLoop n g mt me ds ρ S=.ok P Sf)(a8:gd Sf)(fin:∀(l:St) (H':Hp) (a:01) (s':Shared),Inv X [] l H' s'->Stp ι H a H'->Sto a H' Sf->R (.ok .next) s'):
  codeAny 03 X.A (.compLoop (.ListComp elt [⟨tg,iter,ifs,0⟩] sc pos) 0 (.ref it) (.ref Dl) X.env) R s:=by
 refine codeAny_loop rfl (λk s'=>∃(i:Nat) (l:St) (H':Hp) (a:01) (S':Sr) (F:En),k=ds.length-i/\i<=ds.length/\Inv X [] l H' s'/\tn i s'.heap/\(∀b∈fp,H' b=none)/\Stp ι H a H'/\EnR a H' F l/\Sto a H' S'/\lcLoop n g mt me (ds.drop i) F S'=.ok P Sf) ?_
  ds.length ⟨0,σ,H,ι,S,ρ,by simp,vP _,I,h0,a7,Stp.refl _ _,er,st,by simpa using e⟩
 rintro k s1 ⟨i,Q,H1,B,S1,ρ1,rfl,hi,I1,t1,f1,p1,a9,U,e1⟩;have L:∀{H':Hp},(∀b∈fp,H' b=none)->∀b∈fp,FpOk X [] H' b:=λhn b hb=>by
  have W:b∈X.ex:=by rw[a4];exact hb
  exact⟨hn b hb,(I.ok.exf b W).1,λz=>I.ok.exfs b W z,.inl W,(I.ok.exf b W).2,λp hp=>by rw[a5]at hp;exact absurd hp (by simp)⟩
 show wpAny _ X.A ((compTurn (.ListComp elt [⟨tg,iter,ifs,0⟩] sc pos) 0 (.ref it) (.ref Dl) X.env).onRaise (λx=>do noteFrame x X.env;theTreesLotGoes x)) _ _ s1;refine wpAny_noted ?_;rw[compTurn_list];refine wB (wu (wB ?_));by_cases a0:i<ds.length
 .have hd:ds[i]?=some ds[i]:=wD a0
  rw[vw a0]at e1;have aa:gd S1:=by
   apply Classical.byContradiction;intro hn;simp only[lcLoop,a6 _ _ _ hn,Res.bind_no]at e1;cases e1
  obtain⟨go,yl⟩:=ok.go i _ B H1 S1 p1 U aa hd;refine thnF (T'.item X rfl rfl rfl hc i [] s1 Q H1 _ I1 (L f1) t1 go) λr s2 ⟨u,hr,h2⟩=>?_
  subst hr;refine wB (thnF h2 λ_ s3 ⟨x,H3,I3,r3,y3,t3,f3⟩=>?_);obtain⟨q3,ab⟩:=yl x H3 y3;obtain⟨k3,d3⟩:=ab S1 U;have ac:=I3.pinned (L f3) (T'.obj _ _ t3);simp only[lcLoop]at e1;cases z1:g ds[i] ρ1 S1 with
  |no=>rw[z1]at e1;cases e1
  |err=>rw[z1]at e1;cases e1
  |ok f S2 =>
   rw[z1,Res.bind_ok]at e1;refine wB (wz (hg _ s3 Q H3 x u (λC H4=>∃h,Stp B H3 h H4/\Sto h H4 S2/\EnR h H4 f C) ac r3 ⟨B,S1,ρ1,ds[i],a9.mono q3,k3,d3,?_⟩) (λ_ s4 ⟨C,H4,I4,h,q4,a1,E⟩=>?_) λ_ _ z=>by rw[O]at z;exact z.elim)
   .rw [z1];exact λC h H4 q4 a1 E=>⟨h,q4,a1,E⟩
   cases z2:mt f S2 with
   |no=>rw[z2]at e1;cases e1
   |err=>rw[z2]at e1;cases e1
   |ok b S3 =>
    rw[z2,Res.bind_ok]at e1;refine wB (wz (ht _ s4 C H4 (λb' H5=>b'=b/\∃q,Stp h H4 q H5/\Sto q H5 S3) I4 ⟨h,S2,f,E,a1,?_⟩) (λb' s5 ⟨H5,I5,eb,q,q5,Y⟩=>?_) λ_ _ z=>by rw[O]at z;exact z.elim)
    .rw [z2];exact λb' q H5 q5 Y eb=>⟨(show b=b' from eb).symm,q,q5,Y⟩
    subst eb;have M:∀{Z:St} {N:Hp} {s7:Shared} {c:01} {S7:Sr},Inv X ([]++pinsAt fp s3.heap) Z N s7->Stp B H1 c N->EnR c N f Z->Sto c N S7->lcLoop n g mt me (ds.drop (i+1)) f S7=.ok P Sf ->
      ∃m,m<ds.length-i/\∃(i:Nat) (l:St) (H':Hp) (a:01) (S':Sr) (F:En),m=ds.length-i/\i<=ds.length/\Inv X [] l H' s7/\tn i s7.heap/\(∀b∈fp,H' b=none)/\Stp ι H a H'/\EnR a H' F l/\Sto a H' S'/\lcLoop n g mt me (ds.drop i) F S'=.ok P Sf:=by
     intro Z N s7 c S7 I7 q7 ad a2 e7;refine⟨ds.length-(i+1),by omega,i+1,Z,N,c,S7,f,rfl,a0,I7.unpinned,T'.keep _ _ _ t3 λb hb o eo=>(I7.pin (b,o) (wG _ (wG _ (qz hb eo)))).1,λb hb=>?_,p1.trans q7,ad,a2,e7⟩;obtain⟨o,eo,_⟩:=T'.obj _ _ t3 b hb;exact(I7.pin (b,o) (wG _ (wG _ (qz hb eo)))).2.1
    cases b' with
    |false =>
     rw[wT 02]at e1;exact wE ⟨rfl,M I5 ((q3.trans q4).trans q5) (E.mono q5) Y e1⟩
    |true =>
     rw[wR rfl]at e1;cases z3:me f S3 with
     |no=>rw[z3]at e1;cases e1
     |err=>rw[z3]at e1;cases e1
     |ok v S4 =>
      rw[z3,Res.bind_ok]at e1;refine wB (wB (wz (he _ s5 C H5 (λy H6=>∃j,Stp q H5 j H6/\Sto j H6 S4/\Den j H6 v y) I5 ⟨q,S3,f,E.mono q5,Y,?_⟩) (λy' s6 ⟨y,H6,I6,ry,j,q6,a3,dv⟩=>?_) λ_ _ z=>by rw[O]at z;exact z.elim))
      .rw [z3];exact λy j H6 q6 a3 dv=>⟨j,q6,a3,dv⟩
      cases z4:appD S4 (.ref n) v with
      |no=>rw[z4]at e1;cases e1
      |err=>rw[z4]at e1;cases e1
      |ok w S5 =>
       rw[z4,Res.bind_ok]at e1;have tot:=((q3.trans q4).trans q5).trans q6;have ae:j[n]?=some Dl:=(p1.trans tot).get hD;refine wB (wz (jr (X:=X) _ s6 C H6 (.ref Dl) [y] (.ref Dl) [y'] (λ_ N=>∃c,Stp j H6 c N/\Sto c N S5) I6 rfl (.cons ry .nil) (qjb (x:=.ref n) a3 ⟨Dl,rfl,ae⟩ dv ?_)) (λ_ s7 ⟨_,N,I7,_,c,q7,a2⟩=>?_) λ_ _ z=>by rw[O]at z;exact z.elim)
       .rw [z4];exact λb a H' s' af _=>⟨a,s',af⟩
       .exact wE (wE ⟨rfl,M I7 (tot.trans q7) ((E.mono (q5.trans q6)).mono q7) a2 e1⟩)
 .have ag:i=ds.length:=by omega
  subst ag;rw[vk (wN _)]at e1;cases e1;refine thnF (T'.done X rfl rfl rfl hc _ [] s1 Q H1 _ I1 (L f1) t1 (ok.stop B H1 _ p1 U a8)) λr s2 ⟨hr,I2⟩=>?_
  subst hr;exact wE (fin Q H1 B s2 I2 p1 U)
structure Blk (X:Cx) (sc:Scope) (N':List Str) (tg:Expr) (ifs:List Expr) (elt:Expr) (g:D->En->Sr->Res En) (mt:En->Sr->Res Bool) (me:05):Prop where
 tg:∀cl C fp s H,PG (compCx X sc cl C N' fp s H) tg (TGt g)
 ifs:∀cl C fp s H,PTl (compCx X sc cl C N' fp s H) ifs (TB mt)
 elt:∀cl C fp s H,PE (compCx X sc cl C N' fp s H) elt (T me)
structure CSc (X:Cx) (sc:Scope) (fr:List Nat) (xs ts:List Str):Prop where
 kind:sc.kind=.function
 nocell:∀y∈sc.names,y.2≠.cell
 names:∀x∈sc.names,x.2=.local->sc.names.lookup x.1=some .local
 frees:∀x∈sc.names,x.2=.free->X.env.kindOf x.1=some .cell\/X.env.kindOf x.1=some .free
 frs:Frs X sc fr xs ts
noncomputable def mLc(m:Bool)(fr:List Nat)(nt:Nat)(mi:En->Sr->Res (List D))(g:D->En->Sr->Res En)(mt:En->Sr->Res Bool)(me:05):En->Sr->Res D:=λρ S=>(mi ρ S).bind λds S1 =>
 (lcLoop S1.length g mt me ds (frE ρ fr nt) (S1++[.l []])).bind λ_ S2=>lcEnd m S1.length S2
noncomputable def mLcG(m:Bool)(fr:List Nat)(nt:Nat)(mi:En->Sr->Res (List D×(Sr->Prop)))(g:D->En->Sr->Res En)(mt:En->Sr->Res Bool)(me:05):En->Sr->Res D:=λρ S=>(mi ρ S).bind λp S1 =>
 (lcLoop S1.length (λd ρ S=>grd p.2 S (g d ρ S)) mt me p.1 (frE ρ fr nt) (S1++[.l []])).bind λ_ S2=>grd p.2 S2 (lcEnd m S1.length S2)
theorem qjd{m:Bool}{fr:List Nat}{nt:Nat}{mi:En->Sr->Res (List D)}{g:D->En->Sr->Res En}{mt:En->Sr->Res Bool}{me:05}:mLcG m fr nt (λρ S=>(mi ρ S).bind λds S1=>.ok (ds,λ_=>True) S1) g mt me=mLc m fr nt mi g mt me:=by
 funext ρ S;unfold mLcG mLc;dsimp only;cases mi ρ S with
 |ok ds S1 =>
  show((lcLoop S1.length (λd ρ S=>grd (λ_=>True) S (g d ρ S)) mt me ds (frE ρ fr nt) (S1++[.l []])).bind λ_ S2=>grd (λ_=>True) S2 (lcEnd m S1.length S2))=_;simp only[qc4]
 |err=>rfl
 |no=>rfl
theorem qkf{tg:Expr}{g:D->En->Sr->Res En}{gd:Sr->Prop}(h:PG X tg (TGt g)):PG X tg (TGt λd ρ S=>grd gd S (g d ρ S)):=PGimp h λv f H Q b=>by
 obtain⟨ι,S,ρ,d,c,st,hd,p⟩:=b;refine⟨ι,S,ρ,d,c,st,hd,?_⟩;dsimp only at p;by_cases a:gd S
 .rw [zh a]at p;exact p
 .rw [yq a]at p;exact p.elim
theorem qdP{tg elt iter:Expr}{ifs:List Expr}{sc:Scope}{fr:List Nat}{xs ts:List Str}{mi:En->Sr->Res (List D×(Sr->Prop))}{g:D->En->Sr->Res En}{mt:En->Sr->Res Bool}{me:05}{mm:Bool}(hc:X.calm=true)(hi:PI X tg iter (TIg mi))(hs:∀x,foldedSetIterable iter X.env x=pure x)(u:CSc X sc fr xs ts)(B:Blk X sc (xs++ts) tg ifs elt g mt me){pins:04}{s:Shared}{L:St}{H:Hp}{Q:VK}{use:Option (Value->Sem Unit)}{Q':06}(I:Inv X pins L H s)(hw:T (mLcG mm fr ts.length mi g mt me) L H Q)(fin:∀(D C:Addr) (H':Hp) (s':Shared) (m:Str->Option Value),s'.heap.Ns C m->C≠X.env.locals->(∀x c,X.env.cells.lookup x=some c->c≠C)->(H' C=none/\X.s₀.heap.objs.size<=C/\∀p∈X.pn++pins,p.1≠C)->(∀h',Heap.SameBut C s'.heap h'->Inv X pins L H' {s' with heap:=h' })->Q (.ref D) H'->compPost 03 X.A X.xe use Q' (.ref D) C (.ok .next) s'):
  wpAny 03 X.A (comprehension (.ListComp elt [⟨tg,iter,ifs,0⟩] sc pos) sc X.env (firstIterPos [⟨tg,iter,ifs,0⟩] pos) (newList []) false (eval iter X.env) use) Q' X.xe s:=by
 obtain⟨ι,S,ρ,er,st,p⟩:=hw;dsimp only[mLcG]at p;cases z:mi ρ S with
 |no=>rw[z]at p;exact p.elim
 |err=>rw[z]at p;exact p.elim
 |ok dg S1 =>
 obtain⟨ds,gd⟩:=dg;rw[z,Res.bind_ok]at p;dsimp only at p;cases z2:lcLoop S1.length (λd ρ S=>grd gd S (g d ρ S)) mt me ds (frE ρ fr ts.length) (S1++[.l []])with
 |no=>rw[z2]at p;exact p.elim
 |err=>rw[z2]at p;exact p.elim
 |ok ab Sf =>
 rw[z2,Res.bind_ok]at p;have M:gd Sf:=by
  apply Classical.byContradiction;intro hn;rw[yq hn]at p;exact p
 rw[zh M]at p;obtain⟨cl,CL⟩:=jP (X:=X) (sc:=sc) λx hx hf=>I.ok.has x.1 (u.frees x hx hf)
 refine wpAny_comprehension_free rfl hs CL.eq u.kind u.names ?_;refine thn (hi pins s L H (λJ H2=>∃a,Stp ι H a H2/\Sto a H2 S1/\ItG a H2 J ds gd) I ⟨ι,S,ρ,er,st,?_⟩) λxv s1 h1=>thn h1 λac s2 h2=>?_
 .rw [z];exact λh H' J q f ok=>⟨h,q,f,ok⟩
 obtain⟨it,fp,tn,J,H2,e,I2,T',t2,f2,a,q2,F,a0⟩:=h2;subst e;refine wa ?_;have N:H2 s2.heap.objs.size=none:=I2.hok.fresh (wN _);have O:∀b∈fp,b<s2.heap.objs.size:=λb hb=>by
  obtain⟨o,i,_⟩:=T'.obj _ _ t2 b hb;exact wP i
 have K:Inv X pins L (upd H2 s2.heap.objs.size (.l [])) {s2 with heap:=s2.heap.push {cls:=.type "list",dict:=none,data:=.seq ([]:List Value).toArray}} :=
  I2.laid (t':=s2.toks) (λb o e=>wC _ e) (wN _) ⟨vP _,[],0,.nil,wM _ rfl⟩
 have f3:∀b∈fp,FpOk X pins (upd H2 s2.heap.objs.size (.l [])) b:=λb hb=>⟨by rw[qm (wk (O b hb))];exact(f2 b hb).1,(f2 b hb).2⟩
 have Z:=Stp.grow (ι:=a) N (.l []);have a1:Sto (a++[s2.heap.objs.size]) (upd H2 s2.heap.objs.size (.l [])) (S1++[.l []]):=F.grow N ⟨⟨a.length,by simp,rfl⟩,[],qB,rfl⟩;have P:(a++[s2.heap.objs.size])[S1.length]?=some s2.heap.objs.size:=by rw[<-F.len];simp
 generalize U:({s2 with heap:=s2.heap.push {cls:=.type "list",dict:=none,data:=.seq ([]:List Value).toArray}}:Shared)=s3 at K ⊢;have W:∀b∈fp,b<s3.heap.objs.size:=λb hb=>by
  rw[<-U];show b<(s2.heap.push _).objs.size;rw[vZ];exact uR (O b hb)
 have t3:tn 0 s3.heap:=T'.keep _ _ _ t2 λb hb o i=>by rw[<-U];exact wC _ i
 refine xj u.nocell (by intro y hy;simp at hy) (λh4 a2 a3=>?_) u.kind;have n:∀b o,s3.heap.get? b=some o->h4.get? b=some o:=λb o i=>a3.extBut b o (wk (wP i)) (wC _ i)
 have I4:=qab (tk:=s3.toks+([]:List (Str×Value)).length) K u.kind u.nocell CL f3 W u.frs a2 n;have t4:tn 0 h4:=T'.keep _ _ _ t3 λb hb o i=>n b o i
 have a4:EnR (a++[s2.heap.objs.size]) (upd H2 s2.heap.objs.size (.l [])) (frE ρ fr ts.length) (frS L fr ts.length):=(qbl er fr ts.length).mono (q2.trans Z);have E:codeAny 03 X.A (.compLoop (.ListComp elt [⟨tg,iter,ifs,0⟩] sc pos) 0 (.ref it) (.ref s2.heap.objs.size) (compEnvC sc cl s3.heap.objs.size X.env)) (compPost 03 X.A X.xe use Q' (.ref s2.heap.objs.size) s3.heap.objs.size) {s3 with heap:=h4,toks:=s3.toks+([]:List (Str×Value)).length}:=by
  refine qh9 (X:=compCx X sc cl s3.heap.objs.size (xs++ts) fp s3 (upd H2 s2.heap.objs.size (.l []))) (pos:=pos) rfl hc rfl rfl T' (qkf (gd:=gd) (B.tg _ _ _ _ _)) (B.ifs _ _ _ _ _) (B.elt _ _ _ _ _) (λd ρ S hn=>yq hn _) P (a0.mono Z) I4 t4 (λb hb=>(f3 b hb).1) a4 a1 z2 M λad H' h s' J' q' f=>?_
  obtain⟨m',a5,_⟩:=J'.loc;refine fin s2.heap.objs.size s3.heap.objs.size H' s' m' a5 (vl K.lt) (λx c ec ez=>?_) ⟨J'.free,K.sz,λq hq ez=>by have:=wP (K.pin q hq).1;rw[ez]at this;exact absurd this (vR _)⟩ (λh5 a6=>qac K f3 J' a6) ?_
  .obtain ⟨v,o,i,_⟩:=K.cell x c ec
   rw[ez]at i;exact absurd (wP i) (vR _)
  .have r:h[S1.length]?=some s2.heap.objs.size:=q'.get P
   unfold lcEnd at p;cases mm with
   |true =>
    rw[wR rfl]at p;exact p _ h H' ((q2.trans Z).trans q') f ⟨_,rfl,r⟩
   |false =>
    rw[wT 02]at p;by_cases hl:Sf.length=S1.length+1
    .rw [wR hl]at p
     split at p
     .rename_i l a7
      obtain⟨⟨n',a8,a9⟩,ys,h1,dl⟩:=f.obj _ _ _ r a7;obtain rfl:n'=S1.length:=zA f.nd a8 r;have en:S1.length=a.length:=F.len.symm;have qq:Stp ι H (h.take S1.length) H':=by rw[en];exact q2.trans (Z.trans q').less
      have Y:=f.less S1.length;refine p (.ref s2.heap.objs.size) _ H' qq Y ⟨_,ys,rfl,λhm=>?_,.inl h1,Dens.less l a9 dl⟩;obtain⟨j,hj,ej⟩:=vS hm;rw[wr]at hj;have aa:h[j]?=some s2.heap.objs.size:=by
       rw[List.getElem_take]at ej;rw[wD (by omega),ej]
      have:=zA f.nd aa r;omega
     .exact p.elim
    .rw [wT hl]at p;exact p.elim
 exact codeAny_compStart_list E (T'.self _ 0 _ _ _ t4 E)
theorem qje{tg elt iter:Expr}{ifs:List Expr}{sc:Scope}{fr:List Nat}{xs ts:List Str}{mi:En->Sr->Res (List D×(Sr->Prop))}{g:D->En->Sr->Res En}{mt:En->Sr->Res Bool}{me:05}{b:Bool}(c:X.calm=true)(hi:PI X tg iter (TIg mi))(d:∀x,foldedSetIterable iter X.env x=pure x)(f:CSc X sc fr xs ts)(B:Blk X sc (xs++ts) tg ifs elt g mt me):
  PE X (.ListComp elt [⟨tg,iter,ifs,0⟩] sc pos) (T (mLcG b fr ts.length mi g mt me)):=λpins s j H Q I h=>by
 rw[eval_ListComp];refine qdP c hi d f B I h λD C H' s' m hn _ _ _ i q=>⟨m,hn,λh' a=>⟨.ref D,H',i h' a,rfl,q⟩⟩
theorem qf5{tg elt iter:Expr}{ifs:List Expr}{sc:Scope}{fr:List Nat}{xs ts:List Str}{mi:En->Sr->Res (List D×(Sr->Prop))}{g:D->En->Sr->Res En}{mt:En->Sr->Res Bool}{me:05}{O:Bool}{i:Nat}{y:Str}{h c:Pos}(W:X.calm=true)(hi:PI X tg iter (TIg mi))(Y:∀x,foldedSetIterable iter X.env x=pure x)(Z:CSc X sc fr xs ts)(B:Blk X sc (xs++ts) tg ifs elt g mt me)(hN:X.N.Nodup)(hy:X.N[i]?=some y)(P:X.env.scope.names.lookup y=some .local)(n:swapsWith (.ListComp elt [⟨tg,iter,ifs,0⟩] sc pos) (some (.Name y h)) c.line X.env=pure true):
  PS X (.Assign [.Name y h] (.ListComp elt [⟨tg,iter,ifs,0⟩] sc pos) c) (TSm λρ S=>(mLcG O fr ts.length mi g mt me ρ S).bind λd S1=>.ok (.nx (ρ.set i (some d))) S1):=λpins s r H D I hw=>by
 obtain⟨ι,S,ρ,Q,st,p⟩:=hw;rw[exec_Assign_Name_used _ _ _ _ n];refine wB (wu (wB ?_));show wpAny _ X.A (do let _ <-comprehension (.ListComp elt [⟨tg,iter,ifs,0⟩] sc pos) sc X.env _ (newList []) false (eval iter X.env) (some (assign (.Name y h) X.env))) _ _ s;have hT:T (mLcG O fr ts.length mi g mt me) r H (λv u=>D.nx (r.set i (some v)) u):=⟨ι,S,ρ,Q,st,PsF.bind p λa S1 w u b s1 E ra p1=>p1 w u (Stp.refl _ _) E _ ((Q.mono s1).set ra)⟩;refine wB (wz (qdP (use:=some (assign (.Name y h) X.env)) (Q':=λ_ s'=>SP X pins D .next s') W hi Y Z B I hT λU C H' s' m hn j l f hI q=>?_) (λ_ s' hq=>wE (wE hq)) λ_ _ e=>e);show wpAny _ X.A (assign (.Name y h) X.env (.ref U)) _ _ _;have I0:Inv X pins r H' s':=by
  have:=hI s'.heap (Heap.SameBut.refl ..);exact this
 refine wpAny_assign_Name (jp I0 hN hy (.inl P) (v:=.ref U) rfl (λF J K=>?_) (.inr P));obtain⟨a,sb,ha⟩:=K;have L:C≠a:=by
  rcases ha with z|z
  .rw [z];exact j
  .exact λq=>l y a z q.symm
 refine⟨m,hn.sameBut sb L,λh' M=>?_⟩;have I3:=J.turned (h':=h') (t':=F.toks) (it:=C) (λb o hb e=>M.extBut b o hb e) f.1 j (.inr f.2.1) l f.2.2;exact⟨_,H',I3,q⟩
theorem r_lc{tg elt iter:Expr}{ifs:List Expr}{sc:Scope}{fr:List Nat}{xs ts:List Str}{mi:En->Sr->Res (List D)}{g:D->En->Sr->Res En}{mt:En->Sr->Res Bool}{me:05}{a:Bool}(b:X.calm=true)(hi:PI X tg iter (TIt mi))(c:∀x,foldedSetIterable iter X.env x=pure x)(d:CSc X sc fr xs ts)(B:Blk X sc (xs++ts) tg ifs elt g mt me):
  PE X (.ListComp elt [⟨tg,iter,ifs,0⟩] sc pos) (T (mLc a fr ts.length mi g mt me)):=by
 rw[<-qjd];exact qje b (pi_g hi) c d B
theorem qia{tg elt iter:Expr}{ifs:List Expr}{sc:Scope}{fr:List Nat}{xs ts:List Str}{mi:En->Sr->Res (List D)}{g:D->En->Sr->Res En}{mt:En->Sr->Res Bool}{me:05}{f:Bool}{i:Nat}{y:Str}{c a:Pos}(h:X.calm=true)(hi:PI X tg iter (TIt mi))(j:∀x,foldedSetIterable iter X.env x=pure x)(l:CSc X sc fr xs ts)(B:Blk X sc (xs++ts) tg ifs elt g mt me)(m:X.N.Nodup)(n:X.N[i]?=some y)(o:X.env.scope.names.lookup y=some .local)(b:swapsWith (.ListComp elt [⟨tg,iter,ifs,0⟩] sc pos) (some (.Name y c)) a.line X.env=pure true):
  PS X (.Assign [.Name y c] (.ListComp elt [⟨tg,iter,ifs,0⟩] sc pos) a) (TSm λρ S=>(mLc f fr ts.length mi g mt me ρ S).bind λd S1=>.ok (.nx (ρ.set i (some d))) S1):=by
 rw[<-qjd];exact qf5 h (pi_g hi) j l B m n o b
end
def Sg(M:Model)(B:Around)(a:End->Shared->Prop)(k:Code)(t:Sem Fin)(l:List Frame)(s:Shared):Prop:=∀G p,G.code=k->G.Woken B->∃x z,Runs M G p t l s x z/\a x z
section
variable{M:Model}{B:Around}{Φ:End->Shared->Prop}{k:Code}{l:List Frame}{s:Shared}
theorem jQ{c:Type}{m:Sem c}{f:c->Sem Fin}{e:Value->Sem Fin}{gd:Bool->Bool}{lv:List Value->List Value}(h:wpAny M (B.over k l) m (λa z=>Sg M B Φ k (f a) l z) (λx z=>Sg M B Φ k (e x) l z) s):Sg M B Φ k (m.wrap f e gd lv) l s:=λG p d b=>by
 subst d;exact runs_wrap_of_wp f e gd lv m (h _ p (b.over l)) (λ_ q _ z=>z G q rfl b) λ_ q _ z=>z G q rfl b
theorem qE{i j:Type}{m:Sem i}{f:i->Sem j}{d:j->Sem Fin}{c:Value->Sem Fin}{gd:Bool->Bool}{lv:List Value->List Value}(h:wpAny M (B.over k l) m (λa z=>Sg M B Φ k ((f a).wrap d c gd lv) l z) (λx z=>Sg M B Φ k (c x) l z) s):Sg M B Φ k ((m >>= f).wrap d c gd lv) l s:=by
 have q:=jQ (f:=λa=>(f a).wrap d c gd lv) (e:=λx=>(Sem.raise x).wrap d c gd lv) (gd:=λb=>gd (id b)) (lv:=λb=>lv (id b)) h
 rwa [uh,xO]
theorem qX{a:Code}(b:a.quiet=true)(h:Sg M B Φ a (M.den a) l s):Sg M B Φ k (.pure (.again a)) l s:=λG p c d=>by
 subst c;have ⟨x,z,r,q⟩:=h (G.goto a) p rfl (d.goto a);exact⟨x,z,Runs.head (c₁:=a) (λ_ _ y=>.again b y) r,q⟩
theorem qf6(r:Result)(h:Φ (.ret r) s):Sg M B Φ k (leafOf r) [] s:=λG p a b=>⟨_,s,Runs.leaf r,h⟩
theorem qjf{a:Pos}{f:Unit->Sem Fin}(h:Sg M B Φ k (f ()) l s):Sg M B Φ k (.at a f) l s:=by
 have q:Sg M B Φ k ((standAt a).wrap f .raise id id) l s:=jQ (wu h);exact q
theorem qf7{v:Value}{vs:List Value}{f:Resume->Sem Fin}(h:∀p,Φ (.susp v false vs f k p []) s):Sg M B Φ k (.yield v false vs f) [] s:=λG p a b=>by
 subst a;exact⟨_,s,Runs.yield' [] rfl,h p⟩
theorem Sg.mono{a:End->Shared->Prop}{t:Sem Fin}(h:Sg M B Φ k t l s)(f:∀x z,Φ x z->a x z):Sg M B a k t l s:=λG p b c =>
 let ⟨x,z,r,q⟩:=h G p b c
 ⟨x,z,r,f x z q⟩
end
def Go(M:Model)(B:Around)(a:End->Shared->Prop)(s:Shared):GenState->Prop
 | .fresh k=>Sg M B a k (M.den k) [] s
 | .suspended f _ k _ l _=>Sg M B a k (f (.send .none)) l s
 |_=>False
def qb3{prog:Program}{w:World}{A:Around}{E:06}{s:Shared}{a:Addr}{n:Nat}{gs:GenState}{h:End->Shared->Prop}{Q:Option Value->Shared->Prop}(C:A.handled=none)(F:s.heap.NoLimit)(hd:A.depth<recursionLimit)(ha:s.heap.IsGen a n)(m:s.gens[n]?=some gs)(c:Go (model prog w) A.in1 h (s.setGen n .running) gs)(u:∀x z,h x z->match x with
   | .ret r=>r=.ok .next/\∀h',(∀b o,z.heap.get? b=some o->h'.get? b=some o)->Q none {z.setGen n .finished with heap:=h' }
   | .susp v g vs f k p l=>(End.susp v g vs f k p l).quiet=true/\Q (some v) (z.setGen n (End.susp v g vs f k p l).genState)):
  wpAny (model prog w) A (pyNext (.ref a)) Q E s:=by
 have d:∀{y:Type} {l:List Value} {f:GenResult->Sem y} {R:y->Shared->Prop} {B:06},(∀x z,h x z->x.quiet=true/\wpAny (model prog w) A.in1 (f x.result) R B (z.setGen n x.genState))->wpAny (model prog w) A.in1 (.resume n (.send .none) l f) R B s:=by
  intro y l f R B i G p j;rw[Sem.wp_resume];cases gs with
  |fresh k =>
   obtain⟨x,z,r,q⟩:=c (G.wake k p) p rfl (j.wake k p);exact⟨x.result,z.setGen n x.genState,by unfold Wakes;rw[m];exact⟨x,z,r,(i x z q).1,rfl,rfl⟩,(i x z q).2 G p j⟩
  |suspended K L k H I cl =>
   obtain⟨x,z,r,q⟩:=c (G.wake k p) H rfl (j.wake k p);exact⟨x.result,z.setGen n x.genState,by unfold Wakes;rw[m];exact⟨x,z,r,(i x z q).1,rfl,rfl⟩,(i x z q).2 G p j⟩
  |running=>exact c.elim
  |finished=>exact c.elim
 unfold pyNext;refine wB (xN ?_);refine vA (name:=Str.ofString "__next__") ha.typeIs slot_gen_next ?_;refine vG slot_gen_next ha.typeIs entry_gen_next (?_:wpAny _ A.in1 (Builtin.Generator.genWake (.ref a) (.send .none)) _ _ s) (args_gen_next _);unfold Builtin.Generator.genWake;refine wB (vE (wpAny_genNumber ha ?_));refine wB (wpAny_genState m ?_);have go:∀x z,h x z->x.quiet=true:=λx z q=>by
  cases x with
  |ret r=>rfl
  |susp v g vs f k p l=>exact(u _ _ q).1
 cases gs with
 |running=>exact c.elim
 |finished=>exact c.elim
 |_ =>
  refine wB (wpAny_roomToWake F hd (d λx z q=>⟨go x z q,?_⟩));cases x with
  |susp v g vs f k p l=>exact wE ⟨v,rfl,wE (u _ _ q).2⟩
  |ret r =>
   obtain⟨e,J⟩:=u _ _ q;subst e;show wpAny _ A.in1 (newExc (.type "StopIteration") [] >>= _) _ _ (z.setGen n .finished);refine wB ?_;unfold newExc newTuple;refine wB (wa ?_ (by size_fits));refine wB (uu (t:=firstArgMember _ _) (a:=Value.none) (by first|rfl|(simp only[firstArgMember];rfl)) ?_);refine wa ?_ (by size_fits);unfold raiseNew;refine wB (wB (wpAny_handled ?_));rw[show A.in1.handled=none from C];refine wpAny_throw (wB (wpAny_isInstance (T:="StopIteration") (b:=true) ⟨_,wM _ rfl,rfl⟩ isSubtype_stop ?_));exact wE (J _ λb o hb=>wC _ (wC _ hb))
inductive GN where
 |fin (S:Sr)|yl (i:Nat) (ρ:En) (v:D) (S:Sr)|bad
noncomputable def grdN(gu:Sr->Prop)(S:Sr)(r:GN):GN:=@ite _ (gu S) (Classical.propDecidable _) r .bad
def yH{gu:Sr->Prop}{S:Sr}(h:gu S)(r:GN):grdN gu S r=r:=wR h
def y7{gu:Sr->Prop}{S:Sr}{r:GN}(h:grdN gu S r≠.bad):gu S:=Classical.byContradiction λn=>h (wT n)
noncomputable def gnx(gu:Sr->Prop)(g:D->En->Sr->Res En)(mt:En->Sr->Res Bool)(me:05):Nat->List D->En->Sr->GN
 |_,[],_,S=>grdN gu S (.fin S)
 |i,d::r,ρ,S=>grdN gu S <| match g d ρ S with
  | .ok ρ1 S1=>match mt ρ1 S1 with
   | .ok true S2=>match me ρ1 S2 with
    | .ok v S3=>.yl (i+1) ρ1 v S3
    |_=>.bad
   | .ok false S2=>gnx gu g mt me (i+1) r ρ1 S2
   |_=>.bad
  |_=>.bad
section
variable{X:Cx}{pos:Pos}
structure Sus (X:Cx) (J:It) (tn:Nat->Heap->Prop) (fp:01) (ds:List D) (gu:Sr->Prop) (i:Nat) (ρ:En) (S:Sr) (ι:01) (H:Hp) (pins:04) (s:Shared):Prop where
 inv:∃σ,Inv X pins σ H s/\EnR ι H ρ σ
 sto:Sto ι H S
 at':tn i s.heap
 le:i<=ds.length
 fz:∀b∈fp,H b=none
 it:ItG ι H J ds gu
 pf:∀p∈pins,p.1∉fp
def Pw(X:Cx)(J:It)(tn:Nat->Heap->Prop)(fp:01)(ds:List D)(gu:Sr->Prop)(M:Model)(B:Around)(g:D->En->Sr->Res En)(mt:En->Sr->Res Bool)(me:05):Nat->GenState->Nat->En->Sr->Prop
 |0,_,_,_,_=>True
 |n+1,gs,i,ρ,S=>∀pins ι H s,Sus X J tn fp ds gu i ρ S ι H pins s->gnx gu g mt me i (ds.drop i) ρ S≠.bad->Go M B (λx z=>match x with
  | .ret r=>r=.ok .next/\∃c a H' h,gnx gu g mt me i (ds.drop i) ρ S=.fin c/\Inv X pins h H' z/\Stp ι H a H'/\Sto a H' c
  | .susp v gd vs f k p l=>(End.susp v gd vs f k p l).quiet=true/\∃j b d c a H' y,gnx gu g mt me i (ds.drop i) ρ S=.yl j b d c/\Stp ι H a H'/\Den a H' d y/\RelV y v/\Sus X J tn fp ds gu j b c a H' pins z /\
   Pw X J tn fp ds gu M B g mt me n (End.susp v gd vs f k p l).genState j b c) s gs
def Pz(X:Cx)(J:It)(tn:Nat->Heap->Prop)(fp:01)(ds:List D)(gu:Sr->Prop)(M:Model)(B:Around)(g:D->En->Sr->Res En)(mt:En->Sr->Res Bool)(me:05)(n:Nat)(j:GN)(pins:04)(ι:01)(H:Hp):End->Shared->Prop:=λx z=>match x with
  | .ret r=>r=.ok .next/\∃c a H' h,j=.fin c/\Inv X pins h H' z/\Stp ι H a H'/\Sto a H' c
  | .susp v gd vs f k p l=>(End.susp v gd vs f k p l).quiet=true/\∃i b d c a H' y,j=.yl i b d c/\Stp ι H a H'/\Den a H' d y/\RelV y v/\Sus X J tn fp ds gu i b c a H' pins z /\
   Pw X J tn fp ds gu M B g mt me n (End.susp v gd vs f k p l).genState i b c
theorem qf8{tg elt iter:Expr}{ifs:List Expr}{sc:Scope}{J:It}{fp:01}{it:Addr}{tn:Nat->Heap->Prop}{g:D->En->Sr->Res En}{mt:En->Sr->Res Bool}{me:05}{ds:List D}{gu:Sr->Prop}{B:Around}(O:X.xe=λ_ _=>False)(hc:X.calm=true)(a1:X.ex=fp)(a2:∀p∈X.pn,p.1∉fp)(hA:X.A=B.over (.compLoop (.GeneratorExp elt [⟨tg,iter,ifs,0⟩] sc pos) 0 (.ref it) .none X.env) [])(a4:X.env.scope.isCoroutine=false)(T':Turn X.prog X.w X.K tg J fp it tn)(hg:PG X tg (TGt g))(ht:PTl X ifs (TB mt))(he:PE X elt (T me)):∀(n m i:Nat) (ρ:En) (S:Sr) (pins:04) (q:01) (H0:Hp) (ι:01) (H:Hp) (s:Shared),ds.length-i=m ->
   Sus X J tn fp ds gu i ρ S ι H pins s->Stp q H0 ι H->gnx gu g mt me i (ds.drop i) ρ S≠.bad ->
   Sg 03 B (Pz X J tn fp ds gu 03 B g mt me n (gnx gu g mt me i (ds.drop i) ρ S) pins q H0) (.compLoop (.GeneratorExp elt [⟨tg,iter,ifs,0⟩] sc pos) 0 (.ref it) .none X.env)
    ((model X.prog X.w).den (.compLoop (.GeneratorExp elt [⟨tg,iter,ifs,0⟩] sc pos) 0 (.ref it) .none X.env)) [] s:=by
 intro n;induction n using Nat.strongRecOn with
 |ind n a5 =>
 intro m;induction m with
 |zero =>
  intro i ρ S pins q H0 ι H s hm U q0 hb;obtain⟨⟨σ,I,er⟩,st,t1,le,f1,ok,pf⟩:=U;have hi:i=ds.length:=by omega
  subst hi;have j:∀{H':Hp},(∀b∈fp,H' b=none)->∀b∈fp,FpOk X pins H' b:=λhn b hb=>by
   have a:b∈X.ex:=by rw[a1];exact hb
   exact⟨hn b hb,(I.ok.exf b a).1,λz=>I.ok.exfs b a z,.inl a,(I.ok.exf b a).2,λp hp z=>(w9.mp hp).elim (λy=>a2 p y (z ▸ hb)) λy=>pf p y (z ▸ hb)⟩
  show Sg _ B _ _ ((compTurn (.GeneratorExp elt [⟨tg,iter,ifs,0⟩] sc pos) 0 (.ref it) .none X.env).onRaise (leaving X.env)) [] s;rw[compTurn_gen,vJ];refine qE (wu (qE ?_));rw[<-hA];have C:gu S:=by
   rw[vk (wN _)]at hb;exact y7 hb
  refine thnF (T'.done X rfl rfl rfl hc _ pins s σ H _ I (j f1) t1 (ok.stop ι H S (Stp.refl _ _) st C)) λr s2 ⟨hr,I2⟩=>?_
  subst hr;refine qf6 (.ok .next) ⟨rfl,S,ι,H,σ,?_,I2,q0,st⟩;rw[vk (wN _)];exact yH C _
 |succ m a6 =>
  intro i ρ S pins q H0 ι H s hm U q0 hb;obtain⟨⟨σ,I,er⟩,st,t1,le,f1,ok,pf⟩:=U;have P:i<ds.length:=by omega
  have j:∀{H':Hp},(∀b∈fp,H' b=none)->∀b∈fp,FpOk X pins H' b:=λhn b hb=>by
   have a:b∈X.ex:=by rw[a1];exact hb
   exact⟨hn b hb,(I.ok.exf b a).1,λz=>I.ok.exfs b a z,.inl a,(I.ok.exf b a).2,λp hp z=>(w9.mp hp).elim (λy=>a2 p y (z ▸ hb)) λy=>pf p y (z ▸ hb)⟩
  have hd:ds[i]?=some ds[i]:=wD P;have ed:ds.drop i=ds[i]::ds.drop (i+1):=vw P;have C:gu S:=by
   rw[ed]at hb;exact y7 hb
  obtain⟨go,yl⟩:=ok.go i _ ι H S (Stp.refl _ _) st C hd;show Sg _ B _ _ ((compTurn (.GeneratorExp elt [⟨tg,iter,ifs,0⟩] sc pos) 0 (.ref it) .none X.env).onRaise (leaving X.env)) [] s;rw[compTurn_gen,vJ];refine qE (wu (qE ?_));rw[<-hA];refine thnF (T'.item X rfl rfl rfl hc i pins s σ H _ I (j f1) t1 go) λr s2 ⟨u,hr,h2⟩=>?_
  subst hr;refine qE ?_;rw[<-hA];refine thnF h2 λ_ s3 ⟨x,H3,I3,r3,y3,t3,f3⟩=>?_
  obtain⟨q3,a7⟩:=yl x H3 y3;obtain⟨k3,d3⟩:=a7 S st;have a8:=I3.pinned (j f3) (T'.obj _ _ t3);rw[ed]at hb ⊢;unfold gnx at hb ⊢;rw[yH C]at hb ⊢;cases z1:g ds[i] ρ S with
  |no=>rw[z1]at hb;exact absurd rfl hb
  |err=>rw[z1]at hb;exact absurd rfl hb
  |ok c S2 =>
   rw[z1]at hb;dsimp only at hb ⊢;refine qE ?_;rw[<-hA];refine wz (hg _ s3 σ H3 x u (λE Q=>∃d,Stp ι H3 d Q/\Sto d Q S2/\EnR d Q c E) a8 r3 ⟨ι,S,ρ,ds[i],er.mono q3,k3,d3,?_⟩) (λ_ s4 ⟨E,Q,I4,d,q4,W,l⟩=>?_) λ_ _ z=>by rw[O]at z;exact z.elim
   .rw [z1];exact λE d Q q4 W l=>⟨d,q4,W,l⟩
   cases z2:mt c S2 with
   |no=>rw[z2]at hb;exact absurd rfl hb
   |err=>rw[z2]at hb;exact absurd rfl hb
   |ok b S3 =>
    rw[z2]at hb;refine qE ?_;rw[<-hA];refine wz (ht _ s4 E Q (λb' Y=>b'=b/\∃f,Stp d Q f Y/\Sto f Y S3) I4 ⟨d,S2,c,l,W,?_⟩) (λb' s5 ⟨Y,I5,eb,f,N,L⟩=>?_) λ_ _ z=>by rw[O]at z;exact z.elim
    .rw [z2];exact λb' f Y N L eb=>⟨(show b=b' from eb).symm,f,N,L⟩
    subst eb;have sus:∀{M:St} {H7:Hp} {s7:Shared} {F:01} {S7:Sr},Inv X (pins++pinsAt fp s3.heap) M H7 s7->Stp ι H F H7->EnR F H7 c M->Sto F H7 S7->Sus X J tn fp ds gu (i+1) c S7 F H7 pins s7:=by
     intro M H7 s7 F S7 I7 q7 a9 aa;refine⟨⟨M,I7.unpinned,a9⟩,aa,T'.keep _ _ _ t3 λb hb o eo=>(I7.pin (b,o) (wG _ (wG _ (qz hb eo)))).1,P,λb hb=>?_,ok.mono q7,pf⟩;obtain⟨o,eo,_⟩:=T'.obj _ _ t3 b hb;exact(I7.pin (b,o) (wG _ (wG _ (qz hb eo)))).2.1
    cases b' with
    |false =>
     dsimp only at hb ⊢;exact qX rfl (a6 (i+1) c S3 pins q H0 f Y s5 (by omega) (sus I5 ((q3.trans q4).trans N) (l.mono N) L) (q0.trans ((q3.trans q4).trans N)) hb)
    |true =>
     dsimp only at hb ⊢;cases z3:me c S3 with
     |no=>rw[z3]at hb;exact absurd rfl hb
     |err=>rw[z3]at hb;exact absurd rfl hb
     |ok v S4 =>
      dsimp only;have hy:∀v,yieldOut X.env v=yieldValue v:=λv=>by simp only[yieldOut,a4,vI,uB]
      simp only[hy,v6];rw[uh,uh,xO,xO];refine jQ ?_;rw[<-hA];refine wz (he _ s5 E Y (λy H6=>∃h,Stp f Y h H6/\Sto h H6 S4/\Den h H6 v y) I5 ⟨f,S3,c,l.mono N,L,?_⟩) (λy' s6 ⟨y,H6,I6,ry,h,q6,Z,dv⟩=>?_) λ_ _ z=>by rw[O]at z;exact z.elim
      .rw [z3];exact λy h H6 q6 Z dv=>⟨h,q6,Z,dv⟩
      have tot:=((q3.trans q4).trans N).trans q6;refine qjf (qf7 λp=>⟨rfl,i+1,c,v,S4,h,H6,y,rfl,q0.trans tot,dv,ry,sus I6 tot (l.mono (N.trans q6)) Z,?_⟩);cases n with
      |zero=>trivial
      |succ n' =>
       intro a0 a3 H' s' U' a;exact qX rfl (a5 n' (xT _) _ (i+1) c S4 a0 a3 H' a3 H' s' rfl U' (Stp.refl _ _) a)
end
section
variable{gu:Sr->Prop}{g:D->En->Sr->Res En}{mt:En->Sr->Res Bool}{me:En->Sr->Res D}
theorem qad:∀(l:List D) (i:Nat) (ρ:En) (S:Sr) {b:Nat} {a:En} {v:D} {c:Sr},gnx gu g mt me i l ρ S=.yl b a v c->i<b/\b<=i+l.length
 |[],_,_,S,_,_,_,_,h=>by
  rw[show gnx gu g mt me _ [] _ S=grdN gu S (.fin S)from rfl,yH (y7 (by rw[show grdN gu S (.fin S)=_ from h];intro z;cases z))]at h;cases h
 |d::r,i,ρ,S,b,a,v,c,h=>by
  unfold gnx at h;rw[yH (y7 (by rw[h];intro z;cases z))]at h;split at h
  .split at h
   .split at h
    .cases h;simp
    .cases h
   .have:=qad r (i+1) _ _ h
    simp only[wj];lia
   .cases h
  .cases h
noncomputable def gen1{a:Type}(step:a->D->Option (a ⊕ D))(fin:a->Option D)(rest:Nat->En->a->Sr->Res D)(b:a):GN->Res D
 | .fin S=>ofO (fin b) S
 | .yl i ρ v S=>match step b v with
  |some (.inl b')=>rest i ρ b' S
  |some (.inr x)=>.ok x S
  |none=>.no
 | .bad=>.no
theorem qdQ{c:Type}{step:c->D->Option (c ⊕ D)}{fin:c->Option D}:∀(l:List D) (i:Nat) (ρ:En) (b:c) (S:Sr) {d:D} {f:Sr},genLoopG gu g mt me step fin l ρ b S=.ok d f ->
  gen1 step fin (λj ρ b S=>genLoopG gu g mt me step fin (l.drop (j-i)) ρ b S) b (gnx gu g mt me i l ρ S)=.ok d f
 |[],_,_,_,S,d,f,h=>by
  have a:gu S:=Classical.byContradiction λn=>by
   unfold genLoopG at h;rw[yq n]at h;cases h
  unfold genLoopG at h;rw[zh a]at h;unfold gnx;rw[yH a];exact h
 |x::r,i,ρ,b,S,d,f,h=>by
  have a:gu S:=Classical.byContradiction λn=>by
   unfold genLoopG at h;rw[yq n]at h;cases h
  unfold genLoopG at h;rw[zh a]at h;unfold gnx;rw[yH a];cases z1:g x ρ S with
  |no=>rw[z1]at h;cases h
  |err=>rw[z1]at h;cases h
  |ok ρ1 S1 =>
   rw[z1,Res.bind_ok]at h;dsimp only;cases z2:mt ρ1 S1 with
   |no=>rw[z2]at h;cases h
   |err=>rw[z2]at h;cases h
   |ok t S2 =>
    rw[z2,Res.bind_ok]at h;cases t with
    |true =>
     rw[wR rfl]at h;dsimp only;cases z3:me ρ1 S2 with
     |no=>rw[z3]at h;cases h
     |err=>rw[z3]at h;cases h
     |ok v S3 =>
      rw[z3,Res.bind_ok]at h;have e:i+1-i=1:=by lia
      simp only[gen1,e,uw,xG];exact h
    |false =>
     rw[wT 02]at h;dsimp only;have q:=qdQ r (i+1) ρ1 b S2 h;cases z4:gnx gu g mt me (i+1) r ρ1 S2 with
     |fin S3=>rw[z4]at q;exact q
     |bad=>rw[z4]at q;cases q
     |yl j m v S3 =>
      rw[z4]at q;have:=qad r (i+1) ρ1 S2 z4;have e:j-i=j-(i+1)+1:=by lia
      simp only[gen1]at q ⊢;rw[e,uw];exact q
theorem yu{a:Type}{step:a->D->Option (a ⊕ D)}{fin:a->Option D}{ds:List D}{gu:Sr->Prop}{i:Nat}{ρ:En}{b:a}{S:Sr}{d:D}{c:Sr}(h:genLoopG gu g mt me step fin (ds.drop i) ρ b S=.ok d c):
  gen1 step fin (λj ρ b S=>genLoopG gu g mt me step fin (ds.drop j) ρ b S) b (gnx gu g mt me i (ds.drop i) ρ S)=.ok d c:=by
 have q:=qdQ _ i ρ b S h;cases z:gnx gu g mt me i (ds.drop i) ρ S with
 |fin S3=>rw[z]at q;exact q
 |bad=>rw[z]at q;cases q
 |yl j f v S3 =>
  rw[z]at q;have:=qad _ i ρ S z;simp only[gen1]at q ⊢;rw[List.drop_drop]at q;have e:i+(j-i)=j:=by lia
  rw[e]at q;exact q
end
def qbm{s:Shared}{n:Nat}{x y:GenState}:(s.setGen n x).setGen n y=s.setGen n y:=by
 unfold Shared.setGen;simp
def GK.done{a g:Array GenState}{x:GenState}(h:GK (a.push .running) (g.setIfInBounds a.size .running))(e:g[a.size]?=some x)(b:x.bare=true):GK a g:=by
 refine⟨λy c=>?_,?_,λi hi=>?_⟩
 .obtain ⟨i,hi,rfl⟩:=Array.mem_iff_getElem.mp c
  by_cases q:i=a.size
  .subst q
   rw[vx hi]at e;cases e;exact b
  .refine h.bare _ ?_
   have:(g.setIfInBounds a.size .running)[i]'(by simpa using hi)=g[i]:=by
    rw[vi];rw[wT (Ne.symm q)]
   rw[<-this];exact Array.getElem_mem _
 .have:=h.sz
  simp at this;lia
 .have:=h.old i (by simp;lia)
  rw[Array.getElem?_setIfInBounds_ne 00]at this;rw[this,Array.getElem?_push_lt hi];exact(vx hi).symm
def qae{X:Cx}{pins:04}{a:St}{H:Hp}{s:Shared}(I:Inv X pins a H s){g':Array GenState}(h:GK X.s₀.gens g'):Inv X pins a H {s with gens:=g' } :=
 ⟨I.ok,I.os,h,I.base,I.loc,I.cell,I.free,I.freeC,I.pin,I.hok,I.len⟩
section
variable{X:Cx}
structure Cs (X:Cx) (J:It) (tn:Nat->Heap->Prop) (fp:01) (ds:List D) (gu:Sr->Prop) (B:Around) (g:D->En->Sr->Res En) (mt:En->Sr->Res Bool) (me:05) (n k i:Nat) (ρ:En) (S:Sr) (ι:01) (H:Hp) (pins:04) (s:Shared):Prop where
 sus:Sus X J tn fp ds gu i ρ S ι H pins (s.setGen n .running)
 st:∃gs,s.gens[n]?=some gs/\gs.bare=true/\Pw X J tn fp ds gu 03 B g mt me k gs i ρ S
theorem qdR{J:It}{tn:Nat->Heap->Prop}{fp:01}{ds:List D}{gu:Sr->Prop}{A:Around}{g:D->En->Sr->Res En}{mt:En->Sr->Res Bool}{me:05}{n k i:Nat}{ρ:En}{S:Sr}{ι:01}{H:Hp}{pins:04}{s:Shared}{a:Addr}{o:Obj}{F:Array GenState}{Q:Option Value->Shared->Prop}{E:06}(Z:A.handled=none)(hd:A.depth<recursionLimit)(ho:(a,o)∈X.pn)(hg:∀h:Heap,h.get? a=some o->h.IsGen a n)(M:X.s₀.gens=F.push .running)(hn:n=F.size)(C:Cs X J tn fp ds gu A.in1 g mt me n (k+1) i ρ S ι H pins s)(hb:gnx gu g mt me i (ds.drop i) ρ S≠.bad)(fin:∀m c H' b z,gnx gu g mt me i (ds.drop i) ρ S=.fin m->Inv X pins b H' (z.setGen n .running)->GK F z.gens->Stp ι H c H'->Sto c H' m->Q none z)(yl:∀L u d m c H' y v z,gnx gu g mt me i (ds.drop i) ρ S=.yl L u d m->Stp ι H c H'->Den c H' d y->RelV y v->Cs X J tn fp ds gu A.in1 g mt me n k L u m c H' pins z->Q (some v) z):
  wpAny 03 A (pyNext (.ref a)) Q E s:=by
 obtain⟨U,gs,hs,a0,pw⟩:=C;obtain⟨⟨σ,I,er⟩,_⟩:=id U;have hp:s.heap.get? a=some o:=(I.pin (a,o) (wp _ ho)).1;refine qb3 Z I.nolimit hd (hg _ hp) hs (pw pins ι H _ U hb) λx z q=>?_
 have hsz:∀{b:St} {H':Hp},Inv X pins b H' z->z.gens[n]?=some .running/\n<z.gens.size:=λ{b H'} J=>by
  have e:=J.bare.old n (by rw[M,hn];simp);rw[M,hn]at e;rw[hn];have B:(F.push GenState.running)[F.size]?=some .running:=by simp
  rw[B]at e;exact⟨e,by
   rcases Nat.lt_or_ge F.size z.gens.size with N|N
   .exact N
   .rw [ug N]at e;cases e⟩
 have bk:∀{b:St} {H':Hp} (y:GenState),Inv X pins b H' z->Inv X pins b H' ((z.setGen n y).setGen n .running):=λ{b H'} y J=>by
  rw[qbm];have e:(z.gens.setIfInBounds n .running)=z.gens:=by
   obtain⟨e1,B⟩:=hsz J;apply Array.ext
   .simp
   .intro j h1 h2
    rw[vi];split
    .rename_i q
     subst q;rw[vx B]at e1;exact(Option.some.inj e1).symm
    .rfl
  have:=qae J (g':=z.gens.setIfInBounds n .running) (by rw[e];exact J.bare);exact this
 cases x with
 |ret r =>
  obtain⟨e,m,c,H',b,e1,J,s1,O⟩:=q;refine⟨e,λh' hk=>fin m c H' b _ e1 ?_ ?_ s1 O⟩
  .have:=(bk .finished J).kept (h':=h') (t':=z.toks) hk
   exact this
  .refine GK.done (x:=.finished) (g:=(z.gens.setIfInBounds n .finished)) ?_ ?_ rfl
   .have:=(bk .finished J).bare
    rw[M]at this;rw[<-hn];exact this
   .rw [<-hn]
    obtain⟨_,B⟩:=hsz J;simp[B]
 |susp v gd vs f k' p l =>
  obtain⟨W,L,u,d,m,c,H',y,e1,s1,dv,ry,Y,P⟩:=q;refine⟨W,yl L u d m c H' y v _ e1 s1 dv ry ⟨?_,_,?_,End.bare_of_quiet W,P⟩⟩
  .obtain ⟨⟨b,J,K⟩,a1,a2,a3,a4,a5,a6⟩:=Y
   exact⟨⟨b,bk _ J,K⟩,a1,a2,a3,a4,a5,a6⟩
  .obtain ⟨⟨b,J,K⟩,_⟩:=Y
   obtain⟨_,B⟩:=hsz J;show(z.gens.setIfInBounds n _)[n]?=_;simp[B]
end
section
variable{X:Cx}{pos:Pos}
theorem qc5{K:PySem.W.Frag}{h:Heap}(kin:K.In h){c T:Addr}{ps:Array Value}(e:codeTab K c T=true)(n:h.get? T=some {cls:=.none,data:=.fields ps})(tr:TriplesOk ps.toList):h.IsCode c T ps/\h.TableAt c T ps:=by
 unfold codeTab at e;split at e
 .rename_i cls d vs sl p
  simp only[wZ,uI]at e;obtain⟨⟨e1,_⟩,i⟩:=e;split at i
  .rename_i a b v w x y A B C j f l q r m
   simp only[wZ,uI,bne_iff_ne]at i;obtain⟨⟨s,u⟩,ne⟩:=i;subst s;subst u;have o:=kin _ _ p;exact⟨⟨_,vs,_,_,_,_,_,_,_,_,o,rfl,j,l,q,r,m,n,rfl,tr,ne⟩,⟨_,vs,o,e1,rfl,f⟩,n⟩
  .cases i
 .cases e
theorem qb4{M:Model}{A:Around}{E:06}{pins:04}{J:St}{H:Hp}{s:Shared}{c T:Addr}{q:Str}{sc:Scope}(I:Inv X pins J H s)(Q:X.env.code=.ref c)(U:codeTab X.K c T=true):
  wpAny M A (genexprCode X.env pos q sc) (λ_ s'=>∃H',Inv X pins J H' s'/\s'.gens=s.gens/\(∀ι,Stp ι H ι H')/\(∀ι S,Sto ι H S->Sto ι H' S)/\∀b o,s.heap.get? b=some o->H b=none->s'.heap.get? b=some o/\H' b=none) E s:=by
 obtain⟨p,Z⟩:=I.ok.tab c T U;obtain⟨mo,B⟩:=I.base.tbls T p Z;generalize p++mo=ps at B;obtain⟨eT,tr⟩:=I.hok T _ B;obtain⟨W,ta⟩:=qc5 I.kIn U eT tr;cases z:codeAmong pos ps.toList with
 |some v=>exact wpAny_genexprCode_hit Q W z ⟨H,I,rfl,λ_=>Stp.refl _ _,λ_ _ x=>x,λb o e n=>⟨e,n⟩⟩
 |none =>
  refine wpAny_genexprCodeX Q W ta z λY h' tk i _ _ C _ h _=>?_
  generalize L:ps++#[rawInt pos.line,rawInt pos.col,.ref Y]=ps' at C h;have f:∀{b:Addr} {u:HO},H b=some u->(∀x,u≠.tbl x)->b≠T:=λ{b u} e n z=>by
   subst z;rw[B]at e;cases e;exact n _ rfl
  have j:∀{b:Addr},H b=none->b≠T:=λ{b} e z=>by subst z;rw[B]at e;cases e
  have N:TriplesOk ps'.toList:=by
   obtain⟨_,_,_,_,_,_,_,_,_,_,_,_,_,_,_,_,_,e1,O,t,_⟩:=C;exact t
  have P:HOk X.prog X.w (upd H T (.tbl ps')) h':=λb u e=>by
   by_cases q:b=T
   .subst q
    rw[qB]at e;cases e;exact⟨h.2,N⟩
   .rw [qm q]at e
    refine(I.hok b u e).stay (λd v hd eo=>i d v ?_ eo) (λd F=>by rw[qm (f F (by intro _ z;cases z))];exact F) λd xs F=>by rw[qm (f F (by intro _ z;cases z))];exact F
    rcases hd with y|y
    .subst y;exact q
    .exact f y (by intro _ z;cases z)
  have I':Inv X pins J (upd H T (.tbl ps')) {s with heap:=h',toks:=tk}:=by
   refine I.step (g':=s.gens) (d':=s.drawn) (ch:=[]) (λ_ z=>nomatch z) (λb o _ _ _ e n=>i b o (j n) e) (λb o _ _ _ e n=>⟨o.slots,i b o (j n) e⟩) (λb o _ e n=>by rw[qm (j n)];exact n)
    (λb o _ e=>?_) (λb xs e=>by rw[qm (f e (by intro _ z;cases z))];exact e) (λb o u e=>by rw[qm (f e (by intro _ z;cases z))];exact e) (λb qs e=>?_) (λm hm=>?_) P I.bare.self
   .by_cases q:b=T
    .subst q;exact⟨_,h.2⟩
    .exact ⟨o,i b o q e⟩
   .by_cases q:b=T
    .subst q
     rw[B]at e;cases e;exact⟨#[rawInt pos.line,rawInt pos.col,.ref Y],by rw[qB,<-L]⟩
    .exact ⟨#[],by rw[qm q,e];simp⟩
   .obtain ⟨o,es,ep,ho,r⟩:=hm
    exact⟨o,es,ep,i _ o (j I.free) ho,r⟩
  have sp:∀ι,Stp ι H ι (upd H T (.tbl ps')):=λι=>⟨um _,λ_ m=>.inl m,λa u e _ nt=>by
    rw[qm (f e (by intro x z;subst z;exact nt))];exact e,λa e=>by
    by_cases q:a=T
    .subst q;rw[qB];simp
    .rw [qm q];exact e⟩
  refine⟨_,I',rfl,sp,λι S st=>⟨st.len,st.nd,λn a so e1 O=>(st.obj n a so e1 O).mono (sp ι) ?_⟩,λb o e n=>⟨i b o (j n) e,by rw[qm (j n)];exact n⟩⟩;have k:=st.obj n a so e1 O;cases so with
  |l l=>obtain⟨_,xs,e,_⟩:=k;rw[qm (f e (by intro _ z;cases z))]
  |dic l=>obtain⟨_,xs,e,_⟩:=k;rw[qm (f e (by intro _ z;cases z))]
  |dis l=>obtain⟨_,xs,e,_⟩:=k;rw[qm (f e (by intro _ z;cases z))]
theorem qdS{M:Model}{A:Around}{E:06}{pins:04}{a:St}{H:Hp}{s:Shared}{Q:Addr->Shared->Prop}(I:Inv X pins a H s)(h:Q builtinsNs s):wpAny M A (builtinsFor X.env.globals X.env.builtins) Q E s:=by
 obtain⟨bm,ob,e1,b,c,d,f,i⟩:=I.ok.mod.bmod;rw[I.ok.glob];exact wpAny_builtinsFor (I.ok.mod.glob.keeps I.bk) e1 b (I.bk _ _ c) d f i h
noncomputable def genCx(X:Cx)(sc:Scope)(cl:List (Str×Addr))(C:Addr)(code:Value)(N':List Str)(fp:01)(ge:Expr)(it:Addr)(o:Addr×Obj)(s:Shared)(H:Hp):Cx :=
 {X with A:=X.A.in4.in1.over (.compLoop ge 0 (.ref it) .none (genEnv sc cl C code builtinsNs X.env)) [],N:=N',s₀:={s with gens:=s.gens.push .running},H₀:=H,env:=genEnv sc cl C code builtinsNs X.env,outer:=X.stack,stack:=genEnv sc cl C code builtinsNs X.env::X.stack,ex:=fp,fn:=λ_=>false,pn:=[o],xe:=λ_ _=>False}
theorem qb5{sc:Scope}{cl:List (Str×Addr)}{code:Value}{N':List Str}{fp:01}{tg elt iter:Expr}{ifs:List Expr}{it:Addr}{o:Addr×Obj}{pins:04}{j:St}{H:Hp}{s:Shared}(I:Inv X pins j H s)(l:sc.kind=.function)(a:∀y∈sc.names,y.2≠.cell)(d:Clos X sc cl)(f:∀b∈fp,FpOk X pins H b)(n:∀b∈fp,b<s.heap.objs.size):(genCx X sc cl s.heap.objs.size code N' fp (.GeneratorExp elt [⟨tg,iter,ifs,0⟩] sc pos) it o s H).Ok where
 mod:=I.ok.mod
 kind:=l
 glob:=I.ok.glob
 blt:=rfl
 above:=wN _
 inj:=λx y c p q=>I.ok.inj x y c (d.sub x c p) (d.sub y c q)
 has:=λx i=>by
  have i:sc.names.lookup x=some .cell\/sc.names.lookup x=some .free:=i;rcases i with z|z
  .exact absurd rfl (a _ (vW z))
  .exact d.all x z
 cab:=λx c h _=>by cases h
 hd:=λh=>I.ok.hd h
 frames:=by
  unfold genCx Around.over;dsimp only[u5,envsOf,List.filter_nil,List.filterMap_nil,pushEnvs];rw[I.ok.frames];rfl
 stk:=.inr ⟨rfl,rfl⟩
 exf:=λb hb=>⟨wk (n b hb),λx c h=>(f b hb).2.2.2.2.1 x c (d.sub x c h)⟩
 bs:=I.bs
 bsz:=vK I.ok.bsz I.sz
 noex:=λb o e hb=>by
  rcases(f b hb).2.2.2.1 with z|z
  .exact I.ok.noex b o e z
  .exact absurd (w8 (wP e) (vK I.ok.bsz z)) (vR _)
 exfs:=λb hb r=>by
  rcases wX.mp (I.stkSub b r)with z|z
  .exact (f b hb).2.1 z
  .exact (f b hb).2.2.1 z
 funs:=I.stack
 frf:=I.stkFree
 tab:=λc T z=>let ⟨ps,e⟩:=I.ok.tab c T z;let ⟨m,u⟩:=I.base.tbls _ _ e;⟨_,u⟩
end
section
variable{X:Cx}{pos:Pos}
theorem qeZ{tg elt iter:Expr}{ifs:List Expr}{sc:Scope}{J:It}{fp:01}{it:Addr}{tn:Nat->Heap->Prop}{g:D->En->Sr->Res En}{mt:En->Sr->Res Bool}{me:05}{ds:List D}{gu:Sr->Prop}{B:Around}(b:X.xe=λ_ _=>False)(i:X.calm=true)(c:X.ex=fp)(d:∀p∈X.pn,p.1∉fp)(j:X.A=B.over (.compLoop (.GeneratorExp elt [⟨tg,iter,ifs,0⟩] sc pos) 0 (.ref it) .none X.env) [])(f:X.env.scope.isCoroutine=false)(T':Turn X.prog X.w X.K tg J fp it tn)(l:PG X tg (TGt g))(n:PTl X ifs (TB mt))(o:PE X elt (T me))(ρ:En)(S:Sr):∀k,Pw X J tn fp ds gu 03 B g mt me k (.fresh (.compStart (.GeneratorExp elt [⟨tg,iter,ifs,0⟩] sc pos) 0 (.ref it) .none X.env)) 0 ρ S
 |0=>trivial
 |k+1=>by
  intro pins ι H s U hb;have a:=qf8 b i c d j f T' l n o k _ 0 ρ S pins ι H ι H s rfl U (Stp.refl _ _) hb;have h:=U.at';show Sg _ B (Pz X J tn fp ds gu _ B g mt me k _ pins ι H) _ ((compStart (.GeneratorExp elt [⟨tg,iter,ifs,0⟩] sc pos) 0 (.ref it) .none X.env).onRaise (leaving X.env)) [] s;unfold compStart;rw[vJ];refine qE (m:=ask) (wpAny_askSetting ?_);split
  .exact qX rfl a
  .refine qE (vc ?_)
   first
    |exact qE (wu (qE (T'.self _ 0 s _ _ h (qX rfl a))))
    | (show Sg _ B _ _ ((standAt iter.pos >>= _).wrap _ _ _ _) [] s
       exact qE (wu (qE (T'.self _ 0 s _ _ h (qX rfl a)))))
structure BlkG (X:Cx) (sc:Scope) (N':List Str) (tg iter:Expr) (ifs:List Expr) (elt:Expr) (pos:Pos) (g:D->En->Sr->Res En) (mt:En->Sr->Res Bool) (me:05):Prop where
 rt:∀cl C code fp it o s H,PG (genCx X sc cl C code N' fp (.GeneratorExp elt [⟨tg,iter,ifs,0⟩] sc pos) it o s H) tg (TGt g)
 ri:∀cl C code fp it o s H,PTl (genCx X sc cl C code N' fp (.GeneratorExp elt [⟨tg,iter,ifs,0⟩] sc pos) it o s H) ifs (TB mt)
 re:∀cl C code fp it o s H,PE (genCx X sc cl C code N' fp (.GeneratorExp elt [⟨tg,iter,ifs,0⟩] sc pos) it o s H) elt (T me)
noncomputable def GH(X:Cx)(pins:04)(l:St)(ds:List D)(gu:Sr->Prop)(g:D->En->Sr->Res En)(mt:En->Sr->Res Bool)(me:05)(a:Addr)(ρ:En)(S:Sr)(ι:01)(H:Hp)(s:Shared):Prop :=
 ∃sc cl C code N' fp ge it o d j J tn,(∀h:Heap,h.get? a=some o->h.IsGen a d.gens.size)/\(∀k,Cs (genCx X sc cl C code N' fp ge it (a,o) d j) J tn fp ds gu X.A.in4.in1 g mt me d.gens.size k 0 ρ S ι H [] s)/\(∀b∈fp,b<s.heap.objs.size) /\
  (∀i h h',tn i h->(∀b∈fp,∀o,h.get? b=some o->h'.get? b=some o)->tn i h') /\
  ∀c f H' z,Inv (genCx X sc cl C code N' fp ge it (a,o) d j) c f H' (z.setGen d.gens.size .running)->GK d.gens z.gens->Inv X pins l H' z
theorem qb6{tg elt iter:Expr}{ifs:List Expr}{sc:Scope}{fr:List Nat}{xs ts:List Str}{mi:En->Sr->Res (List D×(Sr->Prop))}{g:D->En->Sr->Res En}{mt:En->Sr->Res Bool}{me:05}{c T:Addr}(hc:X.calm=true)(U:X.A.depth<recursionLimit)(hi:PI X tg iter (TIg mi))(hs:∀x,genFold iter X.env x=pure x)(C':CSc X sc fr xs ts)(hz:sc.names.lookup (".0":Str)=some NameKind.local)(a3:sc.isCoroutine=false)(W:X.env.code=.ref c)(a4:codeTab X.K c T=true)(B:BlkG X sc (xs++ts) tg iter ifs elt pos g mt me){pins:04}{s:Shared}{N:St}{H:Hp}{ι:01}{S:Sr}{ρ:En}(I:Inv X pins N H s)(er:EnR ι H ρ N)(st:Sto ι H S){ds:List D}{gu:Sr->Prop}{S1:Sr}(hm:mi ρ S=.ok (ds,gu) S1):
  wpAny 03 X.A (eval (.GeneratorExp elt [⟨tg,iter,ifs,0⟩] sc pos) X.env) (λv s'=>∃a O H',v=.ref a/\Stp ι H O H'/\GH X pins N ds gu g mt me a (frE ρ fr ts.length) S1 O H' s') X.xe s:=by
 obtain⟨cl,CL⟩:=jP (X:=X) (sc:=sc) λx hx hf=>I.ok.has x.1 (C'.frees x hx hf)
 refine wpAny_GeneratorExp_make a3 CL.eq C'.nocell hz C'.kind U ?_ hs;refine thn (hi pins s N H (λJ H2=>∃C,Stp ι H C H2/\Sto C H2 S1/\ItG C H2 J ds gu) I ⟨ι,S,ρ,er,st,?_⟩) λxv s1 Q=>thn Q λam s2 E=>?_
 .rw [hm];exact λO H' J q a9 ok=>⟨O,q,a9,ok⟩
 obtain⟨it,fp,tn,J,H2,e,I2,T',t2,f2,C,q2,aa,ab⟩:=E;subst e;refine⟨I2.nolimit,thn (qb4 I2 W a4) λcode d ⟨H3,L,eg,Y,ac,Z⟩=>qdS L ?_⟩;intro m ad a5;have a6:∀b∈fp,∃o,s2.heap.get? b=some o/\H2 b=none:=λb hb=>by
  obtain⟨o,eo,_⟩:=T'.obj _ _ t2 b hb;exact⟨o,eo,(f2 b hb).1⟩
 have f3:∀b∈fp,FpOk X pins H3 b:=λb hb=>by
  obtain⟨o,e1,P⟩:=a6 b hb;exact⟨(Z b o e1 P).2,(f2 b hb).2⟩
 have l3:∀b∈fp,b<d.heap.objs.size:=λb hb=>by
  obtain⟨o,e1,P⟩:=a6 b hb;exact wP (Z b o e1 P).1
 have hsz:m.objs.size=d.heap.objs.size+1:=by rw[a5.1,vZ]
 have f:∀(u:Obj) b o,d.heap.get? b=some o->(m.push u).get? b=some o:=λu b o e=>wC _ (a5.extBut b o (wk (wP e)) (wC _ e))
 generalize a0:({cls:=.type "generator",data:=.fields #[.int d.gens.size 0,.str "<genexpr>" (d.toks+1),.str (X.env.qual++"<genexpr>") (d.toks+1+1)]}:Obj)=ob;have a1:H3 m.objs.size=none:=L.hok.fresh (by rw[hsz];lia);have ae:=qb5 (code:=code) (N':=xs++ts) (tg:=tg) (elt:=elt) (iter:=iter) (ifs:=ifs) (pos:=pos) (it:=it) (o:=(m.objs.size,ob)) L C'.kind C'.nocell CL f3 l3;have af:(m.push ob).Ns d.heap.objs.size (λy=>if y=".0" then some (.ref it)else none):=ad.push _;have ek:∀n,(d.gens.push (GenState.fresh n)).setIfInBounds d.gens.size .running=d.gens.push .running:=λn=>by
  apply Array.ext
  .simp
  .intro j Q E
   by_cases q:j=d.gens.size
   .subst q;simp
   .have:j<d.gens.size:=by simp at E;lia
    rw[vi (by simp;lia),wT (Ne.symm q),ul this,ul this]
 have al:∀b:Addr,(m.objs.size)≠b\/b=m.objs.size:=λb=>by
  by_cases q:b=m.objs.size
  .exact .inr q
  .exact .inl (Ne.symm q)
 have a7:(m.push ob).get? m.objs.size=some ob:=by subst a0;exact wM _ rfl
 have F:=C'.frs;have a8:∀(gg:Array GenState) (tk:Nat),gg=d.gens.push .running->Inv (genCx X sc cl d.heap.objs.size code (xs++ts) fp (.GeneratorExp elt [⟨tg,iter,ifs,0⟩] sc pos) it (m.objs.size,ob) d H3) [] (frS N fr ts.length) H3 {d with heap:=m.push ob,toks:=tk,gens:=gg}:=by
  intro gg tk ag;refine⟨ae,rfl,?_,Un.kept (f ob),⟨_,af,λi x v Q E h3=>?_⟩,λx M e=>?_,L.hok.fresh (wN _),λx M e=>L.freeC x M (CL.sub x M e),λp hp=>?_,L.hok.kept (f ob),?_⟩
  .subst ag
   exact GK.refl (AllBare.push L.bare.bare rfl)
  .have Q:(xs++ts)[i]?=some x:=Q
   have E:(frS N fr ts.length)[i]?=some (some v):=E;unfold frS at E;by_cases hi:i<fr.length
   .rw [wQ (by simpa using hi),w5,wD hi]at E
    rw[wQ (by rw[<-F.len];exact hi)]at Q;simp only[wg,Option.some.injEq]at E;have hN:=F.at' i fr[i] x (wD hi) Q;have ah:N[fr[i]]?=some (some v):=by
     cases z:N[fr[i]]? with
     |none=>rw[z]at E;cases E
     |some o=>rw[z]at E;simp at E;rw[E]
    obtain⟨kf,ko⟩:=F.kd x (wc Q);obtain⟨m0,an,ai⟩:=L.loc;obtain⟨u,r,l⟩:=ai fr[i] x v hN ah (.inr ko);refine⟨u,r,.inr ?_⟩;have aj:∃M,X.env.cells.lookup x=some M/\d.heap.IsCell M (some u):=by
     rcases l with ⟨z,_⟩|⟨_,M,e1,P⟩
     .rcases ko with q|q <;> (rw[z]at q;cases q)
     .exact ⟨M,e1,P⟩
    obtain⟨M,e1,o,P,e3⟩:=aj;obtain⟨c',e4⟩:=CL.all x kf;have e5:=CL.sub x c' e4;rw[e1]at e5;cases e5;exact⟨.inr kf,M,e4,o,f ob _ _ P,e3⟩
   .rw [wI (by simpa using hi),vF]at E
    split at E <;> cases E
  .obtain ⟨v,o,e1,P⟩:=L.cell x M (CL.sub x M e)
   exact⟨v,o,f ob _ _ e1,P⟩
  .have a2:p=(m.objs.size,ob):=by
    have:p∈[(m.objs.size,ob)]++([]:List (Addr×Obj)):=hp;simpa using this
   subst a2;refine⟨a7,a1,(show m.objs.size≠d.heap.objs.size by lia),λz=>?_,λv=>?_⟩
   .have z':m.objs.size∈frs X.stack:=z
    rcases wX.mp (L.stkSub _ z')with q|q
    .have:=L.lt
     rw[<-q,hsz]at this;exact absurd this (Nat.not_lt.mpr (Nat.le_succ _))
    .exact absurd q (L.nofs 00)
   .show ob.data≠_
    rw[<-a0];intro z;cases z
  .show (frS N fr ts.length).length=(xs++ts).length
   simp[frS,F.len]
 refine⟨m.objs.size,C,H3,rfl,q2.trans (Y C),sc,cl,d.heap.objs.size,code,xs++ts,fp,.GeneratorExp elt [⟨tg,iter,ifs,0⟩] sc pos,it,ob,d,H3,J,tn,λh e=>?_,λk=>⟨?_,_,Array.getElem?_push_size ..,rfl,?_⟩,λb hb=>?_,T'.keep,λak ao H' z J' gk=>?_⟩
 .rw [<-a0]at e
  exact⟨_,_,_,e,rfl,rfl,rfl⟩
 .refine ⟨⟨frS N fr ts.length,?_,(qbl er fr ts.length).mono (q2.trans (Y C))⟩,ac _ _ aa,T'.keep _ _ _ t2 λb hb o eo=>f ob b o (Z b o eo (f2 b hb).1).1,vP _,λb hb=>(f3 b hb).1,ab.mono (Y C),λp hp=>absurd hp (by simp)⟩
  exact a8 _ _ (ek _)
 .exact qeZ (X:=genCx X sc cl d.heap.objs.size code (xs++ts) fp (.GeneratorExp elt [⟨tg,iter,ifs,0⟩] sc pos) it (m.objs.size,ob) d H3) rfl hc rfl (λp hp hb=>by
   have a2:p=(m.objs.size,ob):=by
    have:p∈[(m.objs.size,ob)]:=hp;simpa using this
   subst a2;have:=l3 _ hb;have e:m.objs.size<d.heap.objs.size:=this;lia) rfl a3 T' (B.rt _ _ _ _ _ _ _ _) (B.ri _ _ _ _ _ _ _ _) (B.re _ _ _ _ _ _ _ _) _ _ k
 .have:=l3 b hb
  show b<(m.push ob).objs.size;rw[vZ];exact w8 (l3 b hb) 00
 .have ba:Un (frs X.stack) fp H3 H' d.heap z.heap:=J'.base
  exact L.call' (ch:=fp) J'.os ba J'.hok gk λb hb=>⟨(f3 b hb).2.2.2.1,(f3 b hb).2.1,(f3 b hb).2.2.2.2.1,(f3 b hb).2.2.2.2.2⟩
end
section
variable{X:Cx}{pos:Pos}
theorem qb7{M:Model}{A:Around}{a:Type}{t:Sem a}{Q:a->Shared->Prop}{E:06}{s:Shared}(h:wpAny M A.in4 t Q E s):wpAny M A.in1 t Q E s:=wpAny_of_in1 (wpAny_of_in1 (wpAny_of_in1 h))
section
variable{sc:Scope}{cl:List (Str×Addr)}{C:Addr}{code:Value}{N':List Str}{fp:List Addr}{ge:Expr}{it a:Addr}{o:Obj}{s4:Shared}{H4:Hp}{J:It}{tn:Nat->Heap->Prop}{ds:List D}{gu:Sr->Prop}{g:D->En->Sr->Res En}{mt:En->Sr->Res Bool}{me:En->Sr->Res D}
theorem qf9{c:Type}{step:c->D->Option (c ⊕ D)}{fin:c->Option D}{i:Nat}{ρ:En}{b:c}{S f:Sr}{d:D}(h:genLoopG gu g mt me step fin (ds.drop i) ρ b S=.ok d f):gnx gu g mt me i (ds.drop i) ρ S≠.bad:=λz=>by
 have q:=yu h;rw[z]at q;cases q
theorem qib{R:Result->Shared->Prop}(P:X.A.handled=none)(hd:X.A.depth<recursionLimit)(Q:∀h:Heap,h.get? a=some o->h.IsGen a s4.gens.size):∀(k i:Nat) (ρ:En) (b:D) (S:Sr) (ι:01) (H:Hp) (s:Shared) {d:D} {l:Sr},ds.length<k+i ->
  Cs (genCx X sc cl C code N' fp ge it (a,o) s4 H4) J tn fp ds gu X.A.in4.in1 g mt me s4.gens.size k i ρ S ι H [] s->genLoopG gu g mt me (stepG .all) (finG .all) (ds.drop i) ρ b S=.ok d l ->
  (∀j f H' z c,d=.bl c->Inv (genCx X sc cl C code N' fp ge it (a,o) s4 H4) [] j H' (z.setGen s4.gens.size .running)->GK s4.gens z.gens->Stp ι H f H'->Sto f H' l->R (.ok (.ret (.bool c))) z) ->
  codeAny 03 X.A (.builtin "all.loop" ⟨[.ref a],[]⟩) R s:=by
 intro k;induction k with
 |zero =>
  intro i ρ b S ι H s d l U r _ _;have:=r.sus.le;lia
 |succ k W =>
  intro i ρ b S ι H s d l U r e x;refine w1 F.entry_all_loop ?_;rw[vC F.plain_all_loop];refine wB (m:=pyNext (.ref a)) (qb7 (qdR (X:=genCx X sc cl C code N' fp ge it (a,o) s4 H4) (A:=X.A.in4) P hd wH Q rfl rfl r (qf9 e) (λS2 f H' j z n p B q st=>?_) λY E v S2 f H' y u z n q Z ry O=>?_))
  .have q2:=yu e
   rw[n]at q2;cases q2;exact wB (vc (wE (x j f H' z true rfl p B q st)))
  .have q2:=yu e
   have hi:=qad _ _ _ _ n;rw[n]at q2;simp only[gen1]at q2;have hv:∃c,v=.bl c:=by
    cases v with
    |bl c=>exact⟨c,rfl⟩
    |_=>simp only[stepG]at q2;cases q2
   obtain⟨c,rfl⟩:=hv;cases (show y=_ from Z);cases (show u=Value.bool c from ry);refine wB (vE (vT (wB (uv ?_))));cases c with
   |true =>
    simp only[stepG]at q2;rw[wR rfl];exact wE ⟨v9 F.plain_all_loop _,W Y E _ S2 f H' z 00 O q2 λI K H2 z2 c ec I2 B s2 L=>x I K H2 z2 c ec I2 B (q.trans s2) L⟩
   |false =>
    simp only[stepG]at q2;cases q2;rw[wT 02];obtain⟨⟨⟨M,p,a0⟩,N,_⟩,gs,eg,bg,_⟩:=O;exact wB (vc (wE (x M f H' z false rfl p (GK.done p.bare eg bg) q N)))
end
end
section
variable{X:Cx}{J:It}{tn:Nat->Heap->Prop}{fp:List Addr}{ds:List D}{gu:Sr->Prop}{B:Around}{g:D->En->Sr->Res En}{mt:En->Sr->Res Bool}{me:En->Sr->Res D}{n k i:Nat}{ρ:En}{S:Sr}{ι:List Addr}{H:Hp}{s:Shared}
theorem qic(C:Cs X J tn fp ds gu B g mt me n k i ρ S ι H [] s)(tk:∀i h h',tn i h->(∀b∈fp,∀o,h.get? b=some o->h'.get? b=some o)->tn i h')(c:∀b∈fp,b<s.heap.objs.size){u:Obj}(d:(s.heap.push u).get? s.heap.objs.size=some u)(f:∀v,u.data≠.cell v){t:Nat}:
  Cs X J tn fp ds gu B g mt me n k i ρ S ι H [(s.heap.objs.size,u)] {s with heap:=s.heap.push u,toks:=t}:=by
 obtain⟨⟨⟨j,I,l⟩,st,at',le,fz,ok,pf⟩,w⟩:=C;refine⟨⟨⟨j,?_,l⟩,st,tk _ _ _ at' λb _ o e=>wC _ e,le,fz,ok,λp a hb=>?_⟩,w⟩
 .have m:=I.kept (h':=s.heap.push u) (t':=t) λb o e=>wC _ e
  refine m.pins_of λp a=>?_
  obtain rfl:=w6.mp a;exact⟨d,I.hok.fresh (wN _),vl I.lt,I.nofs (wN _),f⟩
 .obtain rfl:=w6.mp a
  exact absurd (c _ hb) (vR _)
theorem qdT{p:Addr}{u f:Obj}{h':Heap}{t:Nat}(C:Cs X J tn fp ds gu B g mt me n k i ρ S ι H [(p,u)] s)(tk:∀i h h',tn i h->(∀b∈fp,∀o,h.get? b=some o->h'.get? b=some o)->tn i h')(E:X.s₀.heap.objs.size<=p)(hn:∀q∈X.pn,q.1≠p)(j:∀b o,b≠p->s.heap.get? b=some o->h'.get? b=some o)(F:h'.get? p=some f)(K:∀v,f.data≠.cell v):Cs X J tn fp ds gu B g mt me n k i ρ S ι H [(p,f)] {s with heap:=h',toks:=t}:=by
 obtain⟨⟨⟨l,I,L⟩,st,at',le,fz,ok,pf⟩,w⟩:=C;obtain⟨e1,m,r,M,N⟩:=I.pin (p,u) (wG _ (w6.mpr rfl));have np:p∉fp:=pf (p,u) (w6.mpr rfl);refine⟨⟨⟨l,?_,L⟩,st,tk _ _ _ at' λb hb o e=>j b o (λz=>np (z ▸ hb)) e,le,fz,ok,λq a hb=>?_⟩,w⟩
 .have y:Inv X [] l H (s.setGen n .running):=I.unpinned (pins:=[]) (pl:=[(p,u)])
  have O:=y.turned (h':=h') (t':=t) (it:=p) j m r (.inr E) (λx c P z=>by
   obtain⟨v,o,A,d⟩:=y.cell x c P;rw[z,e1]at A;cases A;exact N v d) λq a=>hn q (by simpa using a)
  refine O.pins_of λq a=>?_
  obtain rfl:=w6.mp a;exact⟨F,m,r,M,K⟩
 .obtain rfl:=w6.mp a
  exact np hb
end
noncomputable def mGenG(w:GW)(fr:List Nat)(nt:Nat)(mi:En->Sr->Res (List D×(Sr->Prop)))(g:D->En->Sr->Res En)(mt:En->Sr->Res Bool)(me:05):En->Sr->Res D:=λρ S=>(mi ρ S).bind λp S1 =>
 genLoopG p.2 g mt me (stepG w) (finG w) p.1 (frE ρ fr nt) (startG w) S1
noncomputable def mGen(w:GW)(fr:List Nat)(nt:Nat)(mi:En->Sr->Res (List D))(g:D->En->Sr->Res En)(mt:En->Sr->Res Bool)(me:05):En->Sr->Res D:=λρ S=>(mi ρ S).bind λds S1 =>
 genLoop g mt me (stepG w) (finG w) ds (frE ρ fr nt) (startG w) S1
def qga{w:GW}{fr:List Nat}{nt:Nat}{mi:En->Sr->Res (List D)}{g:D->En->Sr->Res En}{mt:En->Sr->Res Bool}{me:05}:mGenG w fr nt (λρ S=>(mi ρ S).bind λds S1=>.ok (ds,λ_=>True) S1) g mt me=mGen w fr nt mi g mt me:=by
 funext ρ S;unfold mGenG mGen;dsimp only;cases mi ρ S with
 |ok ds S1=>exact zP _ _ _ _
 |err=>rfl
 |no=>rfl
section
variable{X:Cx}{pos gp:Pos}
def GCall(X:Cx)(w:GW)(f:Value):Prop:=∀(pins:04) (s:Shared) (b:St) (H:Hp) (ι:01) (a:Addr) (ds:List D) (gu:Sr->Prop) (g:D->En->Sr->Res En) (mt:En->Sr->Res Bool) (me:05) (ρ:En) (S:Sr) (Q:VK),
 GH X pins b ds gu g mt me a ρ S ι H s->Pst Den (genLoopG gu g mt me (stepG w) (finG w) ds ρ (startG w) S) ι H Q->wpAny 03 X.A (call f [.ref a]) (EP X pins b Q) X.xe s
theorem qdU{w:GW}{ds:List D}{gu:Sr->Prop}{g:D->En->Sr->Res En}{mt:En->Sr->Res Bool}{me:05}{ρ:En}{b:D}{S:Sr}{ι:01}{H:Hp}{Q:VK}(h:Pst Den (genLoopG gu g mt me (stepG w) (finG w) ds ρ b S) ι H Q):
  ∃d c,genLoopG gu g mt me (stepG w) (finG w) (ds.drop 0) ρ b S=.ok d c/\∀y a H',Stp ι H a H'->Sto a H' c->Den a H' d y->Q y H':=by
 rw[xG];cases z:genLoopG gu g mt me (stepG w) (finG w) ds ρ b S with
 |no=>rw[z]at h;exact h.elim
 |err=>rw[z]at h;exact h.elim
 |ok d c=>rw[z]at h;exact⟨d,c,rfl,h⟩
theorem qkg(l:X.calm=true)(hd:X.A.depth<recursionLimit)(hok:X.calm=true->X.A.handled=none):GCall X .all (.builtin "all"):=by
 intro pins s v H ι a ds gu g mt me ρ S Q n h;obtain⟨sc,cl,C,code,N',fp,ge,it,o,w,x,J,tn,j,cs,y,tk,out⟩:=n;obtain⟨d,B,e,q⟩:=qdU h;have ha:s.heap.get? a=some o:=by
  obtain⟨b,I,_⟩:=(cs 0).sus.inv;exact(I.pin (a,o) (wp _ wH)).1
 refine call_function_tree F.kind_all F.plain_all F.entry_all (F.args_all1 _) ?_;unfold Builtin.«all»;refine wB (m:=oneArg "all" _) (wE (wB (wpAny_pyIter_gen (j _ ha) (wE ⟨v9 F.plain_all_loop _,?_⟩))));exact qib (hok l) hd j (ds.length+1) 0 ρ _ S ι H s 00 (cs _) e λb f H' z c p r u s1 i=>⟨.bl c,H',out _ b H' z r u,rfl,q _ f H' s1 i (by subst p;rfl)⟩
theorem qkh{w:GW}{id:String}{f:Str}{p:Pos}{tg elt iter:Expr}{ifs:List Expr}{sc:Scope}{fr:List Nat}{xs ts:List Str}{mi:En->Sr->Res (List D×(Sr->Prop))}{g:D->En->Sr->Res En}{mt:En->Sr->Res Bool}{me:05}{c T':Addr}(o:X.calm=true)(b:X.A.depth<recursionLimit)(r:GCall X w (.builtin id))(j:Gl X f)(hm:X.mg f=none)(u:bootBuiltins f=some (.builtin id))(hn:f≠"__name__")(l:dB f)(hi:PI X tg iter (TIg mi))(y:∀x,genFold iter X.env x=pure x)(C:CSc X sc fr xs ts)(E:sc.names.lookup (".0":Str)=some NameKind.local)(m:sc.isCoroutine=false)(d:X.env.code=.ref c)(i:codeTab X.K c T'=true)(B:BlkG X sc (xs++ts) tg iter ifs elt gp g mt me):
  PE X (.Call (.Name f p) [.GeneratorExp elt [⟨tg,iter,ifs,0⟩] sc gp] [] pos) (T (mGenG w fr ts.length mi g mt me)):=by
 intro pins s F H Q I J;refine u7 (z9 I j hm u ?_ hn l);obtain⟨ι,S,ρ,L,st,h⟩:=J;dsimp only[mGenG]at h;cases z:mi ρ S with
 |no=>rw[z]at h;exact h.elim
 |err=>rw[z]at h;exact h.elim
 |ok M S1 =>
  obtain⟨ds,gu⟩:=M;rw[z,Res.bind_ok]at h;refine uk (e:=.GeneratorExp elt [⟨tg,iter,ifs,0⟩] sc gp) (rest:=[]) ?_ rfl rfl;refine vt (thn (qb6 o b hi y C E m d i B I L st z) λv s' ⟨a,n,H',ev,q,N⟩=>?_);subst ev;exact uV (r pins s' F H' n a ds gu g mt me _ S1 Q N (Pst.from h q))
theorem qma{w:GW}{id:String}{f:Str}{p:Pos}{tg elt iter:Expr}{ifs:List Expr}{sc:Scope}{fr:List Nat}{xs ts:List Str}{mi:En->Sr->Res (List D)}{g:D->En->Sr->Res En}{mt:En->Sr->Res Bool}{me:05}{c T':Addr}(l:X.calm=true)(a:X.A.depth<recursionLimit)(m:GCall X w (.builtin id))(h:Gl X f)(hm:X.mg f=none)(n:bootBuiltins f=some (.builtin id))(hn:f≠"__name__")(i:dB f)(hi:PI X tg iter (TIt mi))(o:∀x,genFold iter X.env x=pure x)(q:CSc X sc fr xs ts)(r:sc.names.lookup (".0":Str)=some NameKind.local)(j:sc.isCoroutine=false)(b:X.env.code=.ref c)(d:codeTab X.K c T'=true)(B:BlkG X sc (xs++ts) tg iter ifs elt gp g mt me):
  PE X (.Call (.Name f p) [.GeneratorExp elt [⟨tg,iter,ifs,0⟩] sc gp] [] pos) (T (mGen w fr ts.length mi g mt me)):=by
 rw[<-qga];exact qkh l a m h hm n hn i (pi_g hi) o q r j b d B
end
def qb8{a b c:Int}(d:0<c):Builtin.Range.rangeSize a b c=(((b-a+c-1) / c).toNat:Int):=by
 unfold Builtin.Range.rangeSize;rw[wR d];by_cases h:a<b
 .rw [wR h]
  have e:b-a+c-1=(b-a-1)+c:=by omega
  have q:(b-a-1+c) / c=(b-a-1) / c+1:=Int.add_ediv_of_dvd_right (Int.dvd_refl c) |>.trans (by rw[Int.ediv_self (by omega)]);rw[e,q];have:=Int.ediv_nonneg (a:=b-a-1) (b:=c) (by omega) (by omega);omega
 .rw [wT h]
  have:(b-a+c-1) / c<=0:=by
   have i:b-a+c-1<=c-1:=by omega
   have f:=Int.ediv_le_ediv d i;have j:(c-1) / c=0:=Int.ediv_eq_zero_of_lt (by omega) (by omega);rw[j]at f;exact f
  omega
def qe0{a b c:Int}(f:-(2^62)<=a)(i:a<2^62)(j:-(2^62)<=b)(p:b<2^62)(d:0<c)(r:c<2^62):Builtin.Range.small a b c=true:=by
 have l:=qb8 (a:=a) (b:=b) d;have m:(b-a+c-1) / c<=2^63-1:=by
  by_cases h:b-a+c-1<0
  .have:=Int.ediv_neg_of_neg_of_pos h d
   omega
  .have n:(b-a+c-1) / c<=b-a+c-1-(c-1)\/b-a<=0:=by
    by_cases o:b-a<=0
    .exact .inr o
    .left
     have e:b-a+c-1=(b-a-1)+c:=by omega
     have q:(b-a-1+c) / c=(b-a-1) / c+1:=Int.add_ediv_of_dvd_right (Int.dvd_refl c) |>.trans (by rw[Int.ediv_self (by omega)]);rw[e,q];have:=Int.ediv_le_self c (a:=b-a-1) (by omega);omega
   rcases n with z|z
   .omega
   .have f:b-a+c-1<=c-1:=by omega
    have i:=Int.ediv_le_ediv d f;have j:(c-1) / c=0:=Int.ediv_eq_zero_of_lt (by omega) (by omega);rw[j]at i;omega
 unfold Builtin.Range.small;rw[l];simp only[Builtin.Range.rangeFitsLong,wZ,vg,wm,uI];rw[wR d];simp only[wZ,wm];omega
def noPy{x c:Int}(a:0<c)(b:c<2^63):Builtin.divisionGoesByPylong x c=false:=by
 refine PyProof.noPylong_of_log2 ?_;have h:c.natAbs.log2<63:=(Nat.log2_lt (by omega)).mpr (by omega);omega
def qb9:∀{xs:List V} {us:List Value},xs.length=us.length->(∀(i:Nat) (x:V) (u:Value),xs[i]?=some x->us[i]?=some u->RelV x u)->Vals xs us
 |[],[],_,_=>.nil
 |[],_::_,h,_=>by cases h
 |_::_,[],h,_=>by cases h
 |x::xs,u::us,h,k=>.cons (k 0 x u rfl rfl) (qb9 (by simpa using h) λi y w e1 a=>k (i+1) y w (by simpa using e1) (by simpa using a))
section
variable{X:Cx}{pos:Pos}{tg:Expr}
noncomputable def RngAt(X:Cx)(pins:04)(d:St)(ds:List D)(H:Hp)(v:Value)(s:Shared):Prop :=
 ∃a b c t u w p,v=.ref p/\IsRange s.heap p a b c t u w/\Inv X pins d H s/\Builtin.Range.small a b c=true/\Builtin.Range.rangeSize a b c=ds.length/\ds=(List.range ds.length).map λ(k:Nat)=>D.int (a+k*c)
theorem qgb{pins:04}{f:St}{H:Hp}{s:Shared}{ι:01}{l ds:List D}{vs:List V}{us:List Value}{E:06}(I:Inv X pins f H s)(r:Vals vs us)(hd:Dens ι H l vs)(e:rngD l=some ds):
  wpAny 03 X.A (call (.type "range") us) (RngAt X pins f ds H) E s:=by
 have fin:∀{a b c:Int} {t u w:Tok} {tk:Nat},-(2^62)<=a->a<2^62->-(2^62)<=b->b<2^62->0<c->c<2^62->ds=rngL a b c ->
   RngAt X pins f ds H (.ref s.heap.objs.size) {s with heap:=s.heap.push {cls:=.type "range",data:=.fields #[.int a t,.int b u,.int c w]},toks:=tk}:=by
  intro a b c t u w tk v B C F m J n;have p:ds.length=((b-a+c-1) / c).toNat:=by rw[n];unfold rngL;simp
  refine⟨a,b,c,t,u,w,_,rfl,IsRange.new ..,I.kept λb o e=>wC _ e,qe0 v B C F m J,?_,?_⟩
  .rw [qb8 m,p]
  .rw [p,n]
   unfold rngL;exact wo λk _=>by rw[Int.mul_comm]
 match l,e,hd with
 |[.int b],e,hd =>
  obtain⟨x,rfl,d⟩:=dens1 hd;cases (show x=_ from d);obtain⟨u,rfl,q,rfl⟩:=vals1 r;simp only[rngD]at e;split at e
  .rename_i h
   cases e;exact call_range_1 (fin (by omega) (by omega) h.1 h.2 (by omega) (by omega) rfl)
  .cases e
 |[.int a,.int b],e,hd =>
  obtain⟨x,y,rfl,d,i⟩:=dens2 hd;cases (show x=_ from d);cases (show y=_ from i);obtain⟨u,w,rfl,⟨q,rfl⟩,K,rfl⟩:=vals2 r;simp only[rngD]at e;split at e
  .rename_i h
   cases e;exact call_range_2 (fin h.1 h.2.1 h.2.2.1 h.2.2.2 (by omega) (by omega) rfl)
  .cases e
 |[.int a,.int b,.int c],e,hd =>
  obtain⟨x,r1,rfl,d,j⟩:=hd;obtain⟨y,z,rfl,i,L⟩:=dens2 j;cases (show x=_ from d);cases (show y=_ from i);cases (show z=_ from L);cases r with
  |cons M N =>
   obtain⟨u,w,rfl,⟨q,rfl⟩,K,rfl⟩:=vals2 N;obtain⟨O,rfl⟩:=M;simp only[rngD]at e;split at e
   .rename_i h
    cases e;exact call_range_3 (by omega) (fin h.1 h.2.1 h.2.2.1 h.2.2.2.1 h.2.2.2.2.1 h.2.2.2.2.2 rfl) (.inl (noPy (by omega) (by omega)))
   .cases e
theorem qgc{a:Expr}{es:List Expr}{p:Pos}{j:En->Sr->Res (List D)}(m:Gl X "range")(hm:X.mg "range"=none)(ha:PA X (a::es) (TL j))(n:sE X a es)(i:bT X es pos){pins:04}{h:St}{H:Hp}{s:Shared}{ι:01}{S S1:Sr}{ρ:En}{l ds:List D}(I:Inv X pins h H s)(o:EnR ι H ρ h)(st:Sto ι H S)(z:j ρ S=.ok l S1)(e:rngD l=some ds):
  wpAny 03 X.A (eval (.Call (.Name "range" p) (a::es) [] pos) X.env) (λv s'=>∃f H',Stp ι H f H'/\Sto f H' S1/\RngAt X pins h ds H' v s') X.xe s:=by
 refine Call_ (z9 I m hm boot_range (ve (thn (ha pos pins s h H (λvs d=>∃b,Stp ι H b d/\Sto b d S1/\Dens b d l vs) I ⟨ι,S,ρ,o,st,?_⟩) λus s1 ⟨vs,d,q,r1,b,q1,c,d1⟩=>?_) n i))
 .rw [z];exact λvs b d q1 c d1=>⟨b,q1,c,d1⟩
 .exact thn (qgb q r1 d1 e) λv s2 q2=>⟨b,d,q1,c,q2⟩
noncomputable def ItS(lo c:Int)(n:Nat):It:=⟨λi _=>i<n,λi H x H'=>H'=H/\x=.int (lo+i*c),λi _=>n<=i⟩
theorem qe1{P:Program}{w:World}{K:PySem.W.Frag}(it:Addr)(lo c:Int)(n:Nat):Turn P w K tg (ItS lo c n) [it] it (λi h=>IsRangeIter h it (lo+(i:Nat)*c) ((n:Int)-(i:Nat)) c) where
 mem:=by simp
 obj:=λi h st b hb=>by
  obtain rfl:=w6.mp hb;exact⟨_,st,λv z=>by cases (show Data.fields _=Data.cell v from z)⟩
 keep:=λi h h' st k=>k it (by simp) _ st
 item:=by
  intro X f j l m i pins s A H E I d st p;subst f j l;obtain⟨q,r,B,u,x,y⟩:=d it (by simp);refine(Walks.range (prog:=X.prog) (w:=X.w) (I.ok.hd m) it lo c n).item i s _ _ p st λv h' tk C a F=>?_
  obtain⟨t,rfl⟩:=C;have J:Inv X pins A H {s with heap:=h',toks:=tk}:=I.turned (λb o hb e=>F b o (by simpa using hb) e) q r u x y;exact⟨_,rfl,qfp (s:={s with heap:=h',toks:=tk}) (n:="range_iterator") a rfl rfl 02 ⟨.int (lo+i*c),H,J,⟨t,rfl⟩,⟨rfl,rfl⟩,a,λb hb=>(d b hb).1⟩⟩
 done:=by
  intro X f j l m i pins s A H E I d st p;subst f j l;obtain⟨q,r,B,u,x,y⟩:=d it (by simp);exact wpAny_pyNext_range_end (I.ok.hd m) st (by have:n<=i:=p;omega) λh' L=>⟨rfl,I.turned (t':=s.toks) (λb o hb e=>L b o hb e) q r u x y⟩
 self:=λ_ _ _ _ _ st h=>wpAny_pyIter_rangeiter st h
theorem qki{ι:01}{H:Hp}{lo c:Int}{n:Nat}:ItOk ι H (ItS lo c n) ((List.range n).map λ(k:Nat)=>D.int (lo+k*c)) where
 go:=λi d a H2 s e=>by
  rw[w5]at e;cases z:(List.range n)[i]? with
  |none=>rw[z]at e;cases e
  |some k =>
   rw[z]at e;cases e;obtain⟨b,f⟩:=wO.mp z;simp only[List.length_range]at b;simp only[u8]at f;subst f;refine⟨b,λy H3 h=>?_⟩;obtain⟨rfl,rfl⟩:=h;exact⟨Stp.refl _ _,λ_ z=>⟨z,rfl⟩⟩
 stop:=λa H2 s=>by
  show n<=_;simp
theorem i_rng{a:Expr}{es:List Expr}{p:Pos}{f:En->Sr->Res (List D)}(r:Gl X "range")(hm:X.mg "range"=none)(ha:PA X (a::es) (TL f))(A:sE X a es)(h:bT X es pos):
  PI X tg (.Call (.Name "range" p) (a::es) [] pos) (TIt λρ S=>(f ρ S).bind λl S1=>ofO (rngD l) S1):=by
 intro pins s M H R I B;obtain⟨ι,S,ρ,C,st,q⟩:=B;dsimp only at q;cases z:f ρ S with
 |no=>rw[z]at q;exact q.elim
 |err=>rw[z]at q;exact q.elim
 |ok l S1 =>
  rw[z,Res.bind_ok]at q;cases z2:rngD l with
  |none=>rw[z2]at q;exact q.elim
  |some ds =>
   rw[z2]at q;refine thn (qgc r hm ha A h I C st z z2) λv s1 ⟨d,i,q1,j,E⟩=>?_
   obtain⟨x,y,c,t,u,w,N,rfl,F,m,J,sz,K⟩:=E;refine wpAny_pyIter_range F J ?_;refine⟨s1.heap.objs.size,[s1.heap.objs.size],_,ItS x c ds.length,i,rfl,m.kept (t':=s1.toks) λb o e=>wC _ e,qe1 _ x c ds.length,?_,λb hb=>?_,q d i _ q1 j (by rw[K];simpa using qki (ι:=d) (H:=i) (lo:=x) (c:=c) (n:=ds.length))⟩
   .show IsRangeIter _ _ (x+((0:Nat):Int)*c) ((ds.length:Int)-((0:Nat):Int)) c
    have e1:x+((0:Nat):Int)*c=x:=by simp
    have L:(ds.length:Int)-((0:Nat):Int)=Builtin.Range.rangeSize x y c:=by rw[sz];simp
    rw[e1,L];exact wM _ rfl
   .obtain rfl:=w6.mp hb
    exact m.fpOk (wN _) (m.hok.fresh (wN _))
theorem qaf{a c:Int}:∀{b:Array Value} {n:Nat},ItemsOf (λi v=>∃t,v=.int (a+i*c) t) b n->Vals ((List.range n).map λ(k:Nat)=>V.int (a+k*c)) b.toList:=by
 intro b n h;obtain⟨f,j⟩:=h;apply qb9
 .simp [f]
 .intro i x u e1 l
  rw[w5]at e1;cases z:(List.range n)[i]? with
  |none=>rw[z]at e1;cases e1
  |some k =>
   rw[z]at e1;cases e1;obtain⟨m,d⟩:=wO.mp z;simp only[u8]at d;subst d;obtain⟨t,rfl⟩:=j i u (by simpa using l);exact⟨t,rfl⟩
end
section
variable{prog:Program}{w:World}{A:Around}{E:Value->Shared->Prop}{s:Shared}
theorem qgd{Q:List Value->Shared->Prop}{r:Addr}{a b c:Int}{t u v:Tok}{n:Nat}(p:A.handled=none)(q:IsRange s.heap r a b c t u v)(x:Builtin.Range.small a b c=true)(hn:Builtin.Range.rangeSize a b c=n)(y:n<=2^24)(B:∀(h':Heap) (tk:Nat) (d:Array Value),(∀b o,s.heap.get? b=some o->h'.get? b=some o)->ItemsOf (λi v=>∃t,v=.int (a+i*c) t) d n->Q d.toList {s with heap:=h',toks:=tk}):wpAny (model prog w) A (collect (.ref r)) Q E s:=by
 have f:∀R:Result->Shared->Prop,(∀(h':Heap) (tk:Nat) (d:Array Value) (h:Nat),(∀b o,s.heap.get? b=some o->h'.get? b=some o)->h'.get? s.heap.objs.size=some {cls:=.type "list",dict:=none,data:=.seq d h,slots:=#[]}->ItemsOf (λi v=>∃t,v=.int (a+i*c) t) d n ->
   R (.ok (.ret (.ref s.heap.objs.size))) {s with heap:=h',toks:=tk})->codeAny (model prog w) A (.builtin "proto.collect" ⟨[.ref r],[]⟩) R s:=by
  intro R C;refine w1 xh ?_;rw[vC xg];refine wB (m:=newList []) (wa (wE ⟨v9 uU _,w1 F.entry_list_iadd ?_⟩));rw[vC uU];have H:(s.heap.push {cls:=.type "list",data:=.seq ([]:List Value).toArray}).get? s.heap.objs.size=some {cls:=.type "list",data:=.seq #[] 0}:=wM _ rfl;exact wpAny_extend_range (R:=R) (s:={s with heap:=s.heap.push {cls:=.type "list",data:=.seq ([]:List Value).toArray}}) p (wC _ q) x hn y s.heap.objs.size (.ref s.heap.objs.size) 0 H λh' tk d h j l hi =>
   C h' tk d h (λb o e=>j b o (wk (wP e)) (wC _ e)) l hi
 unfold collect;refine wB (wpAny_runValue (f _ λh' tk d h j l hi=>?_));exact wB (m:=load s.heap.objs.size) (wpAny_load l (wE (B h' tk d j hi)))
theorem qid{Q:06}{r:Addr}{a b c:Int}{t u v:Tok}{n:Nat}(p:A.handled=none)(j:IsRange s.heap r a b c t u v)(q:Builtin.Range.small a b c=true)(hn:Builtin.Range.rangeSize a b c=n)(l:n<=2^24)(x:∀(h':Heap) (tk:Nat) (d:Array Value),(∀b o,s.heap.get? b=some o->h'.get? b=some o)->ItemsOf (λi v=>∃t,v=.int (a+i*c) t) d n->Q (.ref h'.objs.size) {s with heap:=h'.push {cls:=.type "tuple",data:=.seq d},toks:=tk}):
  wpAny (model prog w) A (call (.type "tuple") [.ref r]) Q E s:=by
 have new:codeAny (model prog w) A.in1 (.call (.builtin "tuple.__new__") ⟨[.type "tuple",.ref r],[]⟩) (wants (λobj f=>f.TypeIs obj "tuple"/\Q obj f) E) s:=by
  refine codeAny_of_tree (?_:wpAny _ A.in1.in1 (do checkBuiltinCall "tuple.__new__" ⟨[.type "tuple",.ref r],[]⟩;again (.builtin "tuple.__new__" ⟨[.type "tuple",.ref r],[]⟩)) _ _ s);refine wB (uu (F.newCall_tuple_1 _) (wE ⟨v9 xM _,w1 F.entry_tuple_new ?_⟩));rw[vC xM];have C:=sub_tuple_self;have H:=init_tuple_lookup;have I:=madeHere_tuple;have y:s.TypeIs (.ref r) "range":=⟨_,j,rfl⟩;wp_walk using uz y,qgd (A:=A.in1.in1) p j q hn l;intro h' tk d B hi;refine wB (m:=Builtin.Tuple.tupleExact d.toList.toArray) ?_;unfold Builtin.Tuple.tupleExact;refine wa (wE ?_) (by
   have:d.toList.toArray.size<=sizeLine:=by rw[ur,hi.1];exact l
   exact this)
  have e:d.toList.toArray=d:=ur ..;rw[e];exact⟨⟨_,wM _ rfl,rfl⟩,x h' tk d B hi⟩
 refine callType_codes uj (F.typeCall_tuple_1 _) F.entry_object_init new λobj f h=>?_
 exact⟨h.1,F.args_object_init_2 obj _,object_init_meets uj.init.lookup uj.made 02 prog w A.in1 _ f ⟨h.1,rfl,h.2⟩⟩
end
section
variable{X:Cx}{pos:Pos}
noncomputable def mRng(k:Option Bool)(a:En->Sr->Res (List D)):En->Sr->Res D:=λρ S=>(a ρ S).bind λl S1=>match rngD l with
 |some ds=>if ds.length<=1000000 then(match k with
  |some m=>newL m ds S1
  |none=>.ok (.t ds) S1)else .no
 |none=>.no
theorem qie{ι:01}{H:Hp}{a c:Int}{n:Nat}:Dens ι H ((List.range n).map λ(k:Nat)=>D.int (a+k*c)) ((List.range n).map λ(k:Nat)=>V.int (a+k*c)):=by
 have:∀l:List Nat,Dens ι H (l.map λ(k:Nat)=>D.int (a+k*c)) (l.map λ(k:Nat)=>V.int (a+k*c)):=λl=>by
  induction l with
  |nil=>rfl
  |cons x r b=>exact⟨_,_,rfl,rfl,b⟩
 exact this _
theorem qmb{k:Option Bool}{f:Str}{ty:String}{a:Expr}{es:List Expr}{p1 U h:Pos}{E:En->Sr->Res (List D)}(C:(f=Str.ofString "list"/\ty="list"/\∃m,k=some m)\/(f=Str.ofString "tuple"/\ty="tuple"/\k=none))(W:X.calm=true)(hg:Gl X "range")(hm:X.mg "range"=none)(F:Gl X f)(J:X.mg f=none)(ha:PA X (a::es) (TL E))(hs:sE X a es)(K:(backTo h (starEach es X.env)).any (·.1)=false):
  PE X (.Call (.Name f p1) [.Call (.Name "range" U) (a::es) [] h] [] pos) (T (mRng k E)):=by
 intro pins s σ H Q I hw;have hb:bootBuiltins f=some (.type ty):=by
  rcases C with ⟨rfl,rfl,_⟩|⟨rfl,rfl,_⟩ <;> decide +kernel
 have hn:f≠"__name__":=by rcases C with ⟨rfl,rfl,_⟩|⟨rfl,rfl,_⟩ <;> decide
 have hd:(f == ("__debug__":Str))=false:=by rcases C with ⟨rfl,rfl,_⟩|⟨rfl,rfl,_⟩ <;> decide
 refine Call_ (z9 I F J hb ?_ hn hd);obtain⟨ι,S,ρ,er,st,q⟩:=hw;dsimp only[mRng]at q;cases z:E ρ S with
 |no=>rw[z]at q;exact q.elim
 |err=>rw[z]at q;exact q.elim
 |ok l S1 =>
  rw[z,Res.bind_ok]at q;cases z2:rngD l with
  |none=>simp only[z2]at q;exact q.elim
  |some ds =>
   simp only[z2]at q;by_cases i:ds.length<=1000000
   .rw [wR i]at q
    refine ve (e:=.Call (.Name "range" U) (a::es) [] h) (rest:=[]) ?_ rfl rfl;refine vt (thn (qgc hg hm ha hs K I er st z z2) λv s1 ⟨p,r,q1,A,ra⟩=>uV ?_);obtain⟨x,y,c,t,u,w,pp,rfl,Y,L,Z,sz,ed⟩:=ra;have M:r s1.heap.objs.size=none:=L.hok.fresh (wN _);have dd:Dens p r ds ((List.range ds.length).map λ(k:Nat)=>V.int (x+k*c)):=by
     have:=qie (ι:=p) (H:=r) (a:=x) (c:=c) (n:=ds.length)
     rwa [<-ed]at this
    have d:ds.length<=2^24:=vK i 02;rcases C with ⟨rfl,rfl,e⟩|⟨rfl,rfl,e⟩
    .obtain ⟨m,rfl⟩:=e
     .refine call_list_range (I.ok.hd W) Y Z sz d λh' tk j c' N hS hi=>?_
      exact⟨.ref _,_,L.laid (o:=.l ((List.range ds.length).map λ(k:Nat)=>V.int (x+k*c))) (t':=tk) N (wN _) ⟨by simp;exact d,j.toList,c',qaf hi,by rw[hS]⟩,rfl,zb A dd (Pst.from q q1) _ M⟩
    .subst e
     .refine qid (I.ok.hd W) Y Z sz d λh' tk j N hi=>?_
      have I2:=L.kept (h':=h') (t':=tk) N;have B:r h'.objs.size=none:=I2.hok.fresh (wN _);refine⟨.ref _,upd r h'.objs.size (.t _),I2.laid (t':=tk) (λb o e=>wC _ e) (wN _) ⟨by simp;exact d,j.toList,qaf hi,⟨_,wM _ rfl,rfl,0,by simp⟩,λo q=>by rw[wM _ rfl]at q;cases q;rfl⟩,rfl,zt A dd ?_ _ B⟩;exact λv O H' s' P dv=>q v O H' (q1.trans s') P dv
   .rw [wT i]at q;exact q.elim
end
def SI(b:Bool)(h:Heap)(it l:Addr)(k:Nat):Prop:=match b with
 |true=>h.IsTupleIter it l k
 |false=>h.IsListIter it l k
def SQ(b:Bool)(h:Heap)(l:Addr)(xs:Array Value):Prop:=match b with
 |true=>h.IsTuple l xs
 |false=>h.IsList l xs
def SI.at{b:Bool}{h h':Heap}{it l:Addr}{k:Nat}(x:SI b h it l k)(e:∀o,h.get? it=some o->h'.get? it=some o):SI b h' it l k:=by
 cases b with
 |true=>exact Heap.IsTupleIter.at x e
 |false=>exact Heap.IsListIter.at x e
def SQ.at{b:Bool}{h h':Heap}{l:Addr}{xs:Array Value}(x:SQ b h l xs)(e:∀o,h.get? l=some o->h'.get? l=some o):SQ b h' l xs:=by
 cases b with
 |true=>exact Heap.IsTuple.at x e
 |false=>exact Heap.IsList.at x e
def SI.obj{b:Bool}{h:Heap}{it l:Addr}{k:Nat}(x:SI b h it l k):∃o,h.get? it=some o/\(∀v,o.data≠.cell v):=by
 cases b with
 |true=>obtain⟨o,e,_,d⟩:=x;exact⟨o,e,λv z=>by rw[d]at z;cases z⟩
 |false=>obtain⟨o,e,_,d⟩:=x;exact⟨o,e,λv z=>by rw[d]at z;cases z⟩
section
variable{prog:Program}{w:World}{A:Around}{E:Value->Shared->Prop}{s:Shared}
theorem qge{it l:Addr}{i:Nat}{xs:Array Value}{x:Value}{Q:06}(hi:s.heap.IsTupleIter it l i)(c:s.heap.IsTuple l xs)(f:xs[i]?=some x)(h:∀h',h'.IsTupleIter it l (i+1)->Heap.SameBut it s.heap h'->Q x {s with heap:=h' }):wpAny (model prog w) A (Builtin.SmallTypes.nextOf (.ref it)) Q E s:=by
 have b:=hi.typeIs;obtain⟨o,a,co,d⟩:=hi;obtain⟨u,eu,_,m,j⟩:=c;unfold Builtin.SmallTypes.nextOf;refine wB (vA (name:=Str.ofString "__next__") b uX (vG uX b F.entry_tuple_iterator_next ?_ (F.args_tuple_iterator_next_1 _)));refine wB (m:=field (.ref it) 0) (vU a d (x:=.ref l) rfl (?_:wpAny _ _ (if(Value.ref l == Value.none)=true then _ else _) _ _ s));rw[wT (show ¬((Value.ref l == Value.none)=true)from wb)];refine wB (m:=field (.ref it) 1) (vU a d (x:=.int i 0) rfl ?_);refine wB (m:=seqItems? (.ref l)) (uG eu j ?_);simp only[xL,f];refine wB (xk a d (by simp) (wE ⟨x,rfl,wE (h _ ⟨_,vr _ a (Obj.isFreed_of_fields (xA d _)),(Obj.cls_mapFields ..).trans co,?_⟩ (Heap.SameBut.update ..))⟩));rw[xA d];simp[rawInt]
theorem qbn{it l:Addr}{i:Nat}{xs:Array Value}{Q:06}(f:A.handled=none)(hi:s.heap.IsTupleIter it l i)(h:s.heap.IsTuple l xs)(j:xs[i]?=none)(n:∀h' e,Heap.ExtBut it s.heap h'->(∃o,h'.get? e=some o/\o.cls=.type "StopIteration")->E (.ref e) {s with heap:=h' }):wpAny (model prog w) A (Builtin.SmallTypes.nextOf (.ref it)) Q E s:=by
 have c:=hi.typeIs;obtain⟨o,b,co,d⟩:=hi;obtain⟨u,eu,_,m,p⟩:=h;unfold Builtin.SmallTypes.nextOf;refine wB (vA (name:=Str.ofString "__next__") c uX (vG uX c F.entry_tuple_iterator_next ?_ (F.args_tuple_iterator_next_1 _)));refine wB (m:=field (.ref it) 0) (vU b d (x:=.ref l) rfl (?_:wpAny _ _ (if(Value.ref l == Value.none)=true then _ else _) _ _ s));rw[wT (show ¬((Value.ref l == Value.none)=true)from wb)];refine wB (m:=field (.ref it) 1) (vU b d (x:=.int i 0) rfl ?_);refine wB (m:=seqItems? (.ref l)) (uG eu p ?_);simp only[xL,j];refine wB (vc (wB (xk b d (by simp) (?_:wpAny _ _ (newExc (.type "StopIteration") [] >>= _) _ _ _))));refine wB ?_;unfold newExc newTuple;refine wB (wa (wB (uu (t:=firstArgMember _ _) (a:=Value.none) (by first|rfl|(simp only[firstArgMember];rfl)) (wa ?_ (by size_fits)))) (by size_fits));unfold raiseNew;refine wB (wpAny_handled ?_);rw[show A.in1.handled=none from f];exact wB (wE (wpAny_throw (n _ _ (((Heap.SameBut.update ..).extBut.push _).push _) ⟨_,wM _ rfl,rfl⟩)))
theorem draw{b:Bool}{it l:Addr}{i:Nat}{xs:Array Value}{x:Value}{Q:06}(hi:SI b s.heap it l i)(a:SQ b s.heap l xs)(c:xs[i]?=some x)(d:∀h',SI b h' it l (i+1)->Heap.SameBut it s.heap h'->Q x {s with heap:=h' }):wpAny (model prog w) A (Builtin.SmallTypes.nextOf (.ref it)) Q E s:=by
 cases b with
 |true=>exact qge hi a c d
 |false=>exact wpAny_nextOf_list_item hi a c d
theorem qca{b:Bool}{it l:Addr}{i:Nat}{xs:Array Value}{Q:06}(a:A.handled=none)(hi:SI b s.heap it l i)(c:SQ b s.heap l xs)(d:xs[i]?=none)(f:∀h' e,Heap.ExtBut it s.heap h'->(∃o,h'.get? e=some o/\o.cls=.type "StopIteration")->E (.ref e) {s with heap:=h' }):wpAny (model prog w) A (Builtin.SmallTypes.nextOf (.ref it)) Q E s:=by
 cases b with
 |true=>exact qbn a hi c d f
 |false=>exact wpAny_nextOf_list_end a hi c d f
structure ZA (z TI TO i j l m:Addr):Prop where
 zTI:TI≠z
 zTO:TO≠z
 zi:i≠z
 zj:j≠z
 TT:TI≠TO
 TIi:TI≠i
 TIj:TI≠j
 TOi:TO≠i
 TOj:TO≠j
 ij:i≠j
 lz:l≠z
 lT:l≠TO
 li:l≠i
 lj:l≠j
 mz:m≠z
 mT:m≠TO
 mi:m≠i
 mj:m≠j
structure ZS (b c:Bool) (h:Heap) (z TI TO i j l m:Addr) (k:Nat) (xs ys:Array Value) (f:Value):Prop where
 z:IsZip h z TI TO f
 ti:IsPair h TI (.ref i) (.ref j)
 to':∃a d,IsPair h TO a d
 i1:SI b h i l k
 i2:SI c h j m k
 q1:SQ b h l xs
 q2:SQ c h m ys
variable{b c:Bool}{z TI TO i j l m:Addr}{k:Nat}{xs ys:Array Value}
theorem qkj{x y:Value}{Q:Option Value->Shared->Prop}(D:ZA z TI TO i j l m)(st:ZS b c s.heap z TI TO i j l m k xs ys .none)(Y:xs[k]?=some x)(Z:ys[k]?=some y)(hQ:∀h',ZS b c h' z TI TO i j l m (k+1) xs ys (rawInt s.heap.objs.size)->IsPair h' s.heap.objs.size x y->(∀a o,a≠z->a≠TO->a≠i->a≠j->s.heap.get? a=some o->h'.get? a=some o)->Q (some (.ref s.heap.objs.size)) {s with heap:=h' }):
  wpAny (model prog w) A (pyNext (.ref z)) Q E s:=by
 obtain⟨oz,ti,⟨t0,t1,to'⟩,i1,i2,q1,q2⟩:=st;have M:s.TypeIs (.ref z) "zip":=⟨_,oz,rfl⟩;unfold pyNext;refine wB (xN (vA (name:=Str.ofString "__next__") M xc (vG xc M F.entry_zip_next ?_ (F.args_zip_next_1 _))));refine wB (m:=field (.ref z) 2) (vU oz rfl (x:=.bool false) rfl (wB (m:=field (.ref z) 3) (vU oz rfl (x:=.ref TI) rfl (wB (uG ti rfl ?_)))));refine wB (m:=Builtin.SmallTypes.ownedTupleIsFree (.ref z)) ?_;unfold Builtin.SmallTypes.ownedTupleIsFree;refine wB (vU oz rfl (x:=.none) rfl (wE ?_));simp only[v6];refine wB (vc (wB (vU oz rfl (x:=.ref TO) rfl (wB (uJ oz (by simp) λh1 z1 b1=>?_)))));have C:IsZip h1 z TI TO .ellipsis:=z1;refine wB ?_;simp only[List.zipIdx_cons,List.zipIdx_nil,u9,List.forIn_nil];refine wB (wB (wpAny_onRaise (wB (m:=Builtin.SmallTypes.nextOf (.ref i)) ?_)));refine draw (i1.at λo e=>b1.extBut _ o D.zi e) (q1.at λo e=>b1.extBut _ o D.lz e) Y λh2 H b2=>wE ?_
 have N:IsPair h2 TO t0 t1:=b2.extBut _ _ D.TOi (b1.extBut _ _ D.zTO to');refine wB (uG N rfl (wB (xi N λh3 o3 f=>wB (uv (wE ?_)))));have I:IsPair h3 TO x t1:=o3;refine wB (wB (wpAny_onRaise (wB (m:=Builtin.SmallTypes.nextOf (.ref j)) ?_)));refine draw (i2.at λo e=>f.extBut _ o D.TOj.symm (b2.extBut _ o D.ij.symm (b1.extBut _ o D.zj e))) (q2.at λo e=>f.extBut _ o D.mT (b2.extBut _ o D.mi (b1.extBut _ o D.mz e))) Z λh4 i4 h=>wE ?_
 have O:IsPair h4 TO x t1:=h.extBut _ _ D.TOj I;refine wB (uG O rfl (wB (xi O λd o5 p=>wB (uv (wE (wE ?_))))));have q:IsPair d TO x y:=o5;refine wB (uG q rfl (wB (wpAny_newTuple ?_)));have sz:d.objs.size=s.heap.objs.size:=by rw[p.1,h.1,f.1,b2.1,b1.1]
 have P:IsZip d z TI TO .ellipsis:=p.extBut _ _ D.zTO.symm (h.extBut _ _ D.zj.symm (f.extBut _ _ D.zTO.symm (b2.extBut _ _ D.zi.symm C)));have k5:∀a o,a≠z->a≠TO->a≠i->a≠j->s.heap.get? a=some o->d.get? a=some o:=λa o v B J K e=>p.extBut _ _ B (h.extBut _ _ K (f.extBut _ _ B (b2.extBut _ _ J (b1.extBut _ _ v e))))
 have S:z<d.objs.size:=wP P;refine wB (m:=Builtin.SmallTypes.ownedTupleHandOut (.ref z) (.ref d.objs.size)) ?_;unfold Builtin.SmallTypes.ownedTupleHandOut;have z6:IsZip (d.push {cls:=.type "tuple",data:=.seq #[x,y]}) z TI TO .ellipsis:=wC _ P;refine wB (uJ z6 (by simp) λh7 z7 U=>?_);have L:IsZip h7 z TI TO (rawInt d.objs.size):=z7;refine uJ L (by simp) λr z8 W=>?_
 have u:IsZip r z TI TO (rawInt d.objs.size):=z8;have up:∀a o,a≠z->d.get? a=some o->r.get? a=some o:=λa o n e=>W.extBut _ _ n (U.extBut _ _ n (wC _ e))
 have X:IsPair r d.objs.size x y:=W.extBut _ _ (vl S) (U.extBut _ _ (vl S) (wM _ rfl));rw[sz]at u X;refine wE ⟨_,rfl,wE ?_⟩;have all:∀a o,a≠z->a≠TO->a≠i->a≠j->s.heap.get? a=some o->r.get? a=some o:=λa o v B J K e=>up a o v (k5 a o v B J K e)
 have fin:=hQ r ⟨u,all _ _ D.zTI D.TT D.TIi D.TIj ti,⟨_,_,up _ _ D.zTO q⟩,H.at λo e=>up _ o D.zi (p.extBut _ o D.TOi.symm (h.extBut _ o D.ij (f.extBut _ o D.TOi.symm e))),i4.at λo e=>up _ o D.zj (p.extBut _ o D.TOj.symm e),
  q1.at λo e=>all _ o D.lz D.lT D.li D.lj e,q2.at λo e=>all _ o D.mz D.mT D.mi D.mj e⟩ X all
 rw[<-sz]at fin;exact fin
theorem qif{Q:Option Value->Shared->Prop}(B:A.handled=none)(D:ZA z TI TO i j l m)(st:ZS b c s.heap z TI TO i j l m k xs ys .none)(N:xs[k]?=none\/ys[k]?=none)(O:∀h',(∀a o,a≠z->a≠TO->a≠i->a≠j->s.heap.get? a=some o->h'.get? a=some o)->Q none {s with heap:=h' }):wpAny (model prog w) A (pyNext (.ref z)) Q E s:=by
 obtain⟨oz,ti,⟨P,t1,to'⟩,i1,i2,q1,q2⟩:=st;have C:s.TypeIs (.ref z) "zip":=⟨_,oz,rfl⟩;have d:∀(h':Heap) (e:Addr),(∀a o,a≠z->a≠TO->a≠i->a≠j->s.heap.get? a=some o->h'.get? a=some o)->(∃o,h'.get? e=some o/\o.cls=.type "StopIteration") ->
   wpAny (model prog w) A (do if <-isInstance (.ref e) (.type "StopIteration")then pure none else throw (Value.ref e)) Q E {s with heap:=h' }:=λh' e S ⟨o,U,W⟩ =>
  wB (wpAny_isInstance (T:="StopIteration") (b:=true) ⟨o,U,W⟩ isSubtype_stop (wE (O h' S)))
 unfold pyNext;refine wB (xN (vA (name:=Str.ofString "__next__") C xc (vG xc C F.entry_zip_next ?_ (F.args_zip_next_1 _))));refine wB (m:=field (.ref z) 2) (vU oz rfl (x:=.bool false) rfl (wB (m:=field (.ref z) 3) (vU oz rfl (x:=.ref TI) rfl (wB (uG ti rfl ?_)))));refine wB (m:=Builtin.SmallTypes.ownedTupleIsFree (.ref z)) ?_;unfold Builtin.SmallTypes.ownedTupleIsFree;refine wB (vU oz rfl (x:=.none) rfl (wE ?_));simp only[v6];refine wB (vc (wB (vU oz rfl (x:=.ref TO) rfl (wB (uJ oz (by simp) λX Y b1=>?_)))));have n:IsZip X z TI TO .ellipsis:=Y;refine wB ?_;simp only[List.zipIdx_cons,List.zipIdx_nil,u9,List.forIn_nil];refine wB (wB (wpAny_onRaise (wB (m:=Builtin.SmallTypes.nextOf (.ref i)) ?_)));cases ex:xs[k]? with
 |none =>
  refine qca B (i1.at λo e=>b1.extBut _ o D.zi e) (q1.at λo e=>b1.extBut _ o D.lz e) ex λu e b2 ⟨v,f,p⟩=>?_
  have H:IsZip u z TI TO .ellipsis:=b2 _ _ D.zi.symm n;have ne:e≠z:=λq=>by subst q;rw[H]at f;cases f;simp at p
  exact uJ H (by simp) λI _ h=>d I e (λa o r _ y _ q=>h.extBut _ _ r (b2 _ _ y (b1.extBut _ _ r q))) ⟨v,h.extBut _ _ ne f,p⟩
 |some x =>
  have Z:ys[k]?=none:=by
   rcases N with q|q
   .rw [ex]at q;cases q
   .exact q
  refine draw (i1.at λo e=>b1.extBut _ o D.zi e) (q1.at λo e=>b1.extBut _ o D.lz e) ex λu a0 b2=>wE ?_
  have J:IsPair u TO P t1:=b2.extBut _ _ D.TOi (b1.extBut _ _ D.zTO to');refine wB (uG J rfl (wB (xi J λI o3 h=>wB (uv (wE ?_)))));refine wB (wB (wpAny_onRaise (wB (m:=Builtin.SmallTypes.nextOf (.ref j)) ?_)));refine qca B (i2.at λo e=>h.extBut _ o D.TOj.symm (b2.extBut _ o D.ij.symm (b1.extBut _ o D.zj e))) (q2.at λo e=>h.extBut _ o D.mT (b2.extBut _ o D.mi (b1.extBut _ o D.mz e))) Z λh4 e K ⟨v,f,p⟩=>?_
  have L:IsZip h4 z TI TO .ellipsis:=K _ _ D.zj.symm (h.extBut _ _ D.zTO.symm (b2.extBut _ _ D.zi.symm n));have ne:e≠z:=λq=>by subst q;rw[L]at f;cases f;simp at p
  exact uJ L (by simp) λh5 _ M=>d h5 e (λa o r n2 y n4 q=>M.extBut _ _ r (K _ _ n4 (h.extBut _ _ n2 (b2.extBut _ _ y (b1.extBut _ _ r q))))) ⟨v,M.extBut _ _ ne f,p⟩
end
noncomputable def siO(b:Bool)(l:Addr):Obj:=match b with
 |true=>{cls:=.type "tuple_iterator",data:=.fields #[.ref l,.int 0 0]}
 |false=>{cls:=.type "list_iterator",data:=.fields #[.ref l,.int 0 0]}
def qgf{b:Bool}{h:Heap}{l:Addr}:SI b (h.push (siO b l)) h.objs.size l 0:=by
 cases b with
 |true=>exact⟨_,wM _ rfl,rfl,rfl⟩
 |false=>exact⟨_,wM _ rfl,rfl,rfl⟩
section
variable{prog:Program}{w:World}{A:Around}{E:Value->Shared->Prop}{s:Shared}
theorem qcb{b:Bool}{l:Addr}{xs:Array Value}{Q:06}(a:SQ b s.heap l xs)(c:Q (.ref s.heap.objs.size) {s with heap:=s.heap.push (siO b l)}):wpAny (model prog w) A (pyIter (.ref l)) Q E s:=by
 cases b with
 |true=>exact wpAny_pyIter_tuple a c
 |false=>exact wpAny_pyIter_list a c
end
noncomputable def zh1(b:Bool)(h:Heap)(l:Addr):Heap:=h.push (siO b l)
noncomputable def zh2(b c:Bool)(h:Heap)(l m:Addr):Heap:=(zh1 b h l).push (siO c m)
noncomputable def zh3(b c:Bool)(h:Heap)(l m:Addr):Heap:=(zh2 b c h l m).push {cls:=.type "tuple",data:=.seq #[.ref h.objs.size,.ref (zh1 b h l).objs.size]}
noncomputable def zh4(b c:Bool)(h:Heap)(l m:Addr):Heap:=(zh3 b c h l m).push {cls:=.type "tuple",data:=.seq #[.none,.none]}
noncomputable def zh5(b c:Bool)(h:Heap)(l m:Addr):Heap:=(zh4 b c h l m).push {cls:=.type "zip",data:=.fields #[.none,.bool false,.bool false,.ref (zh2 b c h l m).objs.size,.ref (zh3 b c h l m).objs.size]}
def qig(b c:Bool)(l m:Addr)(xs ys:Array Value):Meets (Builtin.«zip.__new__» ⟨[.type "zip",.ref l,.ref m],[]⟩) (λ_ R s=>SQ b s.heap l xs/\SQ c s.heap m ys/\R (.ok (.ret (.ref (zh4 b c s.heap l m).objs.size))) {s with heap:=zh5 b c s.heap l m}) :=
 .of_wp λprog w A R s h=>by
  obtain⟨a,g,d,tk,os⟩:=s;obtain⟨f,i,h⟩:=h;have n:=sub_zip;have e1:SQ b (Shared.heap ⟨a,g,d,tk,os⟩) l xs:=f;have j:SQ c (Shared.heap ⟨a.push (siO b l),g,d,tk,os⟩) m ys:=SQ.at i λo e=>wC _ e
  wp_walk using qcb e1,qcb j;exact⟨_,rfl,h⟩
section
variable{prog:Program}{w:World}{A:Around}{E:Value->Shared->Prop}{s:Shared}
theorem qgg{b c:Bool}{l m:Addr}{xs ys:Array Value}{Q:06}(n:SQ b s.heap l xs)(p:SQ c s.heap m ys)(h:∀h':Heap,ZS b c h' (s.heap.objs.size+4) (s.heap.objs.size+2) (s.heap.objs.size+3) s.heap.objs.size (s.heap.objs.size+1) l m 0 xs ys .none->(∀a o,s.heap.get? a=some o->h'.get? a=some o)->Q (.ref (s.heap.objs.size+4)) {s with heap:=h' }):
  wpAny (model prog w) A (call (.type "zip") [.ref l,.ref m]) Q E s:=by
 have d:(zh1 b s.heap l).objs.size=s.heap.objs.size+1:=vZ ..;have f:(zh2 b c s.heap l m).objs.size=s.heap.objs.size+2:=by unfold zh2;rw[vZ,d]
 have i:(zh3 b c s.heap l m).objs.size=s.heap.objs.size+3:=by unfold zh3;rw[vZ,f]
 have r:(zh4 b c s.heap l m).objs.size=s.heap.objs.size+4:=by unfold zh4;rw[vZ,i]
 have kp:∀a o,s.heap.get? a=some o->(zh5 b c s.heap l m).get? a=some o:=λa o e=>by
  unfold zh5 zh4 zh3 zh2 zh1;exact wC _ (wC _ (wC _ (wC _ (wC _ e))))
 have j:IsZip (zh5 b c s.heap l m) (zh4 b c s.heap l m).objs.size (zh2 b c s.heap l m).objs.size (zh3 b c s.heap l m).objs.size .none:=wM _ rfl;have u:IsPair (zh5 b c s.heap l m) (zh3 b c s.heap l m).objs.size .none .none:=by
  have q:(zh4 b c s.heap l m).get? (zh3 b c s.heap l m).objs.size=some _:=wM _ rfl;exact wC _ q
 have v:IsPair (zh5 b c s.heap l m) (zh2 b c s.heap l m).objs.size (.ref s.heap.objs.size) (.ref (zh1 b s.heap l).objs.size):=by
  have q:(zh3 b c s.heap l m).get? (zh2 b c s.heap l m).objs.size=some _:=wM _ rfl;exact wC _ (wC _ q)
 have i2:SI c (zh5 b c s.heap l m) (zh1 b s.heap l).objs.size m 0:=SI.at (qgf (b:=c) (h:=zh1 b s.heap l) (l:=m)) λo e=>wC _ (wC _ (wC _ e))
 have i1:SI b (zh5 b c s.heap l m) s.heap.objs.size l 0:=SI.at (qgf (b:=b) (h:=s.heap) (l:=l)) λo e=>wC _ (wC _ (wC _ (wC _ e)))
 refine callType_new F.called_zip 02 (F.typeCall_zip_2 _ _) (F.newCall_zip_2 _ _) (λobj=>F.args_object_init_3 obj _ _) F.entry_zip_new (qig b c l m xs ys) ⟨n,p,?_⟩;rw[r,i,f]at j;rw[i]at u;rw[f,d]at v;rw[d]at i2;rw[r];exact⟨⟨_,j,rfl⟩,h _ ⟨j,v,⟨_,_,u⟩,i1,i2,n.at λo e=>kp _ o e,p.at λo e=>kp _ o e⟩ kp⟩
end
def SqB(b:Bool)(K:PySem.W.Frag)(H:Hp)(l:Addr)(xs:List V):Prop:=match b with
 |true=>SqT K H l xs
 |false=>SqL K H l xs
noncomputable def ItZ(K:PySem.W.Frag)(b c:Bool)(l m:Addr):It:=⟨λi H=>∃xs ys u v,SqB b K H l xs/\SqB c K H m ys/\xs[i]?=some u/\ys[i]?=some v,
 λi H x H'=>∃p u v,x=.ref p/\H p=none/\H'=upd H p (.t [u,v])/\(∀xs,SqB b K H l xs->xs[i]?=some u)/\∀ys,SqB c K H m ys->ys[i]?=some v,λi H=>∃xs ys,SqB b K H l xs/\SqB c K H m ys/\(xs.length<=i\/ys.length<=i)⟩
section
variable{X:Cx}{pos:Pos}
theorem jv{pins:04}{c:St}{H:Hp}{s:Shared}{b:Bool}{l:Addr}{xs:List V}(I:Inv X pins c H s)(h:SqB b X.K H l xs):∃a:List Value,Vals xs a/\SQ b s.heap l a.toArray:=by
 cases b with
 |true=>obtain⟨a,r,p,_⟩:=I.tuple h;exact⟨a,r,p⟩
 |false=>obtain⟨a,r,p,_⟩:=I.list h;exact⟨a,r,p.isList⟩
theorem qdV{pins:04}{a:St}{H:Hp}{s:Shared}{b:Bool}{l:Addr}{xs ys:List V}(I:Inv X pins a H s)(h:SqB b X.K H l xs)(h':SqB b X.K H l ys):xs=ys:=by
 cases b with
 |true=>exact I.tuple_inj h h'
 |false=>exact I.list_inj h h'
def ztn(b c:Bool)(z TI TO i j l m:Addr)(k:Nat)(h:Heap):Prop:=IsZip h z TI TO .none/\IsPair h TI (.ref i) (.ref j)/\(∃a d,IsPair h TO a d)/\SI b h i l k/\SI c h j m k
theorem qgh{P:Program}{w:World}{K:PySem.W.Frag}{es:List Expr}{n:Nat}{tp:Pos}{b c:Bool}{z TI TO i j l m:Addr}(D:ZA z TI TO i j l m):Turn P w K (.Tuple es n tp) (ItZ K b c l m) [z,TI,TO,i,j] z (ztn b c z TI TO i j l m) where
 mem:=by simp
 obj:=λk h ⟨Z,B,⟨a,d,h3⟩,h4,h5⟩ x C=>by
  simp only[wX,uF,or_false]at C;rcases C with rfl|rfl|rfl|rfl|rfl
  .exact ⟨_,Z,λv q=>by cases (show Data.fields _=Data.cell v from q)⟩
  .exact ⟨_,B,λv q=>by cases (show Data.seq _ _=Data.cell v from q)⟩
  .exact ⟨_,h3,λv q=>by cases (show Data.seq _ _=Data.cell v from q)⟩
  .exact h4.obj
  .exact h5.obj
 keep:=λk h h' ⟨Z,B,⟨a,d,h3⟩,h4,h5⟩ kp=>⟨kp z (by simp) _ Z,kp TI (by simp) _ B,⟨a,d,kp TO (by simp) _ h3⟩,h4.at λo e=>kp i (by simp) o e,h5.at λo e=>kp j (by simp) o e⟩
 item:=by
  intro X hP hw hK hc k pins s σ H E I p st hg;subst hP hw hK;obtain⟨xs,ys,u,v,C,Q,eu,ev⟩:=hg;obtain⟨s1,s2,S,U,Y⟩:=st;obtain⟨L,rx,qx⟩:=jv I C;obtain⟨M,ry,qy⟩:=jv I Q;obtain⟨x,ex,a0⟩:=rx.get eu;obtain⟨y,ey,a1⟩:=ry.get ev;refine qkj D ⟨s1,s2,S,U,Y,qx,qy⟩ (by simpa using ex) (by simpa using ey) λh' zs pr kp=>⟨_,rfl,?_⟩
  obtain⟨t1,t2,t3,t4,t5,t6,t7⟩:=zs;refine wpAny_letOwnedTupleGo_zip (s:={s with heap:=h' }) t1 λB z2 b2=>?_
  have N:H s.heap.objs.size=none:=I.hok.fresh (wN _);have nz:s.heap.objs.size≠z:=vl (wP s1);have all:∀a o,a∉[z,TI,TO,i,j]->s.heap.get? a=some o->B.get? a=some o:=λa o f e=>by
   simp only[wX,uF,or_false,not_or]at f;exact b2.extBut _ _ f.1 (kp a o f.1 f.2.2.1 f.2.2.2.1 f.2.2.2.2 e)
  have ne:∀a o,s.heap.get? a=some o->a≠s.heap.objs.size:=λa o e=>wk (wP e)
  have nt:∀{a:Addr} {q:HO},H a=some q->a∉[z,TI,TO,i,j]:=λ{a q} e hm=>by rw[(p a hm).1]at e;cases e
  have O:∀{a:Addr} {q:HO},H a=some q->a≠s.heap.objs.size:=λ{a q} e z'=>by subst z';rw[N]at e;cases e
  have F:HOk X.prog X.w (upd H s.heap.objs.size (.t [u,v])) B:=λa q e=>by
   by_cases qa:a=s.heap.objs.size
   .subst qa
    rw[qB]at e;cases e;exact⟨(show(2:Nat)<=sizeLine by decide),[x,y],.cons a0 (.cons a1 .nil),⟨_,b2.extBut _ _ nz pr,rfl,0,rfl⟩,λo q=>by rw[b2.extBut _ _ nz pr]at q;cases q;rfl⟩
   .rw [qm qa]at e
    refine(I.hok a q e).stay (λd o hd eo=>all d o ?_ eo) (λd A=>by rw[qm (O A)];exact A) λd xs A=>by rw[qm (O A)];exact A
    rcases hd with J|J
    .subst J;exact nt e
    .exact nt J
  have I2:Inv X pins σ (upd H s.heap.objs.size (.t [u,v])) {s with heap:=B}:=by
   refine I.step (g':=s.gens) (d':=s.drawn) (t':=s.toks) (ch:=[z,TI,TO,i,j]) (λa ha=>⟨(p a ha).2.2.2.1,(p a ha).2.1,(p a ha).2.2.2.2.1,(p a ha).2.2.2.2.2⟩) (λa o _ _ f e _=>all a o f e) (λa o _ _ f e _=>⟨o.slots,all a o f e⟩)
    (λa o _ e n=>by rw[qm (ne a o e)];exact n) (λa o f e=>⟨o,all a o f e⟩) (λa xs e=>by rw[qm (O e)];exact e) (λa o q e=>by rw[qm (O e)];exact e) (λa ps e=>⟨#[],by rw[qm (O e),e];simp⟩) (λmm hm=>?_) F I.bare.self
   obtain⟨o,es,ep,ho,r⟩:=hm;exact⟨o,es,ep,all _ o (λq=>(p _ q).2.1 rfl) ho,r⟩
  refine⟨.ref s.heap.objs.size,_,I2,rfl,⟨_,u,v,rfl,N,rfl,λa3 q=>by rw[qdV I q C];exact eu,λa4 q=>by rw[qdV I q Q];exact ev⟩,⟨z2,b2.extBut _ _ D.zTI t2,?_,t4.at λo e=>b2.extBut _ o D.zi e,t5.at λo e=>b2.extBut _ o D.zj e⟩,λa ha=>?_⟩
  .obtain ⟨a,d,t3⟩:=t3
   exact⟨a,d,b2.extBut _ _ D.zTO t3⟩
  .rw [qm]
   .exact (p a ha).1
   .intro q
    have:∃o,s.heap.get? a=some o:=by
     obtain⟨a',d',a2⟩:=S;simp only[wX,uF,or_false]at ha;rcases ha with rfl|rfl|rfl|rfl|rfl
     .exact ⟨_,s1⟩
     .exact ⟨_,s2⟩
     .exact ⟨_,a2⟩
     .exact ⟨_,U.obj.choose_spec.1⟩
     .exact ⟨_,Y.obj.choose_spec.1⟩
    obtain⟨o,e⟩:=this;exact ne a o e q
 done:=by
  intro X hP hw hK hc k pins s σ H E I p st hg;subst hP hw hK;obtain⟨xs,ys,C,Q,hl⟩:=hg;obtain⟨s1,s2,S,U,Y⟩:=st;obtain⟨L,rx,qx⟩:=jv I C;obtain⟨M,ry,qy⟩:=jv I Q;have hn:L.toArray[k]?=none\/M.toArray[k]?=none:=by
   rcases hl with q|q
   .left;simp;rw[<-rx.length];exact q
   .right;simp;rw[<-ry.length];exact q
  refine qif (I.ok.hd hc) D ⟨s1,s2,S,U,Y,qx,qy⟩ hn λh' kp=>⟨rfl,?_⟩
  have nt:∀{a:Addr} {q:HO},H a=some q->a∉[z,TI,TO,i,j]:=λ{a q} e hm=>by rw[(p a hm).1]at e;cases e
  have all:∀a o,a∉[z,TI,TO,i,j]->s.heap.get? a=some o->h'.get? a=some o:=λa o f e=>by
   simp only[wX,uF,or_false,not_or]at f;exact kp a o f.1 f.2.2.1 f.2.2.2.1 f.2.2.2.2 e
  have F:HOk X.prog X.w H h':=λa q e=>by
   refine(I.hok a q e).stay (λd o hd eo=>all d o ?_ eo) (λd A=>A) λd xs A=>A
   rcases hd with J|J
   .subst J;exact nt e
   .exact nt J
  refine I.step (g':=s.gens) (d':=s.drawn) (t':=s.toks) (ch:=[z,TI,TO,i,j]) (λa ha=>⟨(p a ha).2.2.2.1,(p a ha).2.1,(p a ha).2.2.2.2.1,(p a ha).2.2.2.2.2⟩) (λa o _ _ f e _=>all a o f e) (λa o _ _ f e _=>⟨o.slots,all a o f e⟩)
   (λa o _ e n=>n) (λa o f e=>⟨o,all a o f e⟩) (λa xs e=>e) (λa o q e=>e) (λa ps e=>⟨#[],by rw[e];simp⟩) (λmm hm=>?_) F I.bare.self
  obtain⟨o,es,ep,ho,r⟩:=hm;exact⟨o,es,ep,all _ o (λq=>(p _ q).2.1 rfl) ho,r⟩
 self:=λ_ _ _ _ _ st h=>wpAny_pyIter_zip st.1 h
end
section
variable{X:Cx}{pos:Pos}
theorem qaS{ι:01}{H:Hp}{d:D}{l:List D}{v:V}(e:walkF d=some l)(h:Den ι H d v):∃b a xs,v=.ref a/\a∉ι/\Dens ι H l xs/\(if b=true then H a=some (.t xs)else Rd H a (.l xs)):=by
 cases d with
 |t f=>cases e;obtain⟨a,xs,e1,n,ha,c⟩:=h;exact⟨true,a,xs,e1,n,c,by simpa using ha⟩
 |l f=>cases e;obtain⟨a,xs,e1,n,ha,c⟩:=h;exact⟨false,a,xs,e1,n,c,by simpa using ha⟩
 |_=>cases e
def AtB(b:Bool)(H:Hp)(a:Addr)(xs:List V):Prop:=if b=true then H a=some (.t xs)else Rd H a (.l xs)
theorem AtB.sq{b:Bool}{H:Hp}{K:PySem.W.Frag}{a:Addr}{xs:List V}(h:AtB b H a xs):SqB b K H a xs:=by
 cases b with
 |true=>exact .inl (.inl h)
 |false=>exact .inl h
theorem AtB.mono{b:Bool}{ι c:01}{H H':Hp}{a:Addr}{xs:List V}(h:AtB b H a xs)(n:a∉ι)(s:Stp ι H c H'):AtB b H' a xs:=by
 cases b with
 |true=>exact s.keep _ _ h n trivial
 |false=>exact(s.rd h n).1
theorem qkk{ι:01}{H:Hp}{K:PySem.W.Frag}{b c:Bool}{l m:Addr}{xs ys:List V}{ds es:List D}(r:l∉ι)(nm:m∉ι)(w:AtB b H l xs)(y:AtB c H m ys)(A:Dens ι H ds xs)(B:Dens ι H es ys):ItOk ι H (ItZ K b c l m) ((ds.zip es).map λp=>.t [p.1,p.2]) where
 go:=λi d a H2 s e=>by
  rw[w5]at e;cases z:(ds.zip es)[i]? with
  |none=>rw[z]at e;cases e
  |some p =>
   rw[z]at e;cases e;obtain⟨e1,E⟩:=vu.mp z;obtain⟨u,C,F⟩:=(Dens.mono s ds A).get e1;obtain⟨v,v1,v2⟩:=(Dens.mono s es B).get E;have f:=(w.mono r s).sq (K:=K);have h:=(y.mono nm s).sq (K:=K);refine⟨⟨xs,ys,u,v,f,h,C,v1⟩,λx H3 I=>?_⟩;obtain⟨q,J,L,rfl,o,rfl,j,n⟩:=I;have j:=j xs f;have n:=n ys h;rw[C]at j;cases j;rw[v1]at n;cases n;have g:=Stp.laid (ι:=a) o (.t [u,v]);exact⟨g,λS st=>⟨st.laid o _,q,[u,v],rfl,st.fresh o,qB,u,[v],rfl,Den.mono g _ F,v,[],rfl,Den.mono g _ v2,rfl⟩⟩
 stop:=λa H2 s=>by
  refine⟨xs,ys,(w.mono r s).sq,(y.mono nm s).sq,?_⟩;rw[wF,wi,A.length,B.length];lia
theorem qmc(N l m:Nat)(a:l<N)(b:m<N):ZA (N+4) (N+2) (N+3) N (N+1) l m :=
 ⟨(by lia:N+2≠N+4),(by lia:N+3≠N+4),(by lia:N≠N+4),(by lia:N+1≠N+4),(by lia:N+2≠N+3),(by lia:N+2≠N),(by lia:N+2≠N+1),(by lia:N+3≠N),(by lia:N+3≠N+1),(by lia:N≠N+1),
  (by lia:l≠N+4),(by lia:l≠N+3),(by lia:l≠N),(by lia:l≠N+1),(by lia:m≠N+4),(by lia:m≠N+3),(by lia:m≠N),(by lia:m≠N+1)⟩
theorem qgi:bootBuiltins "zip"=some (.type "zip"):=by decide +kernel
theorem qmd{es:List Expr}{n:Nat}{tp:Pos}{e1 j:Expr}{p:Pos}{m1 m2:05}(hg:Gl X "zip")(hm:X.mg "zip"=none)(h1:PE X e1 (T m1))(h2:PE X j (T m2))(M:starEach [e1,j] X.env=(false,eval e1 X.env)::starEach [j] X.env)(u:starEach [j] X.env=(false,eval j X.env)::starEach [] X.env):
  PI X (.Tuple es n tp) (.Call (.Name "zip" p) [e1,j] [] pos) (TIt λρ S=>(m1 ρ S).bind λx S1=>(m2 ρ S1).bind λy S2=>match walkF x,walkF y with
   |some l,some m=>.ok ((l.zip m).map λp=>.t [p.1,p.2]) S2
   |_,_=>.no):=by
 intro pins s C H R I hw;obtain⟨ι,S,ρ,O,st,q⟩:=hw;dsimp only at q;cases z1:m1 ρ S with
 |no=>rw[z1]at q;exact q.elim
 |err=>rw[z1]at q;exact q.elim
 |ok x S1 =>
  rw[z1,Res.bind_ok]at q;cases z2:m2 ρ S1 with
  |no=>rw[z2]at q;exact q.elim
  |err=>rw[z2]at q;exact q.elim
  |ok y S2 =>
   rw[z2,Res.bind_ok]at q;cases z3:walkF x with
   |none=>simp only[z3]at q
   |some l =>
    cases z4:walkF y with
    |none=>simp only[z3,z4]at q
    |some m =>
     simp only[z3,z4]at q;refine Call_ (z9 I hg hm qgi (ve (e:=e1) (rest:=[j]) ?_ M (by rw[u];rfl)));rw[M,u];refine vt (thn (h1 pins s C H (λv i=>∃d,Stp ι H d i/\Sto d i S1/\Den d i x v) I ⟨ι,S,ρ,O,st,by rw[z1];exact λv d i a b c=>⟨d,a,b,c⟩⟩) λu1 s1 ⟨v1,i,I1,r1,d,q1,E,d1⟩=>?_);refine vt (thn (h2 pins s1 C i (λv H2=>∃f,Stp d i f H2/\Sto f H2 S2/\Den f H2 y v) I1 ⟨d,S1,ρ,O.mono q1,E,by rw[z2];exact λv d i a b c=>⟨d,a,b,c⟩⟩) λu2 s2 ⟨v2,H2,A,r2,f,q2,F,d2⟩=>uV ?_);obtain⟨b,J,xs,rfl,nl,dl,P⟩:=qaS z3 (Den.mono q2 x d1);obtain⟨c,L,ys,rfl,nm,dm,Q⟩:=qaS z4 d2;cases r1;cases r2;obtain⟨a0,rx,U⟩:=jv A (AtB.sq P);obtain⟨a1,ry,W⟩:=jv A (AtB.sq Q);have lt:∀{b:Bool} {a:Addr} {w:Array Value},SQ b s2.heap a w->a<s2.heap.objs.size:=λ{b a w} h=>by
      cases b with
      |true=>obtain⟨o,e,_⟩:=h;exact wP e
      |false=>obtain⟨o,e,_⟩:=h;exact wP e
     have Y:=lt U;have Z:=lt W;refine qgg U W λh' r kp=>wpAny_pyIter_zip r.z ?_
     have I3:Inv X pins C H2 {s2 with heap:=h' }:=A.kept (t':=s2.toks) kp;generalize hN:s2.heap.objs.size=N at Y Z r;have D:ZA (N+4) (N+2) (N+3) N (N+1) J L:=qmc N J L Y Z;refine⟨N+4,[N+4,N+2,N+3,N,N+1],_,ItZ X.K b c J L,H2,rfl,I3,qgh D,⟨r.z,r.ti,r.to',r.i1,r.i2⟩,λa ha=>?_,q f H2 _ (q1.trans q2) F (qkk nl nm P Q dl dm)⟩;have B:s2.heap.objs.size<=a:=by
      rw[hN];simp only[wX,uF,or_false]at ha;rcases ha with rfl|rfl|rfl|rfl|rfl
      .exact xU _ _
      .exact xU _ _
      .exact xU _ _
      .exact wN _
      .exact xU _ _
     exact A.fpOk B (A.hok.fresh B)
end
end R
namespace R
open PySem PySem.Spec L2 SeqAt
open PyProof.Rows hiding St
open PySem.W (KasT kas_rev kas_asc kas_desc kas_tail3 kas_descPart kas_count kas_place kas_bin kas_sort)
noncomputable def evT{b:Type}(lt:Nat->Nat->Bool):KasT b->b
 | .ret a=>a
 | .ask i j k=>evT lt (k (lt i j))
def zV{a b:Type}(lt:Nat->Nat->Bool)(f:a->KasT b):∀t:KasT a,evT lt (t.bind f)=evT lt (f (evT lt t))
 | .ret _=>rfl
 | .ask i j k=>zV lt f (k (lt i j))
structure Ord (lt:Nat->Nat->Bool) (n:Nat):Prop where
 irr:∀a,a<n->lt a a=false
 tr:∀a b c,a<n->b<n->c<n->lt a b=true->lt b c=true->lt a c=true
 tot:∀a b,a<n->b<n->a≠b->lt a b=true\/lt b a=true
noncomputable def gt(p:Array Nat)(k:Nat):Nat:=p.getD k 0
def Pm(n:Nat)(p:Array Nat):Prop:=p.toList.Perm (List.range n)
section
variable{lt:Nat->Nat->Bool}{n:Nat}{p:Array Nat}
theorem Pm.size(h:Pm n p):p.size=n:=by
 have:=h.length_eq;simpa using this
theorem qcc{k:Nat}(a:k<p.size):gt p k=p[k]:=by simp[gt,Array.getD,a]
theorem y8{q:Array Nat}{k j:Nat}(h:q[k]?=p[j]?):gt q k=gt p j:=by
 unfold gt;rw[Array.getD_eq_getD_getElem?,Array.getD_eq_getD_getElem?,h]
theorem Pm.bd(h:Pm n p){k:Nat}(a:k<n):gt p k<n:=by
 have b:k<p.size:=by rw[h.size];exact a
 rw[qcc b];have hm:p[k]∈p.toList:=by simp
 exact vY.mp (h.mem_iff.mp hm)
theorem Pm.inj(h:Pm n p){i j:Nat}(hi:i<n)(c:j<n)(e:gt p i=gt p j):i=j:=by
 have nd:p.toList.Nodup:=h.nodup_iff.mpr List.nodup_range;have a:i<p.size:=by rw[h.size];exact hi
 have b:j<p.size:=by rw[h.size];exact c
 rw[qcc a,qcc b]at e;have d:p.toList[i]'(by simpa using a)=p.toList[j]'(by simpa using b):=by simpa using e
 exact(xW nd).mp d
def Srt(lt:Nat->Nat->Bool)(p:Array Nat)(m:Nat):Prop:=∀i j,i<j->j<m->lt (gt p i) (gt p j)=true
theorem Srt.one:Srt lt p 1:=λi j a b=>by lia
theorem Srt.snoc(O:Ord lt n)(h:Pm n p){m:Nat}(hm:1<=m)(hn:m<n)(s:Srt lt p m)(q:lt (gt p (m-1)) (gt p m)=true):Srt lt p (m+1):=λi j a c=>by
 by_cases b:j<m
 .exact s i j a b
 .have e:j=m:=by lia
  subst e;by_cases hi:i=j-1
  .subst hi;exact q
  .exact O.tr _ _ _ (h.bd 00) (h.bd 00) (h.bd hn) (s i (j-1) 00 00) q
theorem qbo(O:Ord lt n)(h:Pm n p):∀(f k:Nat),1<=k->k+f=n->Srt lt p k->(k<=evT lt (kas_asc p f k)/\evT lt (kas_asc p f k)<=n/\Srt lt p (evT lt (kas_asc p f k)))/\(evT lt (kas_asc p f k)<n->lt (gt p (evT lt (kas_asc p f k))) (gt p (evT lt (kas_asc p f k)-1))=true)
 |0,k,h1,h2,s=>⟨⟨wN _,by show k<=n;lia,s⟩,λq=>by have j:k<n:=q;lia⟩
 |f+1,k,h1,h2,s=>by
  unfold kas_asc;simp only[evT];cases z:lt (p.getD k 0) (p.getD (k-1) 0)with
  |true =>
   rw[wR rfl];exact⟨⟨wN _,by show k<=n;lia,s⟩,λ_=>z⟩
  |false =>
   rw[wT 02];have a:gt p k≠gt p (k-1):=λe=>by
    have:=h.inj 00 00 e;lia
   have q:lt (gt p (k-1)) (gt p k)=true:=by
    rcases O.tot _ _ (h.bd (show k<n by lia)) (h.bd (show k-1<n by lia)) a with y|y
    .have b:lt (gt p k) (gt p (k-1))=false:=z
     rw[b]at y;cases y
    .exact y
   obtain⟨⟨l,c,d⟩,i⟩:=qbo O h f (k+1) 00 00 (s.snoc O h h1 00 q);exact⟨⟨by lia,c,d⟩,i⟩
def Fal(lt:Nat->Nat->Bool)(p:Array Nat)(m:Nat):Prop:=∀i j,i<j->j<m->lt (gt p j) (gt p i)=true
theorem Fal.snoc(O:Ord lt n)(h:Pm n p){m:Nat}(hm:1<=m)(hn:m<n)(s:Fal lt p m)(q:lt (gt p m) (gt p (m-1))=true):Fal lt p (m+1):=λi j a c=>by
 by_cases b:j<m
 .exact s i j a b
 .have e:j=m:=by lia
  subst e;by_cases hi:i=j-1
  .subst hi;exact q
  .exact O.tr _ _ _ (h.bd hn) (h.bd 00) (h.bd 00) q (s i (j-1) 00 00)
theorem qbp(O:Ord lt n)(h:Pm n p):∀(f k:Nat),1<=k->k+f=n->Fal lt p k->∃m,evT lt (kas_desc f p k 0)=(p,m,0)/\k<=m/\m<=n/\Fal lt p m
 |0,k,h1,h2,s=>⟨k,rfl,wN _,by lia,s⟩
 |f+1,k,h1,h2,s=>by
  unfold kas_desc;simp only[evT];cases z:lt (p.getD k 0) (p.getD (k-1) 0)with
  |true =>
   rw[wR rfl,wT 00];obtain⟨m,e,i,b,c⟩:=qbp O h f (k+1) 00 00 (s.snoc O h h1 00 z);exact⟨m,e,by lia,b,c⟩
  |false =>
   rw[wT 02];simp only[evT];have a:gt p k≠gt p (k-1):=λe=>by
    have:=h.inj 00 00 e;lia
   have q:lt (p.getD (k-1) 0) (p.getD k 0)=true:=by
    rcases O.tot _ _ (h.bd (show k<n by lia)) (h.bd (show k-1<n by lia)) a with y|y
    .have d:lt (gt p k) (gt p (k-1))=false:=z
     rw[d]at y;cases y
    .exact y
   rw[q,wR rfl];exact⟨k,rfl,wN _,by lia,s⟩
theorem qgj(h:Pm n p)(i j:Nat):Pm n (kas_rev p i j):=(mirror_perm p i j _).toList.trans h
theorem qih(O:Ord lt n)(h:Pm n p){k:Nat}(b:1<=k)(c:k<=n)(s:Fal lt p k):∃m q,evT lt (kas_tail3 k n p)=(m,q)/\Pm n q/\1<=m/\m<=n/\Srt lt q m:=by
 have a:Pm n (kas_rev p 0 k):=qgj h 0 k;have d:Srt lt (kas_rev p 0 k) k:=λi j v f=>by
  have e:∀x,x<k->gt (kas_rev p 0 k) x=gt p (k-1-x):=λx l=>by
   have:=getElem?_mirror_all (xs:=p) (i:=0) (j:=k) (by rw[h.size];exact c) x;rw[wR ⟨vP _,l⟩]at this;have q:=y8 this;have o:0+k-1-x=k-1-x:=by lia
   rw[o]at q;exact q
  rw[e i 00,e j f];exact s (k-1-j) (k-1-i) 00 00
 unfold kas_tail3;rw[zV];obtain⟨⟨w,r,u⟩,_⟩:=qbo O a (n-k) k b 00 d;exact⟨_,_,rfl,a,by lia,r,u⟩
theorem qcd(O:Ord lt n)(hn:1<=n)(h:Pm n p):∃m q,evT lt (kas_count n p)=(m,q)/\Pm n q/\1<=m/\m<=n/\Srt lt q m:=by
 unfold kas_count;rw[zV];obtain⟨⟨c,d,a⟩,f⟩:=qbo O h (n-1) 1 (wN _) 00 Srt.one;generalize evT lt (kas_asc p (n-1) 1)=m at *;by_cases e:m=n
 .subst e
  rw[wR (by simp)];exact⟨m,p,rfl,h,c,d,a⟩
 .rw [wT (by simpa using e)]
  by_cases b:m>1
  .rw [wR b]
   simp only[evT];have q:lt (p.getD 0 0) (p.getD (m-1) 0)=true:=a 0 (m-1) 00 00;rw[q,wR rfl];exact⟨m,p,rfl,h,c,d,a⟩
  .rw [wT b]
   have e1:m=1:=by lia
   subst e1;have q:=f 00;unfold kas_descPart;rw[zV];have l:Fal lt p 2:=Fal.snoc (m:=1) O h (wN _) 00 (λi j b r=>by lia) q;obtain⟨k,e,b1,b2,o⟩:=qbp O h (n-(1+1)) (1+1) 00 00 l;rw[e];rw[wT (by simp)];exact qih (k:=k) O h 00 b2 o
theorem qag(O:Ord lt n)(h:Pm n p){k:Nat}(c:k<n)(s:Srt lt p k):∀(f l r:Nat),l<=r->r<=k->r-l<=f->(∀i,i<l->lt (gt p i) (gt p k)=true)->(∀i,r<=i->i<k->lt (gt p k) (gt p i)=true) ->
  evT lt (kas_place p k f l r)<=k/\(∀i,i<evT lt (kas_place p k f l r)->lt (gt p i) (gt p k)=true)/\∀i,evT lt (kas_place p k f l r)<=i->i<k->lt (gt p k) (gt p i)=true
 |0,l,r,h1,h2,h3,a,b=>⟨by show l<=k;lia,a,λi d j=>b i (by have m:l<=i:=d;lia) j⟩
 |f+1,l,r,h1,h2,h3,a,b=>by
  unfold kas_place;by_cases u:l>=r
  .rw [wR u]
   exact⟨by show l<=k;lia,a,λi d j=>b i (by have m:l<=i:=d;lia) j⟩
  .rw [wT u]
   simp only[evT];have hm:(l+r) / 2<k:=by lia
   cases z:lt (p.getD k 0) (p.getD ((l+r) / 2) 0)with
   |true =>
    rw[wR rfl];refine qag O h c s f l ((l+r) / 2) 00 00 00 a λi d j=>?_
    by_cases e:i=(l+r) / 2
    .subst e;exact z
    .exact O.tr _ _ _ (h.bd c) (h.bd 00) (h.bd 00) z (s ((l+r) / 2) i 00 j)
   |false =>
    rw[wT 02];have o:gt p k≠gt p ((l+r) / 2):=λe=>by
     have:=h.inj c 00 e;lia
    have q:lt (gt p ((l+r) / 2)) (gt p k)=true:=by
     rcases O.tot _ _ (h.bd c) (h.bd (show(l+r) / 2<n by lia)) o with y|y
     .have v:lt (gt p k) (gt p ((l+r) / 2))=false:=z
      rw[v]at y;cases y
     .exact y
    refine qag O h c s f ((l+r) / 2+1) r 00 h2 00 (λi d=>?_) b;by_cases e:i=(l+r) / 2
    .subst e;exact q
    .exact O.tr _ _ _ (h.bd 00) (h.bd 00) (h.bd c) (s i ((l+r) / 2) 00 hm) q
theorem qgk(O:Ord lt n):∀(f k:Nat) (p:Array Nat),Pm n p->k+f=n->Srt lt p k->Pm n (evT lt (kas_bin f p k))/\Srt lt (evT lt (kas_bin f p k)) n
 |0,k,p,h,h1,s=>by
  have e:k=n:=by lia
  subst e;exact⟨h,s⟩
 |f+1,k,p,h,h1,s=>by
  unfold kas_bin;rw[zV];obtain⟨u,d,m⟩:=qag O h (k:=k) 00 s k 0 k (vP _) (wN _) 00 (λi hi=>by lia) λi a o=>by lia
  generalize evT lt (kas_place p k k 0 k)=l at *;have q:Pm n (bubble p k (k-l)):=(bubble_perm p k (k-l)).toList.trans h;refine qgk O f (k+1) _ q 00 λi j a o=>?_
  have ev:∀x,gt (bubble p k (k-l)) x=if x=l then gt p k else if l<x/\x<=k then gt p (x-1)else gt p x:=λx=>by
   have e:=getElem?_bubble (xs:=p) (src:=k) (by rw[h.size];lia) (k-l) 00 x;have r:k-(k-l)=l:=by lia
   rw[r]at e;by_cases q1:x=l
   .rw [wR q1]at e ⊢;exact y8 e
   .rw [wT q1]at e ⊢
    by_cases q2:l<x/\x<=k
    .rw [wR q2]at e ⊢;exact y8 e
    .rw [wT q2]at e ⊢;exact y8 e
  rw[ev i,ev j];by_cases i1:i=l
  .rw [wR i1,wT 00,wR ⟨by lia,by lia⟩]
   exact m (j-1) 00 00
  .rw [wT i1]
   by_cases b:j=l
   .rw [wR b,wT 00]
    exact d i 00
   .rw [wT b]
    by_cases i2:l<i/\i<=k
    .rw [wR i2,wR ⟨by lia,by lia⟩]
     exact s (i-1) (j-1) 00 00
    .rw [wT i2]
     by_cases c:l<j/\j<=k
     .rw [wR c]
      exact s i (j-1) 00 00
     .rw [wT c]
      exact s i j a 00
theorem qbq(O:Ord lt n)(hn:1<=n):Pm n (evT lt (kas_sort n))/\Srt lt (evT lt (kas_sort n)) n:=by
 unfold kas_sort;rw[zV];have d:Pm n (List.toArray (List.range n)):=by
  show(List.toArray (List.range n)).toList.Perm _;simp
 obtain⟨m,q,e,b,f,h,c⟩:=qcd O hn d;rw[e];by_cases hm:m<n
 .rw [wR hm]
  have a:max m 1=m:=by lia
  show Pm n (evT lt (kas_bin (n-max m 1) q (max m 1)))/\_;rw[a];exact qgk O (n-m) m q b 00 c
 .rw [wT hm]
  have a:m=n:=by lia
  subst a;exact⟨b,c⟩
end
end R
namespace R
open PySem PySem.Spec L2 SeqAt
open PyProof.Rows hiding St
open PySem.W (KasT kas_rev kas_asc kas_desc kas_tail3 kas_descPart kas_count kas_place kas_bin kas_sort kas_cmp kas_item kas_item_eq kas_runs kas_st kas_range KatLex kat_lt KatTups kat_kind)
def InT{a:Type}(lt:Nat->Nat->Bool)(n:Nat):KasT a->Prop
 | .ret _=>True
 | .ask i j k=>i<n/\j<n/\InT lt n (k (lt i j))
section
variable{lt:Nat->Nat->Bool}{n:Nat}{p:Array Nat}
theorem zW{a b:Type}{f:a->KasT b}:∀{t:KasT a},InT lt n t->InT lt n (f (evT lt t))->InT lt n (t.bind f)
 | .ret _,_,h=>h
 | .ask i j k,h,h'=>⟨h.1,h.2.1,zW h.2.2 h'⟩
theorem qc6(h:Pm n p):∀(f k:Nat),1<=k->k+f=n->InT lt n (kas_asc p f k)
 |0,_,_,_=>trivial
 |f+1,k,h1,h2=>by
  refine⟨h.bd (show k<n by lia),h.bd (show k-1<n by lia),?_⟩;dsimp only;split
  .trivial
  .exact qc6 h f (k+1) 00 00
theorem qdW(O:Ord lt n)(h:Pm n p):∀(f k:Nat),1<=k->k+f=n->InT lt n (kas_desc f p k 0)
 |0,_,_,_=>trivial
 |f+1,k,h1,h2=>by
  refine⟨h.bd (show k<n by lia),h.bd (show k-1<n by lia),?_⟩;cases z:lt (p.getD k 0) (p.getD (k-1) 0)with
  |true =>
   dsimp only;rw[wR rfl,wT 00];exact qdW O h f (k+1) 00 00
  |false =>
   dsimp only;rw[wT 02];refine⟨h.bd (show k-1<n by lia),h.bd (show k<n by lia),?_⟩;have a:gt p k≠gt p (k-1):=λe=>by
    have:=h.inj 00 00 e;lia
   have q:lt (p.getD (k-1) 0) (p.getD k 0)=true:=by
    rcases O.tot _ _ (h.bd (show k<n by lia)) (h.bd (show k-1<n by lia)) a with y|y
    .have b:lt (gt p k) (gt p (k-1))=false:=z
     rw[b]at y;cases y
    .exact y
   rw[q];dsimp only;rw[wR rfl];trivial
theorem qii(h:Pm n p){k:Nat}(a:1<=k)(b:k<=n):InT lt n (kas_tail3 k n p):=zW (qc6 (qgj h 0 k) (n-k) k a 00) trivial
theorem qgl(O:Ord lt n)(hn:1<=n)(h:Pm n p):InT lt n (kas_count n p):=by
 unfold kas_count;obtain⟨⟨f,l,b⟩,c⟩:=qbo O h (n-1) 1 (wN _) 00 Srt.one;refine zW (qc6 h (n-1) 1 (wN _) 00) ?_;generalize evT lt (kas_asc p (n-1) 1)=m at *;by_cases e:m=n
 .subst e;rw[wR (by simp)];trivial
 .rw [wT (by simpa using e)]
  by_cases a:m>1
  .rw [wR a]
   refine⟨h.bd (show 0<n by lia),h.bd (show m-1<n by lia),?_⟩;have q:lt (p.getD 0 0) (p.getD (m-1) 0)=true:=b 0 (m-1) 00 00;rw[q];dsimp only;rw[wR rfl];trivial
  .rw [wT a]
   have e1:m=1:=by lia
   subst e1;have q:=c 00;unfold kas_descPart;have d:Fal lt p 2:=Fal.snoc (m:=1) O h (wN _) 00 (λi j a o=>by lia) q;obtain⟨k,e,b1,b2,r⟩:=qbp O h (n-(1+1)) (1+1) 00 00 d;refine zW (qdW O h (n-(1+1)) (1+1) 00 00) ?_;rw[e,wT (by simp)];exact qii (k:=k) h 00 b2
theorem qah(h:Pm n p){k:Nat}(a:k<n):∀(f l r:Nat),r<=k->InT lt n (kas_place p k f l r)
 |0,_,_,_=>trivial
 |f+1,l,r,h2=>by
  unfold kas_place;by_cases b:l>=r
  .rw [wR b];trivial
  .rw [wT b]
   refine⟨h.bd a,h.bd (show(l+r) / 2<n by lia),?_⟩;dsimp only;split
   .exact qah h a f l _ 00
   .exact qah h a f _ r h2
theorem qgm(O:Ord lt n):∀(f k:Nat) (p:Array Nat),Pm n p->k+f=n->InT lt n (kas_bin f p k)
 |0,_,_,_,_=>trivial
 |f+1,k,p,h,h1=>zW (qah h 00 k 0 k (wN _)) (qgm O f (k+1) _ ((bubble_perm p k _).toList.trans h) 00)
theorem qij(O:Ord lt n)(hn:1<=n):InT lt n (kas_sort n):=by
 have a:Pm n (List.toArray (List.range n)):=by
  show(List.toArray (List.range n)).toList.Perm _;simp
 obtain⟨m,q,e,b,d,f,h⟩:=qcd O hn a;refine zW (qgl O hn a) ?_;rw[e];by_cases hm:m<n
 .rw [wR hm]
  have c:max m 1=m:=by lia
  show InT lt n (kas_bin (n-max m 1) q (max m 1));rw[c];exact qgm O (n-m) m q b 00
 .rw [wT hm];trivial
theorem qdX{a:Type}{cmp:Nat->Nat->(Bool->Shared->Prop)->Shared->Prop}{s:Shared}(b:∀i j C,i<n->j<n->C (lt i j) s->cmp i j C s){Q:a->Shared->Prop}:∀{t:KasT a},InT lt n t->Q (evT lt t) s->t.kasWp cmp Q s
 | .ret _,_,h=>h
 | .ask i j k,h,q=>b i j _ h.1 h.2.1 (qdX b h.2.2 q)
end
section
variable{prog:Program}{w:World}{A:Around}{E:Value->Shared->Prop}{s:Shared}
theorem qgn{b:Bool}{x y:Int}{t u:Tok}{Q:Bool->Shared->Prop}(h:Q (decide (x<y)) s):wpAny (model prog w) A (oneLt' b (.int x t) (.int y u)) Q E s:=by
 cases b with
 |true=>exact oneLt_int h
 |false=>exact PySem.W.kat_one _ _ (PySem.P.lt_int h)
theorem qgo{b:Bool}{Q:Bool->Shared->Prop}:∀{xs ys:List Int} {us vs:List Value} {i:Nat},IntsAre us xs->IntsAre vs ys->Q (HT.lexLt xs ys) s->KatLex prog w A b (decide (xs.length<ys.length)) Q (us.zip vs) i s:=by
 intro xs;induction xs with
 |nil =>
  intro ys us vs i a c h;cases a;cases c with
  |nil=>exact h
  |cons =>
   show Q _ s;simpa[HT.lexLt]using h
 |cons x xs d =>
  intro ys us vs i a c h;cases a with
  |cons _ t f =>
  cases c with
  |nil =>
   show Q _ s;simpa[HT.lexLt]using h
  |cons _ u j =>
  refine wpAny_eqBool_int ?_;rw[HT.qZ]at h;split at h
  .rename_i e
   subst e;rw[wR (by simp)];have:=d (i:=i+1) f j h;simpa[List.zip]using this
  .rename_i e
   rw[wT (by simpa using e)];exact qgn h
noncomputable def TupsAt(h:Heap):List Value->List (List Int)->Prop
 |[],ks=>ks=[]
 |v::vs,ks=>∃a b k r,v=.ref a/\ks=k::r/\IsTup h a b.toArray/\IntsAre b k/\TupsAt h vs r
theorem TupsAt.len{h:Heap}:∀{vs:List Value} {ks:07},TupsAt h vs ks->vs.length=ks.length
 |[],_,e=>by cases (show _=[]from e);rfl
 |_::_,_,e=>by obtain⟨a,b,k,r,_,rfl,_,_,t⟩:=e;simp[TupsAt.len t]
theorem TupsAt.get{h:Heap}:∀{vs:List Value} {ks:07} (i:Nat),TupsAt h vs ks->i<ks.length->∃a b,vs.getD i .none=.ref a/\IsTup h a b.toArray/\IntsAre b (ks.getD i [])
 |[],_,_,e,hi=>by cases (show _=[]from e);simp at hi
 |_::vs,_,0,e,hi=>by obtain⟨a,b,k,r,rfl,rfl,c,d,_⟩:=e;exact⟨a,b,rfl,c,by simpa using d⟩
 |_::vs,_,i+1,e,hi=>by
  obtain⟨a,b,k,r,rfl,rfl,c,d,t⟩:=e;obtain⟨f,its',e1,j,l⟩:=TupsAt.get i t (by simpa using hi);exact⟨f,its',by simpa using e1,j,by simpa using l⟩
theorem TupsAt.keep{h h':Heap}:∀{vs:List Value} {ks:07},TupsAt h vs ks->(∀a o,Value.ref a∈vs->h.get? a=some o->h'.get? a=some o)->TupsAt h' vs ks
 |[],_,e,_=>e
 |_::_,_,e,hk=>by
  obtain⟨a,d,k,r,rfl,rfl,⟨o,f,c⟩,i,t⟩:=e;exact⟨a,d,k,r,rfl,rfl,⟨o,hk a o wH f,c⟩,i,t.keep λb u hb=>hk b u (wL _ hb)⟩
theorem TupsAt.firsts{h:Heap}:∀{vs:List Value} {ks:07},TupsAt h vs ks->(∀k∈ks,k≠[])->∃fs:List Value,KatTups h vs fs/\fs.length=vs.length/\∀f∈fs,∃x t,f=.int x t
 |[],_,e,_=>⟨[],trivial,rfl,λf b=>by cases b⟩
 |_::_,_,e,hn=>by
  obtain⟨a,j,k,r,rfl,rfl,⟨o,l,c,m,d⟩,i,t⟩:=e;obtain⟨fs,n,p,q⟩:=t.firsts λk u=>hn k (wL _ u)
  cases i with
  |nil=>exact absurd rfl (hn [] wH)
  |cons x tx i =>
   refine⟨.int x tx::fs,⟨⟨a,o,_,m,rfl,l,c,d,by simp⟩,n⟩,by simp[p],λf b=>?_⟩;rcases wX.mp b with z|z
   .exact ⟨x,tx,z⟩
   .exact q f z
noncomputable def ltK(ks:07)(i j:Nat):Bool:=HT.lexLt (ks.getD i []) (ks.getD j [])
theorem qik{vs:List Value}{ks:07}(t:TupsAt s.heap vs ks){i j:Nat}(hi:i<ks.length)(c:j<ks.length){C:Bool->Shared->Prop}(h:C (ltK ks i j) s):kas_cmp prog w A (tuples' true) (pairsOf vs) i j C s:=by
 unfold kas_cmp;rw[kas_item_eq,kas_item_eq];obtain⟨a,xs,e1,⟨o,f,_,m,d⟩,r1⟩:=t.get i hi;obtain⟨b,ys,l,⟨u,eu,_,q,d'⟩,r2⟩:=t.get j c;dsimp only;rw[e1,l];have:=qgo (prog:=prog) (w:=w) (A:=A) (s:=s) (b:=true) (i:=0) (Q:=C) r1 r2 h;refine kat_lt f d eu d' ?_;have n:=r1.length;have p:=r2.length;simpa[n,p]using this
theorem qgp{vs:List Value}{ks:07}(t:TupsAt s.heap vs ks)(hn:∀k∈ks,k≠[])(d:2<=vs.length){Q:SortKind->Shared->Prop}(h:Q (tuples' true) s):wpAny (model prog w) A (keyKind' vs.toArray) Q E s:=by
 obtain⟨fs,a,f,b⟩:=t.firsts hn;refine kat_kind (T:=Value.type "int") a 00 (λv c=>?_) 02 h;obtain⟨x,tx,rfl⟩:=b v c;exact .now
end
end R
namespace R
open PySem PySem.Spec L2 SeqAt
open PyProof.Rows hiding St
open PySem.W (KasT kas_sort kas_cmp kas_item kas_item_eq kas_runs kas_st kas_range KdlSrc kdl_extend kdl_hint_dict)
section
variable{prog:Program}{w:World}{A:Around}{E:Value->Shared->Prop}{s:Shared}
structure Answers (prog:Program) (w:World) (A:Around) (vs:List Value) (s:Shared) (κ:SortKind) (lt:Nat->Nat->Bool):Prop where
 kind:∀(E:06) (Q:SortKind->Shared->Prop),Q κ s->wpAny (model prog w) A (keyKind' vs.toArray) Q E s
 ord:Ord lt vs.length
 cmp:∀i j C,i<vs.length->j<vs.length->C (lt i j) s->kas_cmp prog w A κ (pairsOf vs) i j C s
noncomputable def outOf(lt:Nat->Nat->Bool)(vs:List Value):List Value:=if vs.length<2 then vs else(evT lt (kas_sort vs.length)).toList.map λi=>vs.getD i Value.none
theorem lsort{D:Addr}{vs:List Value}{n:Nat}{κ:SortKind}{lt:Nat->Nat->Bool}{P:PySem.Fin->Shared->Prop}(r:s.heap.get? D=some (seqObj "list" vs.toArray n))(u:vs.length<64)(v:2<=vs.length->∀h':Heap,(∀b o,b≠D->s.heap.get? b=some o->h'.get? b=some o)->Answers prog w A vs {s with heap:=h' } κ lt)(h:∀(h':Heap) (c:Nat),(∀b o,b≠D->s.heap.get? b=some o->h'.get? b=some o)->h'.get? D=some (seqObj "list" (outOf lt vs).toArray c)->P (.done (.ret .none)) {s with heap:=h' }):
  wpAny (model prog w) A (Builtin.«list.sort» ⟨[.ref D],[]⟩) P E s:=by
 have L:D<s.heap.objs.size:=wP r;obtain⟨e1,B⟩:∃e1,(s.heap.update D (Obj.mapSeq λ_=>(#[]:Array Value))).get? D=some (seqObj "list" #[] e1):=⟨_,x3 r λ_=>#[]⟩;have x:∀b o,b≠D->s.heap.get? b=some o->(((s.heap.update D (Obj.mapSeq λ_=>(#[]:Array Value))).push (seqObj "tuple" vs.toArray 0)).push (seqObj "list" #[] 0)).get? b=some o:=λb o hb e =>
  wC _ (wC _ ((wy _ _ (Ne.symm hb)).trans e))
 have j:(((s.heap.update D (Obj.mapSeq λ_=>(#[]:Array Value))).push (seqObj "tuple" vs.toArray 0)).push (seqObj "list" #[] 0)).get? D=some (seqObj "list" #[] e1):=wC _ (wC _ B);rw[list_sort_plain];refine wB (listItems_at r rfl (wB (listUpdate_at r rfl (wB (seqEpoch_at B rfl (wB (wpAny_newTuple (wB (wpAny_newList (vE ?_) (vP _))) (by show vs.length<=_;rw[vV];lia)))))
  (by rw[wS,vV];lia) (vP _))))
 generalize M:((s.heap.update D (Obj.mapSeq λ_=>(#[]:Array Value))).push (seqObj "tuple" vs.toArray 0)).push (seqObj "list" #[] 0)=h3 at x j;show wpAny (model prog w) A _ P E {s with heap:=h3};dsimp only;have fin:∀(xs:Array Value),xs=(outOf lt vs).toArray->P (.done (.ret .none)) {s with heap:=h3.update D (Obj.mapSeq λ_=>xs)}:=λxs ex=>by
  subst ex;exact h _ _ (λb o hb e=>(wy _ _ (Ne.symm hb)).trans (x b o hb e)) (x3 j λ_=>(outOf lt vs).toArray)
 by_cases l:vs.toArray.size<2
 .have f:vs.length<2:=by simpa using l
  rw[wR l,wR l];refine wB (wE ?_);rw[StateT.run_pure];refine wB (wE (?_:wpAny _ A _ _ _ _));dsimp only;refine wB (seqEpoch_at j rfl (wB (listUpdate_at j rfl ?_ (vP _) (by rw[Array.size_map];show(pairsOf vs).size<=_;rw[pairsOf_size,vV];lia))));simp only[bne_self_eq_false,vI,uB];refine wE (fin _ ?_);unfold outOf;rw[wR f];apply Array.toList_inj.mp;show((vs.toArray.zip vs.toArray).map (·.2)).toList=_;simp[List.map_snd_zip]
 .have f:2<=vs.length:=by
   have:¬vs.length<2:=by simpa using l
   lia
  have a:=v f h3 x;rw[wT l,wT l];refine wB (a.kind _ _ ?_);have y:SortSt.mk' κ (vs.toArray.zip vs.toArray) #[] 7 none=kas_st κ (pairsOf vs) (List.toArray (List.range vs.length)):=by
   have e:=kas_range (pairsOf vs);rw[pairsOf_size]at e;show SortSt.mk' κ (pairsOf vs) #[] 7 none=SortSt.mk' κ ((List.toArray (List.range vs.length)).map (kas_item (pairsOf vs))) #[] 7 none;rw[e]
  have run:=kas_runs (prog:=prog) (w:=w) (A:=A) (E:=E) (κ:=κ) (it:=pairsOf vs) (s:={s with heap:=h3}) (Q:=λ_ d s'=>s'={s with heap:=h3}/\failedOf d=none/\∃p:Array Nat,p=evT lt (kas_sort vs.length)/\p.size=vs.length/\arrOf d=p.map (kas_item (pairsOf vs)))
   (G:=λp s'=>s'={s with heap:=h3}/\p=evT lt (kas_sort vs.length)) f u (λF d s' b1 b2 H C=>⟨C.1,H,F,C.2,b1,b2⟩) (qdX a.cmp (qij a.ord 00) ⟨rfl,rfl⟩)
  rw[<-y]at run;refine wB (wz run ?_ λ_ _ e=>e);rintro⟨⟨⟩,d⟩ s' ⟨rfl,I,p,J,K,m⟩;dsimp only;have q:(arrOf d).map (·.2)=(outOf lt vs).toArray:=by
   unfold outOf;rw[wT 00,<-J];apply Array.toList_inj.mp;rw[m,Array.map_map,Array.toList_map];exact wo λi _=>by show(kas_item (pairsOf vs) i).2=_;rw[kas_item_eq]
  have hsz:((arrOf d).map (·.2)).size=vs.length:=by rw[m,Array.map_map,Array.size_map,K]
  refine wB (seqEpoch_at j rfl (wB (listUpdate_at j rfl ?_ (vP _) (by show((arrOf d).map (·.2)).size<=_;rw[hsz,vV];lia))));rw[I];simp only[bne_self_eq_false,vI,uB];exact wE (fin _ q)
theorem qaT{x:Value}{vs:List Value}{κ:SortKind}{lt:Nat->Nat->Bool}{Q:06}(d:vs.length<64)(f:∀(n:06) (Q':List Value->Shared->Prop),(∀(h':Heap) (tk:Nat),s.heap.objs.size<=h'.objs.size->(∀b o,s.heap.get? b=some o->h'.get? b=some o)->Q' vs {s with heap:=h',toks:=tk})->wpAny (model prog w) A.in1 (collect x) Q' n s)(i:2<=vs.length->∀(h':Heap) (tk:Nat),(∀b o,s.heap.get? b=some o->h'.get? b=some o)->Answers prog w A.in1.in1 vs {s with heap:=h',toks:=tk} κ lt)(h:∀(h':Heap) (tk:Nat) (D:Addr) (c:Nat),s.heap.objs.size<=D->(∀b o,s.heap.get? b=some o->h'.get? b=some o)->h'.get? D=some (seqObj "list" (outOf lt vs).toArray c)->Q (.ref D) {s with heap:=h',toks:=tk}):
  wpAny (model prog w) A (call (.builtin "sorted") [x]) Q E s:=by
 refine Calls.call_function_entry kind_sorted plain_sorted entry_sorted (args_sorted1 _) ?_;unfold Builtin.«sorted»;refine wB (m:=checkCount "sorted" 1 1 _) (wE (wB (f _ _ λa tk sz j=>wB (wpAny_newList ?_ (by rw[vV];lia)))));have l:(a.push (seqObj "list" vs.toArray 0)).get? a.objs.size=some (seqObj "list" vs.toArray 0):=wM _ rfl;have up:∀b o,s.heap.get? b=some o->(a.push (seqObj "list" vs.toArray 0)).get? b=some o:=λb o e=>wC _ (j b o e)
 have ne:∀b o,s.heap.get? b=some o->b≠a.objs.size:=λb o e=>wk (wP (j b o e))
 show wpAny _ _ _ _ _ {s with heap:=a.push (seqObj "list" vs.toArray 0),toks:=tk};refine wB (vE (vG slot_list_sort ⟨_,l,rfl⟩ entry_list_sort ?_ (args_list_sort _)));refine lsort (κ:=κ) (lt:=lt) (s:={s with heap:=a.push (seqObj "list" vs.toArray 0),toks:=tk}) l d (λp h' kp=>i p h' tk λb o e=>kp b o (ne b o e) (up b o e)) λh' c kp q=>?_
 exact⟨_,rfl,wE ⟨_,rfl,h h' tk a.objs.size c sz (λb o e=>kp b o (ne b o e) (up b o e)) q⟩⟩
def EsAt(h:Heap)(d:Addr)(es:Array DictEntry)(a:Nat):Prop:=∃o,h.get? d=some o/\o.ExactDict/\o.data=.dict es a
theorem EsAt.at{h h':Heap}{d:Addr}{es:Array DictEntry}{a:Nat}(x:EsAt h d es a)(e:∀o,h.get? d=some o->h'.get? d=some o):EsAt h' d es a:=let ⟨o,b,r⟩:=x;⟨o,e o b,r⟩
theorem EsAt.typeIs{s:Shared}{d:Addr}{es:Array DictEntry}{a:Nat}(x:EsAt s.heap d es a):s.TypeIs (.ref d) "dict":=let ⟨o,b,c,_⟩:=x;⟨o,b,c.1⟩
theorem qe2{d:Addr}{es:Array DictEntry}{c:Nat}{Q:06}(hd:(d == sysModules)=false)(hm:EsAt s.heap d es c)(h:Q (.ref s.heap.objs.size) {s with heap:=s.heap.push {cls:=.type "dict_keyiterator",data:=.fields #[.ref d,.int 0 0,.int es.size 0,.int c 0]}}):wpAny (model prog w) A (pyIter (.ref d)) Q E s:=by
 have b:=hm.typeIs;obtain⟨o,f,i,a⟩:=hm;refine wpAny_pyIter_slot b F.slot_dict_iter (vG F.slot_dict_iter b F.entry_dict_iter ?_ (F.args_dict_iter_1 _));unfold Builtin.«dict.__iter__»;refine wB ?_;unfold Builtin.Dict.dictSlotNone;refine wB (wpAny_notOrdered_dict b (wE (?_:wpAny _ _ (Builtin.Dict.showsAll d >>= _) _ _ s)));unfold Builtin.Dict.showsAll;rw[wT (by rw[hd];exact wb)];refine wB (wE (wB (xH f a (wB (wpAny_dictEpoch f a ?_)))));refine wB (wa (wE ⟨_,rfl,"dict_keyiterator",_,⟨_,wM _ rfl,rfl⟩,vb.lookup,?_⟩));simpa[rawInt]using h
theorem qe3{it d:Addr}{i j:Nat}{es:Array DictEntry}{e:DictEntry}{Q:Option Value->Shared->Prop}(c:s.heap.IsKeyIter it d i es.size j)(hm:EsAt s.heap d es j)(m:es[i]?=some e)(n:∀h',h'.IsKeyIter it d (i+1) es.size j->Heap.SameBut it s.heap h'->Q (some e.key) {s with heap:=h' }):wpAny (model prog w) A (pyNext (.ref it)) Q E s:=by
 have b:=c.typeIs;obtain⟨o,l,p,hd⟩:=c;obtain⟨od,f,q,h⟩:=hm;unfold pyNext;refine wB (xN (vA (name:=Str.ofString "__next__") b vb (vG vb b F.entry_dict_keyiterator_next ?_ (F.args_dict_keyiterator_next_1 _))));refine wB (wE (wB (wB ?_)))
 first|refine wB (uE b (wE (wB (xl l hd ?_))))|refine wB (u4 b (wE (wB (xl l hd ?_))))
 have own:Builtin.Dict_items.ownsTuple "dict_keyiterator"=false:=by decide
 simp only[own,vI,uB];show wpAny _ _ (if(Value.ref d == Value.none)=true then _ else _) _ _ s;rw[wT (show ¬((Value.ref d == Value.none)=true)from wb)];refine wB (wE (wB (xH f h ?_)));rw[wT (by simp)];refine wB (wE (wB (wpAny_dictEpoch f h ?_)));rw[wT (by simp)];refine wE ?_;obtain⟨r,u⟩:=Array.getElem?_eq_some_iff.mp m;simp only[show ¬((i:Int)<0)from by lia,uB,xL,m];refine wB ?_
 first|refine wB (uE b (wE ?_))|refine wB (u4 b (wE ?_))
 refine wB (wpAny_isOneOf_keyiter b (?_:wpAny _ _ (setField (.ref it) 1 (rawInt ((i:Int)+1)) >>= _) _ _ s));refine wB (xk l hd (by simp) ?_);have a:(s.heap.update it (Obj.mapFields (·.setIfInBounds 1 (rawInt ((i:Int)+1))))).IsKeyIter it d (i+1) es.size j :=
  ⟨_,vr _ l (Obj.isFreed_of_fields (xA hd _)),(Obj.cls_mapFields ..).trans p,by rw[xA hd];simp[rawInt]⟩
 refine wB (vE (wB (wpAny_isOneOf_keyiter (s:={s with heap:=s.heap.update it (Obj.mapFields (·.setIfInBounds 1 (rawInt ((i:Int)+1))))}) a.typeIs (?_:wpAny _ _ (pure e.key) _ _ _))));exact wE (wE ⟨_,rfl,wE (n _ a (Heap.SameBut.update ..))⟩)
theorem qgq{it d:Addr}{i n:Nat}{es:Array DictEntry}{Q:Option Value->Shared->Prop}(p:A.handled=none)(f:s.heap.IsKeyIter it d i es.size n)(hm:EsAt s.heap d es n)(q:es[i]?=none)(r:∀h',Heap.ExtBut it s.heap h'->Q none {s with heap:=h' }):wpAny (model prog w) A (pyNext (.ref it)) Q E s:=by
 have c:=f.typeIs;obtain⟨o,l,v,hd⟩:=f;obtain⟨od,h,u,j⟩:=hm;unfold pyNext;refine wB (xN (vA (name:=Str.ofString "__next__") c vb (vG vb c F.entry_dict_keyiterator_next ?_ (F.args_dict_keyiterator_next_1 _))));refine wB (wE (wB (wB ?_)))
 first|refine wB (uE c (wE (wB (xl l hd ?_))))|refine wB (u4 c (wE (wB (xl l hd ?_))))
 have own:Builtin.Dict_items.ownsTuple "dict_keyiterator"=false:=by decide
 simp only[own,vI,uB];show wpAny _ _ (if(Value.ref d == Value.none)=true then _ else _) _ _ s;rw[wT (show ¬((Value.ref d == Value.none)=true)from wb)];refine wB (wE (wB (xH h j ?_)));rw[wT (by simp)];refine wB (wE (wB (wpAny_dictEpoch h j ?_)));rw[wT (by simp)];refine wE ?_;simp only[show ¬((i:Int)<0)from by lia,uB,xL,q];refine wB ?_
 first|refine wB (uE c (wE ?_))|refine wB (u4 c (wE ?_))
 refine wB (m:=setField (.ref it) 0 .none) (xk l hd (by simp) (?_:wpAny _ _ (newExc (.type "StopIteration") [] >>= _) _ _ _));refine wB ?_;unfold newExc newTuple;refine wB (wa (wB (uu (t:=firstArgMember _ _) (a:=Value.none) (by first|rfl|(simp only[firstArgMember];rfl)) (wa ?_ (by size_fits)))) (by size_fits));unfold raiseNew;refine wB (wpAny_handled ?_);rw[show A.in1.handled=none from p];refine wB (wE (wpAny_throw ?_));refine wB (wpAny_isInstance (T:="StopIteration") (b:=true) ⟨_,wM _ rfl,rfl⟩ isSubtype_stop ?_);exact wE (r _ (((Heap.SameBut.update ..).extBut.push _).push _))
theorem qe4(n:A.handled=none)(I d:Addr)(c:d≠I)(es:Array DictEntry)(f:Nat):Walks prog w A I [I,d] [I] es.size (λi v=>(es[i]?).map (·.key)=some v) (λi h=>h.IsKeyIter I d i es.size f/\EsAt h d es f) where
 sub:=λb hb=>by simp at hb;simp[hb]
 frame:=λ_ _ _ st j=>⟨st.1.at λo e=>j I (by simp) o e,st.2.at λo e=>j d (by simp) o e⟩
 item:=λi s Q E hi st a=>by
  have l:es[i]?=some es[i]:=vx hi;exact qe3 st.1 st.2 l λh' p m=>a _ h' s.toks (by rw[l];rfl) ⟨p,st.2.at λo e=>m.extBut _ o c e⟩ λb o hb e=>m.extBut b o (λz=>hb (by simp[z])) e
 done:=λs Q E st a=>qgq n st.1 st.2 (ug (wN _)) λh' q=>a h' s.toks λb o hb e=>q b o (λz=>hb (by simp[z])) e
 self:=λ_ _ _ _ st a=>wpAny_pyIter_keyiter st.1 a
theorem qgr{d:Addr}{es:Array DictEntry}{c:Nat}(lo:(d == sysModules)=false):KdlSrc prog w "dict" d d es.size (λi v=>(es[i]?).map (·.key)=some v) (λh=>EsAt h d es c) where
 type:=λ_ hm=>hm.typeIs
 there:=λ_ hm=>let ⟨o,a,_⟩:=hm;⟨wP a,wP a⟩
 keep:=λ_ _ hm f=>hm.at λo e=>f d (.inl rfl) o e
 notList:=by decide
 notTuple:=by decide
 hint:=λ_ _ _ _ hm b=>kdl_hint_dict hm.typeIs b
 iter:=λA s j hm=>⟨_,_,(λ_ _ b=>qe2 lo hm b),qe4 j _ d (by obtain⟨o,a,_⟩:=hm;exact wk (wP a)) es c,⟨⟨_,wM _ rfl,rfl,rfl⟩,hm.at λo e=>wC _ e⟩⟩
theorem qaU{d:Addr}{es:Array DictEntry}{n:Nat}{Q:List Value->Shared->Prop}(p:A.handled=none)(lo:(d == sysModules)=false)(hm:EsAt s.heap d es n)(hn:es.size<=sizeLine)(q:∀(h':Heap) (tk:Nat),s.heap.objs.size<=h'.objs.size->(∀b o,s.heap.get? b=some o->h'.get? b=some o)->Q (es.toList.map (·.key)) {s with heap:=h',toks:=tk}):wpAny (model prog w) A (collect (.ref d)) Q E s:=by
 have hd:d≠s.heap.objs.size:=by obtain⟨o,r,_⟩:=hm;exact wk (wP r)
 have c:∀R:Result->Shared->Prop,(∀(h':Heap) (tk:Nat) (a:Array Value) (f:Nat),(∀b o,s.heap.get? b=some o->h'.get? b=some o)->h'.get? s.heap.objs.size=some {cls:=.type "list",dict:=none,data:=.seq a f,slots:=#[]}->ItemsOf (λi v=>(es[i]?).map (·.key)=some v) a es.size ->
   R (.ok (.ret (.ref s.heap.objs.size))) {s with heap:=h',toks:=tk})->codeAny (model prog w) A (.builtin "proto.collect" ⟨[.ref d],[]⟩) R s:=by
  intro R u;refine w1 xh ?_;rw[vC xg];refine wB (m:=newList []) (wa (wE ⟨v9 uU _,w1 F.entry_list_iadd ?_⟩));rw[vC uU];have x:(s.heap.push {cls:=.type "list",data:=.seq ([]:List Value).toArray}).get? s.heap.objs.size=some {cls:=.type "list",data:=.seq #[] 0}:=wM _ rfl;exact kdl_extend (R:=R) (s:={s with heap:=s.heap.push {cls:=.type "list",data:=.seq ([]:List Value).toArray}}) (qgr lo) p (hm.at λo e=>wC _ e) s.heap.objs.size (Ne.symm hd) (Ne.symm hd) (.ref s.heap.objs.size) 0 x (λh' tk a f j h hi =>
   u h' tk a f (λb o e=>j b o (wk (wP e)) (wC _ e)) h hi) hn
 unfold collect;refine wB (wpAny_runValue (c _ λh' tk a f j h hi=>?_));refine wB (m:=load s.heap.objs.size) (wpAny_load h (wE ?_));have e:a.toList=es.toList.map (·.key):=by
  apply uT;intro i;rw[w5];cases z:a[i]? with
  |none =>
   have l:a.size<=i:=by simpa using z
   rw[hi.1]at l;have y:es[i]?=none:=ug l;rw[uQ,uQ,z,y];rfl
  |some v =>
   have:=hi.2 i v z;rw[uQ,uQ,z,this]
 rw[e];exact q h' tk (Nat.le_of_lt (wP h)) j
end
end R
namespace R
open PySem PySem.Spec L2 SeqAt
open PyProof.Rows hiding St
open PySem.W (KasT kas_sort)
def jR:∀a:List Int,HT.lexLt a a=false
 |[]=>rfl
 |x::a=>by rw[HT.qZ,wR rfl];exact jR a
def qbr:∀{a b c:List Int},HT.lexLt a b=true->HT.lexLt b c=true->HT.lexLt a c=true
 |[],[],_,h,_=>by cases h
 |[],_::_,[],_,h=>by cases h
 |[],_::_,_::_,_,_=>rfl
 |_::_,[],_,h,_=>by cases h
 |_::_,_::_,[],_,h=>by cases h
 |x::a,y::b,z::c,h,k=>by
  rw[HT.qZ]at h k ⊢;by_cases e1:x=y
  .subst e1
   rw[wR rfl]at h;by_cases d:x=z
   .subst d
    rw[wR rfl]at k ⊢;exact qbr h k
   .rw [wT d]at k ⊢;exact k
  .rw [wT e1]at h
   have h':=vM h;by_cases d:y=z
   .subst d
    rw[wT e1];exact h
   .rw [wT d]at k
    have f:=vM k;rw[wT 00];exact wq 00
def lex_tot:∀{a b:List Int},a≠b->HT.lexLt a b=true\/HT.lexLt b a=true
 |[],[],h=>absurd rfl h
 |[],_::_,_=>.inl rfl
 |_::_,[],_=>.inr rfl
 |x::a,y::b,h=>by
  rw[HT.qZ,HT.qZ];by_cases e:x=y
  .subst e
   rw[wR rfl,wR rfl];exact lex_tot λz=>h (by rw[z])
  .rw [wT e,wT (Ne.symm e)]
   rcases Int.lt_or_gt_of_ne e with z|z
   .exact .inl (wq z)
   .exact .inr (wq z)
def jw(x:List Int):∀l:List (List Int),(insT x l).Perm (x::l)
 |[]=>.refl _
 |y::r=>by
  unfold insT;split
  .exact ((jw x r).cons y).trans (.swap ..)
  .exact .refl _
def qG:∀l:List (List Int),(sortT l).Perm l
 |[]=>.refl _
 |x::r=>(jw x (sortT r)).trans ((qG r).cons x)
def Ris(l:07):Prop:=l.Pairwise λa b=>HT.lexLt a b=true
def qce{x:List Int}:∀{l:07},x∉l->Ris l->Ris (insT x l)
 |[],_,_=>List.pairwise_singleton _ _
 |y::r,hn,h=>by
  obtain⟨i,j⟩:=wx.mp h;unfold insT;split
  .rename_i d
   refine wx.mpr ⟨λz f=>?_,qce (λm=>hn (wL _ m)) j⟩;rcases wX.mp ((jw x r).mem_iff.mp f)with e|e
   .rw [e];exact d
   .exact i z e
  .rename_i d
   have c:HT.lexLt x y=true:=by
    rcases lex_tot (a:=x) (b:=y) λe=>hn (by rw[e];exact wH)with z|z
    .exact z
    .rw [z]at d;exact absurd rfl d
   refine wx.mpr ⟨λz f=>?_,h⟩;rcases wX.mp f with e|e
   .rw [e];exact c
   .exact qbr c (i z e)
def zH:∀{l:07},l.Nodup->Ris (sortT l)
 |[],_=>.nil
 |x::r,h=>by
  obtain⟨a,b⟩:=wh.mp h;exact qce (λm=>a ((qG r).mem_iff.mp m)) (zH b)
def qcf:∀{a b:07},a.Perm b->Ris a->Ris b->a=b
 |[],b,p,_,_=>(List.nil_perm.mp p).symm
 |x::a,[],p,_,_=>absurd (List.perm_nil.mp p) (by simp)
 |x::a,y::b,p,h,k=>by
  obtain⟨d,f⟩:=wx.mp h;obtain⟨i,j⟩:=wx.mp k;have e:x=y:=by
   rcases wX.mp (p.mem_iff.mp wH)with z|z
   .exact z
   .rcases wX.mp (p.symm.mem_iff.mp wH)with c|c
    .exact c.symm
    .have:=qbr (d y c) (i x z)
     rw[jR]at this;cases this
  subst e;rw[qcf (List.Perm.cons_inv p) f j]
def jx(x:Int):∀l:List Int,(insI x l).Perm (x::l)
 |[]=>.refl _
 |y::r=>by
  unfold insI;split
  .exact .refl _
  .exact ((jx x r).cons y).trans (.swap ..)
def zd:∀l:List Int,(sortI l).Perm l
 |[]=>.refl _
 |x::r=>(jx x (sortI r)).trans ((zd r).cons x)
def qdY{x:Int}:∀{l:List Int},l.Pairwise (·<=·)->(insI x l).Pairwise (·<=·)
 |[],_=>List.pairwise_singleton _ _
 |y::r,h=>by
  obtain⟨c,d⟩:=wx.mp h;unfold insI;split
  .rename_i a
   refine wx.mpr ⟨λz b=>?_,h⟩;rcases wX.mp b with e|e
   .rw [e];exact a
   .exact Int.le_trans a (c z e)
  .rename_i a
   refine wx.mpr ⟨λz b=>?_,qdY d⟩;rcases wX.mp ((jx x r).mem_iff.mp b)with e|e
   .rw [e];lia
   .exact c z e
def qai:∀l:List Int,(sortI l).Pairwise (·<=·)
 |[]=>.nil
 |x::r=>qdY (qai r)
def qaj{ks:07}(nd:ks.Nodup):Ord (ltK ks) ks.length where
 irr:=λa _=>jR _
 tr:=λa b c _ _ _ h k=>qbr h k
 tot:=λa b ha hb h=>lex_tot λe=>h (by
  rw[wK,wK,wD ha,wD hb]at e;exact(xW nd).mp e)
def jI{ks:07}(nd:ks.Nodup)(c:1<=ks.length):(evT (ltK ks) (kas_sort ks.length)).toList.map (λi=>ks.getD i [])=sortT ks:=by
 obtain⟨pm,d⟩:=qbq (qaj nd) c;generalize evT (ltK ks) (kas_sort ks.length)=p at *;have f:(p.toList.map λi=>ks.getD i []).Perm ks:=by
  have e:(List.range ks.length).map (λi=>ks.getD i [])=ks:=by
   apply uT;intro i;rw[w5];by_cases hi:i<ks.length
   .rw [wD (by simpa using hi),wD hi]
    simp[hi]
   .rw [vp (by simpa using hi),vp 00];rfl
  have:=pm.map λi=>ks.getD i []
  rwa [e]at this
 refine qcf (f.trans (qG ks).symm) ?_ (zH nd);show(p.toList.map λi=>ks.getD i []).Pairwise _;rw[uS,List.pairwise_iff_getElem];intro i j hi b a;have hsz:=pm.size;have:=d i j a (by simpa[hsz]using b);rw[qcc (by simpa using hi),qcc (by simpa using b)]at this;simpa[ltK]using this
section
variable{X:Cx}{pins:List (Addr×Obj)}{σ:St}{H:Hp}{s:Shared}{ι:List Addr}{S:Sr}
theorem qdZ(I:Inv X pins σ H s):∀{l:List D} {ks:07} {xs:List V} {vs:List Value},tupsOf l=some ks->Dens ι H l xs->Vals xs vs->TupsAt s.heap vs ks/\l=ks.map tupI
 |[],ks,xs,vs,e,hd,r=>by
  cases e;cases (show xs=[]from hd);cases r;exact⟨rfl,rfl⟩
 | .t a::l,ks,xs,vs,e,hd,r=>by
  obtain⟨x,d,rfl,f,h⟩:=hd;obtain⟨b,ys,rfl,_,hb,i⟩:=f;simp only[tupsOf]at e;cases z1:intsOf a with
  |none=>rw[z1]at e;cases e
  |some k =>
   rw[z1,wY]at e;cases z2:tupsOf l with
   |none=>rw[z2]at e;cases e
   |some j =>
    rw[z2]at e;cases e;cases r with
    |cons r1 r2 =>
     cases r1;obtain⟨t1,t2⟩:=qdZ I z2 h r2;obtain⟨c,m,p,_⟩:=yT I hb;have n:=intsOf_eq z1;subst n;cases dens_ints i;refine⟨⟨b,c,k,j,rfl,rfl,p,q8 m,t1⟩,?_⟩;rw[t2];rfl
 | .non::_,_,_,_,e,_,_=>by cases e
 | .bl _::_,_,_,_,e,_,_=>by cases e
 | .int _::_,_,_,_,e,_,_=>by cases e
 | .str _::_,_,_,_,e,_,_=>by cases e
 | .l _::_,_,_,_,e,_,_=>by cases e
 | .emp::_,_,_,_,e,_,_=>by cases e
 | .exc _::_,_,_,_,e,_,_=>by cases e
 | .ref _::_,_,_,_,e,_,_=>by cases e
theorem qak{xs:List V}{vs:List Value}(r:Vals xs vs):∀p:List Nat,(∀i∈p,i<vs.length)->Vals (p.map λi=>xs.getD i .non) (p.map λi=>vs.getD i .none)
 |[],_=>.nil
 |i::p,h=>by
  refine .cons ?_ (qak r p λj a=>h j (wL _ a));have hi:=h i wH;obtain⟨x,e1,b⟩:=Vals.at r hi;dsimp only;rw[wK,wK,e1,wD hi];exact b
theorem qal{l:List D}{xs:List V}(h:Dens ι H l xs):∀p:List Nat,(∀i∈p,i<l.length)->Dens ι H (p.map λi=>l.getD i .non) (p.map λi=>xs.getD i .non)
 |[],_=>rfl
 |i::p,hp=>by
  have hi:=hp i wH;obtain⟨x,e1,a⟩:=h.get (wD hi);refine⟨_,_,rfl,?_,qal h p λj b=>hp j (wL _ b)⟩;dsimp only;rw[wK,wK,e1,wD hi];exact a
theorem zQ{m:Bool}{x:Value}{l:List D}{ks:07}{xs:List V}{vs:List Value}{Q:VK}(I:Inv X pins σ H s)(st:Sto ι H S)(P:X.calm=true)(n:Dens ι H l xs)(p:Vals xs vs)(e:tupsOf l=some ks)(B:l.length<64)(nd:ks.Nodup)(ne:∀k∈ks,k≠[])(r:∀(v:06) (Q':List Value->Shared->Prop),(∀(h':Heap) (tk:Nat),s.heap.objs.size<=h'.objs.size->(∀b o,s.heap.get? b=some o->h'.get? b=some o)->Q' vs {s with heap:=h',toks:=tk})->wpAny 03 X.A.in1 (collect x) Q' v s)(q:Pst Den (newL m ((sortT ks).map tupI) S) ι H Q):wpAny 03 X.A (call (.builtin "sorted") [x]) (EP X pins σ Q) X.xe s:=by
 obtain⟨y,u⟩:=qdZ I e n p;have len:vs.length=ks.length:=y.len;have E:l.length=ks.length:=by rw[u];simp
 refine qaT (κ:=tuples' true) (lt:=ltK ks) 00 r (λh h' tk kp=>?_) λh' tk D c sz kp F=>?_
 .have t':TupsAt h' vs ks:=y.keep λa o _ J=>kp a o J
  exact⟨λv Q' K=>qgp (s:={s with heap:=h',toks:=tk}) t' ne h K,by rw[len];exact qaj nd,λi j C hi U L=>qik (s:={s with heap:=h',toks:=tk}) t' 00 00 L⟩
 .
  have fin:∃f,Vals f (outOf (ltK ks) vs)/\Dens ι H ((sortT ks).map tupI) f:=by
   unfold outOf;by_cases h:vs.length<2
   .rw [wR h]
    refine⟨xs,p,?_⟩;have:sortT ks=ks:=by
     match ks,len with
     |[],_=>rfl
     |[k],_=>rfl
     |_::_::_,len=>simp at len;lia
    rw[this,<-u];exact n
   .rw [wT h]
    rw[len];obtain⟨pm,_⟩:=qbq (qaj nd) (show 1<=ks.length by lia);have hb:∀i∈(evT (ltK ks) (kas_sort ks.length)).toList,i<ks.length:=λi hi=>vY.mp (pm.mem_iff.mp hi)
    refine⟨_,qak p _ λi hi=>by rw[len];exact hb i hi,?_⟩;have d:=qal n _ λi hi=>by rw[E];exact hb i hi
    have M:(sortT ks).map tupI=(evT (ltK ks) (kas_sort ks.length)).toList.map λi=>l.getD i .non:=by
     rw[<-jI nd 00,wJ];refine wo λi hi=>?_
     have:=hb i hi;rw[u];simp[this]
    rw[M];exact d
  obtain⟨f,N,d'⟩:=fin;have fr:H D=none:=I.hok.fresh sz;have O:f.length<=sizeLine:=by
   rw[<-d'.length,wF,(qG ks).length_eq,vV];lia
  exact⟨.ref D,upd H D (.l f),I.laid (o:=.l f) (t':=tk) kp sz ⟨O,outOf (ltK ks) vs,c,N,F⟩,rfl,zb st d' q D fr⟩
theorem qcg{a:Addr}{xs:List V}(I:Inv X pins σ H s)(h:Rd H a (.l xs)):∃vs:List Value,Vals xs vs/\s.heap.IsList a vs.toArray/\(∀(A:Around) (c:06) (Q':List Value->Shared->Prop),(∀(h':Heap) (tk:Nat),s.heap.objs.size<=h'.objs.size->(∀b o,s.heap.get? b=some o->h'.get? b=some o)->Q' vs {s with heap:=h',toks:=tk})->wpAny 03 A (collect (.ref a)) Q' c s):=by
 obtain⟨vs,r,p,d⟩:=jt I h;refine⟨vs,r,p,λA c Q' f=>collect_list p (f _ s.toks ?_ λb o e=>?_) (by rw[<-r.length];exact d)⟩
 .rw [Heap.size_update,size_push'];lia
 .exact (wy _ _ (vl (wP e))).trans (wC _ e)
theorem qe5{m:Bool}{a:Addr}{ns:List Int}{xs:List V}{Q:VK}(I:Inv X pins σ H s)(st:Sto ι H S)(h:Rd H a (.l xs))(u:Dens ι H (ns.map .int) xs)(v:ns.length<64)(q:Pst Den (newL m ((sortI ns).map .int) S) ι H Q):
  wpAny 03 X.A (call (.builtin "sorted") [.ref a]) (EP X pins σ Q) X.xe s:=by
 obtain⟨vs,r,p,K⟩:=jt I h;cases dens_ints u;have l:IntsAre vs ns:=q8 r;have L:=l.length;refine sorted_ints p l 00 λout d i1 i2 y=>?_
 have B:d=sortI ns:=PySem.W.lks_uniq (i2.trans (zd ns).symm) y (qai ns);have up:∀b o,s.heap.get? b=some o->(sortedAll s.heap vs out).get? b=some o:=λb o e=>by
  have hb:b<s.heap.objs.size:=wP e;unfold sortedAll sortedHeap;refine(wy _ _ (vl (uR hb))).trans (wC _ (wC _ ((wy _ _ (vl (uR hb))).trans (wC _ ?_))));exact(wy _ _ (vl hb)).trans (wC _ e)
 have C:(((s.heap.push (seqObj "list" #[] 0)).update s.heap.objs.size (Obj.mapSeq (·++vs.toArray))).push (seqObj "list" vs.toArray 0)).get? (s.heap.objs.size+1)=some (seqObj "list" vs.toArray 0):=by
  have:((s.heap.push (seqObj "list" #[] 0)).update s.heap.objs.size (Obj.mapSeq (·++vs.toArray))).objs.size=s.heap.objs.size+1:=by rw[Heap.size_update,size_push']
  rw[<-this];exact wM _ rfl
 obtain⟨c,at'⟩:∃c,(sortedAll s.heap vs out).get? (s.heap.objs.size+1)=some (seqObj "list" out c):=by
  unfold sortedAll sortedHeap;have e1:=x3 C λ_=>(#[]:Array Value)
  have E:=wC (seqObj "list" #[] 0) (wC (seqObj "tuple" vs.toArray 0) e1);exact⟨_,x3 E λ_=>out⟩
 have sz:s.heap.objs.size<=s.heap.objs.size+1:=Nat.le_succ _;have fr:H (s.heap.objs.size+1)=none:=I.hok.fresh sz;have F:Vals (d.map V.int) out.toList:=by
  have:∀{us:List Value} {f:List Int},IntsAre us f->Vals (f.map V.int) us:=λ{us f} h=>by
   induction h with
   |nil=>exact .nil
   |cons n t _ i=>exact .cons ⟨t,rfl⟩ i
  exact this i1
 have J:Dens ι H ((sortI ns).map .int) (d.map V.int):=by
  rw[B];have:∀f:List Int,Dens ι H (f.map .int) (f.map V.int):=λf=>by
   induction f with
   |nil=>rfl
   |cons x r i=>exact⟨_,_,rfl,rfl,i⟩
  exact this _
 have j:(d.map V.int).length<=sizeLine:=by rw[wF,i2.length_eq,vV];lia
 refine⟨.ref _,upd H (s.heap.objs.size+1) (.l (d.map V.int)),I.laid (o:=.l (d.map V.int)) (t':=s.toks) up sz ⟨j,out.toList,c,F,by rw[at']⟩,rfl,zb st J q _ fr⟩
theorem qgs(m:Bool)(C:X.calm=true):CallR X (.builtin "sorted") (Gn (one (bSorted m))):=by
 intro pins s σ H xs us Q I r h;obtain⟨ι,S,ds,st,hd,p⟩:=h;obtain⟨d,rfl,p⟩:=qbh p
 .skip
  obtain⟨x,rfl,W⟩:=dens1 hd;obtain⟨u,rfl,Y⟩:=vals1 r;simp only[one,bSorted]at p;have f:∀{l:List D},lstOf S d=some l->walkD S d=some l->wpAny 03 X.A (call (.builtin "sorted") [u]) (EP X pins σ Q) X.xe s:=λ{l} hl hw=>by
   obtain⟨a,xs,rfl,ha,E⟩:=qP st hl W;cases Y;rw[hw,wY]at p;unfold sortL at p;by_cases c:l.length<64
   .rw [wR c]at p
    cases z:intsOf l with
    |some ns =>
     rw[z]at p;have:=intsOf_eq z;subst this;exact qe5 I st ha E (by simpa using c) p
    |none =>
     rw[z]at p;cases z2:tupsOf l with
     |none=>simp only[z2,xS]at p;exact p.elim
     |some ks =>
      simp only[z2,wY]at p;by_cases i:ks.Nodup/\∀t∈ks,t≠[]
      .rw [wR i]at p
       obtain⟨vs,M,_,n⟩:=qcg I ha;exact zQ I st C E M z2 c i.1 i.2 (n _) p
      .rw [wT i]at p;exact p.elim
   .rw [wT c]at p;exact p.elim
  cases d with
  |l l=>exact f rfl rfl
  |ref k =>
   cases z:S[k]? with
   |none=>simp only[walkD,z,xS]at p;exact p.elim
   |some so =>
    cases so with
    |l l=>exact f (by unfold lstOf;dsimp only;rw[z]) (by unfold walkD;dsimp only;rw[z])
    |dis l=>simp only[walkD,z,xS]at p;exact p.elim
    |dic l =>
     obtain⟨a,rfl,ha⟩:=W;cases Y;obtain⟨_,kvs,e1,dk⟩:=st.obj k a _ ha z;obtain⟨hz,lo,ys,J,o,es,ep,Z,ex,ed,eL,a0⟩:=I.hok a _ e1;simp only[walkD,z,wY]at p;have K:∀{l:List (List Int×D)} {kvs:List (List Key×V)} {ys:List (List Key×Addr×Value)},DGs keyT ι H l kvs->Paired (λ(p:List Key×V) (q:List Key×Addr×Value)=>p.1=q.1/\H q.2.1=some (.t (p.1.map kV))/\RelV p.2 q.2.2) kvs ys ->
       Dens ι H (l.map λp=>tupI p.1) (ys.map λq=>V.ref q.2.1):=λ{l}=>by
      induction l with
      |nil=>intro kvs ys N O;cases (show kvs=[]from N);cases O;rfl
      |cons q l L =>
       intro kvs ys N O;obtain⟨v,r',rfl,_,a1⟩:=N;cases O with
       |cons y t =>
        rename_i q2 a2;obtain⟨ya,P,yc⟩:=y;refine⟨_,_,rfl,⟨q2.2.1,_,rfl,λhm=>?_,P,?_⟩,L a1 t⟩
        .obtain ⟨j,hj,ej⟩:=vS hm
         have hs:j<S.length:=by rw[<-st.len];exact hj
         have F:=st.obj j _ S[j] (by rw[wD hj,ej]) (wD hs);cases e:S[j]with
         |l _=>rw[e]at F;obtain⟨_,_,B,_⟩:=F;rw[P]at B;cases B
         |dic _=>rw[e]at F;obtain⟨_,_,B,_⟩:=F;rw[P]at B;cases B
         |dis _=>rw[e]at F;obtain⟨_,_,B,_⟩:=F;rw[P]at B;cases B
        .show Dens ι H (q.1.map .int) ((keyT q.1).map kV)
         unfold keyT;rw[wJ];have:∀U:List Int,Dens ι H (U.map .int) (U.map (kV∘Sum.inl)):=λU=>by
          induction U with
          |nil=>rfl
          |cons x r L=>exact⟨_,_,rfl,rfl,L⟩
         exact this _
     have E:=K dk J;have M:Vals (ys.map λq=>V.ref q.2.1) (ys.map λq=>Value.ref q.2.1):=by
      clear J eL E a0;induction ys with
      |nil=>exact .nil
      |cons q r L=>exact .cons rfl L
     have ev:es.toList.map (·.key)=ys.map λq=>Value.ref q.2.1:=by rw[eL,wJ];rfl
     have hsz:es.size<=sizeLine:=by
      have N:es.toList.length=ys.length:=by rw[eL];simp
      have O:kvs.length=ys.length:=Paired.length J;have:es.size=es.toList.length:=by simp
      lia
     have n:∀(E':06) (Q':List Value->Shared->Prop),(∀(h':Heap) (tk:Nat),s.heap.objs.size<=h'.objs.size->(∀b o,s.heap.get? b=some o->h'.get? b=some o)->Q' (ys.map λq=>Value.ref q.2.1) {s with heap:=h',toks:=tk})->wpAny 03 X.A.in1 (collect (.ref a)) Q' E' s:=λE' Q' hq =>
      qaU (A:=X.A.in1) (I.ok.hd C) lo ⟨o,Z,ex,ed⟩ hsz (by rw[ev];exact hq)
     unfold sortL at p;by_cases c:(l.map λp=>tupI p.1).length<64
     .rw [wR c]at p
      cases z1:intsOf (l.map λp=>tupI p.1)with
      |some ns =>
       rw[z1]at p;cases l with
       |nil =>
        cases z1;exact zQ (ks:=[]) I st C E M rfl (by simp) (by simp) (by simp) n p
       |cons q l=>cases z1
      |none =>
       rw[z1]at p;cases z2:tupsOf (l.map λp=>tupI p.1)with
       |none=>simp only[z2,xS]at p;exact p.elim
       |some ks =>
        simp only[z2,wY]at p;by_cases i:ks.Nodup/\∀t∈ks,t≠[]
        .rw [wR i]at p
         exact zQ I st C E M z2 c i.1 i.2 n p
        .rw [wT i]at p;exact p.elim
     .rw [wT c]at p;exact p.elim
  |emp =>
   obtain⟨a,rfl,_,ha⟩:=W;cases Y;obtain⟨hz,lo,ys,J,o,es,ep,Z,ex,ed,eK,eP,_⟩:=I.hok a _ ha;cases J;have e0:es.toList.map (·.key)=[]:=by
    cases eP' :es.toList with
    |nil=>rfl
    |cons q r=>rw[eP']at eP;cases eP
   have hsz:es.size<=sizeLine:=by
    have:es.toList=[]:=by simpa using e0
    have:es.size=es.toList.length:=by simp
    simp_all
   simp only[walkD,wY]at p;refine zQ (l:=[]) (ks:=[]) (xs:=[]) (vs:=[]) I st C rfl .nil rfl (by simp) (by simp) (by simp) (λE' Q' hq=>qaU (A:=X.A.in1) (I.ok.hd C) lo ⟨o,Z,ex,ed⟩ hsz (by rw[e0];exact hq)) p
  |_=>exact p.elim
end
end R
namespace R
open PySem PySem.Spec L2 SeqAt
open PyProof.Rows hiding St
noncomputable def CEs.len:CEs->Nat
 | .nil=>0
 | .cons _ r=>r.len+1
def jS{F:Fs}:∀{es:CEs} {ρ:En} {S:Sr} {l:List D} {a:Sr},evs F es ρ S=.ok l a->l.length=es.len
 | .nil,_,_,_,_,h=>by cases h;rfl
 | .cons e r,ρ,S,l,a,h=>by
  unfold evs at h;cases z:ev F e ρ S with
  |no=>rw[z]at h;cases h
  |err=>rw[z]at h;cases h
  |ok x S1 =>
   rw[z,Res.bind_ok]at h;cases z2:evs F r ρ S1 with
   |no=>rw[z2]at h;cases h
   |err=>rw[z2]at h;cases h
   |ok b S2 =>
    rw[z2,Res.bind_ok]at h;cases h;show b.length+1=r.len+1;rw[jS z2]
noncomputable def CTs.len:CTs->Nat
 | .nil=>0
 | .cons _ r=>r.len+1
def qch{F:Fs}:∀{ts:CTs} {l:List D} {ρ:En} {S:Sr} {a:En} {b:Sr},asgs F ts l ρ S=.ok a b->l.length=ts.len
 | .nil,[],_,_,_,_,_=>rfl
 | .nil,_::_,_,_,_,_,h=>by unfold asgs at h;cases h
 | .cons t r,[],_,_,_,_,h=>by unfold asgs at h;cases h
 | .cons t r,d::l,ρ,S,a,b,h=>by
  unfold asgs at h;dsimp only at h;cases z:asg F t d ρ S with
  |no=>rw[z]at h;cases h
  |err=>rw[z]at h;cases h
  |ok ρ1 S1 =>
   rw[z,Res.bind_ok]at h;show l.length+1=r.len+1;rw[qch h]
noncomputable def FnAt(P:Program)(w:World)(K:PySem.W.Frag)(mg:Str->Option Value)(base:Heap)(k:Nat)(F:Fs)(i:Nat)(x:Str)(ps:List Str):Prop :=
 ∃f fd,mg x=some (.ref f)/\PySem.W.keepIn K (.ref f)=true/\Binds K fd ps []/\FnOk P w K mg base CX0 k f fd ps (SpD ps.length (F i))
structure Gb (mg:Str->Option Value):Prop where
 len:mg "len"=none
 range:mg "range"=none
 list:mg "list"=none
 tuple:mg "tuple"=none
 sorted:mg "sorted"=none
 sum:mg "sum"=none
 all:mg "all"=none
 any:mg "any"=none
 zip:mg "zip"=none
 min:mg "min"=none
 max:mg "max"=none
 abs:mg "abs"=none
 divmod:mg "divmod"=none
 isinstance:mg "isinstance"=none
 int:mg "int"=none
 bool:mg "bool"=none
 str:mg "str"=none
 dict:mg "dict"=none
 set:mg "set"=none
def Gb.ty{mg:Str->Option Value}(g:Gb mg):∀t:Ty,mg (Str.ofString t.nm)=none
 | .int=>g.int|.bool=>g.bool|.tuple=>g.tuple|.list=>g.list|.str=>g.str|.dict=>g.dict
noncomputable def nodupB:List Str->Bool
 |[]=>true
 |x::r=>!(r.any λy=>y == x)&&nodupB r
def zo:∀{l:List Str},nodupB l=true->l.Nodup
 |[],_=>.nil
 |x::r,h=>by
  unfold nodupB at h;simp only[wZ,vd,List.any_eq_false,uI]at h;exact wh.mpr ⟨λhm=>h.1 x hm rfl,zo h.2⟩
@[irreducible] noncomputable def QE(X:Cx)(e:Expr)(t:TE):Prop:=PE X e t
@[irreducible] noncomputable def QT(X:Cx)(e:Expr)(t:TT):Prop:=PT X e t
@[irreducible] noncomputable def QW(X:Cx)(e:Expr)(t:TT):Prop:=PW X e t
@[irreducible] noncomputable def QA(X:Cx)(e:List Expr)(t:TA):Prop:=PA X e t
@[irreducible] noncomputable def QS(X:Cx)(e:Stmt)(t:TS):Prop:=PS X e t
@[irreducible] noncomputable def QSs(X:Cx)(e:List Stmt)(t:TS):Prop:=PSs X e t
@[irreducible] noncomputable def QG(X:Cx)(e:Expr)(t:L2.TG):Prop:=PG X e t
@[irreducible] noncomputable def QGs(X:Cx)(e:List Expr)(t:L2.TGs):Prop:=PGs X e t
@[irreducible] noncomputable def QI(X:Cx)(tg e:Expr)(t:TI):Prop:=PI X tg e t
@[irreducible] noncomputable def QO(X:Cx)(e:Option Expr)(t:TO):Prop:=PO X e t
@[irreducible] noncomputable def QTl(X:Cx)(e:List Expr)(t:TT):Prop:=PTl X e t
def Qpt{X:Cx}{e:Expr}{t:TT}(h:QW X e t):QT X e t:=by delta QW at h;delta QT;exact h.pt
def QSs.un{X:Cx}{e:List Stmt}{t:TS}(h:QSs X e t):PSs X e t:=by delta QSs at h;exact h
section
variable{X:Cx}{F:Fs}{pos:Pos}
theorem qc(i:Nat){x:Str}(b:X.N[i]?=some x:=by rfl)(c:Vis X.env.scope x:=by first|exact Or.inl rfl|exact Or.inr (Or.inl rfl)|exact Or.inr (Or.inr rfl))(hd:dB x:=by decide)(a:(x == ("__classdict__":Str))=false:=by decide):QE X (.Name x pos) (T (ev F (.v i))):=by
 delta QE;exact(qlI (qjy b c hd a))
theorem qg{n:Int}{j}:QE X (.Constant (.int n) j pos) (T (ev F (.k (.int n)))):=by
 delta QE;exact(qfM qjz λ_ _=>rfl)
theorem qY{b:Bool}{j}:QE X (.Constant (.bool b) j pos) (T (ev F (.k (.bl b)))):=by
 delta QE;exact(qfM qlq λ_ _=>rfl)
theorem qam{x:Str}{n:Int}{t:Tok}(hm:X.mg x=some (.int n t))(a:Gl X x:=by rfl)(hd:dB x:=by decide):QE X (.Name x pos) (T (ev F (.k (.int n)))):=by
 delta QE;exact(qj1 (qhz (v:=.int n) a hm ⟨t,rfl⟩ hd) λ_ _=>rfl)
theorem qw(o:BOp){a b:Expr}{c d:CE}(ha:QE X a (T (ev F c)))(hb:QE X b (T (ev F d))):QE X (.BinOp a (opOf o) b pos) (T (ev F (.bin o c d))):=by
 delta QE;delta QE at ha;delta QE at hb;exact(qi9 (qhS o) ha hb)
theorem qc7(o:BOp){a b:Expr}{c d:CE}(ha:QE X a (T (ev F c)))(hb:QE X b (T (ev F d))):QE X (.BinOp a (opOf o) b pos) (T (ev F (.binM o c d))):=by
 delta QE;delta QE at ha;delta QE at hb;exact(qi9 (qhT o) ha hb)
theorem qjg{a:Expr}{b:CE}(ha:QE X a (T (ev F b))):QE X (.UnaryOp .USub a pos) (T (ev F (.neg b))):=by
 delta QE;delta QE at ha;exact(qlO ha)
theorem jJ(o:COp){k:Nat}{a b:Expr}{c d:CE}(f:Room k X.A)(ha:QE X a (T (ev F c)))(hb:QE X b (T (ev F d)))(hm:behindInMarks (cOf o) b=false:=by rfl):QE X (.Compare a [cOf o] [b] pos) (T (ev F (.cmp o c d))):=by
 delta QE;delta QE at ha;delta QE at hb;exact(qlK (yG o (by have:=f.un;lia)) ha hb hm)
theorem qil(o o':COp){k:Nat}{a b c:Expr}{d f h:CE}(i:Room k X.A)(ha:QE X a (T (ev F d)))(hb:QE X b (T (ev F f)))(j:QE X c (T (ev F h)))(hm:lastMarks [cOf o,cOf o'] [b,c]=false:=by rfl):
  QE X (.Compare a [cOf o,cOf o'] [b,c] pos) (T (ev F (.chain o o' d f h))):=by
 delta QE;delta QE at ha;delta QE at hb;delta QE at j;exact(qhY (yG o (by have:=i.un;lia)) (yG o' (by have:=i.un;lia)) ha hb j hm)
theorem yv{a:Expr}{t:TE}(ha:QE X a t):QE X (.BoolOp .And [a] pos) t:=by
 delta QE;delta QE at ha;exact(qjC ha)
theorem jK{a b:Expr}{rest:List Expr}{c d:CE}(ha:QE X a (T (ev F c)))(hb:QE X (.BoolOp .And (b::rest) pos) (T (ev F d))):QE X (.BoolOp .And (a::b::rest) pos) (T (ev F (.and c d))):=by
 delta QE;delta QE at ha;delta QE at hb;exact(qlM ha hb)
theorem qjh{a:Expr}{b:CE}(ha:QE X a (T (ev F b))):QE X (.UnaryOp .Not a pos) (T (ev F (.not b))):=by
 delta QE;delta QE at ha;exact(qlN ha)
theorem qe :QA X [] (TL (evs F .nil)):=by
 delta QA;exact(qlJ)
theorem qb{e:Expr}{es:List Expr}{c:CE}{cs:CEs}(a:QE X e (T (ev F c)))(b:QA X es (TL (evs F cs)))(d:sE X e es:=by rfl):QA X (e::es) (TL (evs F (.cons c cs))):=by
 delta QA;delta QE at a;delta QA at b;exact(qj2 a b d)
theorem qV{es:List Expr}{k:Nat}{cs:CEs}(h:QA X es (TL (evs F cs))):QE X (.Tuple es k pos) (T (ev F (.t cs))):=by
 delta QE;delta QA at h;exact(qlP h)
theorem yw(m:Bool){es:List Expr}{cs:CEs}(h:QA X es (TL (evs F cs))):QE X (.List es pos) (T (ev F (.l m cs))):=by
 delta QE;delta QA at h;exact(qlQ h)
theorem qme(m:Bool):QE X (.Dict [] [] pos) (T (ev F (.dic m))):=by
 delta QE;exact(qlR)
theorem qh{k i:Nat}{x:Str}{ps:List Str}{e:Expr}{es:List Expr}{cs:CEs}{p:Pos}(h:FnAt X.prog X.w X.K X.mg X.base k F i x ps)(c:Room k X.A)(ha:QA X (e::es) (TL (evs F cs)))(d:Gl X x:=by rfl)(j:cs.len=ps.length:=by rfl)(a:dB x:=by decide)(m:sE X e es:=by rfl)(b:bT X es pos:=by rfl):QE X (.Call (.Name x p) (e::es) [] pos) (T (ev F (.call i cs))):=by
 delta QE;delta QA at ha;obtain⟨f,fd,hm,n,hb,o⟩:=h;exact qj8 o c d hm n hb pass0 ha (λρ S l q z=>(jS z).trans j) a m b
theorem jL(b:Blt){x:Str}{id:String}{e:Expr}{es:List Expr}{cs:CEs}{p:Pos}(d:CallR X (.builtin id) (Gn (bltD b)))(hm:X.mg x=none)(f:bootBuiltins x=some (.builtin id))(ha:PA X (e::es) (TL (evs F cs)))(h:Gl X x:=by rfl)(hn:x≠"__name__":=by decide)(a:dB x:=by decide)(i:sE X e es:=by rfl)(c:bT X es pos:=by rfl):PE X (.Call (.Name x p) (e::es) [] pos) (T (ev F (.blt b cs))):=qh2 d h hm f ha hn a i c
theorem qji(b:Blt){x:Str}{ty:String}{e:Expr}{es:List Expr}{cs:CEs}{p:Pos}(d:CallR X (.type ty) (Gn (bltD b)))(hm:X.mg x=none)(f:bootBuiltins x=some (.type ty))(ha:PA X (e::es) (TL (evs F cs)))(h:Gl X x:=by rfl)(hn:x≠"__name__":=by decide)(a:dB x:=by decide)(i:sE X e es:=by rfl)(c:bT X es pos:=by rfl):PE X (.Call (.Name x p) (e::es) [] pos) (T (ev F (.blt b cs))):=qfW d h hm f ha hn a i c
theorem yQ(t:Ty){a:Expr}{f:CE}{p b:Pos}(gb:Gb X.mg)(ha:QE X a (T (ev F f)))(h:Gl X "isinstance":=by rfl)(hgt:Gl X (Str.ofString t.nm):=by rfl)(i:starEach [a,.Name (Str.ofString t.nm) b] X.env=(false,eval a X.env)::starEach [.Name (Str.ofString t.nm) b] X.env:=by rfl)(c:starEach [.Name (Str.ofString t.nm) b] X.env=(false,eval (.Name (Str.ofString t.nm) b) X.env)::starEach [] X.env:=by rfl)(d:(backTo pos (starEach [.Name (Str.ofString t.nm) b] X.env)).any (·.1)=false:=by rfl):
  QE X (.Call (.Name "isinstance" p) [a,.Name (Str.ofString t.nm) b] [] pos) (T (ev F (.isi t f))):=by
 delta QE;delta QE at ha;exact(qlT h gb.isinstance hgt (gb.ty t) ha i c d)
theorem qjj{o e:Expr}{co i:CE}{b:Pos}(j:QE X o (T (ev F co)))(l:QE X e (T (ev F i)))(h:starEach [e] X.env=(false,eval e X.env)::starEach [] X.env:=by rfl)(c:attributeBase o "pop" X.env (eval o X.env)=eval o X.env:=by rfl)(d:(b.endLine == pos.line)=true:=by rfl)(f:((backTo pos (starEach [e] X.env)).all (λx=>!x.1)&&(backToKw pos (keywordEach [] X.env)).all (λx=>x.1.isSome)&&decide ([e].length+([]:List Keyword).length+(if([]:List Keyword).isEmpty then 0 else 1)<30))=true:=by rfl)(a:(backTo pos (starEach [] X.env)).any (·.1)=false:=by rfl):QE X (.Call (.Attribute o "pop" b) [e] [] pos) (T (ev F (.popAt co i))):=by
 delta QE;delta QE at j;delta QE at l;exact(qf0 PySem.F.slot_list_pop PySem.F.type_list_pop qfC (λι S x y v u H Q st m n p=>ql0 st m n p) j l h c d f a)
theorem qd0{o e:Expr}{co i:CE}{b:Pos}(j:QE X o (T (ev F co)))(l:QE X e (T (ev F i)))(h:starEach [e] X.env=(false,eval e X.env)::starEach [] X.env:=by rfl)(c:attributeBase o "append" X.env (eval o X.env)=eval o X.env:=by rfl)(d:(b.endLine == pos.line)=true:=by rfl)(f:((backTo pos (starEach [e] X.env)).all (λx=>!x.1)&&(backToKw pos (keywordEach [] X.env)).all (λx=>x.1.isSome)&&decide ([e].length+([]:List Keyword).length+(if([]:List Keyword).isEmpty then 0 else 1)<30))=true:=by rfl)(a:(backTo pos (starEach [] X.env)).any (·.1)=false:=by rfl):QE X (.Call (.Attribute o "append" b) [e] [] pos) (T (ev F (.app co i))):=by
 delta QE;delta QE at j;delta QE at l;exact(qf0 PySem.F.slot_list_append PySem.F.type_list_append jr (λι S x y v u H Q st m n p=>qjb st m n p) j l h c d f a)
theorem qp{k:Nat}{a b:Expr}{c d:CE}(f:Room k X.A)(ha:QE X a (T (ev F c)))(hb:QE X b (T (ev F d)))(h:PlainIx b:=by exact λ_ _=>rfl):QE X (.Subscript a b pos) (T (ev F (.idx c d))):=by
 delta QE;delta QE at ha;delta QE at hb;exact(qlS (qi6 f) ha hb h)
theorem k_on :QO X none (TOp (evO F .none)):=by
 delta QO;exact(qfV)
theorem k_os{e:Expr}{c:CE}(h:QE X e (T (ev F c))):QO X (some e) (TOp (evO F (.some c))):=by
 delta QO;delta QE at h;exact(qfU h)
theorem qgt{e:Expr}{lo hi:Option Expr}{f:Pos}{c:CE}{cl ch:CO}(a:QE X e (T (ev F c)))(b:QO X lo (TOp (evO F cl)))(d:QO X hi (TOp (evO F ch))):QE X (.Subscript e (.Slice lo hi none f) pos) (T (ev F (.slc c cl ch))):=by
 delta QE;delta QE at a;delta QO at b;delta QO at d;exact(qlU a b d)
theorem qgu(m:Bool){a:Expr}{es:List Expr}{cs:CEs}{f h b:Pos}(gb:Gb X.mg)(ha:QA X (a::es) (TL (evs F cs)))(i:X.calm=true:=by rfl)(j:Gl X "range":=by rfl)(c:Gl X "list":=by rfl)(l:sE X a es:=by rfl)(d:(backTo b (starEach es X.env)).any (·.1)=false:=by rfl):QE X (.Call (.Name "list" f) [.Call (.Name "range" h) (a::es) [] b] [] pos) (T (ev F (.rng (some m) cs))):=by
 delta QE;delta QA at ha;exact(qmb (k:=some m) (.inl ⟨rfl,rfl,m,rfl⟩) i j gb.range c gb.list ha l d)
theorem zC{e:Expr}{c:CE}(h:QE X e (T (ev F c)))(b:∀a,isTrue e X.env a=(do let v <-a;standAt e.pos;holding [v] (truthy v)):=by intro _;rfl):QT X e (TB (tst F (.val c))):=by
 delta QT;delta QE at h;exact(qj4 h b)
theorem zf(o:COp){k:Nat}{a b:Expr}{c d:CE}(f:Room k X.A)(ha:QE X a (T (ev F c)))(hb:QE X b (T (ev F d)))(hm:behindInMarks (cOf o) b=false:=by rfl):QT X (.Compare a [cOf o] [b] pos) (TB (tst F (.val (.cmp o c d)))):=by
 delta QT;delta QE at ha;delta QE at hb;exact(qj5 (yG o (by have:=f.un;lia)) ha hb hm)
theorem qim(o o':COp){k:Nat}{a b c:Expr}{d f h:CE}(i:Room k X.A)(ha:QE X a (T (ev F d)))(hb:QE X b (T (ev F f)))(j:QE X c (T (ev F h)))(hm:lastMarks [cOf o,cOf o'] [b,c]=false:=by rfl):
  QT X (.Compare a [cOf o,cOf o'] [b,c] pos) (TB (tst F (.val (.chain o o' d f h)))):=by
 delta QT;delta QE at ha;delta QE at hb;delta QE at j;exact(qfR (yG o (by have:=i.un;lia)) (yG o' (by have:=i.un;lia)) ha hb j hm)
theorem zD{a:Expr}{b:CB}(ha:QT X a (TB (tst F b))):QT X (.UnaryOp .Not a pos) (TB (tst F (.not b))):=by
 delta QT;delta QT at ha;exact(qj6 ha)
theorem yj{a:Expr}{t:TT}(ha:QT X a t):QW X (.BoolOp .Or [a] pos) t:=by
 delta QW;delta QT at ha;exact(qjA ha)
theorem w_or{a b:Expr}{rest:List Expr}{c d:CB}(ha:QT X a (TB (tst F c)))(hb:QW X (.BoolOp .Or (b::rest) pos) (TB (tst F d))):QW X (.BoolOp .Or (a::b::rest) pos) (TB (tst F (.or c d))):=by
 delta QW;delta QT at ha;delta QW at hb;exact(qlL ha hb)
theorem qJ :QTl X [] (TB (tsts F .nil)):=by
 delta QTl;exact(qke)
theorem qkl{c:Expr}{ifs:List Expr}{a:CB}{cs:CBs}(b:QT X c (TB (tst F a)))(d:QTl X ifs (TB (tsts F cs))):QTl X (c::ifs) (TB (tsts F (.cons a cs))):=by
 delta QTl;delta QT at b;delta QTl at d;exact(qh8 b d)
theorem ze{tg e:Expr}{c:CE}(h:QE X e (T (ev F c))):QI X tg e (TIt (evI F (.seq c))):=by
 delta QI;delta QE at h;exact(ql7 h)
theorem qan{tg a:Expr}{es:List Expr}{cs:CEs}{p:Pos}(gb:Gb X.mg)(ha:QA X (a::es) (TL (evs F cs)))(c:Gl X "range":=by rfl)(d:sE X a es:=by rfl)(b:bT X es pos:=by rfl):
  QI X tg (.Call (.Name "range" p) (a::es) [] pos) (TIt (evI F (.rng cs))):=by
 delta QI;delta QA at ha;exact(i_rng c gb.range ha d b)
theorem yR{es:List Expr}{n:Nat}{f:Pos}{e1 a:Expr}{c1 c2:CE}{p:Pos}(gb:Gb X.mg)(c:QE X e1 (T (ev F c1)))(d:QE X a (T (ev F c2)))(h:Gl X "zip":=by rfl)(i:starEach [e1,a] X.env=(false,eval e1 X.env)::starEach [a] X.env:=by rfl)(b:starEach [a] X.env=(false,eval a X.env)::starEach [] X.env:=by rfl):QI X (.Tuple es n f) (.Call (.Name "zip" p) [e1,a] [] pos) (TIt (evI F (.zip c1 c2))):=by
 delta QI;delta QE at c;delta QE at d;exact(qmd h gb.zip c d i b)
theorem qk(i:Nat){x:Str}(a:nodupB X.N=true:=by rfl)(hi:X.N[i]?=some x:=by rfl)(b:Loc X.env.scope x:=by first|exact Or.inl rfl|exact Or.inr rfl)(c:X.fn x=true\/X.env.scope.names.lookup x=some .local:=by first|exact .inl rfl|exact .inr rfl):QG X (.Name x pos) (TGt (asg F (.v i))):=by
 delta QG;exact(ql1 (qdz (zo a) hi b c))
theorem qS :QGs X [] (TGts (asgs F .nil)):=by
 delta QGs;exact(ql2)
theorem ql{e:Expr}{es:List Expr}{c:CT}{cs:CTs}(a:QG X e (TGt (asg F c)))(b:QGs X es (TGts (asgs F cs)))(d:(assignEach (e::es) X.env).map (·.2)=assign e X.env::(assignEach es X.env).map (·.2):=by rfl):QGs X (e::es) (TGts (asgs F (.cons c cs))):=by
 delta QGs;delta QG at a;delta QGs at b;exact(qkb a b d)
theorem qT{es:List Expr}{k:Nat}{cs:CTs}(h:QGs X es (TGts (asgs F cs)))(b:X.calm=true:=by rfl)(hn:(assignEach es X.env).length=cs.len:=by rfl)(a:(assignEach es X.env).findIdx? (·.1)=none:=by rfl):QG X (.Tuple es k pos) (TGt (asg F (.t cs))):=by
 delta QG;delta QGs at h;exact(ql3 b h hn a λl ρ S c d z=>qch z)
theorem qaV{k:Nat}{o i:Expr}{co c:CE}(f:Room k X.A)(d:QE X o (T (ev F co)))(hi:QE X i (T (ev F c)))(ha:∀v,assign (.Subscript o i pos) X.env v=(do
   let a <-holding [v] (eval o X.env)
   let b <-holding [v,a] (eval i X.env)
   standAt pos
   holding [v,a,b] (setItem a b v)
   release [v,a,b] []):=by intro _;rfl):QG X (.Subscript o i pos) (TGt (asg F (.sub co c))):=by
 delta QG;delta QE at d;delta QE at hi;exact(ql4 (qi6 f) d hi ha)
end
section
variable{X:Cx}{F:Fs}{N:Nat}{pos:Pos}
theorem qi :QSs X [] (TSm (exs F N .nil)):=by
 delta QSs;exact(ql5)
theorem qd{st:Stmt}{rest:List Stmt}{c:CS}{cs:CSs}(a:QS X st (TSm (ex F N c)))(b:QSs X rest (TSm (exs F N cs))):QSs X (st::rest) (TSm (exs F N (.cons c cs))):=by
 delta QSs;delta QS at a;delta QSs at b;exact(qkc a b)
theorem jy{e:Expr}{c:CE}(a:QE X e (T (ev F c)))(b:swapsWith e none pos.line X.env=pure false:=by rfl):QS X (.Expr e pos) (TSm (ex F N (.expr c))):=by
 delta QS;delta QE at a;exact(qkd a b)
theorem qu{e:Expr}{c:CE}(a:QE X e (T (ev F c))):QS X (.Return (some e) pos) (TSm (ex F N (.ret c))):=by
 delta QS;delta QE at a;exact(ql6 a)
theorem qd1{st:Stmt}:QS X st (TSm (ex F N .never)):=by
 delta QS;exact(qh5)
theorem z_if{c:Expr}{a b:List Stmt}{d:CB}{f h:CSs}(i:QT X c (TB (tst F d)))(ha:QSs X a (TSm (exs F N f)))(hb:QSs X b (TSm (exs F N h))):QS X (.If c a b pos) (TSm (ex F N (.ifs d f h))):=by
 delta QS;delta QT at i;delta QSs at ha;delta QSs at hb;exact(s_if i ha hb)
theorem zX{tg e:Expr}{c:CE}{t:CT}(a:QE X e (T (ev F c)))(b:QG X tg (TGt (asg F t)))(d:swapsWithSole [tg] e pos.line X.env=pure false:=by rfl)(f:swappedStores [tg] e X.env=pure none:=by rfl)(h:(assignEach [tg] X.env).map (·.2)=[assign tg X.env]:=by rfl):
  QS X (.Assign [tg] e pos) (TSm (ex F N (.set t c))):=by
 delta QS;delta QE at a;delta QG at b;exact(qjc (qjI a b d f h))
theorem qH(i:Nat){x:Str}{e:Expr}{c:CE}{a:Pos}(n:QE X e (T (ev F c)))(q:nodupB X.N=true:=by rfl)(hi:X.N[i]?=some x:=by rfl)(r:Loc X.env.scope x:=by first|exact Or.inl rfl|exact Or.inr rfl)(s:swapsWith e (some (.Name x a)) pos.line X.env=pure false:=by rfl)(u:X.fn x=true\/X.env.scope.names.lookup x=some .local:=by first|exact .inl rfl|exact .inr rfl):QS X (.Assign [.Name x a] e pos) (TSm (ex F N (.set (.v i) c))):=by
 delta QS;delta QE at n;refine qjc (g:=λd ρ S=>.ok (ρ.set i (some d)) S) (PSimp (qjJ (zo q) hi r n s u) λD E H w=>?_);obtain⟨ι,S,ρ,y,st,p⟩:=w;refine⟨ι,S,ρ,y,st,?_⟩;cases z:ev F c ρ S with
 |no=>rw[z]at p;exact p
 |err=>rw[z]at p;exact p
 |ok d S1 =>
  rw[z]at p;intro v b o s1 f A;obtain⟨h,S2,B,d2,j,l,m,C⟩:=p v b o s1 f A;exact C _ h o (Stp.refl _ _) l (j.set m)
theorem yx{tg iter:Expr}{body:List Stmt}{it:CI}{t:CT}{a:CSs}(hi:QI X tg iter (TIt (evI F it)))(b:QG X tg (TGt (asg F t)))(hb:QSs X body (TSm (exs F N a)))(c:PassesOwn 03 X.A X.env X.xe:=by exact PassesOwn.never)(d:X.calm=true:=by rfl)(f:∀x,foldedSetIterable iter X.env x=pure x:=by intro _;rfl):QS X (.For tg iter body [] pos) (TSm (ex F N (.forS t it a))):=by
 delta QS;delta QI at hi;delta QG at b;delta QSs at hb;exact(ql8 c d hi b hb f)
theorem qd2{c:Expr}{body:List Stmt}{a:CB}{b:CSs}(d:QT X c (TB (tst F a)))(hb:QSs X body (TSm (exs F N b)))(f:PassesOwn 03 X.A X.env X.xe:=by exact PassesOwn.never):QS X (.While c body [] pos) (TSm (ex F N (.whileS a b))):=by
 delta QS;delta QT at d;delta QSs at hb;exact(qh6 f d hb)
noncomputable def cscB(O:List (Str×NameKind))(N':List Str)(sc:Scope)(fr:List Nat)(xs ts:List Str):Bool :=
 (sc.kind == .function)&&sc.names.all (λy=>y.2 != .cell)&&sc.names.all (λy=>y.2 != .local || sc.names.lookup y.1 == some .local)&&sc.names.all (λy=>y.2 != .free || O.lookup y.1 == some .cell || O.lookup y.1 == some .free) &&
 decide (fr.length=xs.length)&&(fr.zip xs).all (λp=>N'[p.1]? == some p.2)&&xs.all (λx=>sc.names.lookup x == some .free&&(O.lookup x == some .cell || O.lookup x == some .free))&&ts.all (λx=>sc.names.lookup x == some .local)&&decide (xs++ts).Nodup
theorem yy{sc:Scope}{fr:List Nat}{xs ts:List Str}(h:cscB X.env.scope.names X.N sc fr xs ts=true):CSc X sc fr xs ts:=by
 unfold cscB at h;simp only[wZ,we,vg,bne_iff_ne,uI,wm]at h;obtain⟨⟨⟨⟨⟨⟨⟨⟨b,c⟩,d⟩,f⟩,l⟩,m⟩,n⟩,o⟩,p⟩:=h;refine⟨b,c,λy a q=>?_,λy a r=>?_,⟨l,λi j x e1 s=>?_,n,o,p⟩⟩
 .rcases d y a with z|z
  .exact absurd q z
  .exact z
 .rcases f y a with (z|z)|z
  .exact absurd r z
  .exact .inl z
  .exact .inr z
 .have hm:(j,x)∈fr.zip xs:=by
   apply wc (i:=i);rw[vu];exact⟨e1,s⟩
  exact m (j,x) hm
theorem zm{k:Nat}{sc:Scope}{cl:List (Str×Addr)}{C:Addr}{code:Value}{N':List Str}{fp:01}{tg elt iter:Expr}{ifs:List Expr}{gp:Pos}{it:Addr}{o:Addr×Obj}{s:Shared}{H:Hp}(r:Room (k+1) X.A):
  Room k (genCx X sc cl C code N' fp (.GeneratorExp elt [⟨tg,iter,ifs,0⟩] sc gp) it o s H).A:=by
 have b:=r.hd;have c:=r.dp;have d:=r.un;refine⟨b,?_,?_⟩
 .show X.A.depth+frameCount ([].map Frame.where_)+Code.weight _+3*k+5<_
  have:Code.weight (.compLoop (.GeneratorExp elt [⟨tg,iter,ifs,0⟩] sc gp) 0 (.ref it) .none (genEnv sc cl C code builtinsNs X.env))<=1:=vm rfl;have a:frameCount (([]:List Frame).map Frame.where_)=0:=rfl;rw[a];lia
 .show X.A.units+1+1+1+1+1+unitsOf ([].map Frame.where_)+Code.cUnits _+16*k+200<_
  have:Code.cUnits (.compLoop (.GeneratorExp elt [⟨tg,iter,ifs,0⟩] sc gp) 0 (.ref it) .none (genEnv sc cl C code builtinsNs X.env))<=3:=vm rfl;have a:unitsOf (([]:List Frame).map Frame.where_)=0:=rfl;rw[a];lia
theorem k_lc(m:Bool)(fr:List Nat)(xs ts:List Str){tg elt iter:Expr}{ifs:List Expr}{sc:Scope}{t:CT}{it:CI}{a:CBs}{b:CE}(hi:QI X tg iter (TIt (evI F it)))(rt:∀cl C fp s H,QG (compCx X sc cl C (xs++ts) fp s H) tg (TGt (asg F t)))(ri:∀cl C fp s H,QTl (compCx X sc cl C (xs++ts) fp s H) ifs (TB (tsts F a)))(re:∀cl C fp s H,QE (compCx X sc cl C (xs++ts) fp s H) elt (T (ev F b)))(c:X.calm=true:=by rfl)(d:∀x,foldedSetIterable iter X.env x=pure x:=by intro _;rfl)(h:cscB X.env.scope.names X.N sc fr xs ts=true:=by rfl):QE X (.ListComp elt [⟨tg,iter,ifs,0⟩] sc pos) (T (ev F (.lc m fr ts.length b t it a))):=by
 delta QE;delta QI at hi;delta QG at rt;delta QTl at ri;delta QE at re;exact(r_lc c hi d (yy h) ⟨rt,ri,re⟩)
theorem y9(i:Nat)(m:Bool)(fr:List Nat)(xs ts:List Str){tg elt iter:Expr}{ifs:List Expr}{sc:Scope}{t:CT}{it:CI}{c:CBs}{d:CE}{y:Str}{f a:Pos}(hi:QI X tg iter (TIt (evI F it)))(rt:∀cl C fp s H,QG (compCx X sc cl C (xs++ts) fp s H) tg (TGt (asg F t)))(ri:∀cl C fp s H,QTl (compCx X sc cl C (xs++ts) fp s H) ifs (TB (tsts F c)))(re:∀cl C fp s H,QE (compCx X sc cl C (xs++ts) fp s H) elt (T (ev F d)))(j:X.calm=true:=by rfl)(l:∀x,foldedSetIterable iter X.env x=pure x:=by intro _;rfl)(h:cscB X.env.scope.names X.N sc fr xs ts=true:=by rfl)(n:nodupB X.N=true:=by rfl)(o:X.N[i]?=some y:=by rfl)(p:X.env.scope.names.lookup y=some .local:=by rfl)(b:swapsWith (.ListComp elt [⟨tg,iter,ifs,0⟩] sc pos) (some (.Name y f)) a.line X.env=pure true:=by rfl):
  QS X (.Assign [.Name y f] (.ListComp elt [⟨tg,iter,ifs,0⟩] sc pos) a) (TSm (ex F N (.set (.v i) (.lc m fr ts.length d t it c)))):=by
 delta QS;delta QI at hi;delta QG at rt;delta QTl at ri;delta QE at re;exact(qia j hi l (yy h) ⟨rt,ri,re⟩ (zo n) o p b)
theorem qmf(w:GW)(fr:List Nat)(xs ts:List Str){id:String}{f:Str}{p gp:Pos}{tg elt iter:Expr}{ifs:List Expr}{sc:Scope}{k:Nat}{c T':Addr}{t:CT}{it:CI}{l:CBs}{m:CE}(n:Room k X.A)(q:GCall X w (.builtin id))(hm:X.mg f=none)(r:bootBuiltins f=some (.builtin id))(a:X.env.code=.ref c)(b:codeTab X.K c T'=true)(hi:PI X tg iter (TIt (evI F it)))(rt:∀cl C code fp it o s H,PG (genCx X sc cl C code (xs++ts) fp (.GeneratorExp elt [⟨tg,iter,ifs,0⟩] sc gp) it o s H) tg (TGt (asg F t)))(ri:∀cl C code fp it o s H,PTl (genCx X sc cl C code (xs++ts) fp (.GeneratorExp elt [⟨tg,iter,ifs,0⟩] sc gp) it o s H) ifs (TB (tsts F l)))(re:∀cl C code fp it o s H,PE (genCx X sc cl C code (xs++ts) fp (.GeneratorExp elt [⟨tg,iter,ifs,0⟩] sc gp) it o s H) elt (T (ev F m)))(u:X.calm=true:=by rfl)(d:Gl X f:=by rfl)(hn:f≠"__name__":=by decide)(i:dB f:=by decide)(v:∀x,genFold iter X.env x=pure x:=by intro _;rfl)(h:cscB X.env.scope.names X.N sc fr xs ts=true:=by rfl)(y:sc.names.lookup (".0":Str)=some NameKind.local:=by rfl)(j:sc.isCoroutine=false:=by rfl):PE X (.Call (.Name f p) [.GeneratorExp elt [⟨tg,iter,ifs,0⟩] sc gp] [] pos) (T (ev F (.gen w fr ts.length m t it l))) :=
 qma u n.depth q d hm r hn i hi v (yy h) y j a b ⟨rt,ri,re⟩
theorem yW(fr:List Nat)(xs ts:List Str){p gp:Pos}{tg elt iter:Expr}{ifs:List Expr}{sc:Scope}{k:Nat}{c T':Addr}{t:CT}{it:CI}{j:CBs}{l:CE}(d:Room k X.A)(gb:Gb X.mg)(a:X.env.code=.ref c)(b:codeTab X.K c T'=true)(hi:QI X tg iter (TIt (evI F it)))(rt:∀cl C code fp it o s H,QG (genCx X sc cl C code (xs++ts) fp (.GeneratorExp elt [⟨tg,iter,ifs,0⟩] sc gp) it o s H) tg (TGt (asg F t)))(ri:∀cl C code fp it o s H,QTl (genCx X sc cl C code (xs++ts) fp (.GeneratorExp elt [⟨tg,iter,ifs,0⟩] sc gp) it o s H) ifs (TB (tsts F j)))(re:∀cl C code fp it o s H,QE (genCx X sc cl C code (xs++ts) fp (.GeneratorExp elt [⟨tg,iter,ifs,0⟩] sc gp) it o s H) elt (T (ev F l)))(m:X.calm=true:=by rfl)(f:Gl X "all":=by rfl)(n:∀x,genFold iter X.env x=pure x:=by intro _;rfl)(h:cscB X.env.scope.names X.N sc fr xs ts=true:=by rfl)(q:sc.names.lookup (".0":Str)=some NameKind.local:=by rfl)(i:sc.isCoroutine=false:=by rfl):QE X (.Call (.Name "all" p) [.GeneratorExp elt [⟨tg,iter,ifs,0⟩] sc gp] [] pos) (T (ev F (.gen .all fr ts.length l t it j))):=by
 delta QE;delta QI at hi;delta QG at rt;delta QTl at ri;delta QE at re;exact(qmf .all fr xs ts d (qkg m d.depth λ_=>d.hd) gb.all (by decide +kernel) a b hi rt ri re m f 02 02 n h q i)
end
structure FunT (K:PySem.W.Frag) (x:Str) (st:Stmt) (f:Addr) (fd:FuncData) (c T':Addr):Prop where
 ex:∃(oc:Value) (od:Option Addr) (kV doc pm:Value) (an:Option Addr) (ct:Value) (osl:Array (Option Value)),
  fd=PySem.W.fnOf x x (defArgs st) (defBody st) (defScope st) .none kV doc pm an (.ref c) ct/\K.lookup f=some ⟨oc,od,.func fd,osl⟩/\PySem.W.codeIn K (.ref c) x=true
 tab:codeTab K c T'=true
 kp:PySem.W.keepIn K (.ref f)=true
mutual
def Den.frz{ι:01}{H:Hp}{S:Sr}{n:Nat}(st:Sto ι H S):∀(d:D) {d':D} {v:V},R.frz S n d=some d'->Den ι H d v->Den (ι.take n) H d' v
 | .non,d',v,e,h=>by cases e;exact h
 | .bl b,d',v,e,h=>by cases e;exact h
 | .int b,d',v,e,h=>by cases e;exact h
 | .str b,d',v,e,h=>by cases e;exact h
 | .exc _,d',v,e,h=>by cases e
 | .emp,d',v,e,h=>by
  cases e;obtain⟨a,e1,e2,e3⟩:=h;exact⟨a,e1,λm=>e2 (vy m),e3⟩
 | .t l,d',v,e,h=>by
  unfold R.frz at e;cases z:R.frzs S n l with
  |none=>rw[z]at e;cases e
  |some l' =>
   rw[z]at e;cases e;obtain⟨a,xs,e1,e2,e3,e4⟩:=h;exact⟨a,xs,e1,λm=>e2 (vy m),e3,Dens.frz st l z e4⟩
 | .l l,d',v,e,h=>by
  unfold R.frz at e;cases z:R.frzs S n l with
  |none=>rw[z]at e;cases e
  |some l' =>
   rw[z]at e;cases e;obtain⟨a,xs,e1,e2,e3,e4⟩:=h;exact⟨a,xs,e1,λm=>e2 (vy m),e3,Dens.frz st l z e4⟩
 | .ref m,d',v,e,h=>by
  obtain⟨a,e1,e2⟩:=h;unfold R.frz at e;split at e
  .rename_i hm
   cases e;exact⟨a,e1,by rw[List.getElem?_take];rw[wR hm];exact e2⟩
  .rename_i hm
   split at e
   .rename_i l hl
    split at e
    rotate_left
    .cases e
    rename_i f;cases e;obtain⟨_,xs,h1,h2⟩:=st.obj m a _ e2 hl;refine⟨a,xs,e1,λhmem=>?_,.inl h1,Dens.less l f h2⟩;obtain⟨i,hi,ei⟩:=List.mem_iff_getElem?.mp hmem |>.elim λi hi=>(⟨i,by
     have:=(wO.mp hi).1;rw[wr]at this;lia,hi⟩:∃i,i<n/\(ι.take n)[i]?=some a)
    rw[List.getElem?_take,wR hi]at ei;have hlt:=(wO.mp ei).1;have:=(List.getElem?_inj hlt st.nd).mp (ei.trans e2.symm);lia
   .cases e
def Dens.frz{ι:01}{H:Hp}{S:Sr}{n:Nat}(st:Sto ι H S):∀(ds:List D) {ds':List D} {xs:List V},R.frzs S n ds=some ds'->Dens ι H ds xs->Dens (ι.take n) H ds' xs
 |[],ds',xs,e,h=>by cases e;exact h
 |d::r,ds',xs,e,h=>by
  unfold R.frzs at e;split at e
  .rename_i a b h1 h2
   cases e;obtain⟨x,t,e1,e2,e3⟩:=h;exact⟨x,t,e1,Den.frz st d h1 e2,Dens.frz st r h2 e3⟩
  .cases e
end
def qin{F:Fs}{N:Nat}{c:CF}{ns ps:List Str}{vs:List V}{H:Hp}{Q:VK}(o:ps.length=c.np)(hn:ns.length=c.nn)(s:c.np<=c.nn)(h:SpD ps.length (callC F N c) vs H Q E0):TSm (exs F N c.body) {nx:=λ_ H'=>Q .non H',rt:=Q} (start ns vs) H:=by
 obtain⟨r,ι,S,ds,st,l,p⟩:=h;have m:ds.length=c.np:=by rw[l.length,r,o]
 unfold callC at p;rw[wR m]at p;have u:EnR ι H (ds.map some++List.replicate (c.nn-c.np) none) (start ns vs):=by
  unfold L2.start;have e1:ns.length-vs.length=c.nn-c.np:=by rw[hn,r,o]
  rw[e1];refine⟨by simp[l.length],λi d e=>?_⟩;by_cases hi:i<ds.length
  .rw [wQ (by simpa using hi),w5,wD hi]at e
   cases e;obtain⟨x,w,y⟩:=l.get (wD hi);refine⟨x,?_,y⟩;rw[wQ (by rw[wF,<-l.length];exact hi),w5,w];rfl
  .rw [wI (by simpa using hi),vF]at e
   split at e <;> cases e
 refine⟨ι,S,_,u,st,?_⟩;have lv:∀{d:D} {S1:Sr},Pst Den (leave c.keeps S.length d S1) ι H Q->∀a H',Stp ι H a H'->Sto a H' S1->∀v,Den a H' d v->Q v H':=by
  intro d S1 q a H' s1 b v j;unfold leave at q;split at q
  .exact q v a H' s1 b j
  .split at q
   .exact q v a H' s1 b j
   .split at q
    .rename_i A
     have e:=s1.take_eq;have n:ι.length=S.length:=st.len;refine q v (a.take S.length) H' (by rw[<-n];exact s1.less) (b.less _) (Den.less d A j)
    .split at q
     .rename_i d' hd
      have n:ι.length=S.length:=st.len;exact q v (a.take S.length) H' (by rw[<-n];exact s1.less) (b.less _) (Den.frz b d hd j)
     .exact q.elim
 cases z:exs F N c.body (ds.map some++List.replicate (c.nn-c.np) none) S with
 |no=>rw[z]at p;exact p.elim
 |err=>rw[z]at p;exact p.elim
 |ok f S1 =>
  rw[z,Res.bind_ok]at p;intro a H' s1 b;cases f with
  |nx ρ=>exact λB _=>lv p a H' s1 b .non rfl
  |rt d=>exact λv j=>lv p a H' s1 b v j
  |bk ρ=>exact p.elim
  |ct ρ=>exact p.elim
noncomputable def isFields:Data->Bool
 | .fields _=>true
 |_=>false
noncomputable def plainK(K:PySem.W.Frag):Bool:=K.all λp=>p.2.cls != .type "list"&&!(p.2.cls == .none&&isFields p.2.data)
noncomputable def sameData:Data->Bool
 | .fields vs=>sameName vs
 |_=>false
noncomputable def codesK(q:Program)(K:PySem.W.Frag):Bool:=K.all λp=>p.2.cls != .type "code" || !(sameData p.2.data) || (recsOf q).any λd=>match PySem.W.nsIn K mainGlobals d.name with
 |some (some (.ref a))=>(match K.lookup a with
  |some ⟨_,_,.func fd,_⟩=>fd.code == .ref p.1
  |_=>false)
 |_=>false
def ye:∀{K:PySem.W.Frag} {a:Addr} {o:Obj},K.lookup a=some o->(a,o)∈K
 |[],_,_,h=>by cases h
 | (b,u)::K,a,o,h=>by
  rw[v7]at h;cases z:a == b with
  |true=>rw[z]at h;cases h;rw[uI.mp z];exact wH
  |false=>rw[z]at h;exact wL _ (ye h)
def qgv{K:PySem.W.Frag}(h:plainK K=true){a:Addr}{o:Obj}(e:K.lookup a=some o):o.cls≠.type "list"/\¬(o.cls=.none/\isFields o.data=true):=by
 unfold plainK at h;rw[we]at h;have:=h _ (ye e);simp only[wZ,bne_iff_ne,vd,Bool.and_eq_false_iff,vB]at this;refine⟨this.1,λ⟨b,c⟩=>?_⟩;rcases this.2 with z|z
 .exact z b
 .rw [c]at z;cases z
def qao{K:PySem.W.Frag}{c t:Addr}(h:codeTab K c t=true):∃o vs,K.lookup c=some o/\o.cls=.type "code"/\o.data=.fields vs/\vs[11]?=some (.ref t)/\sameName vs=true:=by
 unfold codeTab at h;split at h
 .rename_i cls d vs sl j
  simp only[wZ,uI]at h;obtain⟨⟨e1,l⟩,i⟩:=h;split at i
  .rename_i a b r s u v w x y m f n A B p
   simp only[wZ,uI,bne_iff_ne]at i;obtain⟨⟨C,q⟩,ne⟩:=i;subst q;exact⟨_,vs,j,e1,rfl,f,l⟩
  .cases i
 .cases h
def qio{q:Program}{b:List Str}{i:ExcName->Option Value}{mg mb:Str->Option Value}{h:Heap}{K:PySem.W.Frag}(T:Top q b i mg mb h)(j:K.In h)(l:codesK q K=true){c t:Addr}(e:codeTab K c t=true):
  h.get? t=some {cls:=.none,data:=.fields #[]}/\isCodeTable h t:=by
 obtain⟨o,vs,n,cl,m,p,v⟩:=qao e;unfold codesK at l;rw[we]at l;have:=l _ (ye n);simp only[vg,bne_iff_ne,xX]at this;rcases this with (z|z)|⟨d,hd,hz⟩
 .exact absurd cl z
 .rw [m]at z;rw[show sameData (.fields vs)=true from v]at z;cases z
 .split at hz
  .rename_i a hn
   split at hz
   .rename_i oc od fd sl w
    have f:fd.code=.ref c:=by simpa using hz
    obtain⟨H,o',x,I,J,e1,y,A,r,L,B⟩:=T.tab d hd;have C:=PySem.W.mg_of j T.g hn;rw[C]at e1;cases e1;have:=j _ _ w;rw[y]at this;cases this;cases A;rw[f]at r;cases r;obtain⟨⟨E,M,g1,g2,s,u⟩,F⟩:=B;have:=j _ _ n;rw[g1]at this;cases this;rw[m]at s;cases s;rw[p]at u;cases u;exact⟨F,c,_,_,g1,cl,m,p⟩
   .cases hz
  .cases hz
noncomputable def tabOf(K:PySem.W.Frag)(b:Addr):Bool:=K.any λp=>codeTab K p.1 b
def qaW{K:PySem.W.Frag}{b:Addr}:tabOf K b=true ↔ ∃c,codeTab K c b=true:=by
 unfold tabOf;rw[xX];constructor
 .rintro ⟨p,_,h⟩;exact⟨p.1,h⟩
 .rintro ⟨c,h⟩
  obtain⟨o,vs,a,_⟩:=qao h;exact⟨(c,o),ye a,h⟩
noncomputable def entryH(K:PySem.W.Frag)(a:Addr)(vs:List Value)(ns:List Int):Hp:=λb=>if b=a then some (.frz {cls:=.type "list",data:=.seq vs.toArray} (.l (ns.map V.int)))else if tabOf K b=true then some (.tbl #[])else none
def qe6{P:Program}{w:World}{q:Program}{A:List Str}{L:ExcName->Option Value}{K:PySem.W.Frag}{mg mb:Str->Option Value}{k:Nat}{fa a:Addr}{fd:FuncData}{x:Str}{sp:Sp}{f:Shared}{vs:List Value}{ns:List Int}(T:Top q A L mg mb f.heap)(Q:K.In f.heap)(hp:plainK K=true)(S:codesK q K=true)(hg:f.gens=#[])(ha:f.heap.get? a=some {cls:=.type "list",data:=.seq vs.toArray})(hi:IntsAre vs ns)(hl:ns.length<=sizeLine)(hr:Room k callerA)(F:∀base:Heap,K.In base->base.Ns mainGlobals mg->FnOk P w K mg base CX0 k fa fd [x] sp)(B:∀(s:Shared) (u:Value),BindsTo s fd ⟨[u],[]⟩ [(x,u)])(U:∀H:Hp,H a=some (.frz {cls:=.type "list",data:=.seq vs.toArray} (.l (ns.map V.int)))->sp [.ref a] H (λv _=>v=.bl true) λ_ _ _=>False):
  codeAny (model P w) callerA (.call (.ref fa) ⟨[.ref a],[]⟩) (λr s'=>r=.ok (.ret (.bool true))/\OldK f.heap s'.heap/\s'.os=f.os/\AllBare s'.gens) f:=by
 have rv:=qaQ hi;have I:∀{b:Addr},tabOf K b=true->f.heap.get? b=some {cls:=.none,data:=.fields #[]}/\isCodeTable f.heap b:=λ{b} h=>by
  obtain⟨c,e⟩:=qaW.mp h;exact qio T Q S e
 have na:tabOf K a≠true:=λh=>by
  have:=(I h).1;rw[ha]at this;cases this
 generalize X:entryH K a vs ns=H;have Y:H a=some (.frz {cls:=.type "list",data:=.seq vs.toArray} (.l (ns.map V.int))):=by rw[<-X];unfold entryH;rw[wR rfl]
 have Z:∀{b:Addr},tabOf K b=true->H b=some (.tbl #[]):=λ{b} h=>by
  rw[<-X];unfold entryH;rw[wT (λ(z:b=a)=>na (by rw[<-z];exact h)),wR h]
 have j:∀{b:Addr} {u:HO},H b=some u->(b=a/\u=.frz {cls:=.type "list",data:=.seq vs.toArray} (.l (ns.map V.int)))\/(tabOf K b=true/\u=.tbl #[]):=λ{b u} e=>by
  rw[<-X]at e;unfold entryH at e;split at e
  .rename_i z;cases e;exact .inl ⟨z,rfl⟩
  .split at e
   .rename_i z;cases e;exact .inr ⟨z,rfl⟩
   .cases e
 have hok:HOk P w H f.heap:=λb u e=>by
  rcases j e with ⟨rfl,rfl⟩|⟨h,rfl⟩
  .exact ⟨ha,by rw[wF];exact hl,vs,_,rv,ha⟩
  .exact ⟨(I h).1,trivial⟩
 have i:∀{b:Addr} {o:Obj},f.heap.get? b=some o->H b=none->(hidT f.heap H).get? b=some o:=λe n=>qfk e n
 have a0:∀{b:Addr} {o:Obj} {es:Array DictEntry} {J:Nat},f.heap.get? b=some o->o.data=.dict es J->H b=none:=λ{b o es J} e d=>by
  cases z:H b with
  |none=>rfl
  |some u =>
   rcases j z with ⟨rfl,rfl⟩|⟨h,rfl⟩
   .rw [ha]at e;cases e;cases (show Data.seq vs.toArray _=Data.dict es J from d)
   .rw [(I h).1]at e;cases e;cases (show Data.fields #[]=Data.dict es J from d)
 have l:∀{b:Addr} {m:Str->Option Value},f.heap.Ns b m->(hidT f.heap H).Ns b m:=λ{b m} ⟨o,es,J,e,d,r⟩=>⟨o,es,J,i e (a0 e d),d,r⟩
 have M:K.In (hidT f.heap H):=λb o e=>i (Q b o e) (by
  cases z:H b with
  |none=>rfl
  |some u =>
   obtain⟨p1,p2⟩:=qgv hp e;have O:=Q b o e;rcases j z with ⟨rfl,rfl⟩|⟨h,rfl⟩
   .rw [ha]at O;cases O;exact absurd rfl p1
   .rw [(I h).1]at O;cases O;exact absurd ⟨rfl,rfl⟩ p2)
 have bm:∃bm ob,mg "__builtins__"=some (.ref bm)/\bm≠builtinsNs/\(hidT f.heap H).get? bm=some ob/\ob.cls=.type "module"/\ob.dict=some builtinsNs/\ob.data=.plain:=by
  obtain⟨bm,ob,e1,C,E,N,e5,e6⟩:=T.bmain;refine⟨bm,ob,e1,C,i E ?_,N,e5,e6⟩;cases z:H bm with
  |none=>rfl
  |some u =>
   rcases j z with ⟨rfl,rfl⟩|⟨h,rfl⟩
   .rw [ha]at E;cases E;exact absurd (show Value.type "list"=Value.type "module" from N) 02
   .rw [(I h).1]at E;cases E;exact absurd N 02
 have hM:Mod K mg (hidT f.heap H):=⟨M,l T.g,⟨mb,l T.b,T.builtins⟩,(let ⟨mc,h1,h2⟩:=T.nolimit;⟨mc,l h1,h2⟩),bm⟩;have e0:Env0 P w K mg (hidT f.heap H) callerA [] f H:=⟨rfl,hM,λb o e=>qhy e,Nat.le_of_eq (qeG _ _),trivial,λb hb=>absurd (show b∈([]:List Addr)from hb) (by simp),hok,.of_eq hg,λc t z=>⟨_,Z (qaW.mpr ⟨c,z⟩)⟩⟩;refine codeAny_mono ((F _ M (l T.g)).run callerA [] f H ⟨[.ref a],[]⟩ [.ref a] [.ref a] _ _ hr e0 (B f (.ref a)) (.cons rfl .nil) (U H Y)) λr s' h=>?_
 cases r with
 |error e=>exact(show False from h).elim
 |ok fl =>
  cases fl with
  |next=>exact False.elim h
  |brk=>exact False.elim h
  |cont=>exact False.elim h
  |ret u =>
   obtain⟨v,H',os,bare,un,p,r',q'⟩:=h;have q':v=.bl true:=q';subst q';obtain rfl:u=Value.bool true:=r';have old:∀b o,f.heap.get? b=some o->asItWas f.heap s'.heap b o/\∃o',s'.heap.get? b=some o':=λb o e=>by
    cases z:H b with
    |none =>
     have:=un.keep b o e z (by intro y;exact absurd (show b∈([]:List Addr)from y) (by simp)) (by simp);exact⟨.inl this,_,this⟩
    |some u =>
     rcases j z with ⟨rfl,rfl⟩|⟨h,rfl⟩
     .have z2:=un.frzs _ _ _ z
      obtain⟨C,_⟩:=p _ _ z2;rw[ha]at e;cases e;exact⟨.inl C,_,C⟩
     .obtain ⟨more,z2⟩:=un.tbls _ _ z
      obtain⟨C,_⟩:=p _ _ z2;obtain⟨E,N⟩:=I h;rw[E]at e;cases e;exact⟨.inr (.inl ⟨N,rfl,#[],more,rfl,C⟩),_,C⟩
   exact⟨rfl,⟨λb o e=>(old b o e).1,λb o e=>(old b o e).2⟩,os,bare.bare⟩
def qkm{l:PySem.W.OpenLaw}{n k:Nat}{q:Program}{c:List Str}{N:(Str->Option Value)->Heap->Prop}{E:World->Heap->Prop}{d:DefRec}{K:Params->PySem.W.Frag}{x:Str}{g:List D->Sr->Res D}(hn:l.most=some n)(y:n<=sizeLine)(A:d.params.defaults=[])(O:Room k callerA)(Q:∀(w:World) (h:Heap),E w h->(K w.params).In h)(S:∀P,plainK (K P)=true)(B:∀P,codesK q (K P)=true)(F:∀(w:World) (mg:Str->Option Value) (m:Addr) (h:Heap),(K w.params).In h->h.Ns mainGlobals mg->mg d.name=some (.ref m) ->
   ∃fd:FuncData,(∀(s:Shared) (u:Value),BindsTo s fd ⟨[u],[]⟩ [(x,u)])/\∀base:Heap,(K w.params).In base->base.Ns mainGlobals mg->FnOk l.prog w (K w.params) mg base CX0 k m fd [x] (SpD 1 g))(U:∀ns:List Int,ns.length<=n->∃I,g [.l (ns.map .int)] []=.ok (.bl true) I):
  PySem.W.WalkO q c N E l.row.toRowW d [] (λf vs=>PySem.call f vs):=by
 refine Att.attach_call hn A λw s₀ J mg mb m o pm cd doc a vs ns G Y ho hd L C j i b X=>?_
 have M:=Q w _ Y;obtain⟨fd,hb,Z⟩:=F w mg m _ M G.T.g C;refine qe6 G.T M (S _) (B _) X j i (vK b y) O Z hb λH hS=>?_
 obtain⟨I,e⟩:=U ns b;have dd:∀p:List Int,Dens [] H (p.map .int) (p.map V.int):=λp=>by
  induction p with
  |nil=>rfl
  |cons x r ih=>exact⟨_,_,rfl,rfl,ih⟩
 refine⟨rfl,[],[],[.l (ns.map .int)],⟨rfl,.nil,λn a so e1 _=>by simp at e1⟩,⟨_,_,rfl,⟨a,ns.map V.int,rfl,by simp,.inr ⟨_,hS⟩,dd ns⟩,rfl⟩,?_⟩;rw[e];exact λv a0 H' _ _ hv=>hv
def m2{k:Nat}{A:Around}(r:Room (k+2) A):Room k A:=r.mono 00
def m1{k:Nat}{A:Around}(r:Room (k+1) A):Room k A:=r.mono 00
def qkn:bootBuiltins "len"=some (.builtin "len"):=by decide +kernel
def qko:bootBuiltins "min"=some (.builtin "min"):=by decide +kernel
def qkp:bootBuiltins "max"=some (.builtin "max"):=by decide +kernel
def qkq:bootBuiltins "abs"=some (.builtin "abs"):=by decide +kernel
def qe7:bootBuiltins "divmod"=some (.builtin "divmod"):=by decide +kernel
def qaX:bootBuiltins "sorted"=some (.builtin "sorted"):=by decide +kernel
def qkr:bootBuiltins "sum"=some (.builtin "sum"):=by decide +kernel
def qip:bootBuiltins "list"=some (.type "list"):=by decide +kernel
def qgw:bootBuiltins "tuple"=some (.type "tuple"):=by decide +kernel
section
variable{X:Cx}{F:Fs}{pos p:Pos}{e:Expr}{es:List Expr}{cs:CEs}
theorem zg(gb:Gb X.mg)(ha:QA X (e::es) (TL (evs F cs)))(b:Gl X "len":=by rfl)(c:sE X e es:=by rfl)(a:bT X es pos:=by rfl):QE X (.Call (.Name "len" p) (e::es) [] pos) (T (ev F (.blt .len cs))):=by
 delta QE;delta QA at ha;exact(jL .len qlV gb.len qkn ha b 02 02 c a)
theorem qjk(gb:Gb X.mg)(ha:QA X (e::es) (TL (evs F cs)))(b:X.calm=true:=by rfl)(c:Gl X "min":=by rfl)(d:sE X e es:=by rfl)(a:bT X es pos:=by rfl):QE X (.Call (.Name "min" p) (e::es) [] pos) (T (ev F (.blt .min2 cs))):=by
 delta QE;delta QA at ha;exact(jL .min2 (qlX b) gb.min qko ha c 02 02 d a)
theorem qmg(gb:Gb X.mg)(ha:QA X (e::es) (TL (evs F cs)))(b:X.calm=true:=by rfl)(c:Gl X "max":=by rfl)(d:sE X e es:=by rfl)(a:bT X es pos:=by rfl):QE X (.Call (.Name "max" p) (e::es) [] pos) (T (ev F (.blt .max2 cs))):=by
 delta QE;delta QA at ha;exact(jL .max2 (qlY b) gb.max qkp ha c 02 02 d a)
theorem qd3(gb:Gb X.mg)(ha:QA X (e::es) (TL (evs F cs)))(b:Gl X "abs":=by rfl)(c:sE X e es:=by rfl)(a:bT X es pos:=by rfl):QE X (.Call (.Name "abs" p) (e::es) [] pos) (T (ev F (.blt .abs cs))):=by
 delta QE;delta QA at ha;exact(jL .abs qlW gb.abs qkq ha b 02 02 c a)
theorem qgx(gb:Gb X.mg)(ha:QA X (e::es) (TL (evs F cs)))(b:Gl X "divmod":=by rfl)(c:sE X e es:=by rfl)(a:bT X es pos:=by rfl):QE X (.Call (.Name "divmod" p) (e::es) [] pos) (T (ev F (.blt .divmod cs))):=by
 delta QE;delta QA at ha;exact(jL .divmod qfY gb.divmod qe7 ha b 02 02 c a)
theorem qci(m:Bool)(gb:Gb X.mg)(ha:QA X (e::es) (TL (evs F cs)))(b:X.calm=true:=by rfl)(c:Gl X "sorted":=by rfl)(d:sE X e es:=by rfl)(a:bT X es pos:=by rfl):QE X (.Call (.Name "sorted" p) (e::es) [] pos) (T (ev F (.blt (.sorted m) cs))):=by
 delta QE;delta QA at ha;exact(jL (.sorted m) (qgs m b) gb.sorted qaX ha c 02 02 d a)
theorem qjl(gb:Gb X.mg)(ha:QA X (e::es) (TL (evs F cs)))(b:X.calm=true:=by rfl)(c:Gl X "sum":=by rfl)(d:sE X e es:=by rfl)(a:bT X es pos:=by rfl):QE X (.Call (.Name "sum" p) (e::es) [] pos) (T (ev F (.blt .sum cs))):=by
 delta QE;delta QA at ha;exact(jL .sum (qlZ b) gb.sum qkr ha c 02 02 d a)
theorem qks(m:Bool)(gb:Gb X.mg)(ha:QA X (e::es) (TL (evs F cs)))(b:Gl X "list":=by rfl)(c:sE X e es:=by rfl)(a:bT X es pos:=by rfl):QE X (.Call (.Name "list" p) (e::es) [] pos) (T (ev F (.blt (.list m) cs))):=by
 delta QE;delta QA at ha;exact(qji (.list m) (qka m) gb.list qip ha b 02 02 c a)
theorem qK(gb:Gb X.mg)(ha:QA X (e::es) (TL (evs F cs)))(b:Gl X "tuple":=by rfl)(c:sE X e es:=by rfl)(a:bT X es pos:=by rfl):QE X (.Call (.Name "tuple" p) (e::es) [] pos) (T (ev F (.blt .tuple cs))):=by
 delta QE;delta QA at ha;exact(qji .tuple qh3 gb.tuple qgw ha b 02 02 c a)
end
def qmh{P:Program}{w:World}{K:PySem.W.Frag}{mg:Str->Option Value}{base:Heap}{k N i:Nat}{F G:Fs}{x:Str}{st:Stmt}{f c T':Addr}{fd:FuncData}{a:CF}{ns ps:List Str}(U:FunT K x st f fd c T')(S:FnScope ns ps (defScope st))(j:ps.length=a.np)(hn:ns.length=a.nn)(b:a.np<=a.nn)(l:G i=callC F N a)(body:∀(A:Around) (outer:List Env) (s:Shared) (H:Hp) (E:XK),Room k (A.deeper (envOfC x (defScope st) s.heap.objs.size f (.ref c)))->QSs (cxOf CX0 P w K mg base ns x (defScope st) f (.ref c) A outer s H E).nox (defBody st) (TSm (exs F N a.body))):
  FnOk P w K mg base CX0 (k+1) f fd ps (SpD ps.length (G i)):=by
 obtain⟨oc,od,kV,doc,pm,an,ct,osl,rfl,m,d⟩:=U.ex;refine qlz m d S (λvs H Q E h=>h.1) λA outer s H vs Q E n h=>⟨_,(body A outer s H E n).un.nox,?_⟩
 rw[l]at h;exact qin j hn b h
def qmi{P:Program}{w:World}{K:PySem.W.Frag}{mg:Str->Option Value}{base:Heap}{i:Nat}{G:Fs}{f:Addr}{fd:FuncData}{ps:List Str}(a:G i=λ_ _=>.no){k:Nat}:
  FnOk P w K mg base CX0 k f fd ps (SpD ps.length (G i)):=by
 refine⟨λvs H Q E h=>h.1,λA outer s H args us vs Q E _ _ _ _ h=>?_⟩;obtain⟨_,ι,S,ds,_,_,p⟩:=h;rw[a]at p;exact p.elim
def DefIn(K:PySem.W.Frag)(mg:Str->Option Value)(x:Str)(st:Stmt)(ps:List Str):Prop:=∃(f:Addr) (fd:FuncData) (c t:Addr),mg x=some (.ref f)/\FunT K x st f fd c t/\Binds K fd ps []
def DefIn.fn{P:Program}{w:World}{K:PySem.W.Frag}{mg:Str->Option Value}{base:Heap}{k i:Nat}{F:Fs}{x:Str}{st:Stmt}{ps:List Str}(u:DefIn K mg x st ps)(h:∀f fd c t,FunT K x st f fd c t->FnOk P w K mg base CX0 k f fd ps (SpD ps.length (F i))):FnAt P w K mg base k F i x ps:=by
 obtain⟨f,fd,c,t,hm,U,hb⟩:=u;exact⟨f,fd,hm,U.kp,hb,h f fd c t U⟩
def len0{us:List Value}(h:us.length=0):us=[]:=List.eq_nil_of_length_eq_zero h
def lenS{us:List Value}{n:Nat}(h:us.length=n+1):∃a r,us=a::r/\r.length=n:=by
 cases us with
 |nil=>cases h
 |cons a r=>exact⟨a,r,rfl,Nat.succ.inj h⟩
def len1{us:List Value}(h:us.length=1):∃b,us=[b]:=by
 obtain⟨a,_,rfl,q⟩:=lenS h;cases len0 q;exact⟨a,rfl⟩
def len2{us:List Value}(h:us.length=2):∃b c,us=[b,c]:=by
 obtain⟨a,r,rfl,q⟩:=lenS h;obtain⟨d,rfl⟩:=len1 q;exact⟨a,d,rfl⟩
def len3{us:List Value}(h:us.length=3):∃b c d,us=[b,c,d]:=by
 obtain⟨a,r,rfl,q⟩:=lenS h;obtain⟨f,b1,rfl⟩:=len2 q;exact⟨a,f,b1,rfl⟩
noncomputable def tabIn(vs:Array Value)(c T':Addr):Bool:=match(vs.getD 11 Value.none:Value),(vs.getD 18 Value.none:Value),(vs.getD 7 Value.none:Value),(vs.getD 9 Value.none:Value),(vs.getD 10 Value.none:Value)with
  | .ref a,.str _ _,.int _ _,.bool _,.int _ _=>(a == T'&&c != T')&&sameName vs
  |_,_,_,_,_=>false
def qkt{K:PySem.W.Frag}{c t:Addr}{d:Option Addr}{vs:Array Value}{sl:Array (Option Value)}(f:K.lookup c=some ⟨.type "code",d,.fields vs,sl⟩)(b:vs[11]?=some (.ref t))(h:tabIn vs c t=true):codeTab K c t=true:=by
 unfold codeTab;rw[f];simp only[b];unfold tabIn at h;split at h
 .rename_i a n o p q r s e1 i j l m
  simp only[e1,i,j,l,m];simpa[and_comm]using h
 .cases h
def qku{K:PySem.W.Frag}{h:Heap}{mg:Str->Option Value}(X:K.In h)(G:h.Ns mainGlobals mg){x:Str}{st:Stmt}{ps:List Str}{f c t:Addr}{oc kV doc pm ct:Value}{od an:Option Addr}{osl:Array (Option Value)}{d2:Option Addr}{vs:Array Value}{b:Array (Option Value)}(a:PySem.W.nsIn K mainGlobals x=some (some (.ref f)))(l:K.lookup f=some ⟨oc,od,.func (PySem.W.fnOf x x (defArgs st) (defBody st) (defScope st) .none kV doc pm an (.ref c) ct),osl⟩)(j:PySem.W.codeIn K (.ref c) x=true)(m:K.lookup c=some ⟨.type "code",d2,.fields vs,b⟩)(d:vs[11]?=some (.ref t))(n:tabIn vs c t=true)(kp:PySem.W.keepIn K (.ref f)=true)(hb:∀(kV doc pm:Value) (an:Option Addr) (i ct:Value) (us:List Value),us.length=ps.length->bindArgs (PySem.W.fnOf x x (defArgs st) (defBody st) (defScope st) .none kV doc pm an i ct) ⟨us,[]⟩=pure (ps.zip us)):DefIn K mg x st ps :=
 ⟨f,_,c,t,PySem.W.mg_of X G a,⟨⟨oc,od,kV,doc,pm,an,ct,osl,rfl,l,j⟩,qkt m d n,kp⟩,.all (hb kV doc pm an (.ref c) ct)⟩
def qkv{K:PySem.W.Frag}{h:Heap}{mg:Str->Option Value}(X:K.In h)(G:h.Ns mainGlobals mg){x:Str}{i:Int}{t:Tok}{v:Value}(a:PySem.W.nsIn K mainGlobals x=some (some v))(e:v=.int i t):∃t:Tok,mg x=some (.int i t):=⟨t,by rw[PySem.W.mg_of X G a,e]⟩
section
variable{X:Cx}{F:Fs}{N:Nat}{pos:Pos}
noncomputable def tPar3(i j l:Nat)(b:TA):TS:=λD a H=>b a H λvs c=>∃v w u,vs=[v,w,u]/\D.nx (((a.set i (some v)).set j (some w)).set l (some u)) c
theorem qiq{i j l:Nat}{x y z:Str}{a b c:Expr}{S:TA}{r B C pt:Pos}{kt k2 pt2}(hc:X.calm=true)(E:X.N.Nodup)(hi:X.N[i]?=some x)(hj:X.N[j]?=some y)(hl:X.N[l]?=some z)(J:i≠j)(K:i≠l)(L:j≠l)(U:X.env.scope.names.lookup x=some .local)(W:X.env.scope.names.lookup y=some .local)(Y:X.env.scope.names.lookup z=some .local)(ha:PA X [a,b,c] S)(hw:swappedStores [.Tuple [.Name x r,.Name y B,.Name z C] kt pt] (.Tuple [a,b,c] k2 pt2) X.env=pure (some [x,y,z]))(hs:swapsWithSole [.Tuple [.Name x r,.Name y B,.Name z C] kt pt] (.Tuple [a,b,c] k2 pt2) pos.line X.env=pure false:=by rfl):
  PS X (.Assign [.Tuple [.Name x r,.Name y B,.Name z C] kt pt] (.Tuple [a,b,c] k2 pt2) pos) (tPar3 i j l S):=by
 intro pins s n H D I h;rw[exec_Assign_arm];refine wB (wu ?_);rw[hs];refine wB (wE ?_);rw[wT 02];refine wB (Tuple_ (thn (ha _ pins s n H _ I h) λus s1 ⟨vs,Z,I1,r1,q1⟩=>?_));obtain⟨v,w,u,e1,q1⟩:=q1;subst e1;obtain⟨d,f,m,rfl,rv,M,ru⟩:∃d f m,us=[d,f,m]/\RelV v d/\RelV w f/\RelV u m:=by
  cases r1 with
  |cons p q =>
   cases q with
   |cons p' q' =>
    cases q' with
    |cons O P =>
     cases P;exact⟨_,_,_,rfl,p,p',O⟩
 refine wa ?_ (by show 3<=sizeLine;decide);have I2:Inv X pins n Z {s1 with heap:=s1.heap.push {cls:=.type "tuple",data:=.seq [d,f,m].toArray}}:=I1.kept (t':=s1.toks) λb o e=>wC _ e
 rw[hw];refine wB (wE ?_);show wpAny 03 X.A (do rule "assign.swapped-stores";let items <-unpackItems (.ref s1.heap.objs.size) 3 none;assignInOrder [λv=>bindName X.env z v,λv=>bindName X.env y v,λv=>bindName X.env x v] items.reverse;pure Flow.next) _ _ _;refine wB (vc (wB (unpackItems_tuple (items:=#[d,f,m]) (I.ok.hd hc) (IsTup.new s1.heap _) λh' Q=>?_)));have I3:=I2.kept (h':=h') (t':=s1.toks) λb o e=>Q b o (wk (wP e)) e
 show wpAny _ _ (assignInOrder [λv=>bindName X.env z v,λv=>bindName X.env y v,λv=>bindName X.env x v] [m,f,d] >>= λ_=>pure Flow.next) _ _ _;refine wB (uK (xE (zK I3 E hl (.inl Y) ru (λs2 I4=>?_) (.inr Y))));refine uK (xE (zK I4 E hj (.inl W) M (λs3 I5=>?_) (.inr W)));refine uK (xE (zK I5 E hi (.inl U) rv (λs4 I6=>assignInOrder_nil (wE ?_)) (.inr U)));have e:((n.set l (some u)).set j (some w)).set i (some v)=((n.set i (some v)).set j (some w)).set l (some u):=by
  rw[List.set_comm _ _ (Ne.symm L),List.set_comm _ _ (Ne.symm K),List.set_comm _ _ (Ne.symm J)]
 rw[e]at I6;exact⟨_,Z,I6,q1⟩
theorem qd4(i j:Nat){x y:Str}{a b:Expr}{d f:CE}{m n pt:Pos}{kt k2 pt2}(ha:QA X [a,b] (TL (evs F (.cons d (.cons f .nil)))))(E:X.calm=true:=by rfl)(I:nodupB X.N=true:=by rfl)(hi:X.N[i]?=some x:=by rfl)(J:X.N[j]?=some y:=by rfl)(o:i≠j:=by decide)(K:X.env.scope.names.lookup x=some .local:=by rfl)(L:X.env.scope.names.lookup y=some .local:=by rfl)(M:swappedStores [.Tuple [.Name x m,.Name y n] kt pt] (.Tuple [a,b] k2 pt2) X.env=pure (some [x,y]):=by rfl)(q:swapsWithSole [.Tuple [.Name x m,.Name y n] kt pt] (.Tuple [a,b] k2 pt2) pos.line X.env=pure false:=by rfl):
  QS X (.Assign [.Tuple [.Name x m,.Name y n] kt pt] (.Tuple [a,b] k2 pt2) pos) (TSm (ex F N (.set (.t (.c (.v i) (.c (.v j) .n))) (.t (.cons d (.cons f .nil)))))):=by
 delta QS;delta QA at ha;refine PSimp (qjK E (zo I) hi J o K L ha M q) λU W H h=>?_
 obtain⟨ι,S,ρ,C,st,p⟩:=h;refine⟨ι,S,ρ,C,st,?_⟩;have c:∀{l S'},evs F (.cons d (.cons f .nil)) ρ S=.ok l S'->l.length=2:=λz=>jS z
 simp only[ex,ev]at p;cases z:evs F (.cons d (.cons f .nil)) ρ S with
 |no=>rw[z]at p;exact p
 |err=>rw[z]at p;exact p
 |ok l S1 =>
  rw[z]at p;have O:=c z
  match l,O with
  |[d1,d2],_ =>
   have q:([d1,d2]:List D).length<=sizeLine:=by simp[sizeLine]
   simp only[Res.bind,q,v6,asg,asgs]at p;intro vs s P s1 u Q;obtain⟨v,r,rfl,A,w,r2,rfl,B,rfl⟩:=Q;exact⟨v,w,rfl,p s P s1 u _ (((C.mono s1).set A).set B)⟩
theorem qkw(i j l:Nat){x y z:Str}{a b c:Expr}{f m n:CE}{o q s pt:Pos}{kt k2 pt2}(ha:QA X [a,b,c] (TL (evs F (.cons f (.cons m (.cons n .nil))))))(Q:X.calm=true:=by rfl)(U:nodupB X.N=true:=by rfl)(hi:X.N[i]?=some x:=by rfl)(W:X.N[j]?=some y:=by rfl)(A:X.N[l]?=some z:=by rfl)(B:i≠j:=by decide)(C:i≠l:=by decide)(E:j≠l:=by decide)(Y:X.env.scope.names.lookup x=some .local:=by rfl)(Z:X.env.scope.names.lookup y=some .local:=by rfl)(hz:X.env.scope.names.lookup z=some .local:=by rfl)(hw:swappedStores [.Tuple [.Name x o,.Name y q,.Name z s] kt pt] (.Tuple [a,b,c] k2 pt2) X.env=pure (some [x,y,z]):=by rfl)(I:swapsWithSole [.Tuple [.Name x o,.Name y q,.Name z s] kt pt] (.Tuple [a,b,c] k2 pt2) pos.line X.env=pure false:=by rfl):
  QS X (.Assign [.Tuple [.Name x o,.Name y q,.Name z s] kt pt] (.Tuple [a,b,c] k2 pt2) pos) (TSm (ex F N (.set (.t (.c (.v i) (.c (.v j) (.c (.v l) .n)))) (.t (.cons f (.cons m (.cons n .nil))))))):=by
 delta QS;delta QA at ha;refine PSimp (qiq Q (zo U) hi W A B C E Y Z hz ha hw I) λD0 σ H h=>?_
 obtain⟨ι,S,ρ,P,st,p⟩:=h;refine⟨ι,S,ρ,P,st,?_⟩;have d:∀{l S'},evs F (.cons f (.cons m (.cons n .nil))) ρ S=.ok l S'->l.length=3:=λz=>jS z
 simp only[ex,ev]at p;cases z:evs F (.cons f (.cons m (.cons n .nil))) ρ S with
 |no=>rw[z]at p;exact p
 |err=>rw[z]at p;exact p
 |ok l S1 =>
  rw[z]at p;have A:=d z
  match l,A with
  |[d1,d2,d3],_ =>
   have I:([d1,d2,d3]:List D).length<=sizeLine:=by simp[sizeLine]
   simp only[Res.bind,I,v6,asg,asgs]at p;intro vs J H1 s1 K dv;obtain⟨v,r,rfl,L,w,r2,rfl,M,u,r3,rfl,O,rfl⟩:=dv;exact⟨v,w,u,rfl,p J H1 s1 K _ ((((P.mono s1).set L).set M).set O)⟩
end
end R
namespace R
open PySem PySem.Spec L2 SeqAt
open PyProof.Rows hiding St
section
variable{X:Cx}{F:Fs}{N:Nat}{pos:Pos}
theorem qgy{m:Bool}{fr:List Nat}{nt:Nat}{a c:CE}{t:CT}{b:CBs}:mLcG m fr nt (mRef (ev F c)) (asg F t) (tsts F b) (ev F a)=ev F (.lcR m fr nt a t c b):=by
 funext ρ S;unfold mLcG mRef;simp only[ev];cases ev F c ρ S with
 |ok d S1 =>
  cases hr:refL d S1 <;> simp only[Res.bind,hr]
 |err=>rfl
 |no=>rfl
theorem qcj(m:Bool)(fr:List Nat)(xs ts:List Str){tg elt iter:Expr}{ifs:List Expr}{sc:Scope}{t:CT}{c:CE}{a:CBs}{b:CE}(hi:QE X iter (T (ev F c)))(rt:∀cl C fp s H,QG (compCx X sc cl C (xs++ts) fp s H) tg (TGt (asg F t)))(ri:∀cl C fp s H,QTl (compCx X sc cl C (xs++ts) fp s H) ifs (TB (tsts F a)))(re:∀cl C fp s H,QE (compCx X sc cl C (xs++ts) fp s H) elt (T (ev F b)))(d:X.calm=true:=by rfl)(f:∀x,foldedSetIterable iter X.env x=pure x:=by intro _;rfl)(h:cscB X.env.scope.names X.N sc fr xs ts=true:=by rfl):QE X (.ListComp elt [⟨tg,iter,ifs,0⟩] sc pos) (T (ev F (.lcR m fr ts.length b t c a))):=by
 rw[<-qgy];delta QE;delta QE at hi;delta QG at rt;delta QTl at ri;delta QE at re;exact(qje d (ql9 hi) f (yy h) ⟨rt,ri,re⟩)
end
noncomputable def accL(us:Array Value)(c:Nat):Obj:={cls:=.type "list",dict:=none,data:=.seq us c,slots:=#[]}
section
variable{X:Cx}{sc:Scope}{cl:List (Str×Addr)}{C:Addr}{code:Value}{N':List Str}{fp:List Addr}{ge:Expr}{it a:Addr}{o:Obj}{s4:Shared}{H4:Hp}{J:It}{tn:Nat->Heap->Prop}{ds:List D}{gu:Sr->Prop}{g:D->En->Sr->Res En}{mt:En->Sr->Res Bool}{me:En->Sr->Res D}
theorem qir{R:Result->Shared->Prop}(hh:X.A.handled=none)(hd:X.A.depth<recursionLimit)(hg:∀h:Heap,h.get? a=some o->h.IsGen a s4.gens.size)(tk:∀i h h',tn i h->(∀b∈fp,∀o,h.get? b=some o->h'.get? b=some o)->tn i h'){p:Addr}(hp:s4.heap.objs.size<=p)(M:a≠p):∀(k i:Nat) (ρ:En) (l:List D) (xs:List V) (us:Array Value) (S:Sr) (ι:01) (H:Hp) (s:Shared) (c:Nat) {d:D} {K:Sr},l.length<=sizeLine->ds.length<k+i->Dens ι H l xs->Vals xs us.toList ->
  Cs (genCx X sc cl C code N' fp ge it (a,o) s4 H4) J tn fp ds gu X.A.in4.in1 g mt me s4.gens.size k i ρ S ι H [(p,accL us c)] s->genLoopG gu g mt me (stepG .tuple) (finG .tuple) (ds.drop i) ρ (.t l) S=.ok d K ->
  (∀j f H' z N n r c',d=.t N->N.length<=sizeLine->Dens f H' N n->Vals n (Array.toList r)->Inv (genCx X sc cl C code N' fp ge it (a,o) s4 H4) [(p,accL r c')] j H' (z.setGen s4.gens.size .running)->GK s4.gens z.gens->Stp ι H f H'->Sto f H' K->R (.ok (.ret (.ref p))) z) ->
  codeAny 03 X.A.in1.in1 (.builtin "list.extend.loop" ⟨[.ref p,.ref a,.ref p],[]⟩) R s:=by
 intro k;induction k with
 |zero =>
  intro i ρ l xs us S ι H s c d K _ hk _ _ O _ _;have:=O.sus.le;lia
 |succ k ih =>
  intro i ρ l xs us S ι H s c d K hl hk P Q O e hR;refine w1 F.entry_extend_loop ?_;rw[vC F.plain_extend_loop];refine wB (m:=pyNext (.ref a)) (wpAny_of_in1 (qdR (X:=genCx X sc cl C code N' fp ge it (a,o) s4 H4) (A:=X.A.in4) hh hd wH hg rfl rfl O (qf9 e) (λS2 f H' j z L Iz U q st=>?_) λi' W v S2 f H' y u z L q dv ry Cz=>?_))
  .have q2:=yu e
   rw[L]at q2;cases q2;exact wE (hR j f H' z l xs us c rfl hl (Dens.mono q l P) Q Iz U q st)
  .have q2:=yu e
   have hi:=qad _ _ _ _ L;rw[L]at q2;simp only[gen1,stepG]at q2;by_cases B:l.length<sizeLine
   .rw [wR B]at q2
    have E:z.heap.get? p=some (accL us c):=by
     obtain⟨σ,I,_⟩:=Cz.sus.inv;exact(I.pin (p,accL us c) (wG _ (w6.mpr rfl))).1
    have hsz:us.size=l.length:=by rw[P.length,Q.length,vh]
    show wpAny _ _ (updateSeq p (·.push u) >>= _) _ _ _;refine wB (wpAny_updateSeq E rfl (wE ⟨v9 F.plain_extend_loop _,?_⟩) (by rw[hsz];exact hl) (by show(us.push u).size<=sizeLine+1;rw[Array.size_push,hsz];lia));refine ih i' W (l++[v]) (xs++[y]) (us.push u) S2 f H' _ _ (by rw[wV,vo];lia) 00 ((Dens.mono q l P).snoc dv) ?_ (qdT (t:=z.toks) Cz tk hp (λq hq=>?_) (λb x hb ex=>(wy _ _ (Ne.symm hb)).trans ex) (vr _ E rfl) λv z=>by cases z) q2 λY Z H2 z2 l2 x2 u2 c2 ec el d2 v2 I2 U s2 a0=>hR Y Z H2 z2 l2 x2 u2 c2 ec el d2 v2 I2 U (q.trans s2) a0
    .rw [Array.toList_push]
     exact Vals.append Q (.cons ry .nil)
    .have a1:q=(a,o):=by
      have:q∈[(a,o)]:=hq;simpa using this
     subst a1;exact M
   .rw [wT B]at q2
    cases q2
end
section
variable{X:Cx}{pos gp:Pos}
theorem qkx(hc:X.calm=true)(hd:X.A.depth<recursionLimit)(hok:X.calm=true->X.A.handled=none):GCall X .tuple (.type "tuple"):=by
 intro pins s σ H ι a ds gu g mt me ρ S Q gh h;obtain⟨sc,cl,C,code,N',fp,ge,it,o,Z,H4,J,tn,hg,cs,hf,tk,out⟩:=gh;obtain⟨d,S',e,q⟩:=qdU h;have hh:=(cs 0).sus.inv;obtain⟨i,I,_⟩:=hh;have ha:s.heap.get? a=some o:=(I.pin (a,o) (wp _ wH)).1;have lt:Z.heap.objs.size<=s.heap.objs.size:=I.sz;have B:a≠s.heap.objs.size:=wk (wP ha);have O:∀(Q2:List Value->Shared->Prop) (E:06),(∀i j H' z K l c N,d=.t K->K.length<=sizeLine->Dens j H' K l->Vals l (Array.toList c)->Inv (genCx X sc cl C code N' fp ge it (a,o) Z H4) [(s.heap.objs.size,accL c N)] i H' (z.setGen Z.gens.size .running)->GK Z.gens z.gens->Stp ι H j H'->Sto j H' S'->Q2 c.toList z) ->
   wpAny 03 X.A.in1.in1 (collect (.ref a)) Q2 E s:=by
  intro Q2 E hQ;unfold collect;refine wB (wpAny_runValue (w1 xh ?_));rw[vC xg _];refine wB (m:=newList []) (wa (wE ⟨v9 uU _,w1 F.entry_list_iadd ?_⟩));rw[vC uU _];have P:(s.heap.push {cls:=.type "list",data:=.seq ([]:List Value).toArray}).get? a=some o:=wC _ ha;have U:({s with heap:=s.heap.push {cls:=.type "list",data:=.seq ([]:List Value).toArray}}:Shared).TypeIs (.ref a) "generator":=(hg _ P).typeIs;show wpAny _ X.A.in1.in1.in1 (Builtin.List.listExtendWith (.ref s.heap.objs.size) (.ref a) (.ref s.heap.objs.size)) _ _ _;unfold Builtin.List.listExtendWith;refine wB (uz U ?_);have h1:Builtin.List.listSameRef (.ref s.heap.objs.size) (.ref a)=false:=by simp[Builtin.List.listSameRef,Ne.symm B]
  have h2:(Value.type "generator" == Value.type "list")=false:=by decide
  have h3:(Value.type "generator" == Value.type "tuple")=false:=by decide
  simp only[h1,h2,h3,Bool.or_false,vI,uB];refine wB (wpAny_pyIter_gen (hg _ P) ?_);refine wB (vE ?_);unfold Builtin.List.listLengthHint;refine wB (wpAny_specialOf U F.gen_no_len ?_);show wpAny _ X.A.in1.in1.in1 (specialOf (Value.ref a) (Str.ofString "__length_hint__") >>= _) _ _ _;refine wB (wpAny_specialOf U F.gen_no_hint ?_);refine wE ?_;show wpAny _ X.A.in1.in1.in1 (rule "list.extend.makes-room" >>= λ_=>Builtin.List.listTouch (.ref s.heap.objs.size) >>= λ_ =>
   again (.builtin "list.extend.loop" ⟨[.ref s.heap.objs.size,.ref a,.ref s.heap.objs.size],[]⟩)) _ _ _
  refine wB (vc ?_);have n:(s.heap.push {cls:=.type "list",data:=.seq ([]:List Value).toArray}).get? s.heap.objs.size=some {cls:=.type "list",data:=.seq ([]:List Value).toArray}:=wM _ rfl;refine wB ?_;show wpAny _ X.A.in1.in1.in1 (updateSeq s.heap.objs.size (·.push .none) >>= λ_=>updateSeq s.heap.objs.size (·.pop)) _ _ _;refine wB (wpAny_updateSeq n rfl ?_);have r:=vr (Obj.mapSeq (·.push Value.none)) n rfl;refine wpAny_updateSeq r rfl ?_;have L:=vr (Obj.mapSeq (·.pop)) r rfl;refine wE ⟨v9 F.plain_extend_loop _,?_⟩;have C1:=qic (t:=s.toks) (cs (ds.length+1)) tk hf (u:={cls:=.type "list",data:=.seq ([]:List Value).toArray}) (wM _ rfl) λv z=>by cases z
  have C2:=qdT (t:=s.toks) C1 tk lt (λq hq=>by
   have a0:q=(a,o):=by
    have:q∈[(a,o)]:=hq;simpa using this
   subst a0;exact B) (λb x hb ex=>(wy _ _ (Ne.symm hb)).trans ((wy _ _ (Ne.symm hb)).trans ex)) L λv z=>by cases z
  refine qir (hok hc) hd hg tk (p:=s.heap.objs.size) lt B (ds.length+1) 0 ρ [] [] #[] S ι H _ _ (vP _) 00 rfl .nil C2 e λi j H' z K l c N ed el W vv Iz gk s1 M=>?_
  have a1:z.heap.get? s.heap.objs.size=some (accL c N):=(Iz.pin (s.heap.objs.size,accL c N) (wG _ (w6.mpr rfl))).1;show wpAny _ _ (load s.heap.objs.size >>= _) _ _ z;exact wB (wpAny_load a1 (wE (hQ i j H' z K l c N ed el W vv Iz gk s1 M)))
 have new:codeAny 03 X.A.in1 (.call (.builtin "tuple.__new__") ⟨[.type "tuple",.ref a],[]⟩) (wants (λobj f=>f.TypeIs obj "tuple"/\EP X pins σ Q obj f) X.xe) s:=by
  refine codeAny_of_tree (?_:wpAny _ X.A.in1.in1 (do checkBuiltinCall "tuple.__new__" ⟨[.type "tuple",.ref a],[]⟩;again (.builtin "tuple.__new__" ⟨[.type "tuple",.ref a],[]⟩)) _ _ s);refine wB (uu (F.newCall_tuple_1 _) (wE ⟨v9 xM _,w1 F.entry_tuple_new ?_⟩));rw[vC xM];have k1:=sub_tuple_self;have k2:=init_tuple_lookup;have k3:=madeHere_tuple;have U:s.TypeIs (.ref a) "generator":=(hg _ ha).typeIs;wp_walk using uz U,O;intro i j H' z K l c N ed el W vv Iz gk s1 M;refine wB (m:=Builtin.Tuple.tupleExact c.toList.toArray) ?_;unfold Builtin.Tuple.tupleExact;have hsz:c.size=K.length:=by rw[W.length,vv.length,vh]
  refine wa (wE ?_) (by
   have:c.toList.toArray.size<=sizeLine:=by rw[ur,hsz];exact el
   exact this)
  have e2:c.toList.toArray=c:=ur ..;rw[e2];subst ed;have I2:=out _ i H' z Iz gk;have Y:H' z.heap.objs.size=none:=I2.hok.fresh (wN _);refine⟨⟨_,wM _ rfl,rfl⟩,.ref _,upd H' z.heap.objs.size (.t l),I2.laid (t':=z.toks) (λb o e=>wC _ e) (wN _) ⟨?_,c.toList,vv,⟨_,wM _ rfl,rfl,0,by simp⟩,λo q=>by rw[wM _ rfl]at q;cases q;rfl⟩,rfl,zt M W (λv a2 H2 s2 a3 dv=>q v a2 H2 (s1.trans s2) a3 dv) _ Y⟩;rw[<-W.length];exact el
 refine callType_codes uj (F.typeCall_tuple_1 _) F.entry_object_init new λobj f y=>?_
 exact⟨y.1,F.args_object_init_2 obj _,object_init_meets uj.init.lookup uj.made 02 X.prog X.w X.A.in1 _ f ⟨y.1,rfl,y.2⟩⟩
theorem qd5{p:Pos}{tg elt iter:Expr}{ifs:List Expr}{sc:Scope}{fr:List Nat}{xs ts:List Str}{mi:En->Sr->Res (List D×(Sr->Prop))}{g:D->En->Sr->Res En}{mt:En->Sr->Res Bool}{me:05}{c T':Addr}(m:X.calm=true)(b:X.A.depth<recursionLimit)(hok:X.calm=true->X.A.handled=none)(i:Gl X "tuple")(hm:X.mg "tuple"=none)(hi:PI X tg iter (TIg mi))(n:∀x,genFold iter X.env x=pure x)(o:CSc X sc fr xs ts)(r:sc.names.lookup (".0":Str)=some NameKind.local)(j:sc.isCoroutine=false)(d:X.env.code=.ref c)(f:codeTab X.K c T'=true)(B:BlkG X sc (xs++ts) tg iter ifs elt gp g mt me):
  PE X (.Call (.Name "tuple" p) [.GeneratorExp elt [⟨tg,iter,ifs,0⟩] sc gp] [] pos) (T (mGenG .tuple fr ts.length mi g mt me)):=by
 intro pins s u H Q I w;have hb:bootBuiltins "tuple"=some (.type "tuple"):=by decide +kernel
 refine Call_ (z9 I i hm hb ?_ 02 02);obtain⟨ι,S,ρ,y,st,h⟩:=w;dsimp only[mGenG]at h;cases z:mi ρ S with
 |no=>rw[z]at h;exact h.elim
 |err=>rw[z]at h;exact h.elim
 |ok C S1 =>
  obtain⟨ds,gu⟩:=C;rw[z,Res.bind_ok]at h;refine ve (e:=.GeneratorExp elt [⟨tg,iter,ifs,0⟩] sc gp) (rest:=[]) ?_ rfl rfl;refine vt (thn (qb6 m b hi n o r j d f B I y st z) λv s' ⟨a,l,H',ev,q,E⟩=>?_);subst ev;exact uV (qkx m b hok pins s' u H' l a ds gu g mt me _ S1 Q E (Pst.from h q))
theorem qky{p:Pos}{tg elt iter:Expr}{ifs:List Expr}{sc:Scope}{fr:List Nat}{xs ts:List Str}{mi:En->Sr->Res (List D)}{g:D->En->Sr->Res En}{mt:En->Sr->Res Bool}{me:05}{c T':Addr}(i:X.calm=true)(a:X.A.depth<recursionLimit)(hok:X.calm=true->X.A.handled=none)(f:Gl X "tuple")(hm:X.mg "tuple"=none)(hi:PI X tg iter (TIt mi))(j:∀x,genFold iter X.env x=pure x)(l:CSc X sc fr xs ts)(m:sc.names.lookup (".0":Str)=some NameKind.local)(h:sc.isCoroutine=false)(b:X.env.code=.ref c)(d:codeTab X.K c T'=true)(B:BlkG X sc (xs++ts) tg iter ifs elt gp g mt me):
  PE X (.Call (.Name "tuple" p) [.GeneratorExp elt [⟨tg,iter,ifs,0⟩] sc gp] [] pos) (T (mGen .tuple fr ts.length mi g mt me)):=by
 rw[<-qga];exact qd5 i a hok f hm (pi_g hi) j l m h b d B
end
section
variable{X:Cx}{F:Fs}{N:Nat}{pos:Pos}
theorem qgz(fr:List Nat)(xs ts:List Str){p gp:Pos}{tg elt iter:Expr}{ifs:List Expr}{sc:Scope}{k:Nat}{c T':Addr}{t:CT}{it:CI}{i:CBs}{j:CE}(l:Room k X.A)(gb:Gb X.mg)(a:X.env.code=.ref c)(b:codeTab X.K c T'=true)(hi:QI X tg iter (TIt (evI F it)))(rt:∀cl C code fp it o s H,QG (genCx X sc cl C code (xs++ts) fp (.GeneratorExp elt [⟨tg,iter,ifs,0⟩] sc gp) it o s H) tg (TGt (asg F t)))(ri:∀cl C code fp it o s H,QTl (genCx X sc cl C code (xs++ts) fp (.GeneratorExp elt [⟨tg,iter,ifs,0⟩] sc gp) it o s H) ifs (TB (tsts F i)))(re:∀cl C code fp it o s H,QE (genCx X sc cl C code (xs++ts) fp (.GeneratorExp elt [⟨tg,iter,ifs,0⟩] sc gp) it o s H) elt (T (ev F j)))(m:X.calm=true:=by rfl)(d:Gl X "tuple":=by rfl)(n:∀x,genFold iter X.env x=pure x:=by intro _;rfl)(h:cscB X.env.scope.names X.N sc fr xs ts=true:=by rfl)(q:sc.names.lookup (".0":Str)=some NameKind.local:=by rfl)(f:sc.isCoroutine=false:=by rfl):QE X (.Call (.Name "tuple" p) [.GeneratorExp elt [⟨tg,iter,ifs,0⟩] sc gp] [] pos) (T (ev F (.gen .tuple fr ts.length j t it i))):=by
 delta QE;delta QI at hi;delta QG at rt;delta QTl at ri;delta QE at re;exact(qky m l.depth (λ_=>l.hd) d gb.tuple hi n (yy h) q f a b ⟨rt,ri,re⟩)
end
section
variable{X:Cx}{pos:Pos}{tg:Expr}
noncomputable def mX(m:05):En->Sr->Res (List D×(Sr->Prop)):=λρ S=>(m ρ S).bind λx S1=>match refX x S1 with
 |some p=>.ok p S1
 |none=>.no
theorem i_X{e:Expr}{m:05}(h:PE X e (T m)):PI X tg e (TIg (mX m)):=PIimp (qbj h) λs H R o=>by
 obtain⟨ι,S,ρ,q,st,p⟩:=o;refine⟨ι,S,ρ,q,st,?_⟩;dsimp only[mX]at p;cases z:m ρ S with
 |no=>rw[z]at p;exact p
 |err=>rw[z]at p;exact p
 |ok d S1 =>
  rw[z,Res.bind_ok]at p;intro v c f s1 b i;cases d with
  |ref n =>
   obtain⟨a,rfl,ha⟩:=i;cases zn:S1[n]? with
   |none=>simp only[refX,zn]at p
   |some so =>
    cases so with
    |l l =>
     simp only[refX,zn]at p;obtain⟨_,xs,r,_⟩:=b.obj n a _ ha zn;exact .inl ⟨a,rfl,⟨xs,.inl (.inl r)⟩,p c f _ s1 b (qdO ha)⟩
    |dic l=>simp only[refX,zn]at p
    |dis l=>simp only[refX,zn]at p
  |t l =>
   obtain⟨a,xs,rfl,hn,ha,j⟩:=i;exact .inr ⟨a,rfl,⟨xs,.inl (.inl ha)⟩,p c f _ s1 b (qf3 hn ha j).g⟩
  |l l =>
   obtain⟨a,xs,rfl,hn,ha,j⟩:=i;exact .inl ⟨a,rfl,⟨xs,.inl ha⟩,p c f _ s1 b (qf2 hn ha j).g⟩
  |_=>exact p.elim
end
section
variable{X:Cx}{F:Fs}{N:Nat}{pos:Pos}
theorem qkz{tg iter:Expr}{body:List Stmt}{c:CE}{t:CT}{a:CSs}(hi:QE X iter (T (ev F c)))(b:QG X tg (TGt (asg F t)))(hb:QSs X body (TSm (exs F N a)))(f:PassesOwn 03 X.A X.env X.xe:=by exact PassesOwn.never)(h:X.calm=true:=by rfl)(i:∀x,foldedSetIterable iter X.env x=pure x:=by intro _;rfl):QS X (.For tg iter body [] pos) (TSm (ex F N (.forX t c a))):=by
 have e:ex F N (.forX t c a)=λρ S=>(mX (ev F c) ρ S).bind λp S1=>endG p.2 (forLoop (λd ρ S=>(grd p.2 S (asg F t d ρ S)).bind λρ1 S1=>exs F N a ρ1 S1) p.1 ρ S1):=by
  funext ρ S;unfold mX;simp only[ex];cases ev F c ρ S with
  |ok d S1 =>
   cases hr:refX d S1 <;> simp only[Res.bind,hr]
  |err=>rfl
  |no=>rfl
 rw[e];delta QS;delta QE at hi;delta QG at b;delta QSs at hb;exact(qf4 f h (i_X hi) b hb i)
theorem qis{w:GW}{fr:List Nat}{nt:Nat}{a c:CE}{t:CT}{b:CBs}:mGenG w fr nt (mX (ev F c)) (asg F t) (tsts F b) (ev F a)=ev F (.genX w fr nt a t c b):=by
 funext ρ S;unfold mGenG mX;simp only[ev];cases ev F c ρ S with
 |ok d S1 =>
  cases hr:refX d S1 <;> simp only[Res.bind,hr]
 |err=>rfl
 |no=>rfl
theorem qe8(fr:List Nat)(xs ts:List Str){p gp:Pos}{tg elt iter:Expr}{ifs:List Expr}{sc:Scope}{k:Nat}{c T':Addr}{t:CT}{i:CE}{j:CBs}{l:CE}(m:Room k X.A)(gb:Gb X.mg)(a:X.env.code=.ref c)(b:codeTab X.K c T'=true)(hi:QE X iter (T (ev F i)))(rt:∀cl C code fp it o s H,QG (genCx X sc cl C code (xs++ts) fp (.GeneratorExp elt [⟨tg,iter,ifs,0⟩] sc gp) it o s H) tg (TGt (asg F t)))(ri:∀cl C code fp it o s H,QTl (genCx X sc cl C code (xs++ts) fp (.GeneratorExp elt [⟨tg,iter,ifs,0⟩] sc gp) it o s H) ifs (TB (tsts F j)))(re:∀cl C code fp it o s H,QE (genCx X sc cl C code (xs++ts) fp (.GeneratorExp elt [⟨tg,iter,ifs,0⟩] sc gp) it o s H) elt (T (ev F l)))(n:X.calm=true:=by rfl)(d:Gl X "tuple":=by rfl)(q:∀x,genFold iter X.env x=pure x:=by intro _;rfl)(h:cscB X.env.scope.names X.N sc fr xs ts=true:=by rfl)(r:sc.names.lookup (".0":Str)=some NameKind.local:=by rfl)(f:sc.isCoroutine=false:=by rfl):QE X (.Call (.Name "tuple" p) [.GeneratorExp elt [⟨tg,iter,ifs,0⟩] sc gp] [] pos) (T (ev F (.genX .tuple fr ts.length l t i j))):=by
 delta QE;delta QE at hi;delta QG at rt;delta QTl at ri;delta QE at re;rw[<-qis];exact(qd5 n m.depth (λ_=>m.hd) d gb.tuple (i_X hi) q (yy h) r f a b ⟨rt,ri,re⟩)
end
structure Mk (H0:Hp) (D:Addr) (as:01) (H:Hp):Prop where
 nd:as.Nodup
 nD:D∉as
 new:∀p∈as,H0 p=none/\H p=some (.l [])
 out:H D=some (.l (as.map .ref))
 oth:∀b,b≠D->b∉as->H b=H0 b
def Mk.start{H0:Hp}{D:Addr}:Mk H0 D [] (upd H0 D (.l [])) :=
 ⟨.nil,by simp,by simp,qB,λb h _=>qm h⟩
def Mk.step{H0 H:Hp}{D p:Addr}{as:01}(m:Mk H0 D as H)(h:H p=none):Mk H0 D (as++[p]) (upd (upd H p (.l [])) D (.l (as.map .ref++[.ref p]))):=by
 have c:p≠D:=λz=>by rw[z,m.out]at h;cases h
 have d:p∉as:=λz=>by rw[(m.new p z).2]at h;cases h
 refine⟨?_,?_,λq n=>?_,by rw[qB];simp,λb l f=>?_⟩
 .rw [vX]
  exact⟨m.nd,by simp,λa ha b hb e=>d (by rw[w6.mp hb]at e;rw[<-e];exact ha)⟩
 .simp only[w9,w6,not_or]
  exact⟨m.nD,Ne.symm c⟩
 .rcases w9.mp n with z|z
  .have i:q≠D:=λe=>m.nD (e ▸ z)
   have j:q≠p:=λe=>d (e ▸ z)
   exact⟨(m.new q z).1,by rw[qm i,qm j];exact(m.new q z).2⟩
  .obtain rfl:=w6.mp z
   exact⟨by rw[<-m.oth q c d];exact h,by rw[qm c];exact qB⟩
 .simp only[w9,w6,not_or]at f
  rw[qm l,qm f.2];exact m.oth b l f.1
def Mk.stp{ι:01}{H0 H:Hp}{D:Addr}{as:01}(m:Mk H0 D as H)(b:H0 D=none):Stp ι H0 (ι++as++[D]) H where
 pre:=by rw[wf];exact List.prefix_append _ _
 new:=λa h=>by
  simp only[w9,w6]at h;rcases h with (h|h)|h
  .exact .inl h
  .exact .inr (m.new a h).1
  .rw [h];exact .inr b
 keep:=λa o e _ _=>by
  rw[m.oth a (λz=>by rw[z,b]at e;cases e) (λz=>by rw[(m.new a z).1]at e;cases e)];exact e
 there:=λa h=>by
  by_cases c:a=D
  .rw [c,m.out];simp
  .by_cases d:a∈as
   .rw [(m.new a d).2];simp
   .rw [m.oth a c d];exact h
def qaY{ι:01}{H:Hp}:∀(as:01) (n:Nat),(∀i,i<as.length->ι[n+i]?=as[i]?)->Dens ι H ((List.range as.length).map λi=>D.ref (n+i)) (as.map .ref)
 |[],_,_=>rfl
 |a::r,n,h=>by
  have e:(List.range (a::r).length).map (λi=>D.ref (n+i))=D.ref n::(List.range r.length).map λi=>D.ref (n+1+i):=by
   rw[wj,List.range_succ_eq_map,wU,wJ];congr 1;exact wo λi _=>by simp only[Function.comp_apply];congr 1;lia
  rw[e];refine⟨.ref a,r.map .ref,rfl,⟨a,rfl,by simpa using h 0 (by simp)⟩,qaY r (n+1) λi hi=>?_⟩;have:=h (i+1) (by simpa using hi);rw[show n+1+i=n+(i+1) by lia,this];simp
def Mk.sto{ι:01}{H0 H:Hp}{D:Addr}{as:01}{S:Sr}(m:Mk H0 D as H)(j:H0 D=none)(st:Sto ι H0 S):
  Sto (ι++as++[D]) H (S++List.replicate as.length (.l [])++[.l ((List.range as.length).map λi=>.ref (S.length+i))]):=by
 have sp:=m.stp (ι:=ι) j;have f:∀a∈ι,a≠D/\a∉as:=λa ha=>⟨λz=>st.there ha (by rw[z];exact j),λz=>st.there ha (m.new a z).1⟩
 have nd:(ι++as++[D]).Nodup:=by
  rw[vX,vX];refine⟨⟨st.nd,m.nd,λa ha b hb e=>(f a ha).2 (e ▸ hb)⟩,by simp,λa ha b hb e=>?_⟩;rw[w6.mp hb]at e;subst e;rcases w9.mp ha with z|z
  .exact (f _ z).1 rfl
  .exact m.nD z
 refine⟨by simp[st.len],nd,λn a so e1 c=>?_⟩;by_cases hn:n<ι.length
 .rw [wf,wQ hn]at e1
  rw[wf,wQ (by rw[<-st.len];exact hn)]at c;have:=f a (wc e1);exact(st.obj n a so e1 c).mono sp (m.oth a this.1 this.2)
 .by_cases l:n<ι.length+as.length
  .have h:=e1
   rw[wQ (by simp;lia),wI 00]at e1;rw[wQ (by simp[<-st.len];lia),wI (by rw[<-st.len];lia),vF]at c;split at c
   .cases c
    exact⟨⟨n,h,rfl⟩,[],(m.new a (wc e1)).2,rfl⟩
   .cases c
  .have o:=(wO.mp e1).1
   simp at o;have p:n=ι.length+as.length:=by lia
   subst p;have h:=e1;rw[wI (by simp)]at e1;rw[wI (by simp[<-st.len])]at c;simp[<-st.len]at e1 c;subst e1 c;refine⟨⟨_,h,qU λd hd=>?_⟩,_,m.out,?_⟩
   .obtain ⟨i,hi,rfl⟩:=wW.mp hd
    exact wq (by have:=vY.mp hi;lia)
   .refine qaY as ι.length λi hi=>?_
    rw[wQ (by simp;lia),wI 00];congr 1;lia
section
variable{X:Cx}{pos:Pos}
theorem qgA{t:Str}{E F:Pos}{iter:Expr}{sc:Scope}{fp:01}{it c a:Addr}{tn:Nat->Heap->Prop}{j:Nat}{R:Result->Shared->Prop}{xs:List V}(n:X.xe=λ_ _=>False)(hc:X.calm=true)(J:X.ex=fp)(L:X.pn=[])(T':Turn X.prog X.w X.K (.Name t E) (Itt X.K a) fp it tn)(hg:PG X (.Name t E) (gName j)){H0 H:Hp}{σ:St}{s:Shared}(M:H0 c=none)(ha:H0 a=some (.t xs))(hl:xs.length<=sizeLine)(I:Inv X [] σ H s)(m0:Mk H0 c [] H)(h0:tn 0 s.heap)(N:∀b∈fp,H b=none)(fin:∀(q:St) (H':Hp) (as:01) (s':Shared),Inv X [] q H' s'->Mk H0 c as H'->as.length=xs.length->R (.ok .next) s'):
  codeAny 03 X.A (.compLoop (.ListComp (.List [] F) [⟨.Name t E,iter,[],0⟩] sc pos) 0 (.ref it) (.ref c) X.env) R s:=by
 refine codeAny_loop rfl (λk s'=>∃(q:St) (H':Hp) (as:01),k=xs.length-as.length/\as.length<=xs.length/\Inv X [] q H' s'/\tn as.length s'.heap/\(∀b∈fp,H' b=none)/\Mk H0 c as H') ?_
  xs.length ⟨σ,H,[],by simp,vP _,I,h0,N,m0⟩
 rintro k s1 ⟨f,B,as,rfl,hi,I1,t1,f1,m1⟩;have d:∀{H':Hp},(∀b∈fp,H' b=none)->∀b∈fp,FpOk X [] H' b:=λhn b hb=>by
  have h:b∈X.ex:=by rw[J];exact hb
  exact⟨hn b hb,(I.ok.exf b h).1,λz=>I.ok.exfs b h z,.inl h,(I.ok.exf b h).2,λp l=>by rw[L]at l;exact absurd l (by simp)⟩
 have O:a≠c:=λz=>by rw[z,M]at ha;cases ha
 have P:∀{Q:01} {H':Hp},Mk H0 c Q H'->H' a=some (.t xs):=λm=>by
  rw[m.oth a O (λz=>by rw[(m.new a z).1]at ha;cases ha)];exact ha
 have sq:SqT X.K B a xs:=.inl (.inl (P m1));show wpAny _ X.A ((compTurn (.ListComp (.List [] F) [⟨.Name t E,iter,[],0⟩] sc pos) 0 (.ref it) (.ref c) X.env).onRaise (λx=>do noteFrame x X.env;theTreesLotGoes x)) _ _ s1;refine wpAny_noted ?_;rw[compTurn_list];refine wB (wu (wB ?_));by_cases C:as.length<xs.length
 .refine thnF (T'.item X rfl rfl rfl hc as.length [] s1 f B _ I1 (d f1) t1 ⟨xs,xs[as.length],sq,wD C⟩) λr s2 ⟨u,S,h2⟩=>?_
  subst S;refine wB (thnF h2 λ_ s3 ⟨x,H3,I3,r3,y3,t3,f3⟩=>?_);obtain rfl:H3=B:=y3.1;have U:=I3.pinned (d f3) (T'.obj _ _ t3);refine wB (wz (hg _ s3 f _ x u (λi v=>v=H3) U r3 rfl) (λ_ s4 ⟨i,v,I4,e4⟩=>?_) λ_ _ z=>by rw[n]at z;exact z.elim);subst e4;refine wB (wE ?_);refine wB (wB (wz (qfw (pos:=F) qbb _ s4 i _ (λy H6=>∃p,y=.ref p/\v p=none/\H6=upd v p (.l [])) I4 ⟨vP _,λp l=>⟨p,rfl,l,rfl⟩⟩) (λy' s6 ⟨y,H6,I6,ry,p,ey,l,e6⟩=>?_) λ_ _ z=>by rw[n]at z;exact z.elim));subst ey e6;have W:c≠p:=λz=>by rw[<-z,m1.out]at l;cases l
  have Y:upd v p (.l []) c=some (.l (as.map .ref)):=by rw[qm W];exact m1.out
  refine wB (wz (jr (X:=X) _ s6 i _ (.ref c) [.ref p] (.ref c) [y'] (λ_ H7=>H7=upd (upd v p (.l [])) c (.l (as.map .ref++[.ref p]))) I6 rfl (.cons ry .nil) ⟨c,as.map .ref,.ref p,rfl,rfl,Y,by rw[wF];exact w8 C hl,rfl⟩) (λ_ s7 ⟨_,H7,Z,_,e7⟩=>?_) λ_ _ z=>by rw[n]at z;exact z.elim);subst e7;have m7:=m1.step l;refine wE (wE ⟨rfl,xs.length-(as++[p]).length,by simp;lia,i,_,as++[p],rfl,by simp;lia,Z.unpinned,?_,λb hb=>?_,m7⟩)
  .rw [wV,vo]
   exact T'.keep _ _ _ t3 λb hb o eo=>(Z.pin (b,o) (wG _ (wG _ (qz hb eo)))).1
  .obtain ⟨o,eo,_⟩:=T'.obj _ _ t3 b hb
   exact(Z.pin (b,o) (wG _ (wG _ (qz hb eo)))).2.1
 .have a0:as.length=xs.length:=by lia
  refine thnF (T'.done X rfl rfl rfl hc as.length [] s1 f B _ I1 (d f1) t1 ⟨xs,sq,by lia⟩) λr s2 ⟨S,I2⟩=>?_
  subst S;exact wE (fin f B as s2 I2 m1 a0)
end
noncomputable def mLls(m:05):En->Sr->Res D:=λρ S=>(m ρ S).bind λx S1=>match x with
 | .t l=>newLls l.length S1
 |_=>.no
section
variable{X:Cx}{pos:Pos}
theorem qgB{t:Str}{E lp:Pos}{iter:Expr}{sc:Scope}{m:05}(hc:X.calm=true)(hi:PE X iter (T m))(hs:∀x,foldedSetIterable iter X.env x=pure x)(h:CSc X sc [] [] [t])(hg:∀cl C fp s H,PG (compCx X sc cl C ([]++[t]) fp s H) (.Name t E) (gName 0)){pins:04}{s:Shared}{F:St}{H:Hp}{Q:VK}{use:Option (Value->Sem Unit)}{Q':06}(I:Inv X pins F H s)(hw:T (mLls m) F H Q)(fin:∀(D C:Addr) (H':Hp) (s':Shared) (m:Str->Option Value),s'.heap.Ns C m->C≠X.env.locals->(∀x c,X.env.cells.lookup x=some c->c≠C)->(H' C=none/\X.s₀.heap.objs.size<=C/\∀p∈X.pn++pins,p.1≠C)->(∀h',Heap.SameBut C s'.heap h'->Inv X pins F H' {s' with heap:=h' })->Q (.ref D) H'->compPost 03 X.A X.xe use Q' (.ref D) C (.ok .next) s'):
  wpAny 03 X.A (comprehension (.ListComp (.List [] lp) [⟨.Name t E,iter,[],0⟩] sc pos) sc X.env (firstIterPos [⟨.Name t E,iter,[],0⟩] pos) (newList []) false (eval iter X.env) use) Q' X.xe s:=by
 obtain⟨ι,S,ρ,er,st,p⟩:=hw;dsimp only[mLls]at p;cases z:m ρ S with
 |no=>rw[z]at p;exact p.elim
 |err=>rw[z]at p;exact p.elim
 |ok dx S1 =>
 rw[z,Res.bind_ok]at p;obtain⟨l,rfl⟩:∃l,dx=.t l:=by
  cases dx with
  |t l=>exact⟨l,rfl⟩
  |_=>exact p.elim
 dsimp only[newLls]at p;by_cases j:l.length<=sizeLine
 rotate_left
 .rw [wT j]at p;exact p.elim
 rw[wR j]at p;obtain⟨cl,CL⟩:=jP (X:=X) (sc:=sc) λx hx hf=>I.ok.has x.1 (h.frees x hx hf)
 refine wpAny_comprehension_free rfl hs CL.eq h.kind h.names ?_;refine thn (qbj (tg:=.Name t E) hi pins s F H (λJ H2=>∃n a ys,Stp ι H n H2/\Sto n H2 S1/\J=Itt X.K a/\H2 a=some (.t ys)/\ys.length=l.length) I ⟨ι,S,ρ,er,st,?_⟩) λxv s1 h1=>thn h1 λa5 s2 h2=>?_
 .rw [z]
  intro v U H' q W hv;obtain⟨a,ys,rfl,hn,ha,dl⟩:=hv;exact .inr ⟨a,rfl,⟨ys,.inl (.inl ha)⟩,U,a,ys,q,W,rfl,ha,dl.length.symm⟩
 obtain⟨it,fp,tn,J,H2,e,I2,T',t2,f2,n,a,ys,q2,r,eJ,Y,L⟩:=h2;subst eJ;subst e;refine wa ?_;have u:H2 s2.heap.objs.size=none:=I2.hok.fresh (wN _);have M:∀b∈fp,b<s2.heap.objs.size:=λb hb=>by
  obtain⟨o,d,_⟩:=T'.obj _ _ t2 b hb;exact wP d
 have B:Inv X pins F (upd H2 s2.heap.objs.size (.l [])) {s2 with heap:=s2.heap.push {cls:=.type "list",dict:=none,data:=.seq ([]:List Value).toArray}} :=
  I2.laid (t':=s2.toks) (λb o e=>wC _ e) (wN _) ⟨vP _,[],0,.nil,wM _ rfl⟩
 have Z:∀b∈fp,FpOk X pins (upd H2 s2.heap.objs.size (.l [])) b:=λb hb=>⟨by rw[qm (wk (M b hb))];exact(f2 b hb).1,(f2 b hb).2⟩
 generalize N:({s2 with heap:=s2.heap.push {cls:=.type "list",dict:=none,data:=.seq ([]:List Value).toArray}}:Shared)=s3 at B ⊢;have O:∀b∈fp,b<s3.heap.objs.size:=λb hb=>by
  rw[<-N];show b<(s2.heap.push _).objs.size;rw[vZ];exact uR (M b hb)
 have t3:tn 0 s3.heap:=T'.keep _ _ _ t2 λb hb o d=>by rw[<-N];exact wC _ d
 refine xj h.nocell (by intro y hy;simp at hy) (λh4 a0 a1=>?_) h.kind;have f:∀b o,s3.heap.get? b=some o->h4.get? b=some o:=λb o d=>a1.extBut b o (wk (wP d)) (wC _ d)
 have I4:=qab (tk:=s3.toks+([]:List (Str×Value)).length) B h.kind h.nocell CL Z O h.frs a0 f;have t4:tn 0 h4:=T'.keep _ _ _ t3 λb hb o d=>f b o d
 have i:codeAny 03 X.A (.compLoop (.ListComp (.List [] lp) [⟨.Name t E,iter,[],0⟩] sc pos) 0 (.ref it) (.ref s2.heap.objs.size) (compEnvC sc cl s3.heap.objs.size X.env)) (compPost 03 X.A X.xe use Q' (.ref s2.heap.objs.size) s3.heap.objs.size) {s3 with heap:=h4,toks:=s3.toks+([]:List (Str×Value)).length}:=by
  refine qgA (X:=compCx X sc cl s3.heap.objs.size ([]++[t]) fp s3 (upd H2 s2.heap.objs.size (.l []))) (pos:=pos) rfl hc rfl rfl T' (hg _ _ _ _ _) u Y (by rw[L];exact j) I4 Mk.start t4 (λb hb=>(Z b hb).1) λa6 H' as s' J' mk a2=>?_
  obtain⟨m',a3,_⟩:=J'.loc;refine fin s2.heap.objs.size s3.heap.objs.size H' s' m' a3 (vl B.lt) (λx c ec ez=>?_) ⟨J'.free,B.sz,λq hq ez=>by have:=wP (B.pin q hq).1;rw[ez]at this;exact absurd this (vR _)⟩ (λh5 a4=>qac B Z J' a4) ?_
  .obtain ⟨v,o,d,_⟩:=B.cell x c ec
   rw[ez]at d;exact absurd (wP d) (vR _)
  .have el:as.length=l.length:=a2.trans L
   have P:=mk.sto u r;rw[el]at P;refine p (.ref s2.heap.objs.size) _ H' (q2.trans (mk.stp u)) P ⟨_,rfl,?_⟩;rw[wI (by simp[r.len,el])];simp[r.len,el]
 exact codeAny_compStart_list i (T'.self _ 0 _ _ _ t4 i)
theorem qgC{t:Str}{n r:Pos}{iter:Expr}{sc:Scope}{u:05}{i:Nat}{y:Str}{h c:Pos}(Y:X.calm=true)(hi:PE X iter (T u))(Z:∀x,foldedSetIterable iter X.env x=pure x)(C':CSc X sc [] [] [t])(hg:∀cl C fp s H,PG (compCx X sc cl C ([]++[t]) fp s H) (.Name t n) (gName 0))(hN:X.N.Nodup)(hy:X.N[i]?=some y)(Q:X.env.scope.names.lookup y=some .local)(w:swapsWith (.ListComp (.List [] r) [⟨.Name t n,iter,[],0⟩] sc pos) (some (.Name y h)) c.line X.env=pure true):
  PS X (.Assign [.Name y h] (.ListComp (.List [] r) [⟨.Name t n,iter,[],0⟩] sc pos) c) (TSm λρ S=>(mLls u ρ S).bind λd S1=>.ok (.nx (ρ.set i (some d))) S1):=λpins s B H D I hw=>by
 obtain⟨ι,S,ρ,U,st,p⟩:=hw;rw[exec_Assign_Name_used _ _ _ _ w];refine wB (wu (wB ?_));show wpAny _ X.A (do let _ <-comprehension (.ListComp (.List [] r) [⟨.Name t n,iter,[],0⟩] sc pos) sc X.env _ (newList []) false (eval iter X.env) (some (assign (.Name y h) X.env))) _ _ s;have hT:T (mLls u) B H (λv E=>D.nx (B.set i (some v)) E):=⟨ι,S,ρ,U,st,PsF.bind p λa S1 F E b s1 J ra p1=>p1 F E (Stp.refl _ _) J _ ((U.mono s1).set ra)⟩;refine wB (wz (qgB (use:=some (assign (.Name y h) X.env)) (Q':=λ_ s'=>SP X pins D .next s') Y hi Z C' hg I hT λW C H' s' m hn j l f hI q=>?_) (λ_ s' hq=>wE (wE hq)) λ_ _ e=>e);show wpAny _ X.A (assign (.Name y h) X.env (.ref W)) _ _ _;have I0:Inv X pins B H' s':=by
  have:=hI s'.heap (Heap.SameBut.refl ..);exact this
 refine wpAny_assign_Name (jp I0 hN hy (.inl Q) (v:=.ref W) rfl (λK L M=>?_) (.inr Q));obtain⟨a,sb,ha⟩:=M;have O:C≠a:=by
  rcases ha with z|z
  .rw [z];exact j
  .exact λq=>l y a z q.symm
 refine⟨m,hn.sameBut sb O,λh' P=>?_⟩;have I3:=L.turned (h':=h') (t':=K.toks) (it:=C) (λb o hb e=>P.extBut b o hb e) f.1 j (.inr f.2.1) l f.2.2;exact⟨_,H',I3,q⟩
end
section
variable{X:Cx}{F:Fs}{N:Nat}{pos:Pos}
theorem qkA(i:Nat){x:Str}(a:nodupB X.N=true:=by rfl)(hi:X.N[i]?=some x:=by rfl)(b:Loc X.env.scope x:=by first|exact Or.inl rfl|exact Or.inr rfl)(c:X.fn x=true\/X.env.scope.names.lookup x=some .local:=by first|exact .inl rfl|exact .inr rfl):PG X (.Name x pos) (gName i):=qdz (zo a) hi b c
theorem qgD(i:Nat){t:Str}{b j:Pos}{iter:Expr}{sc:Scope}{c:CE}{y:Str}{l a:Pos}(hi:QE X iter (T (ev F c)))(m:∀cl C fp s H,PG (compCx X sc cl C ([]++[t]) fp s H) (.Name t b) (gName 0))(n:X.calm=true:=by rfl)(o:∀x,foldedSetIterable iter X.env x=pure x:=by intro _;rfl)(h:cscB X.env.scope.names X.N sc [] [] [t]=true:=by rfl)(p:nodupB X.N=true:=by rfl)(q:X.N[i]?=some y:=by rfl)(r:X.env.scope.names.lookup y=some .local:=by rfl)(f:swapsWith (.ListComp (.List [] j) [⟨.Name t b,iter,[],0⟩] sc pos) (some (.Name y l)) a.line X.env=pure true:=by rfl):
  QS X (.Assign [.Name y l] (.ListComp (.List [] j) [⟨.Name t b,iter,[],0⟩] sc pos) a) (TSm (ex F N (.set (.v i) (.lls c)))):=by
 have e:ex F N (.set (.v i) (.lls c))=λρ S=>(mLls (ev F c) ρ S).bind λd S1=>.ok (.nx (ρ.set i (some d))) S1:=by
  funext ρ S;unfold mLls;simp only[ex,asg,ev]
  all_goals (cases ev F c ρ S with
   |ok d S1=>cases d <;> rfl
   |err=>rfl
   |no=>rfl)
 rw[e];delta QS;delta QE at hi;exact(qgC n hi o (yy h) m (zo p) q r f)
end
variable{X:Cx}
end R
namespace R
open PySem PySem.Spec L2 SeqAt
open PyProof.Rows hiding St
section
variable{M:Model}{B:Around}{Φ:End->Shared->Prop}{k:Code}{s:Shared}
theorem qc8(a:PySem.Ctx)(c:Code)(h:Option Value)(p:Pos)(b:Result->Sem Fin)(g:Bool)(d:List Value):(a.goto c).over [.ret b h g d a.code p []]=a.enter c h p:=by
 rfl
theorem qgE{c:Code}{h:Option Value}{g:Bool}{a:List Value}{b:Result->Sem Fin}(i:∀p,Sg M B Φ c (M.den c) [.ret b h g a k p []] s):Sg M B Φ k (.call c h g a b) [] s:=λG p j l=>by
 subst j;obtain⟨x,z,r,q⟩:=i p (G.goto c) p rfl (l.goto c);refine⟨x,z,?_,q⟩;have e:=qc8 G c h p b g a;generalize f:M.den c=t at r;generalize m:G.goto c=G' at r e;generalize d:[Frame.ret b h g a G.code p []]=fl at r e;cases r <;> first|(cases d;done)|skip
 .rename_i r1 r2
  cases d;rw[e,<-f]at r1;subst m;exact .call r1 r2
 .rename_i r1
  cases d;rw[e,<-f]at r1;exact .callSusp r1
 .rename_i n _ _ _
  cases d;exact absurd n (by simp[splitAtGen])
theorem qkB{a:Result->Sem Fin}{h:Option Value}{g:Bool}{c:List Value}{c1:Code}{b:Pos}{kp:List Value}{fs:List Frame}(r:Result)(d:Sg M B Φ c1 (a r) fs s):Sg M B Φ k (leafOf r) (.ret a h g c c1 b kp::fs) s:=λG p i f=>by
 obtain⟨x,z,q,w⟩:=d (G.goto c1) b rfl (f.goto c1);exact⟨x,z,.pop r q,w⟩
theorem qe9{v:Value}{vs:List Value}{f:Resume->Sem Fin}{l:List Frame}(a:splitAtGen l=none)(h:∀p,Φ (.susp v false vs f k p l) s):Sg M B Φ k (.yield v false vs f) l s:=λG p b c=>by
 subst b;exact⟨_,s,Runs.yield' l a,h p⟩
theorem qaZ(elt t1 i1 t2 i2:Expr)(sc:Scope)(pos:Pos)(it a:Value)(env:Env):
  compTurn (.GeneratorExp elt [⟨t1,i1,[],0⟩,⟨t2,i2,[],0⟩] sc pos) 0 it a env=(do
   standAt i1.pos
   match <-pyNext it with
   |none=>pure (.done .next)
   |some v =>
    letOwnedTupleGo t1 it v
    assign t1 env v
    let x <-eval i2 env
    standAt i2.pos
    let x <-foldedSetIterable i2 env x
    let y <-holding [x] (pyIter x)
    let _ <-runOwn (.compStart (.GeneratorExp elt [⟨t1,i1,[],0⟩,⟨t2,i2,[],0⟩] sc pos) 1 y a env) env
    again (.compLoop (.GeneratorExp elt [⟨t1,i1,[],0⟩,⟨t2,i2,[],0⟩] sc pos) 0 it a env)):=by rfl
theorem qck(elt t1 i1 t2 i2:Expr)(sc:Scope)(pos:Pos)(it a:Value)(env:Env):
  compTurn (.GeneratorExp elt [⟨t1,i1,[],0⟩,⟨t2,i2,[],0⟩] sc pos) 1 it a env=(do
   standAt i2.pos
   match <-pyNext it with
   |none=>pure (.done .next)
   |some v =>
    letOwnedTupleGo t2 it v
    assign t2 env v
    (do let v <-eval elt env;standAt elt.pos;let _ <-yieldOut env v)
    again (.compLoop (.GeneratorExp elt [⟨t1,i1,[],0⟩,⟨t2,i2,[],0⟩] sc pos) 1 it a env)):=by rfl
theorem qkC{c:Code}{env:Env}{f:Flow->Sem PySem.Fin}{e:Value->Sem Unit}(a:∀p,Sg M B Φ c (M.den c) [.ret (λr=>((match r with|.ok x=>(.pure x:Sem Flow)|.error x=>.raise x).onRaise (λx=>do
   if(<-field x 1) == Value.none then unsupported "frame.own-activation:exception-without-traceback"
   setFlight x env.frame) >>= f).onRaise e) none false [] k p []] s):Sg M B Φ k ((runOwn c env >>= f).onRaise e) [] s:=by
 exact qgE a
end
inductive GM (τ:Type) where
 |fin (S:Sr)|yl (t:τ) (v:D) (S:Sr)|bad
noncomputable abbrev SU(ε τ:Type):=ε->τ->Sr->List Addr->Hp->List (Addr×Obj)->Shared->Prop
section
variable{ε τ:Type}
def Pq(X:Cx)(Su:SU ε τ)(R:GenState->ε->τ->Sr->Prop)(h:GM τ)(pins:04)(ι:01)(H:Hp):End->Shared->Prop:=λx z=>match x with
 | .ret r=>r=.ok .next/\∃b a H' c,h=.fin b/\Inv X pins c H' z/\Stp ι H a H'/\Sto a H' b
 | .susp v gd vs f k p l=>(End.susp v gd vs f k p l).quiet=true/\∃i t' d b a H' y,h=.yl t' d b/\Stp ι H a H'/\Den a H' d y/\RelV y v/\Su i t' b a H' pins z/\R (End.susp v gd vs f k p l).genState i t' b
noncomputable def PwB(X:Cx)(Su:SU ε τ)(nx:τ->Sr->GM τ)(M:Model)(B:Around)(R:GenState->ε->τ->Sr->Prop)(gs:GenState)(e:ε)(t:τ)(S:Sr):Prop :=
 ∀pins ι H s,Su e t S ι H pins s->nx t S≠.bad->Go M B (Pq X Su R (nx t S) pins ι H) s gs
noncomputable def PgW(X:Cx)(Su:SU ε τ)(nx:τ->Sr->GM τ)(M:Model)(B:Around)(gs:GenState)(e:ε)(t:τ)(S:Sr):Prop :=
 ∀R:GenState->ε->τ->Sr->Prop,(∀gs e t S,PwB X Su nx M B R gs e t S->R gs e t S)->R gs e t S
variable{X:Cx}{Su:SU ε τ}{nx:τ->Sr->GM τ}{M:Model}{B:Around}
theorem Pq.mono{R i:GenState->ε->τ->Sr->Prop}{j:GM τ}{pins:04}{ι:01}{H:Hp}{x:End}{z:Shared}(k:∀gs e t S,R gs e t S->i gs e t S)(h:Pq X Su R j pins ι H x z):Pq X Su i j pins ι H x z:=by
 cases x with
 |ret r=>exact h
 |susp v g vs f c p l =>
  obtain⟨a,m,t',d,n,b,H',y,b1,b2,o,q,s,u⟩:=h;exact⟨a,m,t',d,n,b,H',y,b1,b2,o,q,s,k _ _ _ _ u⟩
theorem Go.mono{b a:End->Shared->Prop}{s:Shared}{gs:GenState}(h:Go M B b s gs)(k:∀x z,b x z->a x z):Go M B a s gs:=by
 cases gs with
 |fresh c=>exact Sg.mono h k
 |suspended f l c p fs cl=>exact Sg.mono h k
 |running=>exact h
 |finished=>exact h
theorem PgW.fold{gs:GenState}{e:ε}{t:τ}{S:Sr}(h:PwB X Su nx M B (PgW X Su nx M B) gs e t S):PgW X Su nx M B gs e t S:=λR a =>
 a _ _ _ _ λpins ι H s u nb=>(h pins ι H s u nb).mono λ_ _=>Pq.mono λ_ _ _ _ w=>w R a
structure SuOk (X:Cx) (Su:SU ε τ):Prop where
 inv:∀{e t S ι H pins s},Su e t S ι H pins s->(∃σ,Inv X pins σ H s)/\Sto ι H S
 gens:∀{e t S ι H pins s} {g':Array GenState},Su e t S ι H pins s->GK X.s₀.gens g'->Su e t S ι H pins {s with gens:=g' }
theorem qkD{R:GenState->ε->τ->Sr->Prop}{A:Around}{n:Nat}{gs:GenState}{e:ε}{t:τ}{S:Sr}{ι:01}{H:Hp}{pins:04}{s:Shared}{a:Addr}{o:Obj}{C:Array GenState}{Q:Option Value->Shared->Prop}{E:06}(so:SuOk X Su)(Y:A.handled=none)(hd:A.depth<recursionLimit)(Z:(a,o)∈X.pn)(hg:∀h:Heap,h.get? a=some o->h.IsGen a n)(K:X.s₀.gens=C.push .running)(hn:n=C.size)(U:Su e t S ι H pins (s.setGen n .running))(hs:s.gens[n]?=some gs)(pw:PwB X Su nx 03 A.in1 R gs e t S)(hb:nx t S≠.bad)(fin:∀i b H' c z,nx t S=.fin i->Inv X pins c H' (z.setGen n .running)->GK C z.gens->Stp ι H b H'->Sto b H' i->Q none z)(yl:∀F t' d i b H' y v z m,nx t S=.yl t' d i->Stp ι H b H'->Den b H' d y->RelV y v->Su F t' i b H' pins (z.setGen n .running)->z.gens[n]?=some m->m.bare=true->R m F t' i->Q (some v) z):
  wpAny 03 A (pyNext (.ref a)) Q E s:=by
 obtain⟨⟨σ,I⟩,_⟩:=so.inv U;have hp:s.heap.get? a=some o:=(I.pin (a,o) (wp _ Z)).1;refine qb3 Y I.nolimit hd (hg _ hp) hs (pw pins ι H _ U hb) λx z q=>?_
 have hsz:GK X.s₀.gens z.gens->z.gens[n]?=some .running/\n<z.gens.size:=λJ=>by
  have e:=J.old n (by rw[K,hn];simp);rw[K,hn]at e;rw[hn];have u:(C.push GenState.running)[C.size]?=some .running:=by simp
  rw[u]at e;exact⟨e,by
   rcases Nat.lt_or_ge C.size z.gens.size with L|L
   .exact L
   .rw [ug L]at e;cases e⟩
 have keep:GK X.s₀.gens z.gens->z.gens.setIfInBounds n .running=z.gens:=λJ=>by
  obtain⟨e1,u⟩:=hsz J;apply Array.ext
  .simp
  .intro j h1 h2
   rw[vi];split
   .rename_i q
    subst q;rw[vx u]at e1;exact(Option.some.inj e1).symm
   .rfl
 have bk:∀{c:St} {H':Hp} (y:GenState),Inv X pins c H' z->Inv X pins c H' ((z.setGen n y).setGen n .running):=λ{c H'} y J=>by
  rw[qbm];exact qae J (g':=z.gens.setIfInBounds n .running) (by rw[keep J.bare];exact J.bare)
 cases x with
 |ret r =>
  obtain⟨e,i,b,H',c,e1,J,s1,N⟩:=q;refine⟨e,λh' hk=>fin i b H' c _ e1 ?_ ?_ s1 N⟩
  .exact (bk .finished J).kept (h':=h') (t':=z.toks) hk
  .refine GK.done (x:=.finished) (g:=(z.gens.setIfInBounds n .finished)) ?_ ?_ rfl
   .have:=(bk .finished J).bare
    rw[K]at this;rw[<-hn];exact this
   .rw [<-hn]
    obtain⟨_,u⟩:=hsz J.bare;simp[u]
 |susp v gd vs f k' p l =>
  obtain⟨P,F,t',d,i,b,H',y,e1,s1,dv,ry,W,O⟩:=q;obtain⟨⟨c,J⟩,_⟩:=so.inv W;refine⟨P,yl F t' d i b H' y v _ _ e1 s1 dv ry ?_ ?_ (End.bare_of_quiet P) O⟩
  .rw [qbm]
   exact so.gens W (g':=z.gens.setIfInBounds n .running) (by rw[keep J.bare];exact J.bare)
  .obtain ⟨_,u⟩:=hsz J.bare
   show(z.gens.setIfInBounds n _)[n]?=_;simp[u]
def AnyS(run:τ->Sr->Res D)(b:GM τ)(d:D)(a:Sr):Prop:=match b with
 | .fin S2=>d=.bl false/\S2=a
 | .yl t' v S2=>(v=.bl true/\d=.bl true/\S2=a)\/(v=.bl false/\run t' S2=.ok d a)
 | .bad=>False
def RunAny(nx:τ->Sr->GM τ)(run:τ->Sr->Res D):Prop:=∀t S d a,run t S=.ok d a->AnyS run (nx t S) d a
end
section
variable{X:Cx}{ε τ:Type}{Su:SU ε τ}{nx:τ->Sr->GM τ}{run:τ->Sr->Res D}
variable{sc:Scope}{cl:List (Str×Addr)}{C:Addr}{code:Value}{N':List Str}{fp:List Addr}{ge:Expr}{it a:Addr}{o:Obj}{s4:Shared}{H4:Hp}
theorem qmj(so:SuOk (genCx X sc cl C code N' fp ge it (a,o) s4 H4) Su)(O:RunAny nx run)(P:X.A.handled=none)(hd:X.A.depth<recursionLimit)(Q:∀h:Heap,h.get? a=some o->h.IsGen a s4.gens.size){gs:GenState}{e:ε}{t:τ}{S:Sr}(W:PgW (genCx X sc cl C code N' fp ge it (a,o) s4 H4) Su nx 03 X.A.in4.in1 gs e t S):∀(ι:01) (H:Hp) (s:Shared) (d:D) (i:Sr) (R:Result->Shared->Prop),Su e t S ι H [] (s.setGen s4.gens.size .running)->s.gens[s4.gens.size]?=some gs->gs.bare=true->run t S=.ok d i ->
  (∀f b H' z c,d=.bl c->Inv (genCx X sc cl C code N' fp ge it (a,o) s4 H4) [] f H' (z.setGen s4.gens.size .running)->GK s4.gens z.gens->Stp ι H b H'->Sto b H' i->R (.ok (.ret (.bool c))) z) ->
  codeAny 03 X.A (.builtin "any.loop" ⟨[.ref a],[]⟩) R s:=by
 refine W (λgs e t S=>∀(ι:01) (H:Hp) (s:Shared) (d:D) (i:Sr) (R:Result->Shared->Prop),Su e t S ι H [] (s.setGen s4.gens.size .running)->s.gens[s4.gens.size]?=some gs->gs.bare=true->run t S=.ok d i ->
  (∀f b H' z c,d=.bl c->Inv (genCx X sc cl C code N' fp ge it (a,o) s4 H4) [] f H' (z.setGen s4.gens.size .running)->GK s4.gens z.gens->Stp ι H b H'->Sto b H' i->R (.ok (.ret (.bool c))) z) ->
  codeAny 03 X.A (.builtin "any.loop" ⟨[.ref a],[]⟩) R s) ?_
 intro gs e t S Y ι H s d i R U Z a0 er l;have q2:=O t S d i er;have nb:nx t S≠.bad:=λz=>by rw[z]at q2;exact q2
 refine w1 F.entry_any_loop ?_;rw[vC F.plain_any_loop];refine wB (m:=pyNext (.ref a)) (qb7 (qkD (X:=genCx X sc cl C code N' fp ge it (a,o) s4 H4) (A:=X.A.in4) so P hd wH Q rfl rfl U Z Y nb (λS2 b H' f z n j p q st=>?_) λe' t' v S2 b H' y u z a1 n q J K L M N ih=>?_))
 .rw [n]at q2
  obtain⟨rfl,rfl⟩:=q2;exact wB (vc (wE (l f b H' z false rfl j p q st)))
 .rw [n]at q2
  rcases q2 with ⟨rfl,rfl,rfl⟩|⟨rfl,q2⟩
  .cases (show y=_ from J)
   cases (show u=Value.bool true from K);refine wB (vE (vT (wB (uv ?_))));rw[wR rfl];obtain⟨⟨r,j⟩,x⟩:=so.inv L;exact wB (vc (wE (l r b H' z true rfl j (GK.done j.bare M N) q x)))
  .cases (show y=_ from J)
   cases (show u=Value.bool false from K);refine wB (vE (vT (wB (uv ?_))));rw[wT 02];exact wE ⟨v9 F.plain_any_loop _,ih b H' z d i R L M N q2 λB E H2 z2 c ec I2 p s2 I=>l B E H2 z2 c ec I2 p (q.trans s2) I⟩
end
structure TwS where
 i:Nat
 ρ:En
 inn:Option (List D×Nat)
structure TwE where
 it:Addr
 fp:List Addr
 tn:Nat->Heap->Prop
 J:It
section
variable(g1:D->En->Sr->Res En)(mi:En->Sr->Res (List D))(g2:D->En->Sr->Res En)(me:En->Sr->Res D)
noncomputable def nxI(k:Sr->GM TwS)(i:Nat)(ρ:En)(ys:List D)(j:Nat):List D->Sr->GM TwS
 |[],S=>k S
 |d::_,S=>match g2 d ρ S with
  | .ok a S1=>match me a S1 with
   | .ok v S2=>.yl ⟨i,ρ,some (ys,j+1)⟩ v S2
   |_=>.bad
  |_=>.bad
noncomputable def nxO:Nat->List D->En->Sr->GM TwS
 |_,[],_,S=>.fin S
 |i,d::r,ρ,S=>match g1 d ρ S with
  | .ok ρ1 S1=>match mi ρ1 S1 with
   | .ok ys S2=>nxI g2 me (λa=>nxO (i+1) r ρ1 a) (i+1) ρ1 ys 0 ys S2
   |_=>.bad
  |_=>.bad
noncomputable def nx2(ds:List D)(t:TwS)(S:Sr):GM TwS:=match t.inn with
 |none=>nxO g1 mi g2 me t.i (ds.drop t.i) t.ρ S
 |some (ys,j)=>nxI g2 me (λa=>nxO g1 mi g2 me t.i (ds.drop t.i) t.ρ a) t.i t.ρ ys j (ys.drop j) S
noncomputable def runI(k:Sr->Res D)(ρ:En):List D->Sr->Res D
 |[],S=>k S
 |d::r,S=>(g2 d ρ S).bind λa S1=>(me a S1).bind λv S2=>match v with
  | .bl true=>.ok (.bl true) S2
  | .bl false=>runI k ρ r S2
  |_=>.no
noncomputable def runO:List D->En->Sr->Res D
 |[],_,S=>.ok (.bl false) S
 |d::r,ρ,S=>(g1 d ρ S).bind λρ1 S1=>(mi ρ1 S1).bind λys S2=>runI g2 me (λa=>runO r ρ1 a) ρ1 ys S2
noncomputable def run2(ds:List D)(t:TwS)(S:Sr):Res D:=match t.inn with
 |none=>runO g1 mi g2 me (ds.drop t.i) t.ρ S
 |some (ys,j)=>runI g2 me (λa=>runO g1 mi g2 me (ds.drop t.i) t.ρ a) t.ρ (ys.drop j) S
variable{g1 mi g2 me}
theorem qd6{ds:List D}{k:Sr->Res D}{f:Sr->GM TwS}{i:Nat}{ρ:En}{ys:List D}{j:Nat}{S:Sr}{d:D}{a:Sr}(l:k=λa=>runO g1 mi g2 me (ds.drop i) ρ a)(m:∀S,k S=.ok d a->AnyS (run2 g1 mi g2 me ds) (f S) d a)(h:runI g2 me k ρ (ys.drop j) S=.ok d a):AnyS (run2 g1 mi g2 me ds) (nxI g2 me f i ρ ys j (ys.drop j) S) d a:=by
 cases z:ys.drop j with
 |nil=>rw[z]at h;exact m S h
 |cons x r =>
  have n:r=ys.drop (j+1):=by
   have e:=congrArg List.tail z;rw[List.tail_drop]at e;exact e.symm
  rw[z]at h;unfold runI at h;cases z1:g2 x ρ S with
  |no=>rw[z1]at h;cases h
  |err=>rw[z1]at h;cases h
  |ok c S1 =>
   rw[z1,Res.bind_ok]at h;cases z2:me c S1 with
   |no=>rw[z2]at h;cases h
   |err=>rw[z2]at h;cases h
   |ok v S2 =>
    rw[z2,Res.bind_ok]at h;simp only[nxI,z1,z2];cases v with
    |bl b =>
     cases b with
     |true=>cases h;exact .inl ⟨rfl,rfl,rfl⟩
     |false =>
      refine .inr ⟨rfl,?_⟩;show runI g2 me _ ρ (ys.drop (j+1)) S2=_;rw[<-n,<-l];exact h
    |_=>cases h
theorem qbs{ds:List D}{d:D}{a:Sr}:∀(l:List D) (i:Nat) (ρ:En) (S:Sr),ds.drop i=l->runO g1 mi g2 me l ρ S=.ok d a->AnyS (run2 g1 mi g2 me ds) (nxO g1 mi g2 me i l ρ S) d a
 |[],i,ρ,S,_,h=>by
  unfold runO at h;cases h;exact⟨rfl,rfl⟩
 |x::r,i,ρ,S,e,h=>by
  have b:ds.drop (i+1)=r:=by
   have e:=congrArg List.tail e;rw[List.tail_drop]at e;exact e
  unfold runO at h;unfold nxO;cases z1:g1 x ρ S with
  |no=>rw[z1]at h;cases h
  |err=>rw[z1]at h;cases h
  |ok ρ1 S1 =>
   rw[z1,Res.bind_ok]at h;dsimp only;cases z2:mi ρ1 S1 with
   |no=>rw[z2]at h;cases h
   |err=>rw[z2]at h;cases h
   |ok ys S2 =>
    rw[z2,Res.bind_ok]at h;dsimp only;exact qd6 (ys:=ys) (j:=0) (by rw[b]) (λS3 c=>qbs r (i+1) ρ1 S3 b c) h
theorem qkE(ds:List D):RunAny (nx2 g1 mi g2 me ds) (run2 g1 mi g2 me ds):=λt S d b h=>by
 obtain⟨i,ρ,inn⟩:=t;cases inn with
 |none=>exact qbs _ i ρ S rfl h
 |some p =>
  obtain⟨ys,j⟩:=p;exact qd6 (ds:=ds) rfl (λS3 a=>qbs _ i ρ S3 rfl a) h
end
section
variable{X:Cx}{pos:Pos}
structure Si (X:Cx) (t2:Expr) (fp1:01) (ι:01) (H:Hp) (pins:04) (h:Heap) (e:TwE) (ys:List D) (j:Nat):Prop where
 turn:Turn X.prog X.w X.K t2 e.J e.fp e.it e.tn
 at':e.tn j h
 le:j<=ys.length
 fz:∀b∈e.fp,FpOk X pins H b
 it:ItOk ι H e.J ys
 ne:∀b∈e.fp,b∉fp1
structure Su2 (X:Cx) (t2:Expr) (J:It) (tn:Nat->Heap->Prop) (fp:01) (ds:List D) (e:Option TwE) (t:TwS) (S:Sr) (ι:01) (H:Hp) (pins:04) (s:Shared):Prop where
 inv:∃σ,Inv X pins σ H s/\EnR ι H t.ρ σ
 sto:Sto ι H S
 at':tn t.i s.heap
 le:t.i<=ds.length
 fz:∀b∈fp,H b=none
 it:ItOk ι H J ds
 pf:∀p∈pins,p.1∉fp
 inn:match e,t.inn with
  |none,none=>True
  |some e,some (ys,j)=>Si X t2 fp ι H pins s.heap e ys j
  |_,_=>False
theorem qkF{t2:Expr}{J:It}{tn:Nat->Heap->Prop}{fp:01}{ds:List D}:SuOk X (Su2 X t2 J tn fp ds) where
 inv:=λu=>⟨let ⟨a,I,_⟩:=u.inv;⟨a,I⟩,u.sto⟩
 gens:=λu k=>by
  obtain⟨⟨a,I,b⟩,c,d,f,h,i,j,l⟩:=u;exact⟨⟨a,qae I k,b⟩,c,d,f,h,i,j,l⟩
noncomputable abbrev wA(X:Cx)(A:Around):Cx:=⟨X.prog,X.w,X.K,X.mg,X.base,A,X.N,X.s₀,X.H₀,X.env,X.outer,X.stack,X.ex,X.fn,X.calm,X.pn,X.xe⟩
theorem qbt{pins:04}{a:St}{H:Hp}{s:Shared}(I:Inv X pins a H s){A:Around}(b:A.handled=X.A.handled)(d:A.frames=X.A.frames):Inv (wA X A) pins a H s :=
 ⟨⟨I.ok.mod,I.ok.kind,I.ok.glob,I.ok.blt,I.ok.above,I.ok.inj,I.ok.has,I.ok.cab,λc=>b.trans (I.ok.hd c),d.trans I.ok.frames,I.ok.stk,I.ok.exf,I.ok.bs,I.ok.bsz,I.ok.noex,I.ok.exfs,I.ok.funs,I.ok.frf,I.ok.tab⟩,
  I.os,I.bare,I.base,I.loc,I.cell,I.free,I.freeC,I.pin,I.hok,I.len⟩
end
noncomputable def kk2(env:Env)(a:Code):Result->Sem PySem.Fin:=λr=>((match r with|.ok x=>(.pure x:Sem Flow)|.error x=>.raise x).onRaise (λx=>do
   if(<-field x 1) == Value.none then unsupported "frame.own-activation:exception-without-traceback"
   setFlight x env.frame) >>= λ_=>again a).onRaise (leaving env)
noncomputable def fr2(env:Env)(a:Code)(p:Pos):Frame:=.ret (kk2 env a) none false [] a p []
noncomputable def ge2(elt t1 i1 t2 i2:Expr)(sc:Scope)(pos:Pos):Expr:=.GeneratorExp elt [⟨t1,i1,[],0⟩,⟨t2,i2,[],0⟩] sc pos
section
variable{X:Cx}{pos:Pos}
theorem jz{pins:04}{H:Hp}{b:Addr}{fp:01}{h:Heap}(k:FpOk X pins H b)(n:b∉fp):FpOk X (pins++pinsAt fp h) H b :=
 ⟨k.1,k.2.1,k.2.2.1,k.2.2.2.1,k.2.2.2.2.1,λq a=>by
  rcases w9.mp a with z|z
  .exact k.2.2.2.2.2 q (wp _ z)
  .rcases w9.mp z with z|z
   .exact k.2.2.2.2.2 q (wG _ z)
   .exact λe=>n (e ▸ (qaJ z).1)⟩
noncomputable def inA(B:Around)(env:Env)(elt t1 i1 t2 i2:Expr)(sc:Scope)(pos:Pos)(it it2:Addr)(p:Pos):Around :=
 B.over (.compLoop (ge2 elt t1 i1 t2 i2 sc pos) 1 (.ref it2) .none env) [fr2 env (.compLoop (ge2 elt t1 i1 t2 i2 sc pos) 0 (.ref it) .none env) p]
variable{elt t1 i1 t2 i2:Expr}{sc:Scope}{J:It}{fp:List Addr}{it:Addr}{tn:Nat->Heap->Prop}{g1:D->En->Sr->Res En}{mi:En->Sr->Res (List D)}{g2:D->En->Sr->Res En}{me:En->Sr->Res D}{ds:List D}{B:Around}
theorem qit(a2:X.xe=λ_ _=>False)(hc:X.calm=true)(a3:X.ex=fp)(a4:∀p∈X.pn,p.1∉fp)(hA:X.A=B.over (.compLoop (ge2 elt t1 i1 t2 i2 sc pos) 0 (.ref it) .none X.env) [])(a7:X.env.scope.isCoroutine=false)(T1:Turn X.prog X.w X.K t1 J fp it tn)(hg:∀it2 p,PG (wA X (inA B X.env elt t1 i1 t2 i2 sc pos it it2 p)) t2 (TGt g2))(he:∀it2 p,PE (wA X (inA B X.env elt t1 i1 t2 i2 sc pos it it2 p)) elt (T me))(hw:∀{d ρ S ρ' S' ι H F},g2 d ρ S=.ok ρ' S'->EnR ι H ρ' F->EnR ι H ρ F){e:TwE}{ys:List D}{i:Nat}{ρ:En}{N:Sr->GM TwS}(a5:N=λS'=>nxO g1 mi g2 me i (ds.drop i) ρ S')(a8:∀S pins l H0 ι H s,Su2 X t2 J tn fp ds none ⟨i,ρ,none⟩ S ι H pins s->Stp l H0 ι H->N S≠.bad->Sg 03 B (Pq X (Su2 X t2 J tn fp ds) (PgW X (Su2 X t2 J tn fp ds) (nx2 g1 mi g2 me ds) 03 B) (N S) pins l H0) (.compLoop (ge2 elt t1 i1 t2 i2 sc pos) 0 (.ref it) .none X.env)
   ((model X.prog X.w).den (.compLoop (ge2 elt t1 i1 t2 i2 sc pos) 0 (.ref it) .none X.env)) [] s):
  ∀(m j:Nat) (S:Sr) (pins:04) (l:01) (H0:Hp) (ι:01) (H:Hp) (s:Shared) (p:Pos),ys.length-j=m->Su2 X t2 J tn fp ds (some e) ⟨i,ρ,some (ys,j)⟩ S ι H pins s->Stp l H0 ι H->nxI g2 me N i ρ ys j (ys.drop j) S≠.bad ->
   Sg 03 B (Pq X (Su2 X t2 J tn fp ds) (PgW X (Su2 X t2 J tn fp ds) (nx2 g1 mi g2 me ds) 03 B) (nxI g2 me N i ρ ys j (ys.drop j) S) pins l H0) (.compLoop (ge2 elt t1 i1 t2 i2 sc pos) 1 (.ref e.it) .none X.env)
    ((model X.prog X.w).den (.compLoop (ge2 elt t1 i1 t2 i2 sc pos) 1 (.ref e.it) .none X.env)) [fr2 X.env (.compLoop (ge2 elt t1 i1 t2 i2 sc pos) 0 (.ref it) .none X.env) p] s:=by
 intro m;induction m with
 |zero =>
  intro j S pins l H0 ι H s p hm U q0 hb;obtain⟨⟨F,I,er⟩,st,a1,le,f1,ok,pf,a⟩:=U;have a:Si X t2 fp ι H pins s.heap e ys j:=a;have hj:j=ys.length:=by
   have:=a.le;lia
  subst hj;have C:∀b∈fp,FpOk X pins H b:=λb hb=>by
   have c:b∈X.ex:=by rw[a3];exact hb
   exact⟨f1 b hb,(I.ok.exf b c).1,λz=>I.ok.exfs b c z,.inl c,(I.ok.exf b c).2,λp hp z=>(w9.mp hp).elim (λy=>a4 p y (z ▸ hb)) λy=>pf p y (z ▸ hb)⟩
  have I1:=I.pinned C (T1.obj _ _ a1);have eh:(inA B X.env elt t1 i1 t2 i2 sc pos it e.it p).handled=X.A.handled:=by rw[hA];rfl
  have ef:(inA B X.env elt t1 i1 t2 i2 sc pos it e.it p).frames=X.A.frames:=by rw[hA];rfl
  have I2:=qbt I1 eh ef;show Sg _ B _ _ ((compTurn (.GeneratorExp elt [⟨t1,i1,[],0⟩,⟨t2,i2,[],0⟩] sc pos) 1 (.ref e.it) .none X.env).onRaise (λx=>do noteFrame x X.env;theTreesLotGoes x)) _ s;rw[qck,vJ];refine qE (wu (qE ?_));have dn:=a.turn.done (wA X (inA B X.env elt t1 i1 t2 i2 sc pos it e.it p)) rfl rfl rfl hc _ (pins++pinsAt fp s.heap) s F H (λ_ _=>False) I2 (λb hb=>jz (a.fz b hb) (a.ne b hb)) a.at' (a.it.stop ι H (Stp.refl _ _));refine thnF dn λr s2 ⟨hr,I3⟩=>?_
  subst hr;have I4:Inv X (pins++pinsAt fp s.heap) F H s2:=qbt I3 (A:=X.A) eh.symm ef.symm;refine qkB (.ok .next) ?_;show Sg _ B _ _ (.pure (.again (.compLoop (ge2 elt t1 i1 t2 i2 sc pos) 0 (.ref it) .none X.env))) [] s2;rw[vk (wN _)]at hb ⊢;refine qX rfl (a8 S pins l H0 ι H s2 ⟨⟨F,I4.unpinned,er⟩,st,T1.keep _ _ _ a1 λb hb o E=>(I4.pin (b,o) (wG _ (wG _ (qz hb E)))).1,le,f1,ok,pf,trivial⟩ q0 hb)
 |succ m a9 =>
  intro j S pins l H0 ι H s p hm U q0 hb;obtain⟨⟨F,I,er⟩,st,a1,le,f1,ok,pf,a⟩:=U;have a:Si X t2 fp ι H pins s.heap e ys j:=a;have O:j<ys.length:=by lia
  have C:∀b∈fp,FpOk X pins H b:=λb hb=>by
   have c:b∈X.ex:=by rw[a3];exact hb
   exact⟨f1 b hb,(I.ok.exf b c).1,λz=>I.ok.exfs b c z,.inl c,(I.ok.exf b c).2,λp hp z=>(w9.mp hp).elim (λy=>a4 p y (z ▸ hb)) λy=>pf p y (z ▸ hb)⟩
  have I1:=I.pinned C (T1.obj _ _ a1);have eh:(inA B X.env elt t1 i1 t2 i2 sc pos it e.it p).handled=X.A.handled:=by rw[hA];rfl
  have ef:(inA B X.env elt t1 i1 t2 i2 sc pos it e.it p).frames=X.A.frames:=by rw[hA];rfl
  have I2:=qbt I1 eh ef;have hd:ys[j]?=some ys[j]:=wD O;have ed:ys.drop j=ys[j]::ys.drop (j+1):=vw O;obtain⟨go,yl⟩:=a.it.go j _ ι H (Stp.refl _ _) hd;show Sg _ B _ _ ((compTurn (.GeneratorExp elt [⟨t1,i1,[],0⟩,⟨t2,i2,[],0⟩] sc pos) 1 (.ref e.it) .none X.env).onRaise (λx=>do noteFrame x X.env;theTreesLotGoes x)) _ s;rw[qck,vJ];refine qE (wu (qE ?_));refine thnF (a.turn.item (wA X (inA B X.env elt t1 i1 t2 i2 sc pos it e.it p)) rfl rfl rfl hc j (pins++pinsAt fp s.heap) s F H _ I2 (λb hb=>jz (a.fz b hb) (a.ne b hb)) a.at' go) λr s2 ⟨u,hr,h2⟩=>?_
  subst hr;refine qE ?_;refine thnF h2 λ_ s3 ⟨x,H3,I3,r3,y3,t3,f3⟩=>?_
  obtain⟨q3,aa⟩:=yl x H3 y3;obtain⟨k3,d3⟩:=aa S st;have ae:∀b∈fp,∀o,s.heap.get? b=some o->s3.heap.get? b=some o/\H3 b=none:=λb hb o E=>by
   have:=I3.pin (b,o) (wG _ (wG _ (qz hb E)));exact⟨this.1,this.2.1⟩
  have ab:∀b∈e.fp,FpOk X (pins++pinsAt fp s.heap) H3 b:=λb hb=>by
   have z:=jz (h:=s.heap) (a.fz b hb) (a.ne b hb);exact⟨f3 b hb,z.2⟩
  have ac:=I3.pinned (λb hb=>(show FpOk (wA X (inA B X.env elt t1 i1 t2 i2 sc pos it e.it p)) _ _ b from ab b hb)) (a.turn.obj _ _ t3);rw[ed]at hb ⊢;cases z1:g2 ys[j] ρ S with
  |no=>simp only[nxI,z1]at hb;exact absurd rfl hb
  |err=>simp only[nxI,z1]at hb;exact absurd rfl hb
  |ok P S2 =>
   refine qE ?_;refine wz (hg e.it p _ s3 F H3 x u (λq Q=>∃n,Stp ι H3 n Q/\Sto n Q S2/\EnR n Q P q) ac r3 ⟨ι,S,ρ,ys[j],er.mono q3,k3,d3,?_⟩) (λ_ s4 ⟨q,Q,I4,n,q4,W,L⟩=>?_) λ_ _ z=>by
     have z:X.xe _ _:=z;rw[a2]at z;exact z.elim
   .rw [z1];exact λq n Q q4 W L=>⟨n,q4,W,L⟩
   cases z3:me P S2 with
   |no=>simp only[nxI,z1,z3]at hb;exact absurd rfl hb
   |err=>simp only[nxI,z1,z3]at hb;exact absurd rfl hb
   |ok v Y =>
    simp only[nxI,z1,z3]at hb ⊢;have hy:∀v,yieldOut X.env v=yieldValue v:=λv=>by simp only[yieldOut,a7,vI,uB]
    simp only[hy];rw[uh,uh,xO,xO];refine jQ ?_;refine wz (he e.it p _ s4 q Q (λy M=>∃f,Stp n Q f M/\Sto f M Y/\Den f M v y) I4 ⟨n,S2,P,L,W,?_⟩) (λy' s6 ⟨y,M,I6,ry,f,q6,Z,dv⟩=>?_) λ_ _ z=>by
     have z:X.xe _ _:=z;rw[a2]at z;exact z.elim
    .rw [z3];exact λy f M q6 Z dv=>⟨f,q6,Z,dv⟩
    have tot:=(q3.trans q4).trans q6;have I7:Inv X ((pins++pinsAt fp s.heap)++pinsAt e.fp s3.heap) q M s6:=qbt I6 (A:=X.A) eh.symm ef.symm;have sus:Su2 X t2 J tn fp ds (some e) ⟨i,ρ,some (ys,j+1)⟩ Y f M pins s6:=by
     refine⟨⟨q,I7.unpinned.unpinned,hw z1 (L.mono q6)⟩,Z,T1.keep _ _ _ a1 λb hb o E=>(I7.pin (b,o) (wG _ (wp _ (wG _ (qz hb E))))).1,le,λb hb=>?_,ok.mono (tot),pf,?_⟩
     .obtain ⟨o,E,_⟩:=T1.obj _ _ a1 b hb
      exact(I7.pin (b,o) (wG _ (wp _ (wG _ (qz hb E))))).2.1
     .show Si X t2 fp f M pins s6.heap e ys (j+1)
      refine⟨a.turn,a.turn.keep _ _ _ t3 λb hb o E=>(I7.pin (b,o) (wG _ (wG _ (qz hb E)))).1,O,λb hb=>⟨?_,(a.fz b hb).2⟩,a.it.mono tot,a.ne⟩;obtain⟨o,E,_⟩:=a.turn.obj _ _ t3 b hb;exact(I7.pin (b,o) (wG _ (wG _ (qz hb E)))).2.1
    refine qjf (qe9 rfl λp'=>⟨rfl,some e,⟨i,ρ,some (ys,j+1)⟩,v,Y,f,M,y,rfl,q0.trans tot,dv,ry,sus,PgW.fold ?_⟩);intro a0 a6 H' s' U' c;have ad:nxI g2 me N i ρ ys (j+1) (ys.drop (j+1)) Y≠.bad:=by
     rw[a5];exact c
    have en:nx2 g1 mi g2 me ds ⟨i,ρ,some (ys,j+1)⟩ Y=nxI g2 me N i ρ ys (j+1) (ys.drop (j+1)) Y:=by
     rw[a5];rfl
    rw[en];exact qX rfl (a9 (j+1) Y a0 a6 H' a6 H' s' p 00 U' (Stp.refl _ _) ad)
end
section
variable{X:Cx}{pos:Pos}
variable{elt t1 i1 t2 i2:Expr}{sc:Scope}{J:It}{fp:List Addr}{it:Addr}{tn:Nat->Heap->Prop}{g1:D->En->Sr->Res En}{mi:En->Sr->Res (List D)}{g2:D->En->Sr->Res En}{me:En->Sr->Res D}{ds:List D}{B:Around}
theorem qgF(v:X.xe=λ_ _=>False)(hc:X.calm=true)(M:X.ex=fp)(N:∀p∈X.pn,p.1∉fp)(O:X.A=B.over (.compLoop (ge2 elt t1 i1 t2 i2 sc pos) 0 (.ref it) .none X.env) [])(a6:X.env.scope.isCoroutine=false)(P:Turn X.prog X.w X.K t1 J fp it tn)(a7:PG X t1 (TGt g1))(a8:PI X t2 i2 (TIt mi))(a9:∀x,foldedSetIterable i2 X.env x=pure x)(hg:∀it2 p,PG (wA X (inA B X.env elt t1 i1 t2 i2 sc pos it it2 p)) t2 (TGt g2))(he:∀it2 p,PE (wA X (inA B X.env elt t1 i1 t2 i2 sc pos it it2 p)) elt (T me))(hw:∀{d ρ S ρ' S' ι H F},g2 d ρ S=.ok ρ' S'->EnR ι H ρ' F->EnR ι H ρ F):
  ∀(m i:Nat) (ρ:En) (S:Sr) (pins:04) (l:01) (H0:Hp) (ι:01) (H:Hp) (s:Shared),ds.length-i=m->Su2 X t2 J tn fp ds none ⟨i,ρ,none⟩ S ι H pins s->Stp l H0 ι H->nxO g1 mi g2 me i (ds.drop i) ρ S≠.bad ->
   Sg 03 B (Pq X (Su2 X t2 J tn fp ds) (PgW X (Su2 X t2 J tn fp ds) (nx2 g1 mi g2 me ds) 03 B) (nxO g1 mi g2 me i (ds.drop i) ρ S) pins l H0) (.compLoop (ge2 elt t1 i1 t2 i2 sc pos) 0 (.ref it) .none X.env)
    ((model X.prog X.w).den (.compLoop (ge2 elt t1 i1 t2 i2 sc pos) 0 (.ref it) .none X.env)) [] s:=by
 intro m;induction m with
 |zero =>
  intro i ρ S pins l H0 ι H s hm U q0 hb;obtain⟨⟨F,I,er⟩,st,a1,le,f1,ok,pf,si⟩:=U;have le:i<=ds.length:=le;have hi:i=ds.length:=by lia
  subst hi;have h:∀b∈fp,FpOk X pins H b:=λb hb=>by
   have a:b∈X.ex:=by rw[M];exact hb
   exact⟨f1 b hb,(I.ok.exf b a).1,λz=>I.ok.exfs b a z,.inl a,(I.ok.exf b a).2,λp hp z=>(w9.mp hp).elim (λy=>N p y (z ▸ hb)) λy=>pf p y (z ▸ hb)⟩
  show Sg _ B _ _ ((compTurn (.GeneratorExp elt [⟨t1,i1,[],0⟩,⟨t2,i2,[],0⟩] sc pos) 0 (.ref it) .none X.env).onRaise (leaving X.env)) [] s;rw[qaZ,vJ];refine qE (wu (qE ?_));have dn:=P.done X rfl rfl rfl hc _ pins s F H (λ_ _=>False) I h a1 (ok.stop ι H (Stp.refl _ _));rw[O]at dn;refine thnF dn λr s2 ⟨hr,I3⟩=>?_
  subst hr;refine qf6 (.ok .next) ⟨rfl,S,ι,H,F,?_,I3,q0,st⟩;rw[vk (wN _)];rfl
 |succ m aa =>
  intro i ρ S pins l H0 ι H s hm U q0 hb;obtain⟨⟨F,I,er⟩,st,a1,le,f1,ok,pf,si⟩:=U;have Q:i<ds.length:=by lia
  have h:∀b∈fp,FpOk X pins H b:=λb hb=>by
   have a:b∈X.ex:=by rw[M];exact hb
   exact⟨f1 b hb,(I.ok.exf b a).1,λz=>I.ok.exfs b a z,.inl a,(I.ok.exf b a).2,λp hp z=>(w9.mp hp).elim (λy=>N p y (z ▸ hb)) λy=>pf p y (z ▸ hb)⟩
  have hd:ds[i]?=some ds[i]:=wD Q;have ed:ds.drop i=ds[i]::ds.drop (i+1):=vw Q;obtain⟨go,yl⟩:=ok.go i _ ι H (Stp.refl _ _) hd;show Sg _ B _ _ ((compTurn (.GeneratorExp elt [⟨t1,i1,[],0⟩,⟨t2,i2,[],0⟩] sc pos) 0 (.ref it) .none X.env).onRaise (leaving X.env)) [] s;rw[qaZ,vJ];refine qE (wu (qE ?_));rw[<-O];refine thnF (P.item X rfl rfl rfl hc i pins s F H _ I h a1 go) λr s2 ⟨u,hr,h2⟩=>?_
  subst hr;refine qE ?_;rw[<-O];refine thnF h2 λ_ s3 ⟨x,H3,I3,r3,y3,t3,f3⟩=>?_
  obtain⟨q3,ab⟩:=yl x H3 y3;obtain⟨k3,d3⟩:=ab S st;have W:∀b∈fp,FpOk X pins H3 b:=λb hb=>⟨f3 b hb,(h b hb).2⟩
  have ac:=I3.pinned W (P.obj _ _ t3);rw[ed]at hb ⊢;cases z1:g1 ds[i] ρ S with
  |no=>simp only[nxO,z1]at hb;exact absurd rfl hb
  |err=>simp only[nxO,z1]at hb;exact absurd rfl hb
  |ok j S2 =>
   refine qE ?_;rw[<-O];refine wz (a7 _ s3 F H3 x u (λn Y=>∃f,Stp ι H3 f Y/\Sto f Y S2/\EnR f Y j n) ac r3 ⟨ι,S,ρ,ds[i],er.mono q3,k3,d3,?_⟩) (λ_ s4 ⟨n,Y,I4,f,q4,Z,C⟩=>?_) λ_ _ z=>by rw[v]at z;exact z.elim
   .rw [z1];exact λn f Y q4 Z C=>⟨f,q4,Z,C⟩
   cases z2:mi j S2 with
   |no=>simp only[nxO,z1,z2]at hb;exact absurd rfl hb
   |err=>simp only[nxO,z1,z2]at hb;exact absurd rfl hb
   |ok ys S5 =>
    simp only[nxO,z1,z2]at hb ⊢;refine qE ?_;rw[<-O];refine wz (a8 _ s4 n Y (λJ2 L=>∃c,Stp f Y c L/\Sto c L S5/\ItOk c L J2 ys) I4 ⟨f,S2,j,C,Z,?_⟩) (λxv s5 h5=>?_) λ_ _ z=>by rw[v]at z;exact z.elim
    .rw [z2];exact λc L J2 q5 a0 a2=>⟨c,q5,a0,a2⟩
    refine qE (wu (qE (uu (a9 xv) (qE (vE ?_)))));rw[<-O];refine wz h5 (λag s6 h6=>?_) λ_ _ z=>by rw[v]at z;exact z.elim
    obtain⟨it2,E,a3,J2,L,ev,I6,a4,t6,f6,c,q5,a0,a2⟩:=h6;subst ev;have tot:=(q3.trans q4).trans q5;have ne2:∀b∈E,b∉fp:=λb hb a=>by
     obtain⟨o,eo,_⟩:=P.obj _ _ t3 b a;exact(f6 b hb).2.2.2.2.2 (b,o) (wG _ (wG _ (qz a eo))) rfl
    have sus:Su2 X t2 J tn fp ds (some ⟨it2,E,a3,J2⟩) ⟨i+1,j,some (ys,0)⟩ S5 c L pins s6:=by
     refine⟨⟨n,I6.unpinned,C.mono q5⟩,a0,P.keep _ _ _ t3 λb hb o eo=>(I6.pin (b,o) (wG _ (wG _ (qz hb eo)))).1,Q,λb hb=>?_,ok.mono tot,pf,?_⟩
     .obtain ⟨o,eo,_⟩:=P.obj _ _ t3 b hb
      exact(I6.pin (b,o) (wG _ (wG _ (qz hb eo)))).2.1
     .show Si X t2 fp c L pins s6.heap ⟨it2,E,a3,J2⟩ ys 0
      refine⟨a4,t6,vP _,λb hb=>?_,a2,ne2⟩;have z:=f6 b hb;exact⟨z.1,z.2.1,z.2.2.1,z.2.2.2.1,z.2.2.2.2.1,λq hq=>z.2.2.2.2.2 q ((w9.mp hq).elim (λy=>wp _ y) λy=>wG _ (wp _ y))⟩
    have inn:=λp=>qit v hc M N O a6 P hg he hw (e:=⟨it2,E,a3,J2⟩) (ys:=ys) (i:=i+1) (ρ:=j) rfl (λS7 a5 ad H7 ae H8 s7 U7 q7 af=>aa (i+1) j S7 a5 ad H7 ae H8 s7 00 U7 q7 af) ys.length 0 S5 pins l H0 c L s6 p rfl sus (q0.trans tot) hb
    rw[<-vJ];refine qkC λp=>?_
    show Sg _ B _ _ ((compStart (.GeneratorExp elt [⟨t1,i1,[],0⟩,⟨t2,i2,[],0⟩] sc pos) 1 (.ref it2) .none X.env).onRaise (λx=>do noteFrame x X.env;standAt theWindowsPlace)) [fr2 X.env (.compLoop (ge2 elt t1 i1 t2 i2 sc pos) 0 (.ref it) .none X.env) p] s6;unfold compStart;rw[vJ];refine qE (m:=ask) (wpAny_askSetting ?_);split
    .exact qX rfl (inn p)
    .refine qE (vc ?_)
     first
      |exact qE (wu (qE (a4.self _ 0 s6 _ _ t6 (qX rfl (inn p)))))
      | (show Sg _ B _ _ ((standAt i2.pos >>= _).wrap _ _ _ _) _ s6
         exact qE (wu (qE (a4.self _ 0 s6 _ _ t6 (qX rfl (inn p))))))
theorem qc9(b:X.xe=λ_ _=>False)(q:X.calm=true)(c:X.ex=fp)(f:∀p∈X.pn,p.1∉fp)(r:X.A=B.over (.compLoop (ge2 elt t1 i1 t2 i2 sc pos) 0 (.ref it) .none X.env) [])(h:X.env.scope.isCoroutine=false)(i:Turn X.prog X.w X.K t1 J fp it tn)(j:PG X t1 (TGt g1))(l:PI X t2 i2 (TIt mi))(n:∀x,foldedSetIterable i2 X.env x=pure x)(u:∀it2 p,PG (wA X (inA B X.env elt t1 i1 t2 i2 sc pos it it2 p)) t2 (TGt g2))(v:∀it2 p,PE (wA X (inA B X.env elt t1 i1 t2 i2 sc pos it it2 p)) elt (T me))(y:∀{d ρ S ρ' S' ι H σ},g2 d ρ S=.ok ρ' S'->EnR ι H ρ' σ->EnR ι H ρ σ)(ρ:En)(S:Sr):
  PgW X (Su2 X t2 J tn fp ds) (nx2 g1 mi g2 me ds) 03 B (.fresh (.compStart (ge2 elt t1 i1 t2 i2 sc pos) 0 (.ref it) .none X.env)) none ⟨0,ρ,none⟩ S:=by
 refine PgW.fold λpins ι H s U hb=>?_
 have a:=qgF b q c f r h i j l n u v y _ 0 ρ S pins ι H ι H s rfl U (Stp.refl _ _) hb;have o:=U.at';show Sg _ B (Pq X (Su2 X t2 J tn fp ds) _ _ pins ι H) _ ((compStart (.GeneratorExp elt [⟨t1,i1,[],0⟩,⟨t2,i2,[],0⟩] sc pos) 0 (.ref it) .none X.env).onRaise (leaving X.env)) [] s;unfold compStart;rw[vJ];refine qE (m:=ask) (wpAny_askSetting ?_);split
 .exact qX rfl a
 .refine qE (vc ?_)
  first
   |exact qE (wu (qE (i.self _ 0 s _ _ o (qX rfl a))))
   | (show Sg _ B _ _ ((standAt i1.pos >>= _).wrap _ _ _ _) [] s
      exact qE (wu (qE (i.self _ 0 s _ _ o (qX rfl a)))))
end
def qkG(elt t1 i1 t2 i2:Expr)(sc:Scope)(pos:Pos)(env:Env)(b:sc.isCoroutine=false):eval (ge2 elt t1 i1 t2 i2 sc pos) env=(do
   let x <-eval i1 env;standAt i1.pos;let x <-genFold i1 env x;let it <-holding [x] (pyIter x);enterFrame
   let cl <-closureFor sc env;let code <-genexprCode env pos (env.qual++"<genexpr>") sc;let c <-builtinsFor env.globals env.builtins
   let a <-newFunctionEnv sc env.globals cl [(".0",it)] (env.qual++"<genexpr>.") none code none c
   newGenerator (.compStart (ge2 elt t1 i1 t2 i2 sc pos) 0 it .none a) "<genexpr>" (env.qual++"<genexpr>")):=by
 unfold ge2;rw[arm_eval_GeneratorExp];simp only[b,vI,uB];cases i1 <;> rfl
section
variable{M:Model}{A:Around}{E:Value->Shared->Prop}{s:Shared}
theorem qgG{env:Env}{elt t1 i1 t2 i2:Expr}{sc:Scope}{cl:List (Str×Addr)}{pos:Pos}{Q:06}(u:sc.isCoroutine=false)(i:closureFor sc env=pure cl)(j:∀y∈sc.names,y.2≠.cell)(C:sc.names.lookup (".0":Str)=some NameKind.local)(l:sc.kind=.function)(m:A.depth<recursionLimit)(h:wpAny M A (eval i1 env) (λv c=>wpAny M A (pyIter v) (λit b=>b.heap.NoLimit/\wpAny M A (genexprCode env pos (env.qual++"<genexpr>") sc) (λcode d=>wpAny M A (builtinsFor env.globals env.builtins) (λB a =>
    ∀h',h'.Ns a.heap.objs.size (λy=>if y=".0" then some it else none)->Heap.SameBut a.heap.objs.size (a.heap.push {cls:=.type "frame",data:=.dict #[]}) h' ->
     Q (.ref h'.objs.size) {a with gens:=a.gens.push (.fresh (.compStart (ge2 elt t1 i1 t2 i2 sc pos) 0 it .none (genEnv sc cl a.heap.objs.size code B env))),toks:=a.toks+1+1+1,heap:=h'.push {cls:=.type "generator",data:=.fields #[.int a.gens.size 0,.str "<genexpr>" (a.toks+1),.str (env.qual++"<genexpr>") (a.toks+1+1)]}}) E d) E b) E c) E s)(F:∀x,genFold i1 env x=pure x):wpAny M A (eval (ge2 elt t1 i1 t2 i2 sc pos) env) Q E s:=by
 rw[qkG _ _ _ _ _ _ _ _ u,i];refine wB (wz h (λv c o=>?_) λ_ _ e=>e);refine wB (wu (wB (uu (F v) ?_)));refine wB (vE (wz o (λit b f=>?_) λ_ _ e=>e));refine wB (wpAny_enterFrame f.1 m (wB (wE ?_)));refine wB (wz f.2 (λcode d p=>?_) λ_ _ e=>e);refine wB (wz p (λB a q=>?_) λ_ _ e=>e);refine wB (xj j (λy n=>by
  rcases wX.mp n with rfl|n
  .exact C
  .cases n) (λh' r w=>?_) l)
 have e:(λy:Str=>([((".0":Str),it)]:List (Str×Value)).reverse.lookup y)=λy:Str=>if y=(".0":Str)then some it else none:=by
  funext y;by_cases n:y=".0"
  .subst n;simp
  .have:(y == (".0":Str))=false:=by simpa using n
   simp[List.lookup,this,n]
 rw[e]at r;simp only[newGenerator,newFields];refine wB (wpAny_newGen (wB (wpAny_mkText (wB (wpAny_mkText (wa ?_ (by size_fits)))))));exact q h' r w
end
section
variable{X:Cx}{pos:Pos}
theorem qfa{sc:Scope}{cl:List (Str×Addr)}{code:Value}{N':List Str}{fp:01}{elt t1 i1 t2 i2:Expr}{it:Addr}{o:Addr×Obj}{pins:04}{c:St}{H:Hp}{s:Shared}(I:Inv X pins c H s)(d:sc.kind=.function)(a:∀y∈sc.names,y.2≠.cell)(f:Clos X sc cl)(h:∀b∈fp,FpOk X pins H b)(i:∀b∈fp,b<s.heap.objs.size):(genCx X sc cl s.heap.objs.size code N' fp (ge2 elt t1 i1 t2 i2 sc pos) it o s H).Ok:=by
 have k:=qb5 (pos:=pos) (code:=code) (N':=N') (tg:=t1) (elt:=elt) (iter:=i1) (ifs:=[]) (it:=it) (o:=o) I d a f h i;refine⟨k.mod,k.kind,k.glob,k.blt,k.above,k.inj,k.has,k.cab,k.hd,?_,k.stk,k.exf,k.bs,k.bsz,k.noex,k.exfs,k.funs,k.frf,k.tab⟩;have z:=k.frames;exact z
structure BlkH (X:Cx) (sc:Scope) (N':List Str) (elt t1 i1 t2 i2:Expr) (pos:Pos) (g1:D->En->Sr->Res En) (mi:En->Sr->Res (List D)) (g2:D->En->Sr->Res En) (me:05):Prop where
 r1:∀cl C code fp it o s H,PG (genCx X sc cl C code N' fp (ge2 elt t1 i1 t2 i2 sc pos) it o s H) t1 (TGt g1)
 ri:∀cl C code fp it o s H,PI (genCx X sc cl C code N' fp (ge2 elt t1 i1 t2 i2 sc pos) it o s H) t2 i2 (TIt mi)
 rf:∀cl C code x,foldedSetIterable i2 (genEnv sc cl C code builtinsNs X.env) x=pure x
 r2:∀cl C code fp it o s H it2 p,PG (wA (genCx X sc cl C code N' fp (ge2 elt t1 i1 t2 i2 sc pos) it o s H) (inA X.A.in4.in1 (genEnv sc cl C code builtinsNs X.env) elt t1 i1 t2 i2 sc pos it it2 p)) t2 (TGt g2)
 re:∀cl C code fp it o s H it2 p,PE (wA (genCx X sc cl C code N' fp (ge2 elt t1 i1 t2 i2 sc pos) it o s H) (inA X.A.in4.in1 (genEnv sc cl C code builtinsNs X.env) elt t1 i1 t2 i2 sc pos it it2 p)) elt (T me)
noncomputable def GH2(X:Cx)(pins:04)(i:St)(g1:D->En->Sr->Res En)(mi:En->Sr->Res (List D))(g2:D->En->Sr->Res En)(me:05)(ds:List D)(a:Addr)(ρ:En)(S:Sr)(ι:01)(H:Hp)(s:Shared):Prop :=
 ∃sc cl C code N' fp ge it o b d J tn t2 gs,(∀h:Heap,h.get? a=some o->h.IsGen a b.gens.size)/\Su2 (genCx X sc cl C code N' fp ge it (a,o) b d) t2 J tn fp ds none ⟨0,ρ,none⟩ S ι H [] (s.setGen b.gens.size .running)/\s.gens[b.gens.size]?=some gs/\gs.bare=true /\
  PgW (genCx X sc cl C code N' fp ge it (a,o) b d) (Su2 (genCx X sc cl C code N' fp ge it (a,o) b d) t2 J tn fp ds) (nx2 g1 mi g2 me ds) 03 X.A.in4.in1 gs none ⟨0,ρ,none⟩ S /\
  ∀c f H' z,Inv (genCx X sc cl C code N' fp ge it (a,o) b d) c f H' (z.setGen b.gens.size .running)->GK b.gens z.gens->Inv X pins i H' z
theorem qfb{elt t1 i1 t2 i2:Expr}{sc:Scope}{fr:List Nat}{xs ts:List Str}{m1:En->Sr->Res (List D)}{g1:D->En->Sr->Res En}{mi:En->Sr->Res (List D)}{g2:D->En->Sr->Res En}{me:05}{c T:Addr}(hc:X.calm=true)(W:X.A.depth<recursionLimit)(hi:PI X t1 i1 (TIt m1))(hs:∀x,genFold i1 X.env x=pure x)(C':CSc X sc fr xs ts)(hz:sc.names.lookup (".0":Str)=some NameKind.local)(a4:sc.isCoroutine=false)(Y:X.env.code=.ref c)(a5:codeTab X.K c T=true)(B:BlkH X sc (xs++ts) elt t1 i1 t2 i2 pos g1 mi g2 me)(hw:∀{d ρ S ρ' S' ι H M},g2 d ρ S=.ok ρ' S'->EnR ι H ρ' M->EnR ι H ρ M){pins:04}{s:Shared}{M:St}{H:Hp}{ι:01}{S:Sr}{ρ:En}(I:Inv X pins M H s)(er:EnR ι H ρ M)(st:Sto ι H S){ds:List D}{S1:Sr}(hm:m1 ρ S=.ok ds S1):
  wpAny 03 X.A (eval (ge2 elt t1 i1 t2 i2 sc pos) X.env) (λv s'=>∃a P H',v=.ref a/\Stp ι H P H'/\GH2 X pins M g1 mi g2 me ds a (frE ρ fr ts.length) S1 P H' s') X.xe s:=by
 obtain⟨cl,CL⟩:=jP (X:=X) (sc:=sc) λx hx hf=>I.ok.has x.1 (C'.frees x hx hf)
 refine qgG a4 CL.eq C'.nocell hz C'.kind W ?_ hs;refine thn (hi pins s M H (λJ H2=>∃E,Stp ι H E H2/\Sto E H2 S1/\ItOk E H2 J ds) I ⟨ι,S,ρ,er,st,?_⟩) λxv s1 U=>thn U λan s2 L=>?_
 .rw [hm];exact λP H' J q ab ok=>⟨P,q,ab,ok⟩
 obtain⟨it,fp,tn,J,H2,e,I2,T',a6,f2,E,q2,ac,ad⟩:=L;subst e;refine⟨I2.nolimit,thn (qb4 I2 Y a5) λcode f ⟨H3,N,eg,Z,ae,a0⟩=>qdS N ?_⟩;intro C af a7;have a8:∀b∈fp,∃o,s2.heap.get? b=some o/\H2 b=none:=λb hb=>by
  obtain⟨o,eo,_⟩:=T'.obj _ _ a6 b hb;exact⟨o,eo,(f2 b hb).1⟩
 have f3:∀b∈fp,FpOk X pins H3 b:=λb hb=>by
  obtain⟨o,e1,Q⟩:=a8 b hb;exact⟨(a0 b o e1 Q).2,(f2 b hb).2⟩
 have l3:∀b∈fp,b<f.heap.objs.size:=λb hb=>by
  obtain⟨o,e1,Q⟩:=a8 b hb;exact wP (a0 b o e1 Q).1
 have hsz:C.objs.size=f.heap.objs.size+1:=by rw[a7.1,vZ]
 have m:∀(u:Obj) b o,f.heap.get? b=some o->(C.push u).get? b=some o:=λu b o e=>wC _ (a7.extBut b o (wk (wP e)) (wC _ e))
 generalize a1:({cls:=.type "generator",data:=.fields #[.int f.gens.size 0,.str "<genexpr>" (f.toks+1),.str (X.env.qual++"<genexpr>") (f.toks+1+1)]}:Obj)=ob;have a2:H3 C.objs.size=none:=N.hok.fresh (by rw[hsz];lia);have ag:=qfa (code:=code) (N':=xs++ts) (elt:=elt) (t1:=t1) (i1:=i1) (t2:=t2) (i2:=i2) (pos:=pos) (it:=it) (o:=(C.objs.size,ob)) N C'.kind C'.nocell CL f3 l3;have ah:(C.push ob).Ns f.heap.objs.size (λy=>if y=".0" then some (.ref it)else none):=af.push _;have ek:∀n,(f.gens.push (GenState.fresh n)).setIfInBounds f.gens.size .running=f.gens.push .running:=λn=>by
  apply Array.ext
  .simp
  .intro j U L
   by_cases q:j=f.gens.size
   .subst q;simp
   .have:j<f.gens.size:=by simp at L;lia
    rw[vi (by simp;lia),wT (Ne.symm q),ul this,ul this]
 have a9:(C.push ob).get? C.objs.size=some ob:=by subst a1;exact wM _ rfl
 have F:=C'.frs;have aa:∀(gg:Array GenState) (tk:Nat),gg=f.gens.push .running->Inv (genCx X sc cl f.heap.objs.size code (xs++ts) fp (ge2 elt t1 i1 t2 i2 sc pos) it (C.objs.size,ob) f H3) [] (frS M fr ts.length) H3 {f with heap:=C.push ob,toks:=tk,gens:=gg}:=by
  intro gg tk ai;refine⟨ag,rfl,?_,Un.kept (m ob),⟨_,ah,λi x v U L h3=>?_⟩,λx O e=>?_,N.hok.fresh (wN _),λx O e=>N.freeC x O (CL.sub x O e),λp hp=>?_,N.hok.kept (m ob),?_⟩
  .subst ai
   exact GK.refl (AllBare.push N.bare.bare rfl)
  .have U:(xs++ts)[i]?=some x:=U
   have L:(frS M fr ts.length)[i]?=some (some v):=L;unfold frS at L;by_cases hi:i<fr.length
   .rw [wQ (by simpa using hi),w5,wD hi]at L
    rw[wQ (by rw[<-F.len];exact hi)]at U;simp only[wg,Option.some.injEq]at L;have hN:=F.at' i fr[i] x (wD hi) U;have aj:M[fr[i]]?=some (some v):=by
     cases z:M[fr[i]]? with
     |none=>rw[z]at L;cases L
     |some o=>rw[z]at L;simp at L;rw[L]
    obtain⟨kf,ko⟩:=F.kd x (wc U);obtain⟨m0,ao,ak⟩:=N.loc;obtain⟨u,r,l⟩:=ak fr[i] x v hN aj (.inr ko);refine⟨u,r,.inr ?_⟩;have al:∃O,X.env.cells.lookup x=some O/\f.heap.IsCell O (some u):=by
     rcases l with ⟨z,_⟩|⟨_,O,e1,Q⟩
     .rcases ko with q|q <;> (rw[z]at q;cases q)
     .exact ⟨O,e1,Q⟩
    obtain⟨O,e1,o,Q,e3⟩:=al;obtain⟨c',e4⟩:=CL.all x kf;have e5:=CL.sub x c' e4;rw[e1]at e5;cases e5;exact⟨.inr kf,O,e4,o,m ob _ _ Q,e3⟩
   .rw [wI (by simpa using hi),vF]at L
    split at L <;> cases L
  .obtain ⟨v,o,e1,Q⟩:=N.cell x O (CL.sub x O e)
   exact⟨v,o,m ob _ _ e1,Q⟩
  .have a3:p=(C.objs.size,ob):=by
    have:p∈[(C.objs.size,ob)]++([]:List (Addr×Obj)):=hp;simpa using this
   subst a3;refine⟨a9,a2,(show C.objs.size≠f.heap.objs.size by lia),λz=>?_,λv=>?_⟩
   .have z':C.objs.size∈frs X.stack:=z
    rcases wX.mp (N.stkSub _ z')with q|q
    .have:=N.lt
     rw[<-q,hsz]at this;exact absurd this (Nat.not_lt.mpr (Nat.le_succ _))
    .exact absurd q (N.nofs 00)
   .show ob.data≠_
    rw[<-a1];intro z;cases z
  .show (frS M fr ts.length).length=(xs++ts).length
   simp[frS,F.len]
 refine⟨C.objs.size,E,H3,rfl,q2.trans (Z E),sc,cl,f.heap.objs.size,code,xs++ts,fp,ge2 elt t1 i1 t2 i2 sc pos,it,ob,f,H3,J,tn,t2,_,λh e=>?_,⟨?_,ae _ _ ac,T'.keep _ _ _ a6 λb hb o eo=>m ob b o (a0 b o eo (f2 b hb).1).1,vP _,λb hb=>(f3 b hb).1,ad.mono (Z E),λp hp=>absurd hp (by simp),trivial⟩,Array.getElem?_push_size ..,rfl,?_,λam ap H' z J' gk=>?_⟩
 .rw [<-a1]at e
  exact⟨_,_,_,e,rfl,rfl,rfl⟩
 .exact ⟨frS M fr ts.length,aa _ _ (ek _),(qbl er fr ts.length).mono (q2.trans (Z E))⟩
 .exact qc9 (X:=genCx X sc cl f.heap.objs.size code (xs++ts) fp (ge2 elt t1 i1 t2 i2 sc pos) it (C.objs.size,ob) f H3) rfl hc rfl (λp hp hb=>by
   have a3:p=(C.objs.size,ob):=by
    have:p∈[(C.objs.size,ob)]:=hp;simpa using this
   subst a3;have:=l3 _ hb;have e:C.objs.size<f.heap.objs.size:=this;lia) rfl a4 T' (B.r1 _ _ _ _ _ _ _ _) (B.ri _ _ _ _ _ _ _ _) (B.rf _ _ _) (B.r2 _ _ _ _ _ _ _ _) (B.re _ _ _ _ _ _ _ _) hw _ _
 .have ba:Un (frs X.stack) fp H3 H' f.heap z.heap:=J'.base
  exact N.call' (ch:=fp) J'.os ba J'.hok gk λb hb=>⟨(f3 b hb).2.2.2.1,(f3 b hb).2.1,(f3 b hb).2.2.2.2.1,(f3 b hb).2.2.2.2.2⟩
end
section
variable{X:Cx}{F:Fs}{pos gp:Pos}
theorem qkH{f:Str}{p:Pos}{elt t1 i1 t2 i2:Expr}{sc:Scope}{fr:List Nat}{xs ts:List Str}{m1:En->Sr->Res (List D)}{g1:D->En->Sr->Res En}{mi:En->Sr->Res (List D)}{g2:D->En->Sr->Res En}{me:05}{c T':Addr}(W:X.calm=true)(Y:X.A.handled=none)(b:X.A.depth<recursionLimit)(n:Gl X f)(hm:X.mg f=none)(Z:bootBuiltins f=some (.builtin "any"))(hn:f≠"__name__")(r:dB f)(hi:PI X t1 i1 (TIt m1))(hs:∀x,genFold i1 X.env x=pure x)(C':CSc X sc fr xs ts)(hz:sc.names.lookup (".0":Str)=some NameKind.local)(u:sc.isCoroutine=false)(i:X.env.code=.ref c)(j:codeTab X.K c T'=true)(B:BlkH X sc (xs++ts) elt t1 i1 t2 i2 gp g1 mi g2 me)(hw:∀{d ρ S ρ' w ι H y},g2 d ρ S=.ok ρ' w->EnR ι H ρ' y->EnR ι H ρ y):
  PE X (.Call (.Name f p) [ge2 elt t1 i1 t2 i2 sc gp] [] pos) (T (λρ S=>(m1 ρ S).bind λds S1=>runO g1 mi g2 me ds (frE ρ fr ts.length) S1)):=by
 intro pins s y H Q I E;refine u7 (z9 I n hm Z ?_ hn r);obtain⟨ι,S,ρ,er,st,h⟩:=E;dsimp only at h;cases z:m1 ρ S with
 |no=>rw[z]at h;exact h.elim
 |err=>rw[z]at h;exact h.elim
 |ok ds S1 =>
  rw[z,Res.bind_ok]at h;refine uk (e:=ge2 elt t1 i1 t2 i2 sc gp) (rest:=[]) ?_ rfl rfl;refine vt (thn (qfb W b hi hs C' hz u i j B hw I er st z) λv s' ⟨a,L,H',ev,q,gh⟩=>?_);subst ev;refine uV ?_;have h:=Pst.from h q;cases zr:runO g1 mi g2 me ds (frE ρ fr ts.length) S1 with
  |no=>rw[zr]at h;exact h.elim
  |err=>rw[zr]at h;exact h.elim
  |ok d w =>
   rw[zr]at h;obtain⟨a0,cl,C,code,N',fp,ge,it,o,s4,H4,J,tn,a1,gs,P,U,M,hb,pw,out⟩:=gh;have ha:s'.heap.get? a=some o:=by
    obtain⟨l,I',_⟩:=U.inv;exact(I'.pin (a,o) (wp _ wH)).1
   refine call_function_tree F.kind_any F.plain_any F.entry_any (F.args_any1 _) ?_;unfold Builtin.«any»;refine wB (m:=oneArg "any" _) (wE (wB (wpAny_pyIter_gen (P _ ha) (wE ⟨v9 F.plain_any_loop _,?_⟩))));refine qmj qkF (qkE ds) Y b P pw L H' s' d w _ U M hb (by unfold run2;exact zr) λl N H2 z2 c2 ed Iz gk s1 O=>⟨.bl c2,H2,out _ l H2 z2 Iz gk,rfl,?_⟩
   subst ed;exact h _ N H2 s1 O rfl
noncomputable def setQ(F:Fs)(q:Nat):D->En->Sr->Res En:=λd ρ S=>match ρ[q]? with
 |some none=>asg F (.v q) d ρ S
 |_=>.no
theorem qbu{q:Nat}{d:D}{ρ:En}{S:Sr}(h:ρ[q]?=some none):setQ F q d ρ S=asg F (.v q) d ρ S:=by
 unfold setQ;rw[h]
theorem qd7{q:Nat}{d:D}{ρ:En}{S:Sr}(h:ρ[q]?≠some none):setQ F q d ρ S=.no:=by
 unfold setQ;split
 .rename_i e;exact absurd e h
 .rfl
theorem nest_in{q:Nat}{mi:En->Sr->Res (List D)}{me:05}{ρ1:En}(i:ρ1[q]?=some none):∀(ys:List D) (ρ:En) (S:Sr) (d:D) (a:Sr) (b:D),(∃o,ρ=ρ1.set q o)->genLoop (λd ρ S=>asg F (.v q) d ρ S) (λρ S=>tsts F .nil ρ S) me (stepG .any) (finG .any) ys ρ b S=.ok d a ->
  (d=.bl true/\∀k,runI (setQ F q) me k ρ1 ys S=.ok (.bl true) a)\/(d=.bl false/\∀k,runI (setQ F q) me k ρ1 ys S=k a)
 |[],ρ,S,d,a,b,_,h=>by
  unfold genLoop at h;cases h;exact .inr ⟨rfl,λk=>rfl⟩
 |y::r,ρ,S,d,a,b,⟨o,e⟩,h=>by
  subst e;unfold genLoop at h;unfold asg at h;rw[Res.bind_ok,List.set_set]at h;unfold tsts at h;rw[Res.bind_ok,wR rfl]at h;cases z:me (ρ1.set q (some y)) S with
  |no=>rw[z]at h;cases h
  |err=>rw[z]at h;cases h
  |ok v S2 =>
   rw[z,Res.bind_ok]at h;have st:∀k,runI (setQ F q) me k ρ1 (y::r) S=(match(generalizing:=false) v with|.bl true=>.ok (.bl true) S2|.bl false=>runI (setQ F q) me k ρ1 r S2|_=>.no):=λk=>by
    conv=>lhs;unfold runI
    rw[qbu i,show asg F (.v q) y ρ1 S=.ok (ρ1.set q (some y)) S by unfold asg;rfl,Res.bind_ok,z,Res.bind_ok]<;>rfl
   cases v with
   |bl c =>
    cases c with
    |true =>
     simp only[stepG]at h;cases h;exact .inl ⟨rfl,λk=>st k⟩
    |false =>
     simp only[stepG]at h;rcases nest_in (mi:=mi) i r _ S2 d a _ ⟨_,rfl⟩ h with ⟨e,f⟩|⟨e,f⟩
     .exact .inl ⟨e,λk=>(st k).trans (f k)⟩
     .exact .inr ⟨e,λk=>(st k).trans (f k)⟩
   |_=>simp only[stepG]at h;cases h
theorem qfc{ρ:En}{q:Nat}(c:ρ.length=q+1)(a:ρ[q]?=some none):frE ρ (List.range q) 1=ρ:=by
 apply uT;intro i;unfold frE;by_cases h:i<q
 .rw [wQ (by simpa using h),w5,uC h]
  have:i<ρ.length:=by lia
  rw[wg,wD this];rfl
 .by_cases b:i=q
  .subst b
   rw[wI (by simp)];simp[a]
  .rw [vp (by simp;lia),vp 00]
theorem qcl{a:Nat}{it2:CI}{l:CE}:∀(ds:List D) (ρ:En) (S:Sr) (d:D) (f:Sr) (b:D),ρ.length=a+1+1->ρ[a+1]?=some none ->
  genLoop (λd ρ S=>asg F (.v a) d ρ S) (λρ S=>tsts F .nil ρ S) (λρ S=>ev F (.gen .any (List.range (a+1)) 1 l (.v (a+1)) it2 .nil) ρ S) (stepG .any) (finG .any) ds ρ b S=.ok d f ->
  runO (λd ρ S=>asg F (.v a) d ρ S) (λρ S=>evI F it2 ρ S) (setQ F (a+1)) (λρ S=>ev F l ρ S) ds ρ S=.ok d f
 |[],ρ,S,d,f,b,hl,hq,h=>by
  unfold genLoop at h;cases h;rfl
 |y::r,ρ,S,d,f,b,hl,hq,h=>by
  unfold genLoop at h;unfold asg at h;rw[Res.bind_ok]at h;unfold tsts at h;rw[Res.bind_ok,wR rfl]at h;have j:(ρ.set a (some y)).length=a+1+1:=by rw[x8];exact hl
  have c:(ρ.set a (some y))[a+1]?=some none:=by rw[v8 00];exact hq
  unfold runO;rw[show asg F (.v a) y ρ S=.ok (ρ.set a (some y)) S by unfold asg;rfl,Res.bind_ok];unfold ev at h;rw[qfc j c]at h;cases z:evI F it2 (ρ.set a (some y)) S with
  |no=>rw[z]at h;cases h
  |err=>rw[z]at h;cases h
  |ok ys S2 =>
   rw[z,Res.bind_ok]at h;rw[Res.bind_ok];cases z2:genLoop (λd ρ S=>asg F (.v (a+1)) d ρ S) (λρ S=>tsts F .nil ρ S) (λρ S=>ev F l ρ S) (stepG .any) (finG .any) ys (ρ.set a (some y)) (startG .any) S2 with
   |no=>rw[z2]at h;cases h
   |err=>rw[z2]at h;cases h
   |ok v S3 =>
    rw[z2,Res.bind_ok]at h;have n:ρ.set a (some y)=(ρ.set a (some y)).set (a+1) none:=by
     apply uT;intro i;by_cases hi:i=a+1
     .subst hi
      rw[c,vj 00]
     .rw [v8 (Ne.symm hi)]
    rcases nest_in (mi:=λρ S=>evI F it2 ρ S) c ys _ S2 v S3 _ ⟨none,n⟩ z2 with ⟨rfl,m⟩|⟨rfl,m⟩
    .simp only[stepG]at h
     cases h;exact m _
    .simp only[stepG]at h
     rw[m _];exact qcl r _ S3 d f _ j c h
theorem jA{k:Nat}{sc:Scope}{cl:List (Str×Addr)}{C:Addr}{code:Value}{N':List Str}{fp:01}{elt t1 i1 t2 i2:Expr}{it it2:Addr}{p:Pos}{o:Addr×Obj}{s:Shared}{H:Hp}(r:Room (k+1) X.A):
  Room k (wA (genCx X sc cl C code N' fp (ge2 elt t1 i1 t2 i2 sc gp) it o s H) (inA X.A.in4.in1 (genEnv sc cl C code builtinsNs X.env) elt t1 i1 t2 i2 sc gp it it2 p)).A:=by
 have a:=r.hd;have b:=r.dp;have c:=r.un;have d:Code.weight (.compLoop (ge2 elt t1 i1 t2 i2 sc gp) 1 (.ref it2) .none (genEnv sc cl C code builtinsNs X.env))<=0:=vm rfl;have f:Code.cUnits (.compLoop (ge2 elt t1 i1 t2 i2 sc gp) 1 (.ref it2) .none (genEnv sc cl C code builtinsNs X.env))<=0:=vm rfl;have h:frameCount ([fr2 (genEnv sc cl C code builtinsNs X.env) (.compLoop (ge2 elt t1 i1 t2 i2 sc gp) 0 (.ref it) .none (genEnv sc cl C code builtinsNs X.env)) p].map Frame.where_)<=1:=vm rfl;have i:unitsOf ([fr2 (genEnv sc cl C code builtinsNs X.env) (.compLoop (ge2 elt t1 i1 t2 i2 sc gp) 0 (.ref it) .none (genEnv sc cl C code builtinsNs X.env)) p].map Frame.where_)<=3:=vm rfl;refine⟨a,?_,?_⟩
 .show X.A.depth+frameCount ([fr2 (genEnv sc cl C code builtinsNs X.env) (.compLoop (ge2 elt t1 i1 t2 i2 sc gp) 0 (.ref it) .none (genEnv sc cl C code builtinsNs X.env)) p].map Frame.where_)+Code.weight (.compLoop (ge2 elt t1 i1 t2 i2 sc gp) 1 (.ref it2) .none (genEnv sc cl C code builtinsNs X.env))+3*k+5<_
  lia
 .show X.A.units+1+1+1+1+1+unitsOf ([fr2 (genEnv sc cl C code builtinsNs X.env) (.compLoop (ge2 elt t1 i1 t2 i2 sc gp) 0 (.ref it) .none (genEnv sc cl C code builtinsNs X.env)) p].map Frame.where_)+Code.cUnits (.compLoop (ge2 elt t1 i1 t2 i2 sc gp) 1 (.ref it2) .none (genEnv sc cl C code builtinsNs X.env))+16*k+200<_
  lia
theorem qiu(a:Nat)(fr:List Nat)(xs:List Str)(n q:Str){p:Pos}{elt t1 i1 t2 i2:Expr}{sc:Scope}{k:Nat}{c T':Addr}{j it2:CI}{E:CE}{r:List Nat}{Y:Nat}(Z:Room k X.A)(gb:Gb X.mg)(l:X.env.code=.ref c)(y:codeTab X.K c T'=true)(hi:QI X t1 i1 (TIt (evI F j)))(r1:∀cl C code fp it o s H,QG (genCx X sc cl C code (xs++[n,q]) fp (ge2 elt t1 i1 t2 i2 sc gp) it o s H) t1 (TGt (asg F (.v a))))(ri:∀cl C code fp it o s H,QI (genCx X sc cl C code (xs++[n,q]) fp (ge2 elt t1 i1 t2 i2 sc gp) it o s H) t2 i2 (TIt (evI F it2)))(r2:∀cl C code fp it o s H b B,QG (wA (genCx X sc cl C code (xs++[n,q]) fp (ge2 elt t1 i1 t2 i2 sc gp) it o s H) (inA X.A.in4.in1 (genEnv sc cl C code builtinsNs X.env) elt t1 i1 t2 i2 sc gp it b B)) t2 (TGt (asg F (.v (a+1)))))(re:∀cl C code fp it o s H b B,QE (wA (genCx X sc cl C code (xs++[n,q]) fp (ge2 elt t1 i1 t2 i2 sc gp) it o s H) (inA X.A.in4.in1 (genEnv sc cl C code builtinsNs X.env) elt t1 i1 t2 i2 sc gp it b B)) elt (T (ev F E)))(hc:X.calm=true:=by rfl)(J:Gl X "any":=by rfl)(hs:∀x,genFold i1 X.env x=pure x:=by intro _;rfl)(hf:∀cl C code x,foldedSetIterable i2 (genEnv sc cl C code builtinsNs X.env) x=pure x:=by intro _ _ _ _;rfl)(h:cscB X.env.scope.names X.N sc fr xs [n,q]=true:=by rfl)(hz:sc.names.lookup (".0":Str)=some NameKind.local:=by rfl)(L:sc.isCoroutine=false:=by rfl)(ha:fr.length=a:=by rfl)(M:r=List.range (a+1):=by rfl)(O:Y=a+1:=by rfl):
  QE X (.Call (.Name "any" p) [.GeneratorExp elt [⟨t1,i1,[],0⟩,⟨t2,i2,[],0⟩] sc gp] [] pos) (T (ev F (.gen .any fr 2 (.gen .any r 1 E (.v Y) it2 .nil) (.v a) j .nil))):=by
 subst M O;delta QE;delta QI at hi ri;delta QG at r1 r2;delta QE at re;have P:=qkH (X:=X) (pos:=pos) (p:=p) (gp:=gp) (f:="any") (m1:=evI F j) (g1:=λd ρ S=>asg F (.v a) d ρ S) (mi:=λρ S=>evI F it2 ρ S) (g2:=setQ F (a+1)) (me:=λρ S=>ev F E ρ S) hc Z.hd Z.depth J gb.any (by decide +kernel) 02 02 hi hs (yy h) hz L l y
  ⟨r1,ri,hf,λcl C code fp it o s H b B pins s' U H' v u Q I rv W=>r2 cl C code fp it o s H b B pins s' U H' v u Q I rv (by
   obtain⟨ι,S,ρ,d,m,st,dv,w⟩:=W;refine⟨ι,S,ρ,d,m,st,dv,?_⟩;by_cases z:ρ[a+1]?=some none
   .rw [qbu z]at w;exact w
   .rw [qd7 z]at w;exact w.elim),re⟩
  (λ{d ρ S ρ' S' ι H U} e m=>by
   by_cases z:ρ[a+1]?=some none
   .rw [qbu z]at e
    unfold asg at e;cases e;refine⟨by rw[<-m.len,x8],λi d' h'=>?_⟩;by_cases hi:i=a+1
    .subst hi;rw[z]at h';cases h'
    .exact m.get i d' (by rw[v8 (Ne.symm hi)];exact h')
   .rw [qd7 z]at e;cases e)
 refine PEimp P λU H Q hw=>?_
 obtain⟨ι,S,ρ,m,st,w⟩:=hw;refine⟨ι,S,ρ,m,st,?_⟩;dsimp only;unfold ev at w;cases z:evI F j ρ S with
 |no=>rw[z]at w;exact w.elim
 |err=>rw[z]at w;exact w.elim
 |ok ds S1 =>
  rw[z,Res.bind_ok]at w;rw[Res.bind_ok];have hl:(frE ρ fr 2).length=a+1+1:=by simp[frE,ha]
  have W:(frE ρ fr 2)[a+1]?=some none:=by
   unfold frE;rw[wI (by simp[ha])];simp[ha]
  cases zr:genLoop (λd ρ S=>asg F (.v a) d ρ S) (λρ S=>tsts F .nil ρ S) (λρ S=>ev F (.gen .any (List.range (a+1)) 1 E (.v (a+1)) it2 .nil) ρ S) (stepG .any) (finG .any) ds (frE ρ fr 2) (startG .any) S1 with
  |no=>rw[zr]at w;exact w.elim
  |err=>rw[zr]at w;exact w.elim
  |ok d S' =>
   have e:=qcl ds _ S1 d S' _ hl W zr;rw[zr]at w;show Pst Den (runO _ _ _ _ ds (frE ρ fr 2) S1) ι H Q;rw[e];exact w
end
end R
namespace R
open PySem PySem.Spec L2 SeqAt
open PyProof.Rows hiding St
open PySem.W (KasT kas_sort kas_cmp kas_item_eq kat_lt kat_kind KatTups KatLex kat_cons kat_yes kat_no kat_go kat_nil kat_one)
def head_shape{x:D}{k:Nat}{m:List Int}(h:headK x=some (k,m)):(k=0/\∃i,x=.int i/\m=[i])\/(k=2/\∃i,x=.t [.t (m.map .int),.int i])\/(k=1/\x=.t (m.map .int)):=by
 unfold headK at h;split at h
 .cases h;exact .inl ⟨rfl,_,rfl,rfl⟩
 .rename_i b i
  cases z:intsOf b with
  |none=>rw[z]at h;cases h
  |some q =>
   rw[z]at h;cases h;rw[intsOf_eq z];exact .inr (.inl ⟨rfl,_,rfl⟩)
 .rename_i b hb
  cases z:intsOf b with
  |none=>rw[z]at h;cases h
  |some q =>
   rw[z]at h;cases h;rw[intsOf_eq z];exact .inr (.inr ⟨rfl,rfl⟩)
 .cases h
def qiv{x y:D}{k:Nat}{m a:List Int}(h:headK x=some (k,m))(h':headK y=some (k,a))(ne:m≠a):eqD 20 x y=some false:=by
 rcases head_shape h with ⟨rfl,i,rfl,rfl⟩|⟨rfl,i,rfl⟩|⟨rfl,rfl⟩
 .rcases head_shape h' with ⟨_,j,rfl,rfl⟩|⟨z,_⟩|⟨z,_⟩
  .show some (i == j)=_
   have:i≠j:=λe=>ne (by rw[e])
   simp[this]
  .cases z
  .cases z
 .rcases head_shape h' with ⟨z,_⟩|⟨_,j,rfl⟩|⟨z,_⟩
  .cases z
  .show (match eqL (eqD 18) (m.map .int) (a.map .int),some ((i == j)&&true)with|some x,some y=>some (x&&y)|_,_=>none)=_
   rw[yt,wd ne];rfl
  .cases z
 .rcases head_shape h' with ⟨z,_⟩|⟨z,_⟩|⟨_,rfl⟩
  .cases z
  .cases z
  .show eqL (eqD 19) (m.map .int) (a.map .int)=_
   rw[yt,wd ne]
section
open PySem.SeqAt
open PySem.AutoSeq1 (wpAny_loadPart')
open PySem.MeetsSeq PySem.MeetsSeq2 PySem.MeetsSeq3
def qaH(l b:Addr)(f i:Value)(items a:Array Value)(n C:Nat)(F j:Option Addr)(sl m:Array (Option Value))(r B:List Value)(c:Bool)(hi:items.toList=f::r)(H:a.toList=i::B):
  Meets (Builtin.«tuple.__lt__» ⟨[.ref l,.ref b],[]⟩)
   (λA R s=>s.heap.get? l=some {cls:=.type "tuple",dict:=F,data:=.seq items n,slots:=sl}/\s.heap.get? b=some {cls:=.type "tuple",dict:=j,data:=.seq a C,slots:=m} /\
    EqAt A.in1 s f i false/\(∀(prog:Program) (w:World) (E:06) (Q:06),Q (.bool c) s->wpAny (model prog w) A.in1 (richCompare .Lt f i) Q E s)/\R (.ok (.ret (.bool c))) s) :=
 .of_wp λprog w A R s h=>by
  obtain⟨I,g,d,tk,os⟩:=s;obtain⟨J,hb,K,o,h⟩:=h;have M:=AutoSeq1.sub_tuple_tuple;wp_walk using wpAny_loadPart' J,wpAny_loadPart' hb,wpAny_forIn_list _ (λrest b s'=>b.1=none/\s'=⟨I,g,d,tk,os⟩/\rest=(f,i)::r.zip B) _
  case turn =>
   rintro⟨y,x⟩ rest b s' ⟨p,rfl,q⟩;injection q with u hrest;injection u with L hx;subst L hx;refine wB (K prog w _ _ ?_);have v:=o prog w;wp_walk using v;exact⟨_,rfl,by simpa using h⟩
  case fin =>
   rintro⟨b1,b2⟩ s' ⟨p,rfl,q⟩;cases q
  case h =>
   exact⟨rfl,rfl,by rw[hi,H];rfl⟩
end
section
variable{prog:Program}{w:World}{A:Around}{E:Value->Shared->Prop}{s:Shared}
theorem qgH{v:Value}{Q:Bool->Shared->Prop}(e:(v == v)=true)(h:Q true s):wpAny (model prog w) A (eqBool v v) Q E s:=by
 unfold eqBool;refine vE ?_;show wpAny _ _ (if(v == v)=true then _ else _) Q E s;rw[wR e];exact wB (vc (wE h))
theorem qcm{b fin:Bool}{Q:Bool->Shared->Prop}(h:Q fin s):∀(l:List Value) (i:Nat),(∀v∈l,(v == v)=true)->KatLex prog w A b fin Q (l.zip l) i s
 |[],_,_=>kat_nil h
 |v::r,i,e=>kat_cons (qgH (e v wH) (kat_yes (qcm h r (i+1) λu a=>e u (wL _ a))))
theorem yI{k:Nat}:∀{l:List D} {ks:07},keysK k l=some ks->ks.length=l.length/\∀i d,l[i]?=some d->∃x r,d=.t (x::r)/\headK x=some (k,ks.getD i [])
 |[],ks,h=>by cases h;exact⟨rfl,λi d e=>by simp at e⟩
 |d::l,ks,h=>by
  unfold keysK at h;cases z:keyK k d with
  |none=>rw[z]at h;cases h
  |some m =>
   rw[z,wY]at h;cases z2:keysK k l with
   |none=>rw[z2]at h;cases h
   |some n =>
    rw[z2]at h;cases h;obtain⟨c,f⟩:=yI z2;refine⟨by simp[c],λi e a=>?_⟩;cases i with
    |zero =>
     simp only[uD,Option.some.injEq]at a;subst a;unfold keyK at z;split at z
     .rename_i x r
      cases z3:headK x with
      |none=>rw[z3]at z;cases z
      |some p =>
       rw[z3,wY]at z;by_cases b:p.1=k
       .rw [wR b]at z
        cases z;refine⟨x,r,rfl,?_⟩;rw[z3,<-b];rfl
       .rw [wT b]at z;cases z
     .cases z
    |succ i =>
     simp only[List.getElem?_cons_succ]at a;obtain⟨x,r,e1,j⟩:=f i e a;exact⟨x,r,e1,by simpa using j⟩
end
section
variable{X:Cx}{pins:List (Addr×Obj)}{σ:St}{H:Hp}{s:Shared}{ι:List Addr}{S:Sr}
theorem qgI{xs:List V}{vs:List Value}(r:Vals xs vs):∀v∈vs,(v == v)=true:=by
 induction r with
 |nil=>intro v a;cases a
 |cons h _ b =>
  intro v a;rcases wX.mp a with rfl|a
  .simp
  .exact b v a
theorem qda(I:Inv X pins σ H s){k:Nat}{l:List D}{ks:07}{xs:List V}{vs:List Value}(e:keysK k l=some ks)(m:Dens ι H l xs)(n:Vals xs vs){i:Nat}(hi:i<vs.length):
  ∃a b f r x c,vs.getD i .none=.ref a/\b=f::r/\IsTup s.heap a b.toArray/\headK x=some (k,ks.getD i [])/\Den ι H x c/\RelV c f/\∀v∈b,(v == v)=true:=by
 obtain⟨y,e1,r1⟩:=Vals.at n hi;obtain⟨d,o,q⟩:=m.at e1;obtain⟨x,r,rfl,u⟩:=(yI e).2 i d o;obtain⟨a,b,ys,_,ev,h,d2,p,_⟩:=zu I q r1;obtain⟨c,A,rfl,j,B⟩:=d2;cases h with
 |cons q1 q2 =>
  rename_i f w;refine⟨a,_,f,w,x,c,?_,rfl,p,u,j,q1,qgI (.cons q1 q2)⟩;rw[wK,wD hi];exact ev
theorem qcn(I:Inv X pins σ H s){k:Nat}:∀{l:List D} {ks:07} {xs:List V} {vs:List Value},keysK k l=some ks->Dens ι H l xs->Vals xs vs ->
  ∃fs,KatTups s.heap vs fs/\fs.length=vs.length/\∀f∈fs,∃x b m,headK x=some (k,m)/\Den ι H x b/\RelV b f
 |[],ks,xs,vs,e,hd,r=>by
  cases (show xs=[]from hd);cases r;exact⟨[],trivial,rfl,λf p=>by cases p⟩
 |d::l,ks,xs,vs,e,hd,r=>by
  have q:=e;obtain⟨x,c,rfl,v,j⟩:=hd;unfold keysK at e;cases z:keyK k d with
  |none=>rw[z]at e;cases e
  |some m =>
   rw[z,wY]at e;cases z2:keysK k l with
   |none=>rw[z2]at e;cases e
   |some F =>
    cases r with
    |cons r1 r2 =>
     obtain⟨fs,t1,t2,t3⟩:=qcn I z2 j r2;rename_i u us;obtain⟨a,w,f,J,y,b,ev,rfl,⟨o,A,B,n,od⟩,C,h,rf,_⟩:=qda I (i:=0) q ⟨x,c,rfl,v,j⟩ (.cons r1 r2) (by simp);have ev:u=.ref a:=by simpa using ev
     subst ev;refine⟨f::fs,⟨⟨a,o,_,n,rfl,A,B,od,by simp⟩,t1⟩,by simp[t2],λg E=>?_⟩;rcases wX.mp E with rfl|z
     .exact ⟨y,b,_,C,h,rf⟩
     .exact t3 g z
theorem ja(I:Inv X pins σ H s){m:List Int}{v:V}{u:Value}(h:Den ι H (.t (m.map .int)) v)(r:RelV v u):∃a b,u=.ref a/\IsTup s.heap a b.toArray/\IntsAre b m:=by
 obtain⟨a,b,xs,_,rfl,c,d,p,_⟩:=zu I h r;cases dens_ints d;exact⟨a,b,rfl,p,q8 c⟩
theorem qgJ(I:Inv X pins σ H s){k:Nat}{l:List D}{ks:07}{xs:List V}{vs:List Value}{A:Around}{E:06}{prog:Program}{w:World}(e:keysK k l=some ks)(q:Dens ι H l xs)(r:Vals xs vs)(F:2<=vs.length){Q:SortKind->Shared->Prop}(h:Q (tuples' (decide (k=0))) s):wpAny (model prog w) A (keyKind' vs.toArray) Q E s:=by
 obtain⟨fs,n,J,p⟩:=qcn I e q r;by_cases a:k=0
 .subst a
  refine kat_kind (T:=Value.type "int") n 00 (λv d=>?_) 02 h;obtain⟨x,u,m,f,dx,j⟩:=p v d;rcases head_shape f with ⟨_,i,rfl,rfl⟩|⟨z,_⟩|⟨z,_⟩
  .obtain ⟨t,rfl⟩:=zS dx j
   exact .now
  .cases z
  .cases z
 .rw [wd a]at h
  refine kat_kind (T:=Value.type "tuple") n 00 (λv d=>?_) 02 h;obtain⟨x,u,m,f,dx,j⟩:=p v d;have:∃y,x=.t y:=by
   rcases head_shape f with ⟨z,_⟩|⟨_,i,z⟩|⟨_,z⟩
   .exact absurd z a
   .exact ⟨_,z⟩
   .exact ⟨_,z⟩
  obtain⟨y,rfl⟩:=this;obtain⟨b,B,ys,_,rfl,_,_,⟨o,C,c,_⟩,_⟩:=zu I dx j;rw[<-c];exact(PySem.W.Looks.ld C).andThen .now
theorem qiw(I:Inv X pins σ H s){k:Nat}{l:List D}{ks:07}{xs:List V}{vs:List Value}{A:Around}{prog:Program}{w:World}(hu:A.units+30<cLine)(e:keysK k l=some ks)(nd:ks.Nodup)(Z:Dens ι H l xs)(rv:Vals xs vs){i j:Nat}(hi:i<vs.length)(hj:j<vs.length){C:Bool->Shared->Prop}(h:C (ltK ks i j) s):
  kas_cmp prog w A (tuples' (decide (k=0))) (pairsOf vs) i j C s:=by
 unfold kas_cmp;rw[kas_item_eq,kas_item_eq];obtain⟨a,ac,f,r,x,xv,e1,rfl,⟨o,W,_,n,d⟩,hx,dx,Y,hb⟩:=qda I e Z rv hi;obtain⟨a',its',f',r',x',a0,e2,rfl,⟨o',J,_,n',d'⟩,m,p,B,ad⟩:=qda I e Z rv hj;dsimp only;rw[e1,e2];have lk:ks.length=vs.length:=(yI e).1.trans (Z.length.trans rv.length);by_cases M:i=j
 .subst M
  rw[e1]at e2;cases e2;rw[W]at J;cases J;rw[d]at d';injection d' with d1 d2;have d3:f::r=f'::r':=by simpa using d1
  injection d3 with d4 d5;subst d4 d5;refine kat_lt W d W d ?_;rw[wd (vR _)];have z:ltK ks i i=false:=jR _;rw[z]at h;exact qcm h _ 0 hb
 .have ne:ks.getD i []≠ks.getD j []:=by
   intro z;have a1:i<ks.length:=by lia
   have a2:j<ks.length:=by lia
   rw[wK,wK,wD a1,wD a2]at z;have z':ks[i]=ks[j]:=z;have pw:=List.pairwise_iff_getElem.mp nd;rcases Nat.lt_trichotomy i j with q|q|q
   .exact pw i j a1 a2 q z'
   .exact M q
   .exact pw j i a2 a1 q z'.symm
  have a3:=qiv hx m ne;refine kat_lt W d J d' ?_;refine kat_cons ((ju I 20 A x x' false xv a0 f f' a3 dx p Y B 00).2.2 _ _ _ _ (kat_no ?_));unfold ltK at h;rcases head_shape hx with ⟨rfl,u,rfl,eu⟩|⟨rfl,u,rfl⟩|⟨rfl,rfl⟩
  .rcases head_shape m with ⟨_,v,rfl,ev⟩|⟨z,_⟩|⟨z,_⟩
   .obtain ⟨t,rfl⟩:=zS dx Y
    obtain⟨t',rfl⟩:=zS p B;rw[eu,ev,HT.qZ,wT (λq=>ne (by rw[eu,ev,q]))]at h;exact qgn h
   .cases z
   .cases z
  .rcases head_shape m with ⟨z,_⟩|⟨_,v,rfl⟩|⟨z,_⟩
   .cases z
   .obtain ⟨b,bi,bs,_,rfl,bv,bd,⟨⟨cls,dd,data,sl⟩,ho,hc,m1,hd⟩,_⟩:=zu I dx Y
    obtain⟨b',ae,af,_,rfl,a4,a5,⟨⟨ab,a6,a7,a8⟩,N,O,m2,P⟩,_⟩:=zu I p B;simp only at hc hd O P;subst hc hd O P;obtain⟨y,yr,rfl,hy,_⟩:=bd;obtain⟨y',ag,rfl,U,_⟩:=a5;cases bv with
    |cons q1 q2 =>
     cases a4 with
     |cons q3 q4 =>
      obtain⟨c,ci,rfl,tc,ic⟩:=ja I hy q1;obtain⟨c',a9,rfl,K,L⟩:=ja I U q3;have aa:eqD 20 (.t ((ks.getD i []).map .int)) (.t ((ks.getD j []).map .int))=some false:=by
       show eqL (eqD 19) _ _=_;rw[yt,wd ne]
      refine kat_one _ _ ?_;refine xY (op:=.Lt) ⟨_,ho,rfl⟩ ⟨_,N,rfl⟩ PySem.F.slot_tuple_lt PySem.F.entry_tuple_lt (PySem.F.args_tuple_lt_2 _ _) (qaH b b' _ _ _ _ m1 m2 dd a6 sl a8 _ _ (HT.lexLt (ks.getD i []) (ks.getD j [])) rfl rfl)
       ⟨ho,N,(ju I 20 _ _ _ false _ _ _ _ aa hy U q1 q3 ?_).2.2,λprog w E Q hq=>HT.yS tc K ic L ?_ hq,show Value.bool _≠Value.notImplemented/\_ from⟨(λx=>nomatch x),h⟩⟩ 00
      .show A.units+1+20<cLine
       lia
      .show A.units+1<cLine
       lia
   .cases z
  .rcases head_shape m with ⟨z,_⟩|⟨z,_⟩|⟨_,rfl⟩
   .cases z
   .cases z
   .obtain ⟨c,ci,rfl,tc,ic⟩:=ja I dx Y
    obtain⟨c',a9,rfl,K,L⟩:=ja I p B;exact kat_one _ _ (HT.yS tc K ic L 00 h)
end
section
variable{X:Cx}{pins:List (Addr×Obj)}{σ:St}{H:Hp}{s:Shared}{ι:List Addr}{S:Sr}
theorem qd8:∀{ks:07} {l:List D} {i:Nat},ks.Nodup->ks.length=l.length->i<ks.length->atK (ks.getD i []) (ks.zip l)=l.getD i .non
 |[],_,_,_,_,h=>by simp at h
 |_::_,[],_,_,h,_=>by simp at h
 |k::ks,d::l,0,_,_,_=>by simp[atK]
 |k::ks,d::l,i+1,nd,hl,h=>by
  rw[wh]at nd;have hi:i<ks.length:=by simpa using h
  have:(k=ks.getD i [])=False:=by
   refine eq_false λe=>nd.1 ?_
   rw[e,wK,wD hi];exact uo _
  simp only[List.getD_cons_succ,wv,atK,this,uB];exact qd8 nd.2 (by simpa using hl) hi
theorem qco{m:Bool}{k:Nat}{x:Value}{l:List D}{ks:07}{xs:List V}{vs:List Value}{Q:VK}(I:Inv X pins σ H s)(st:Sto ι H S)(B:X.A.in1.in1.units+30<cLine)(f:Dens ι H l xs)(h:Vals xs vs)(e:keysK k l=some ks)(E:ks.length<64)(nd:ks.Nodup)(u:∀(v:06) (Q':List Value->Shared->Prop),(∀(h':Heap) (tk:Nat),s.heap.objs.size<=h'.objs.size->(∀b o,s.heap.get? b=some o->h'.get? b=some o)->Q' vs {s with heap:=h',toks:=tk})->wpAny 03 X.A.in1 (collect x) Q' v s)(q:Pst Den (newL m (sortK ks l) S) ι H Q):wpAny 03 X.A (call (.builtin "sorted") [x]) (EP X pins σ Q) X.xe s:=by
 have p:ks.length=l.length:=(yI e).1;have n:l.length=vs.length:=f.length.trans h.length;refine qaT (κ:=tuples' (decide (k=0))) (lt:=ltK ks) 00 u (λr h' tk kp=>?_) λh' tk D c sz kp F=>?_
 .have y:=I.kept (h':=h') (t':=tk) kp
  exact⟨λv Q' J=>qgJ y e f h r J,by rw[<-n,<-p];exact qaj nd,λi j C hi K L=>qiw y B e nd f h hi K L⟩
 .have fin:∃a,Vals a (outOf (ltK ks) vs)/\Dens ι H (sortK ks l) a:=by
   unfold outOf;by_cases r:vs.length<2
   .rw [wR r]
    refine⟨xs,h,?_⟩;have:sortK ks l=l:=by
     match ks,l,p,n with
     |[],[],_,_=>rfl
     |[k],[d],_,_=>simp[sortK,sortT,insT,atK]
     |_::_::_,_::_::_,_,n=>simp at n;lia
    rw[this];exact f
   .rw [wT r]
    rw[<-n,<-p];obtain⟨pm,_⟩:=qbq (qaj nd) (show 1<=ks.length by lia);have hb:∀i∈(evT (ltK ks) (kas_sort ks.length)).toList,i<ks.length:=λi hi=>by have:=vY.mp (pm.mem_iff.mp hi);lia
    refine⟨_,qak h _ λi hi=>by have:=hb i hi;lia,?_⟩;have d:=qal f _ λi hi=>by have:=hb i hi;lia
    have M:sortK ks l=(evT (ltK ks) (kas_sort ks.length)).toList.map λi=>l.getD i .non:=by
     unfold sortK;rw[<-jI nd 00,wJ];exact wo λi hi=>qd8 nd p (hb i hi)
    rw[M];exact d
  obtain⟨a,N,d'⟩:=fin;have fr:H D=none:=I.hok.fresh sz;have O:a.length<=sizeLine:=by
   rw[<-d'.length];unfold sortK;rw[wF,(qG _).length_eq,vV];lia
  exact⟨.ref D,upd H D (.l a),I.laid (o:=.l a) (t':=tk) kp sz ⟨O,outOf (ltK ks) vs,c,N,F⟩,rfl,zb st d' q D fr⟩
theorem qix(m:Bool)(f:X.A.in1.in1.units+30<cLine):CallR X (.builtin "sorted") (Gn (one (bSortQ m))):=by
 intro pins s σ H xs us Q I r h;obtain⟨ι,S,ds,st,hd,p⟩:=h;obtain⟨d,rfl,p⟩:=qbh p;obtain⟨x,rfl,i⟩:=dens1 hd;obtain⟨u,rfl,j⟩:=vals1 r;simp only[one,bSortQ,bSortq]at p;cases hl:lstOf S d with
 |none=>rw[hl]at p;exact p.elim
 |some l =>
  rw[hl]at p;dsimp only at p;obtain⟨a,xs,rfl,ha,n⟩:=qP st hl i;cases j;cases z:keysK (kindK l) l with
  |none=>rw[z]at p;exact p.elim
  |some ks =>
   rw[z]at p;dsimp only at p;by_cases b:ks.length<64/\ks.Nodup
   .rw [wR b]at p
    obtain⟨vs,o,_,c⟩:=qcg I ha;exact qco I st f n o z b.1 b.2 (c _) p
   .rw [wT b]at p;exact p.elim
end
section
variable{X:Cx}{F:Fs}{pos p:Pos}{e:Expr}{es:List Expr}{cs:CEs}
theorem qbv(m:Bool){k:Nat}(b:Room k X.A)(gb:Gb X.mg)(ha:QA X (e::es) (TL (evs F cs)))(c:Gl X "sorted":=by rfl)(d:sE X e es:=by rfl)(a:bT X es pos:=by rfl):QE X (.Call (.Name "sorted" p) (e::es) [] pos) (T (ev F (.blt (.sortq m) cs))):=by
 delta QE;delta QA at ha;exact(jL (.sortq m) (qix m (by have:=b.un;show X.A.units+1+1+30<_;lia)) gb.sorted qaX ha c 02 02 d a)
end
end R
namespace RP
open R
def c_0:CF:=⟨1,1,false,.c (.ret (.and (.isi .int (.v 0)) (.not (.isi .bool (.v 0))))) .nil⟩
def c_1:CF:=⟨3,3,false,.c (.ret (.and (.call 0 (.c (.v 0) .n)) (.chain .le .le (.v 1) (.v 0) (.v 2)))) .nil⟩
def c_2:CF:=⟨2,2,false,.c (.whileS (.val (.v 1)) (.c (.set (.t (.c (.v 0) (.c (.v 1) .n))) (.t (.c (.v 1) (.c (.bin .mod (.v 0) (.v 1)) .n)))) .n)) (.c (.ret (.v 0)) .n)⟩
def c_3:CF:=⟨2,3,false,.c (.set (.v 2) (.call 2 (.c (.blt .abs (.c (.v 0) .n)) (.c (.v 1) .n)))) (.c (.ret (.t (.c (.bin .fdiv (.v 0) (.v 2)) (.c (.bin .fdiv (.v 1) (.v 2)) .n)))) .n)⟩
def c_4:CF:=⟨1,3,false,.c (.ifs (.or (.not (.val (.isi .tuple (.v 0)))) (.val (.cmp .ne (.blt .len (.c (.v 0) .n)) (.k (.int 2))))) (.c (.ret (.k (.bl false))) .n) .n) (.c (.set (.t (.c (.v 1) (.c (.v 2) .n))) (.v 0)) (.c (.ifs (.or (.not (.val (.call 0 (.c (.v 1) .n)))) (.or (.not (.val (.call 0 (.c (.v 2) .n)))) (.val (.cmp .lt (.v 2) (.k (.int 1)))))) (.c (.ret (.k (.bl false))) .n) .n) (.c (.ret (.cmp .eq (.call 2 (.c (.blt .abs (.c (.v 1) .n)) (.c (.v 2) .n))) (.k (.int 1)))) .n)))⟩
def c_5:CF:=⟨1,1,false,.c (.ret (.and (.call 4 (.c (.v 0) .n)) (.cmp .ge (.idx (.v 0) (.k (.int 0))) (.k (.int 0))))) .nil⟩
def c_6:CF:=⟨2,2,false,.c (.ret (.cmp .lt (.bin .mul (.idx (.v 0) (.k (.int 0))) (.idx (.v 1) (.k (.int 1)))) (.bin .mul (.idx (.v 1) (.k (.int 0))) (.idx (.v 0) (.k (.int 1)))))) .nil⟩
def c_7:CF:=⟨1,4,false,.c (.set (.t (.c (.v 1) (.c (.v 2) .n))) (.t (.c (.k (.int 0)) (.c (.k (.int 1)) .n)))) (.c (.forX (.v 3) (.v 0) (.c (.set (.t (.c (.v 1) (.c (.v 2) .n))) (.call 3 (.c (.bin .add (.bin .mul (.v 1) (.idx (.v 3) (.k (.int 1)))) (.bin .mul (.idx (.v 3) (.k (.int 0))) (.v 2))) (.c (.bin .mul (.v 2) (.idx (.v 3) (.k (.int 1)))) .n)))) .n)) (.c (.ret (.t (.c (.v 1) (.c (.v 2) .n)))) .n))⟩
def c_8:CF:=⟨2,2,false,.c (.ret (.call 3 (.c (.idx (.v 0) (.k (.int 0))) (.c (.bin .mul (.idx (.v 0) (.k (.int 1))) (.v 1)) .n)))) .nil⟩
def c_9:CF:=⟨1,3,false,.c (.ifs (.or (.not (.val (.isi .tuple (.v 0)))) (.val (.cmp .ne (.blt .len (.c (.v 0) .n)) (.k (.int 2))))) (.c (.ret (.k (.bl false))) .n) .n) (.c (.set (.t (.c (.v 1) (.c (.v 2) .n))) (.v 0)) (.c (.ret (.and (.call 10 (.c (.v 1) .n)) (.call 11 (.c (.v 2) (.c (.blt .len (.c (.v 1) .n)) .n))))) .n))⟩
def c_10:CF:=⟨1,1,false,.c (.ifs (.or (.not (.val (.isi .tuple (.v 0)))) (.not (.val (.chain .le .le (.k (.int 1)) (.blt .len (.c (.v 0) .n)) (.k (.int 12)))))) (.c (.ret (.k (.bl false))) .n) .n) (.c (.ret (.gen .all [] 1 (.call 1 (.c (.v 0) (.c (.k (.int 1)) (.c (.k (.int 100)) .n)))) (.v 0) (.seq (.v 0)) .n)) .n)⟩
def c_11:CF:=⟨2,2,false,.c (.ifs (.or (.not (.val (.isi .tuple (.v 0)))) (.val (.cmp .gt (.blt .len (.c (.v 0) .n)) (.k (.int 30))))) (.c (.ret (.k (.bl false))) .n) .n) (.c (.ifs (.not (.val (.gen .all [1] 1 (.call 12 (.c (.v 1) (.c (.v 0) .n))) (.v 1) (.seq (.v 0)) .n))) (.c (.ret (.k (.bl false))) .n) .n) (.c (.ret (.call 15 (.c (.lc false [] 2 (.v 0) (.t (.c (.v 0) (.c (.v 1) .n))) (.seq (.v 0)) .n) .n))) .n))⟩
def c_12:CF:=⟨2,4,false,.c (.ifs (.or (.not (.val (.isi .tuple (.v 0)))) (.val (.cmp .ne (.blt .len (.c (.v 0) .n)) (.k (.int 2))))) (.c (.ret (.k (.bl false))) .n) .n) (.c (.set (.t (.c (.v 2) (.c (.v 3) .n))) (.v 0)) (.c (.ret (.and (.call 13 (.c (.v 2) (.c (.v 1) .n))) (.call 1 (.c (.v 3) (.c (.k (.int 1)) (.c (.k (.int 1000000)) .n)))))) .n))⟩
def c_13:CF:=⟨2,2,false,.c (.ret (.and (.call 14 (.c (.v 0) (.c (.v 1) .n))) (.cmp .le (.blt .len (.c (.v 0) .n)) (.k (.int 4))))) .nil⟩
def c_14:CF:=⟨2,2,false,.c (.ifs (.or (.not (.val (.isi .tuple (.v 0)))) (.not (.val (.v 0)))) (.c (.ret (.k (.bl false))) .n) .n) (.c (.ret (.and (.gen .all [1] 1 (.call 1 (.c (.v 1) (.c (.k (.int 0)) (.c (.bin .sub (.v 0) (.k (.int 1))) .n)))) (.v 1) (.seq (.v 0)) .n) (.call 15 (.c (.v 0) .n)))) .n)⟩
def c_15:CF:=⟨1,1,false,.c (.ret (.gen .all [] 2 (.cmp .lt (.v 0) (.v 1)) (.t (.c (.v 0) (.c (.v 1) .n))) (.zip (.v 0) (.slc (.v 0) (.some (.k (.int 1))) .none)) .n)) .nil⟩
def c_16:CF:=⟨1,1,false,.c (.ifs (.not (.val (.call 9 (.c (.v 0) .n)))) (.c (.never) .n) .n) .nil⟩
def c_17:CF:=⟨2,3,false,.c (.expr (.call 16 (.c (.v 0) .n))) (.c (.set (.v 2) (.idx (.v 0) (.k (.int 1)))) (.c (.ifs (.or (.not (.val (.isi .tuple (.v 1)))) (.val (.cmp .ne (.blt .len (.c (.v 1) .n)) (.blt .len (.c (.v 2) .n))))) (.c (.ret (.k (.bl false))) .n) .n) (.c (.ret (.gen .all [] 2 (.call 18 (.c (.v 0) (.c (.v 1) .n))) (.t (.c (.v 0) (.c (.v 1) .n))) (.zip (.v 2) (.v 1)) .n)) .n)))⟩
def c_18:CF:=⟨2,4,false,.c (.set (.t (.c (.v 2) (.c (.v 3) .n))) (.v 0)) (.c (.ifs (.or (.not (.val (.isi .tuple (.v 1)))) (.val (.cmp .ne (.blt .len (.c (.v 1) .n)) (.blt .len (.c (.v 2) .n))))) (.c (.ret (.k (.bl false))) .n) .n) (.c (.ret (.and (.gen .all [] 1 (.call 5 (.c (.v 0) .n)) (.v 0) (.seq (.v 1)) .n) (.cmp .eq (.call 7 (.c (.v 1) .n)) (.t (.c (.v 3) (.c (.k (.int 1)) .n)))))) .n))⟩
def c_19:CF:=⟨2,2,false,.c (.ifs (.not (.val (.call 17 (.c (.v 0) (.c (.v 1) .n))))) (.c (.never) .n) .n) .nil⟩
def c_20:CF:=⟨2,8,false,.c (.expr (.call 19 (.c (.v 0) (.c (.v 1) .n)))) (.c (.set (.v 2) (.lls (.idx (.v 0) (.k (.int 0))))) (.c (.forS (.t (.c (.t (.c (.v 3) (.c (.v 4) .n))) (.c (.v 5) .n))) (.zip (.idx (.v 0) (.k (.int 1))) (.v 1)) (.c (.forS (.t (.c (.v 6) (.c (.v 7) .n))) (.zip (.v 3) (.v 5)) (.c (.expr (.app (.idx (.v 2) (.v 6)) (.v 7))) .n)) .n)) (.c (.ret (.genX .tuple [] 1 (.call 7 (.c (.v 0) .n)) (.v 0) (.v 2) .n)) .n)))⟩
def c_21:CF:=⟨2,2,false,.c (.ret (.gen .tuple [] 2 (.call 8 (.c (.v 0) (.c (.v 1) .n))) (.t (.c (.v 0) (.c (.v 1) .n))) (.zip (.call 20 (.c (.v 0) (.c (.v 1) .n))) (.idx (.v 0) (.k (.int 0)))) .n)) .nil⟩
def c_22:CF:=⟨2,3,false,.c (.set (.v 2) (.call 21 (.c (.v 0) (.c (.v 1) .n)))) (.c (.ret (.gen .all [2] 2 (.call 23 (.c (.idx (.v 1) (.k (.int 0))) (.c (.v 2) (.c (.v 0) .n)))) (.t (.c (.v 1) (.c (.v 2) .n))) (.zip (.idx (.v 0) (.k (.int 1))) (.v 1)) .n)) .n)⟩
def c_23:CF:=⟨3,4,false,.c (.set (.v 3) (.lc false [] 2 (.v 0) (.t (.c (.v 0) (.c (.v 1) .n))) (.zip (.v 0) (.v 1)) (.c (.val (.cmp .gt (.idx (.v 1) (.k (.int 0))) (.k (.int 0)))) .n))) (.c (.ret (.not (.gen .any [2,0] 2 (.gen .any [0,1,2] 1 (.call 6 (.c (.idx (.v 0) (.v 3)) (.c (.idx (.v 0) (.v 2)) .n))) (.v 3) (.seq (.v 1)) .n) (.v 2) (.seq (.v 3)) .n))) .n)⟩
def c_24:CF:=⟨1,1,false,.c (.ret (.bin .mod (.bin .mul (.bin .mod (.v 0) (.bin .pow (.k (.int 10)) (.k (.int 60)))) (.k (.int 915965594177219015054603514932384110774149374281672134266497))) (.bin .pow (.k (.int 10)) (.k (.int 60))))) .nil⟩
def c_25:CF:=⟨2,5,true,.c (.set (.v 2) (.k (.int 0))) (.c (.forS (.v 3) (.seq (.l false (.c (.bin .add (.v 1) (.k (.int 1))) (.c (.v 1) .n)))) (.c (.set (.v 4) (.idx (.bin .add (.slc (.v 0) (.some (.v 3)) (.some (.bin .add (.v 3) (.k (.int 1))))) (.l false (.c (.bin .add (.bin .add (.bin .mul (.k (.int 5701)) (.v 3)) (.k (.int 43))) (.bin .mul (.k (.int 7)) (.idx (.bin .add (.v 0) (.l false (.c (.k (.int 0)) .n))) (.k (.int 0))))) .n))) (.k (.int 0)))) (.c (.set (.v 2) (.bin .add (.bin .mul (.v 2) (.bin .pow (.k (.int 10)) (.k (.int 60)))) (.call 24 (.c (.v 4) .n)))) .n))) (.c (.ret (.l true (.c (.v 2) .n))) .n))⟩
def c_26:CF:=⟨2,3,false,.c (.set (.t (.c (.sub (.v 0) (.k (.int 0))) (.c (.v 2) .n))) (.blt .divmod (.c (.idx (.v 0) (.k (.int 0))) (.c (.v 1) .n)))) (.c (.ret (.v 2)) .n)⟩
def c_27:CF:=⟨2,4,false,.c (.set (.t (.c (.v 2) (.c (.v 3) .n))) (.t (.c (.blt .abs (.c (.v 0) .n)) (.c (.blt .abs (.c (.v 1) .n)) .n)))) (.c (.whileS (.val (.cmp .ne (.v 3) (.k (.int 0)))) (.c (.set (.t (.c (.v 2) (.c (.v 3) .n))) (.t (.c (.v 3) (.c (.bin .mod (.v 2) (.v 3)) .n)))) .n)) (.c (.ifs (.val (.cmp .lt (.v 1) (.k (.int 0)))) (.c (.set (.v 2) (.bin .sub (.k (.int 0)) (.v 2))) .n) .n) (.c (.ret (.t (.c (.bin .fdiv (.v 0) (.v 2)) (.c (.bin .fdiv (.v 1) (.v 2)) .n)))) .n)))⟩
def c_28:CF:=⟨2,5,false,.c (.set (.v 2) (.idx (.l false (.c (.k (.int 2)) (.c (.k (.int 2)) (.c (.k (.int 2)) (.c (.k (.int 3)) (.c (.k (.int 3)) (.c (.k (.int 1)) (.c (.k (.int 4)) (.c (.k (.int 2)) .n))))))))) (.call 26 (.c (.v 0) (.c (.k (.int 8)) .n))))) (.c (.set (.v 3) (.rng (some true) (.c (.v 1) .n))) (.c (.set (.v 4) (.lc false [3,0] 1 (.popAt (.v 0) (.call 26 (.c (.v 1) (.c (.blt .len (.c (.v 0) .n)) .n)))) (.v 2) (.rng (.c (.blt .min2 (.c (.v 2) (.c (.v 1) .n))) .n)) .n)) (.c (.ret (.blt .tuple (.c (.blt (.sorted false) (.c (.v 4) .n)) .n))) .n)))⟩
def c_29:CF:=⟨3,8,false,.c (.set (.v 3) (.bin .add (.k (.int 1)) (.call 26 (.c (.v 0) (.c (.v 1) .n))))) (.c (.set (.v 4) (.bin .mul (.l false (.c (.k (.int 1)) .n)) (.v 3))) (.c (.ifs (.val (.cmp .eq (.call 26 (.c (.v 0) (.c (.k (.int 3)) .n))) (.k (.int 0)))) (.c (.set (.v 4) (.lc false [0] 1 (.bin .add (.k (.int 1)) (.call 26 (.c (.v 0) (.c (.k (.int 5)) .n)))) (.v 1) (.rng (.c (.v 3) .n)) .n)) .n) .n) (.c (.set (.v 5) (.dic true)) (.c (.forS (.v 6) (.rng (.c (.call 26 (.c (.v 0) (.c (.bin .add (.v 2) (.k (.int 1))) .n))) .n)) (.c (.set (.v 7) (.call 28 (.c (.v 0) (.c (.v 3) .n)))) (.c (.set (.sub (.v 5) (.v 7)) (.bin .add (.k (.int 1)) (.call 26 (.c (.v 0) (.c (.k (.int 9)) .n))))) .n))) (.c (.ret (.t (.c (.blt .tuple (.c (.v 4) .n)) (.c (.blt .tuple (.c (.lc false [5] 1 (.t (.c (.v 1) (.c (.idx (.v 0) (.v 1)) .n))) (.v 1) (.seq (.blt (.sorted false) (.c (.v 5) .n))) .n) .n)) .n)))) .n)))))⟩
def c_30:CF:=⟨2,2,false,.c (.ret (.call 27 (.c (.bin .add (.bin .mul (.idx (.v 0) (.k (.int 0))) (.idx (.v 1) (.k (.int 1)))) (.bin .mul (.idx (.v 1) (.k (.int 0))) (.idx (.v 0) (.k (.int 1))))) (.c (.bin .mul (.idx (.v 0) (.k (.int 1))) (.idx (.v 1) (.k (.int 1)))) .n)))) .nil⟩
def c_31:CF:=⟨2,2,false,.c (.ret (.call 27 (.c (.bin .mul (.idx (.v 0) (.k (.int 0))) (.idx (.v 1) (.k (.int 0)))) (.c (.bin .mul (.idx (.v 0) (.k (.int 1))) (.idx (.v 1) (.k (.int 1)))) .n)))) .nil⟩
def c_32:CF:=⟨2,7,false,.c (.set (.v 2) (.l true .nil)) (.c (.forS (.t (.c (.v 3) (.c (.v 4) .n))) (.seq (.idx (.v 1) (.k (.int 1)))) (.c (.set (.v 5) (.call 26 (.c (.v 0) (.c (.k (.int 3)) .n)))) (.c (.set (.v 6) (.binM .mul (.l false (.c (.k (.int 1)) .n)) (.blt .len (.c (.v 3) .n)))) (.c (.ifs (.val (.cmp .eq (.v 5) (.k (.int 0)))) (.c (.set (.v 6) (.binM .mul (.l false (.c (.k (.int 0)) .n)) (.blt .len (.c (.v 3) .n)))) (.c (.set (.sub (.v 6) (.call 26 (.c (.v 0) (.c (.blt .len (.c (.v 3) .n)) .n)))) (.k (.int 1))) .n)) .n) (.c (.ifs (.val (.cmp .eq (.v 5) (.k (.int 2)))) (.c (.set (.v 6) (.lc true [0] 1 (.call 26 (.c (.v 0) (.c (.k (.int 3)) .n))) (.v 1) (.seq (.v 3)) .n)) (.c (.set (.sub (.v 6) (.neg (.k (.int 1)))) (.bin .add (.k (.int 1)) (.idx (.v 6) (.neg (.k (.int 1)))))) .n)) .n) (.c (.expr (.app (.v 2) (.blt .tuple (.c (.lcR false [4,6] 1 (.call 27 (.c (.bin .mul (.v 0) (.v 2)) (.c (.blt .sum (.c (.v 1) .n)) .n))) (.v 2) (.v 6) .n) .n)))) .n)))))) (.c (.ret (.blt .tuple (.c (.v 2) .n))) .n))⟩
def c_33:CF:=⟨3,10,false,.c (.set (.v 3) (.binM .mul (.l false (.c (.k (.int 0)) .n)) (.blt .len (.c (.idx (.v 0) (.k (.int 0))) .n)))) (.c (.forS (.v 4) (.rng (.c (.blt .len (.c (.v 2) .n)) .n)) (.c (.set (.sub (.v 3) (.idx (.v 2) (.v 4))) (.idx (.idx (.v 0) (.k (.int 0))) (.v 4))) .n)) (.c (.set (.v 5) (.l true .nil)) (.c (.forS (.t (.c (.t (.c (.v 6) (.c (.v 7) .n))) (.c (.v 8) .n))) (.zip (.idx (.v 0) (.k (.int 1))) (.v 1)) (.c (.set (.v 9) (.blt (.sortq false) (.c (.lc false [2] 2 (.t (.c (.idx (.v 0) (.v 1)) (.c (.v 2) .n))) (.t (.c (.v 1) (.c (.v 2) .n))) (.zip (.v 6) (.v 8)) .n) .n))) (.c (.expr (.app (.v 5) (.t (.c (.blt .tuple (.c (.lc false [] 2 (.v 0) (.t (.c (.v 0) (.c (.v 1) .n))) (.seq (.v 9)) .n) .n)) (.c (.v 7) (.c (.blt .tuple (.c (.lc false [] 2 (.v 1) (.t (.c (.v 0) (.c (.v 1) .n))) (.seq (.v 9)) .n) .n)) .n)))))) .n))) (.c (.set (.v 5) (.blt (.sortq true) (.c (.v 5) .n))) (.c (.ret (.t (.c (.t (.c (.blt .tuple (.c (.v 3) .n)) (.c (.blt .tuple (.c (.lcR false [] 1 (.slc (.v 0) .none (.some (.k (.int 2)))) (.v 0) (.v 5) .n) .n)) .n))) (.c (.blt .tuple (.c (.lcR false [] 1 (.idx (.v 0) (.k (.int 2))) (.v 0) (.v 5) .n) .n)) .n)))) .n)))))⟩
def c_34:CF:=⟨2,2,false,.c (.ret (.blt .tuple (.c (.lc false [1] 1 (.blt .tuple (.c (.lc false [0] 1 (.call 31 (.c (.v 1) (.c (.t (.c (.v 0) (.c (.k (.int 1)) .n))) .n))) (.v 1) (.seq (.v 1)) .n) .n)) (.v 1) (.seq (.v 0)) .n) .n))) .nil⟩
def c_35:CF:=⟨3,18,false,.c (.set (.t (.c (.v 3) (.c (.v 4) (.c (.v 5) .n)))) (.t (.c (.call 20 (.c (.v 1) (.c (.v 2) .n))) (.c (.call 21 (.c (.v 1) (.c (.v 2) .n))) (.c (.call 22 (.c (.v 1) (.c (.v 2) .n))) .n))))) (.c (.set (.v 6) (.t (.c (.k (.int 0)) (.c (.k (.int 1)) .n)))) (.c (.forS (.v 7) (.seq (.v 3)) (.c (.set (.v 6) (.call 30 (.c (.v 6) (.c (.v 7) .n)))) .n)) (.c (.ifs (.val (.cmp .ne (.v 6) (.t (.c (.blt .sum (.c (.lc false [] 2 (.v 1) (.t (.c (.v 0) (.c (.v 1) .n))) (.seq (.idx (.v 1) (.k (.int 1)))) .n) .n)) (.c (.k (.int 1)) .n))))) (.c (.ret (.k (.bl false))) .n) .n) (.c (.set (.v 8) (.rng (some true) (.c (.blt .len (.c (.idx (.v 1) (.k (.int 0))) .n)) .n))) (.c (.set (.v 9) (.lc false [8,0] 1 (.popAt (.v 0) (.call 26 (.c (.v 1) (.c (.blt .len (.c (.v 0) .n)) .n)))) (.v 2) (.seq (.idx (.v 1) (.k (.int 0)))) .n)) (.c (.set (.t (.c (.v 10) (.c (.v 11) .n))) (.call 33 (.c (.v 1) (.c (.v 2) (.c (.v 9) .n))))) (.c (.set (.t (.c (.v 12) (.c (.v 13) .n))) (.t (.c (.call 20 (.c (.v 10) (.c (.v 11) .n))) (.c (.call 21 (.c (.v 10) (.c (.v 11) .n))) .n)))) (.c (.forS (.v 14) (.rng (.c (.blt .len (.c (.v 9) .n)) .n)) (.c (.ifs (.or (.val (.cmp .ne (.idx (.v 12) (.idx (.v 9) (.v 14))) (.idx (.v 3) (.v 14)))) (.val (.cmp .ne (.idx (.v 13) (.idx (.v 9) (.v 14))) (.idx (.v 4) (.v 14))))) (.c (.ret (.k (.bl false))) .n) .n) .n)) (.c (.ifs (.or (.val (.cmp .ne (.call 22 (.c (.v 10) (.c (.v 11) .n))) (.v 5))) (.val (.cmp .isn (.call 17 (.c (.v 10) (.c (.v 11) .n))) (.k (.bl true))))) (.c (.ret (.k (.bl false))) .n) .n) (.c (.set (.v 15) (.bin .add (.k (.int 2)) (.call 26 (.c (.v 0) (.c (.k (.int 8)) .n))))) (.c (.set (.v 16) (.t (.c (.blt .tuple (.c (.lc false [15] 1 (.bin .mul (.v 1) (.v 0)) (.v 1) (.seq (.idx (.v 1) (.k (.int 0)))) .n) .n)) (.c (.idx (.v 1) (.k (.int 1))) .n)))) (.c (.ifs (.val (.cmp .ne (.call 21 (.c (.v 16) (.c (.v 2) .n))) (.blt .tuple (.c (.lc false [15] 1 (.call 31 (.c (.v 1) (.c (.t (.c (.k (.int 1)) (.c (.v 0) .n))) .n))) (.v 1) (.seq (.v 4)) .n) .n)))) (.c (.ret (.k (.bl false))) .n) .n) (.c (.ifs (.val (.cmp .ne (.call 22 (.c (.v 16) (.c (.v 2) .n))) (.v 5))) (.c (.ret (.k (.bl false))) .n) .n) (.c (.set (.v 17) (.t (.c (.idx (.v 1) (.k (.int 0))) (.c (.blt .tuple (.c (.lc false [15] 2 (.t (.c (.v 1) (.c (.bin .mul (.v 2) (.v 0)) .n))) (.t (.c (.v 1) (.c (.v 2) .n))) (.seq (.idx (.v 1) (.k (.int 1)))) .n) .n)) .n)))) (.c (.ifs (.val (.cmp .ne (.call 20 (.c (.v 17) (.c (.call 34 (.c (.v 2) (.c (.v 15) .n))) .n))) (.blt .tuple (.c (.lc false [15] 1 (.call 31 (.c (.v 1) (.c (.t (.c (.v 0) (.c (.k (.int 1)) .n))) .n))) (.v 1) (.seq (.v 3)) .n) .n)))) (.c (.ret (.k (.bl false))) .n) .n) (.c (.ret (.cmp .eq (.call 22 (.c (.v 17) (.c (.call 34 (.c (.v 2) (.c (.v 15) .n))) .n))) (.v 5))) .n))))))))))))))))⟩
def c_36:CF:=⟨3,9,false,.c (.set (.v 3) (.call 26 (.c (.v 0) (.c (.blt .len (.c (.idx (.v 1) (.k (.int 0))) .n)) .n)))) (.c (.ifs (.val (.cmp .inn (.t (.c (.v 3) .n)) (.lc false [] 2 (.v 0) (.t (.c (.v 0) (.c (.v 1) .n))) (.seq (.idx (.v 1) (.k (.int 1)))) .n))) (.c (.ret (.k (.bl true))) .n) .n) (.c (.set (.v 4) (.bin .add (.k (.int 1)) (.call 26 (.c (.v 0) (.c (.k (.int 9)) .n))))) (.c (.set (.v 5) (.lc true [] 2 (.t (.c (.v 0) (.c (.v 1) .n))) (.t (.c (.v 0) (.c (.v 1) .n))) (.zip (.idx (.v 1) (.k (.int 1))) (.v 2)) .n)) (.c (.expr (.app (.v 5) (.t (.c (.t (.c (.t (.c (.v 3) .n)) (.c (.v 4) .n))) (.c (.t (.c (.t (.c (.v 4) (.c (.k (.int 1)) .n))) .n)) .n))))) (.c (.set (.v 5) (.blt (.sortq true) (.c (.v 5) .n))) (.c (.set (.v 6) (.t (.c (.idx (.v 1) (.k (.int 0))) (.c (.blt .tuple (.c (.lcR false [] 2 (.v 0) (.t (.c (.v 0) (.c (.v 1) .n))) (.v 5) .n) .n)) .n)))) (.c (.set (.v 7) (.call 20 (.c (.v 6) (.c (.blt .tuple (.c (.lcR false [] 2 (.v 1) (.t (.c (.v 0) (.c (.v 1) .n))) (.v 5) .n) .n)) .n)))) (.c (.set (.v 8) (.blt (.list true) (.c (.call 20 (.c (.v 1) (.c (.v 2) .n))) .n))) (.c (.set (.sub (.v 8) (.v 3)) (.call 30 (.c (.idx (.v 8) (.v 3)) (.c (.t (.c (.v 4) (.c (.k (.int 1)) .n))) .n)))) (.c (.ret (.cmp .eq (.v 7) (.blt .tuple (.c (.v 8) .n)))) .n))))))))))⟩
def qd9:CF:=⟨1,6,false,.c (.forS (.v 1) (.rng (.c (.k (.int 0)) (.c (.blt .max2 (.c (.k (.int 1)) (.c (.blt .min2 (.c (.blt .len (.c (.v 0) .n)) (.c (.k (.int 16)) .n))) .n))) (.c (.k (.int 2)) .n)))) (.c (.set (.v 2) (.call 29 (.c (.call 25 (.c (.v 0) (.c (.v 1) .n))) (.c (.k (.int 7)) (.c (.k (.int 12)) .n))))) (.c (.set (.v 3) (.call 25 (.c (.v 0) (.c (.bin .add (.v 1) (.k (.int 1))) .n)))) (.c (.forS (.v 4) (.rng (.c (.k (.int 2)) .n)) (.c (.set (.v 5) (.call 32 (.c (.v 3) (.c (.v 2) .n)))) (.c (.ifs (.or (.not (.val (.call 35 (.c (.v 3) (.c (.v 2) (.c (.v 5) .n)))))) (.not (.val (.call 36 (.c (.v 3) (.c (.v 2) (.c (.v 5) .n))))))) (.c (.ret (.k (.bl false))) .n) .n) .n))) .n)))) (.c (.ret (.k (.bl true))) .n)⟩
noncomputable def prg:List CF:=[c_0,c_1,c_2,c_3,c_4,c_5,c_6,c_7,c_8,c_9,c_10,c_11,c_12,c_13,c_14,c_15,c_16,c_17,c_18,c_19,c_20,c_21,c_22,c_23,c_24,c_25,c_26,c_27,c_28,c_29,c_30,c_31,c_32,c_33,c_34,c_35,c_36,qd9]
end RP
namespace RP
open PySem PySem.Spec L2 SeqAt R R.EX
open PyProof.Rows hiding St
noncomputable def top(i:Nat):Stmt:=PySem.Challenge.pw_weblayers_k12_whole_places_called_otherw.main.body.getD i (.Pass ⟨0,0,0,0⟩)
structure Df where
 (x:Str) (i:Nat) (N:List Str) (b:CF)
noncomputable abbrev Df.ps(m:Df):List Str:=m.N.take m.b.np
noncomputable abbrev M0:Df:=⟨"is_whole",5,["thing"],c_0⟩
noncomputable abbrev M1:Df:=⟨"is_whole_within",6,["thing","least","most"],c_1⟩
noncomputable abbrev M2:Df:=⟨"common_divisor",7,["one","other"],c_2⟩
noncomputable abbrev M3:Df:=⟨"lowest",8,["top","bottom","divisor"],c_3⟩
noncomputable abbrev M4:Df:=⟨"is_number",9,["thing","top","bottom"],c_4⟩
noncomputable abbrev M5:Df:=⟨"is_amount",10,["thing"],c_5⟩
noncomputable abbrev M6:Df:=⟨"is_less",11,["one","other"],c_6⟩
noncomputable abbrev M7:Df:=⟨"total",12,["amounts","top","bottom","one"],c_7⟩
noncomputable abbrev M8:Df:=⟨"parted",13,["one","divisor"],c_8⟩
noncomputable abbrev M9:Df:=⟨"is_web",20,["thing","costs","ties"],c_9⟩
noncomputable abbrev M10:Df:=⟨"are_costs",21,["thing"],c_10⟩
noncomputable abbrev M11:Df:=⟨"are_ties",22,["thing","many"],c_11⟩
noncomputable abbrev M12:Df:=⟨"is_tie",23,["thing","many","places","heavy"],c_12⟩
noncomputable abbrev M13:Df:=⟨"are_tied_places",24,["thing","many"],c_13⟩
noncomputable abbrev M14:Df:=⟨"are_places",25,["thing","many"],c_14⟩
noncomputable abbrev M15:Df:=⟨"is_rising",26,["things"],c_15⟩
noncomputable abbrev M16:Df:=⟨"need_web",27,["thing"],c_16⟩
noncomputable abbrev M17:Df:=⟨"is_laying",29,["web","thing","ties"],c_17⟩
noncomputable abbrev M18:Df:=⟨"lays_tie",30,["tie","thing","places","heavy"],c_18⟩
noncomputable abbrev M19:Df:=⟨"need_laying",31,["web","thing"],c_19⟩
noncomputable abbrev M20:Df:=⟨"loads",32,["web","laying","lying","places","heavy","amounts","place","amount"],c_20⟩
noncomputable abbrev M21:Df:=⟨"heights",33,["web","laying"],c_21⟩
noncomputable abbrev M22:Df:=⟨"is_level",34,["web","laying","high"],c_22⟩
noncomputable abbrev M23:Df:=⟨"lies_low",35,["places","amounts","high","bearing"],c_23⟩
noncomputable abbrev M24:Df:=⟨"_law_mixed",37,["_law_cell"],c_24⟩
noncomputable abbrev M25:Df:=⟨"_law_pack",38,["_law_script","_law_k","_law_found","_law_at","_law_cell"],c_25⟩
noncomputable abbrev M26:Df:=⟨"_law_take",39,["_law_pack_here","_law_size","_law_digit"],c_26⟩
noncomputable abbrev M27:Df:=⟨"_law_low",40,["_law_top","_law_bottom","_law_one","_law_other"],c_27⟩
noncomputable abbrev M28:Df:=⟨"_law_places",41,["_law_pack_here","_law_many","_law_size","_law_left","_law_found"],c_28⟩
noncomputable abbrev M29:Df:=⟨"_law_web",42,["_law_pack_here","_law_most","_law_ties","_law_many","_law_costs","_law_known","_law_turn","_law_some"],c_29⟩
noncomputable abbrev M30:Df:=⟨"_law_more",43,["_law_one","_law_other"],c_30⟩
noncomputable abbrev M31:Df:=⟨"_law_by",44,["_law_one","_law_other"],c_31⟩
noncomputable abbrev M32:Df:=⟨"_law_laying",45,["_law_pack_here","_law_web_here","_law_found","_law_some","_law_mass","_law_pick","_law_shares"],c_32⟩
noncomputable abbrev M33:Df:=⟨"_law_called",46,["_law_web_here","_law_laying_here","_law_called_here","_law_costs","_law_place","_law_ties","_law_some","_law_mass","_law_shares","_law_pairs"],c_33⟩
noncomputable abbrev M34:Df:=⟨"_law_times",47,["_law_laying_here","_law_factor"],c_34⟩
noncomputable abbrev M35:Df:=⟨"_law_right",48,["_law_pack_here","_law_web_here","_law_laying_here","_law_found","_law_levels","_law_level","_law_together","_law_one","_law_left","_law_called_here","_law_other","_law_told","_law_there","_law_further","_law_place","_law_factor","_law_dear","_law_thick"],c_35⟩
noncomputable abbrev M36:Df:=⟨"_law_more_right",49,["_law_pack_here","_law_web_here","_law_laying_here","_law_place","_law_mass","_law_ties","_law_wider","_law_found","_law_due"],c_36⟩
noncomputable abbrev M37:Df:=⟨"law",50,["_law_script","_law_k","_law_web_here","_law_pack_here","_law_turn","_law_laying_here"],qd9⟩
noncomputable abbrev Uq(K:PySem.W.Frag)(mg:Str->Option Value)(m:Df):Prop:=DefIn K mg m.x (top m.i) m.ps
structure Pre (K:PySem.W.Frag) (mg:Str->Option Value):Prop where
 gb:Gb mg
 v0:∃t:Tok,mg "MOST_COST"=some (.int 100 t)
 v1:∃t:Tok,mg "MOST_PLACES"=some (.int 12 t)
 v2:∃t:Tok,mg "MOST_PLACES_OF_TIE"=some (.int 4 t)
 v3:∃t:Tok,mg "MOST_TIES"=some (.int 30 t)
 v4:∃t:Tok,mg "MOST_WEIGHT"=some (.int 1000000 t)
 u_0:Uq K mg M0
 u_1:Uq K mg M1
 u_2:Uq K mg M2
 u_3:Uq K mg M3
 u_4:Uq K mg M4
 u_5:Uq K mg M5
 u_6:Uq K mg M6
 u_7:Uq K mg M7
 u_8:Uq K mg M8
 u_9:Uq K mg M9
 u_10:Uq K mg M10
 u_11:Uq K mg M11
 u_12:Uq K mg M12
 u_13:Uq K mg M13
 u_14:Uq K mg M14
 u_15:Uq K mg M15
 u_16:Uq K mg M16
 u_17:Uq K mg M17
 u_18:Uq K mg M18
 u_19:Uq K mg M19
 u_20:Uq K mg M20
 u_21:Uq K mg M21
 u_22:Uq K mg M22
 u_23:Uq K mg M23
 u_24:Uq K mg M24
 u_25:Uq K mg M25
 u_26:Uq K mg M26
 u_27:Uq K mg M27
 u_28:Uq K mg M28
 u_29:Uq K mg M29
 u_30:Uq K mg M30
 u_31:Uq K mg M31
 u_32:Uq K mg M32
 u_33:Uq K mg M33
 u_34:Uq K mg M34
 u_35:Uq K mg M35
 u_36:Uq K mg M36
 u_37:Uq K mg M37
structure All (P:Program) (w:World) (K:PySem.W.Frag) (mg:Str->Option Value) (base:Heap) (k:Nat) (F:Fs):Prop where
 h_0:FnAt P w K mg base k F 0 M0.x M0.ps
 h_1:FnAt P w K mg base k F 1 M1.x M1.ps
 h_2:FnAt P w K mg base k F 2 M2.x M2.ps
 h_3:FnAt P w K mg base k F 3 M3.x M3.ps
 h_4:FnAt P w K mg base k F 4 M4.x M4.ps
 h_5:FnAt P w K mg base k F 5 M5.x M5.ps
 h_6:FnAt P w K mg base k F 6 M6.x M6.ps
 h_7:FnAt P w K mg base k F 7 M7.x M7.ps
 h_8:FnAt P w K mg base k F 8 M8.x M8.ps
 h_9:FnAt P w K mg base k F 9 M9.x M9.ps
 h_10:FnAt P w K mg base k F 10 M10.x M10.ps
 h_11:FnAt P w K mg base k F 11 M11.x M11.ps
 h_12:FnAt P w K mg base k F 12 M12.x M12.ps
 h_13:FnAt P w K mg base k F 13 M13.x M13.ps
 h_14:FnAt P w K mg base k F 14 M14.x M14.ps
 h_15:FnAt P w K mg base k F 15 M15.x M15.ps
 h_16:FnAt P w K mg base k F 16 M16.x M16.ps
 h_17:FnAt P w K mg base k F 17 M17.x M17.ps
 h_18:FnAt P w K mg base k F 18 M18.x M18.ps
 h_19:FnAt P w K mg base k F 19 M19.x M19.ps
 h_20:FnAt P w K mg base k F 20 M20.x M20.ps
 h_21:FnAt P w K mg base k F 21 M21.x M21.ps
 h_22:FnAt P w K mg base k F 22 M22.x M22.ps
 h_23:FnAt P w K mg base k F 23 M23.x M23.ps
 h_24:FnAt P w K mg base k F 24 M24.x M24.ps
 h_25:FnAt P w K mg base k F 25 M25.x M25.ps
 h_26:FnAt P w K mg base k F 26 M26.x M26.ps
 h_27:FnAt P w K mg base k F 27 M27.x M27.ps
 h_28:FnAt P w K mg base k F 28 M28.x M28.ps
 h_29:FnAt P w K mg base k F 29 M29.x M29.ps
 h_30:FnAt P w K mg base k F 30 M30.x M30.ps
 h_31:FnAt P w K mg base k F 31 M31.x M31.ps
 h_32:FnAt P w K mg base k F 32 M32.x M32.ps
 h_33:FnAt P w K mg base k F 33 M33.x M33.ps
 h_34:FnAt P w K mg base k F 34 M34.x M34.ps
 h_35:FnAt P w K mg base k F 35 M35.x M35.ps
 h_36:FnAt P w K mg base k F 36 M36.x M36.ps
 h_37:FnAt P w K mg base k F 37 M37.x M37.ps
noncomputable abbrev Rm(k:Nat)(A:Around)(s:Shared)(f c:Addr)(m:Df):Prop:=Room (k+2) (A.deeper (envOfC m.x (defScope (top m.i)) s.heap.objs.size f (.ref c)))
noncomputable abbrev Bq(m:Df):Prop:=∀{P:Program} {w:World} {K:PySem.W.Frag} {mg:Str->Option Value} {base:Heap} {k n:Nat} {F:Fs} {f c t:Addr} {A:Around} {outer:List Env} {s:Shared} {H:Hp} {E:XK},Pre K mg->K.In base->All P w K mg base k F->codeTab K c t=true->Rm k A s f c m->QSs (cxOf CX0 P w K mg base m.N m.x (defScope (top m.i)) f (.ref c) A outer s H E).nox (defBody (top m.i)) (TSm (exs F n m.b.body))
def b_0:Bq M0:=λp b a tab c =>
 qd (qu (jK (yQ .int p.gb (qc 0)) (yv (qjh (yQ .bool p.gb (qc 0)))))) qi
def b_1:Bq M1:=λp c a tab b =>
 qd (qu (jK (qh a.h_0 (m2 b) (qb (qc 0) qe)) (yv (qil .le .le b (qc 1) (qc 0) (qc 2))))) qi
def b_2:Bq M2:=λp b a tab c =>
 qd (qd2 (zC (qc 1)) (qd (qd4 0 1 (qb (qc 1) (qb (qw .mod (qc 0) (qc 1)) qe))) qi)) (qd (qu (qc 0)) qi)
def b_3:Bq M3:=λp c a tab b =>
 qd (qH 2 (qh a.h_2 (m2 b) (qb (qd3 p.gb (qb (qc 0) qe)) (qb (qc 1) qe)))) (qd (qu (qV (qb (qw .fdiv (qc 0) (qc 2)) (qb (qw .fdiv (qc 1) (qc 2)) qe)))) qi)
def b_4:Bq M4:=λp c a tab b =>
 qd (z_if (Qpt (w_or (zD (zC (yQ .tuple p.gb (qc 0)))) (yj (zf .ne b (zg p.gb (qb (qc 0) qe)) qg)))) (qd (qu qY) qi) qi) (qd (zX (qc 0) (qT (ql (qk 1) (ql (qk 2) qS)))) (qd (z_if (Qpt (w_or (zD (zC (qh a.h_0 (m2 b) (qb (qc 1) qe)))) (w_or (zD (zC (qh a.h_0 (m2 b) (qb (qc 2) qe)))) (yj (zf .lt b (qc 2) qg))))) (qd (qu qY) qi) qi) (qd (qu (jJ .eq b (qh a.h_2 (m2 b) (qb (qd3 p.gb (qb (qc 1) qe)) (qb (qc 2) qe))) qg)) qi)))
def b_5:Bq M5:=λp c a tab b =>
 qd (qu (jK (qh a.h_4 (m2 b) (qb (qc 0) qe)) (yv (jJ .ge b (qp b (qc 0) qg) qg)))) qi
def b_6:Bq M6:=λp c a tab b =>
 qd (qu (jJ .lt b (qw .mul (qp b (qc 0) qg) (qp b (qc 1) qg)) (qw .mul (qp b (qc 1) qg) (qp b (qc 0) qg)))) qi
def b_7:Bq M7:=λp c a tab b =>
 qd (zX (qV (qb qg (qb qg qe))) (qT (ql (qk 1) (ql (qk 2) qS)))) (qd (qkz (qc 0) (qk 3) (qd (zX (qh a.h_3 (m2 b) (qb (qw .add (qw .mul (qc 1) (qp b (qc 3) qg)) (qw .mul (qp b (qc 3) qg) (qc 2))) (qb (qw .mul (qc 2) (qp b (qc 3) qg)) qe))) (qT (ql (qk 1) (ql (qk 2) qS)))) qi)) (qd (qu (qV (qb (qc 1) (qb (qc 2) qe)))) qi))
def b_8:Bq M8:=λp c a tab b =>
 qd (qu (qh a.h_3 (m2 b) (qb (qp b (qc 0) qg) (qb (qw .mul (qp b (qc 0) qg) (qc 1)) qe)))) qi
def b_9:Bq M9:=λp c a tab b =>
 qd (z_if (Qpt (w_or (zD (zC (yQ .tuple p.gb (qc 0)))) (yj (zf .ne b (zg p.gb (qb (qc 0) qe)) qg)))) (qd (qu qY) qi) qi) (qd (zX (qc 0) (qT (ql (qk 1) (ql (qk 2) qS)))) (qd (qu (jK (qh a.h_10 (m2 b) (qb (qc 1) qe)) (yv (qh a.h_11 (m2 b) (qb (qc 2) (qb (zg p.gb (qb (qc 1) qe)) qe)))))) qi))
def b_10:Bq M10:=λp c a tab b =>
 qd (z_if (Qpt (w_or (zD (zC (yQ .tuple p.gb (qc 0)))) (yj (zD (qim .le .le b qg (zg p.gb (qb (qc 0) qe)) (qam (p.v1).choose_spec)))))) (qd (qu qY) qi) qi) (qd (qu (yW [] [] ["one"] b p.gb rfl tab (ze (qc 0)) (λ_ _ _ _ _ _ _ _=>qk 0) (λ_ _ _ _ _ _ _ _=>qJ) (λ_ _ _ _ _ _ _ _=>qh a.h_1 (m1 (zm b)) (qb (qc 0) (qb qg (qb (qam (p.v0).choose_spec) qe)))))) qi)
def b_11:Bq M11:=λp c a tab b =>
 qd (z_if (Qpt (w_or (zD (zC (yQ .tuple p.gb (qc 0)))) (yj (zf .gt b (zg p.gb (qb (qc 0) qe)) (qam (p.v3).choose_spec))))) (qd (qu qY) qi) qi) (qd (z_if (zD (zC (yW [1] ["many"] ["one"] b p.gb rfl tab (ze (qc 0)) (λ_ _ _ _ _ _ _ _=>qk 1) (λ_ _ _ _ _ _ _ _=>qJ) (λ_ _ _ _ _ _ _ _=>qh a.h_12 (m1 (zm b)) (qb (qc 1) (qb (qc 0) qe)))))) (qd (qu qY) qi) qi) (qd (qu (qh a.h_15 (m2 b) (qb (k_lc false [] [] ["places","heavy"] (ze (qc 0)) (λ_ _ _ _ _=>qT (ql (qk 0) (ql (qk 1) qS))) (λ_ _ _ _ _=>qJ) (λ_ _ _ _ _=>qc 0)) qe))) qi))
def b_12:Bq M12:=λp c a tab b =>
 qd (z_if (Qpt (w_or (zD (zC (yQ .tuple p.gb (qc 0)))) (yj (zf .ne b (zg p.gb (qb (qc 0) qe)) qg)))) (qd (qu qY) qi) qi) (qd (zX (qc 0) (qT (ql (qk 2) (ql (qk 3) qS)))) (qd (qu (jK (qh a.h_13 (m2 b) (qb (qc 2) (qb (qc 1) qe))) (yv (qh a.h_1 (m2 b) (qb (qc 3) (qb qg (qb (qam (p.v4).choose_spec) qe))))))) qi))
def b_13:Bq M13:=λp c a tab b =>
 qd (qu (jK (qh a.h_14 (m2 b) (qb (qc 0) (qb (qc 1) qe))) (yv (jJ .le b (zg p.gb (qb (qc 0) qe)) (qam (p.v2).choose_spec))))) qi
def b_14:Bq M14:=λp c a tab b =>
 qd (z_if (Qpt (w_or (zD (zC (yQ .tuple p.gb (qc 0)))) (yj (zD (zC (qc 0)))))) (qd (qu qY) qi) qi) (qd (qu (jK (yW [1] ["many"] ["one"] b p.gb rfl tab (ze (qc 0)) (λ_ _ _ _ _ _ _ _=>qk 1) (λ_ _ _ _ _ _ _ _=>qJ) (λ_ _ _ _ _ _ _ _=>qh a.h_1 (m1 (zm b)) (qb (qc 1) (qb qg (qb (qw .sub (qc 0) qg) qe))))) (yv (qh a.h_15 (m2 b) (qb (qc 0) qe))))) qi)
def b_15:Bq M15:=λp c a tab b =>
 qd (qu (yW [] [] ["one","other"] b p.gb rfl tab (yR p.gb (qc 0) (qgt (qc 0) (k_os qg) (k_on))) (λ_ _ _ _ _ _ _ _=>qT (ql (qk 0) (ql (qk 1) qS))) (λ_ _ _ _ _ _ _ _=>qJ) (λ_ _ _ _ _ _ _ _=>jJ .lt (zm b) (qc 0) (qc 1)))) qi
def b_16:Bq M16:=λp c a tab b =>
 qd (z_if (zD (zC (qh a.h_9 (m2 b) (qb (qc 0) qe)))) (qd (qd1) qi) qi) qi
def b_17:Bq M17:=λp c a tab b =>
 qd (jy (qh a.h_16 (m2 b) (qb (qc 0) qe))) (qd (qH 2 (qp b (qc 0) qg)) (qd (z_if (Qpt (w_or (zD (zC (yQ .tuple p.gb (qc 1)))) (yj (zf .ne b (zg p.gb (qb (qc 1) qe)) (zg p.gb (qb (qc 2) qe)))))) (qd (qu qY) qi) qi) (qd (qu (yW [] [] ["tie","amounts"] b p.gb rfl tab (yR p.gb (qc 2) (qc 1)) (λ_ _ _ _ _ _ _ _=>qT (ql (qk 0) (ql (qk 1) qS))) (λ_ _ _ _ _ _ _ _=>qJ) (λ_ _ _ _ _ _ _ _=>qh a.h_18 (m1 (zm b)) (qb (qc 0) (qb (qc 1) qe))))) qi)))
def b_18:Bq M18:=λp c a tab b =>
 qd (zX (qc 0) (qT (ql (qk 2) (ql (qk 3) qS)))) (qd (z_if (Qpt (w_or (zD (zC (yQ .tuple p.gb (qc 1)))) (yj (zf .ne b (zg p.gb (qb (qc 1) qe)) (zg p.gb (qb (qc 2) qe)))))) (qd (qu qY) qi) qi) (qd (qu (jK (yW [] [] ["one"] b p.gb rfl tab (ze (qc 1)) (λ_ _ _ _ _ _ _ _=>qk 0) (λ_ _ _ _ _ _ _ _=>qJ) (λ_ _ _ _ _ _ _ _=>qh a.h_5 (m1 (zm b)) (qb (qc 0) qe))) (yv (jJ .eq b (qh a.h_7 (m2 b) (qb (qc 1) qe)) (qV (qb (qc 3) (qb qg qe))))))) qi))
def b_19:Bq M19:=λp c a tab b =>
 qd (z_if (zD (zC (qh a.h_17 (m2 b) (qb (qc 0) (qb (qc 1) qe))))) (qd (qd1) qi) qi) qi
def b_20:Bq M20:=λp c a tab b =>
 qd (jy (qh a.h_19 (m2 b) (qb (qc 0) (qb (qc 1) qe)))) (qd (qgD 2 (qp b (qc 0) qg) (λ_ _ _ _ _=>qkA 0)) (qd (yx (yR p.gb (qp b (qc 0) qg) (qc 1)) (qT (ql (qT (ql (qk 3) (ql (qk 4) qS))) (ql (qk 5) qS))) (qd (yx (yR p.gb (qc 3) (qc 5)) (qT (ql (qk 6) (ql (qk 7) qS))) (qd (jy (qd0 (qp b (qc 2) (qc 6)) (qc 7))) qi)) qi)) (qd (qu (qe8 [] [] ["amounts"] b p.gb rfl tab (qc 2) (λ_ _ _ _ _ _ _ _=>qk 0) (λ_ _ _ _ _ _ _ _=>qJ) (λ_ _ _ _ _ _ _ _=>qh a.h_7 (m1 (zm b)) (qb (qc 0) qe)))) qi)))
def b_21:Bq M21:=λp c a tab b =>
 qd (qu (qgz [] [] ["load","cost"] b p.gb rfl tab (yR p.gb (qh a.h_20 (m2 b) (qb (qc 0) (qb (qc 1) qe))) (qp b (qc 0) qg)) (λ_ _ _ _ _ _ _ _=>qT (ql (qk 0) (ql (qk 1) qS))) (λ_ _ _ _ _ _ _ _=>qJ) (λ_ _ _ _ _ _ _ _=>qh a.h_8 (m1 (zm b)) (qb (qc 0) (qb (qc 1) qe))))) qi
def b_22:Bq M22:=λp c a tab b =>
 qd (qH 2 (qh a.h_21 (m2 b) (qb (qc 0) (qb (qc 1) qe)))) (qd (qu (yW [2] ["high"] ["tie","amounts"] b p.gb rfl tab (yR p.gb (qp b (qc 0) qg) (qc 1)) (λ_ _ _ _ _ _ _ _=>qT (ql (qk 1) (ql (qk 2) qS))) (λ_ _ _ _ _ _ _ _=>qJ) (λ_ _ _ _ _ _ _ _=>qh a.h_23 (m1 (zm b)) (qb (qp (zm b) (qc 1) qg) (qb (qc 2) (qb (qc 0) qe)))))) qi)
def b_23:Bq M23:=λp c a tab b =>
 qd (y9 3 false [] [] ["place","amount"] (yR p.gb (qc 0) (qc 1)) (λ_ _ _ _ _=>qT (ql (qk 0) (ql (qk 1) qS))) (λ_ _ _ _ _=>qkl (zf .gt b (qp b (qc 1) qg) qg) qJ) (λ_ _ _ _ _=>qc 0)) (qd (qu (qjh (qiu 2 [2,0] ["high","places"] "place" "other" b p.gb rfl tab (ze (qc 3)) (λ_ _ _ _ _ _ _ _=>qk 2) (λ_ _ _ _ _ _ _ _=>ze (qc 1)) (λ_ _ _ _ _ _ _ _ _ _=>qk 3) (λ_ _ _ _ _ _ _ _ _ _=>qh a.h_6 (m1 (jA b)) (qb (qp (jA b) (qc 0) (qc 3)) (qb (qp (jA b) (qc 0) (qc 2)) qe)))))) qi)
def b_24:Bq M24:=λp b a tab c =>
 qd (qu (qw .mod (qw .mul (qw .mod (qc 0) (qw .pow qg qg)) qg) (qw .pow qg qg))) qi
def b_25:Bq M25:=λp c a tab b =>
 qd (qH 2 qg) (qd (yx (ze (yw false (qb (qw .add (qc 1) qg) (qb (qc 1) qe)))) (qk 3) (qd (qH 4 (qp b (qw .add (qgt (qc 0) (k_os (qc 3)) (k_os (qw .add (qc 3) qg))) (yw false (qb (qw .add (qw .add (qw .mul qg (qc 3)) qg) (qw .mul qg (qp b (qw .add (qc 0) (yw false (qb qg qe))) qg))) qe))) qg)) (qd (qH 2 (qw .add (qw .mul (qc 2) (qw .pow qg qg)) (qh a.h_24 (m2 b) (qb (qc 4) qe)))) qi))) (qd (qu (yw true (qb (qc 2) qe))) qi))
def b_26:Bq M26:=λp c a tab b =>
 qd (zX (qgx p.gb (qb (qp b (qc 0) qg) (qb (qc 1) qe))) (qT (ql (qaV b (qc 0) qg) (ql (qk 2) qS)))) (qd (qu (qc 2)) qi)
def b_27:Bq M27:=λp c a tab b =>
 qd (qd4 2 3 (qb (qd3 p.gb (qb (qc 0) qe)) (qb (qd3 p.gb (qb (qc 1) qe)) qe))) (qd (qd2 (zf .ne b (qc 3) qg) (qd (qd4 2 3 (qb (qc 3) (qb (qw .mod (qc 2) (qc 3)) qe))) qi)) (qd (z_if (zf .lt b (qc 1) qg) (qd (qH 2 (qw .sub qg (qc 2))) qi) qi) (qd (qu (qV (qb (qw .fdiv (qc 0) (qc 2)) (qb (qw .fdiv (qc 1) (qc 2)) qe)))) qi)))
def b_28:Bq M28:=λp c a tab b =>
 qd (qH 2 (qp b (yw false (qb qg (qb qg (qb qg (qb qg (qb qg (qb qg (qb qg (qb qg qe))))))))) (qh a.h_26 (m2 b) (qb (qc 0) (qb qg qe))))) (qd (qH 3 (qgu true p.gb (qb (qc 1) qe))) (qd (y9 4 false [3,0] ["_law_left","_law_pack_here"] ["_law_turn"] (qan p.gb (qb (qjk p.gb (qb (qc 2) (qb (qc 1) qe))) qe)) (λ_ _ _ _ _=>qk 2) (λ_ _ _ _ _=>qJ) (λ_ _ _ _ _=>qjj (qc 0) (qh a.h_26 (m2 b) (qb (qc 1) (qb (zg p.gb (qb (qc 0) qe)) qe))))) (qd (qu (qK p.gb (qb (qci false p.gb (qb (qc 4) qe)) qe))) qi)))
def b_29:Bq M29:=λp c a tab b =>
 qd (qH 3 (qw .add qg (qh a.h_26 (m2 b) (qb (qc 0) (qb (qc 1) qe))))) (qd (qH 4 (qw .mul (yw false (qb qg qe)) (qc 3))) (qd (z_if (zf .eq b (qh a.h_26 (m2 b) (qb (qc 0) (qb qg qe))) qg) (qd (y9 4 false [0] ["_law_pack_here"] ["_law_place"] (qan p.gb (qb (qc 3) qe)) (λ_ _ _ _ _=>qk 1) (λ_ _ _ _ _=>qJ) (λ_ _ _ _ _=>qw .add qg (qh a.h_26 (m2 b) (qb (qc 0) (qb qg qe))))) qi) qi) (qd (qH 5 (qme true)) (qd (yx (qan p.gb (qb (qh a.h_26 (m2 b) (qb (qc 0) (qb (qw .add (qc 2) qg) qe))) qe)) (qk 6) (qd (qH 7 (qh a.h_28 (m2 b) (qb (qc 0) (qb (qc 3) qe)))) (qd (zX (qw .add qg (qh a.h_26 (m2 b) (qb (qc 0) (qb qg qe)))) (qaV b (qc 5) (qc 7))) qi))) (qd (qu (qV (qb (qK p.gb (qb (qc 4) qe)) (qb (qK p.gb (qb (k_lc false [5] ["_law_known"] ["_law_some"] (ze (qci false p.gb (qb (qc 5) qe))) (λ_ _ _ _ _=>qk 1) (λ_ _ _ _ _=>qJ) (λ_ _ _ _ _=>qV (qb (qc 1) (qb (qp b (qc 0) (qc 1)) qe)))) qe)) qe)))) qi)))))
def b_30:Bq M30:=λp c a tab b =>
 qd (qu (qh a.h_27 (m2 b) (qb (qw .add (qw .mul (qp b (qc 0) qg) (qp b (qc 1) qg)) (qw .mul (qp b (qc 1) qg) (qp b (qc 0) qg))) (qb (qw .mul (qp b (qc 0) qg) (qp b (qc 1) qg)) qe)))) qi
def b_31:Bq M31:=λp c a tab b =>
 qd (qu (qh a.h_27 (m2 b) (qb (qw .mul (qp b (qc 0) qg) (qp b (qc 1) qg)) (qb (qw .mul (qp b (qc 0) qg) (qp b (qc 1) qg)) qe)))) qi
def b_32:Bq M32:=λp c a tab b =>
 qd (qH 2 (yw true qe)) (qd (yx (ze (qp b (qc 1) qg)) (qT (ql (qk 3) (ql (qk 4) qS))) (qd (qH 5 (qh a.h_26 (m2 b) (qb (qc 0) (qb qg qe)))) (qd (qH 6 (qc7 .mul (yw false (qb qg qe)) (zg p.gb (qb (qc 3) qe)))) (qd (z_if (zf .eq b (qc 5) qg) (qd (qH 6 (qc7 .mul (yw false (qb qg qe)) (zg p.gb (qb (qc 3) qe)))) (qd (zX qg (qaV b (qc 6) (qh a.h_26 (m2 b) (qb (qc 0) (qb (zg p.gb (qb (qc 3) qe)) qe))))) qi)) qi) (qd (z_if (zf .eq b (qc 5) qg) (qd (qH 6 (k_lc true [0] ["_law_pack_here"] ["_law_place"] (ze (qc 3)) (λ_ _ _ _ _=>qk 1) (λ_ _ _ _ _=>qJ) (λ_ _ _ _ _=>qh a.h_26 (m2 b) (qb (qc 0) (qb qg qe))))) (qd (zX (qw .add qg (qp b (qc 6) (qjg qg))) (qaV b (qc 6) (qjg qg))) qi)) qi) (qd (jy (qd0 (qc 2) (qK p.gb (qb (qcj false [4,6] ["_law_mass","_law_shares"] ["_law_one"] (qc 6) (λ_ _ _ _ _=>qk 2) (λ_ _ _ _ _=>qJ) (λ_ _ _ _ _=>qh a.h_27 (m2 b) (qb (qw .mul (qc 0) (qc 2)) (qb (qjl p.gb (qb (qc 1) qe)) qe)))) qe)))) qi)))))) (qd (qu (qK p.gb (qb (qc 2) qe))) qi))
def b_33:Bq M33:=λp c a tab b =>
 qd (qH 3 (qc7 .mul (yw false (qb qg qe)) (zg p.gb (qb (qp b (qc 0) qg) qe)))) (qd (yx (qan p.gb (qb (zg p.gb (qb (qc 2) qe)) qe)) (qk 4) (qd (zX (qp b (qp b (qc 0) qg) (qc 4)) (qaV b (qc 3) (qp b (qc 2) (qc 4)))) qi)) (qd (qH 5 (yw true qe)) (qd (yx (yR p.gb (qp b (qc 0) qg) (qc 1)) (qT (ql (qT (ql (qk 6) (ql (qk 7) qS))) (ql (qk 8) qS))) (qd (qH 9 (qbv false (m2 b) p.gb (qb (k_lc false [2] ["_law_called_here"] ["_law_place","_law_one"] (yR p.gb (qc 6) (qc 8)) (λ_ _ _ _ _=>qT (ql (qk 1) (ql (qk 2) qS))) (λ_ _ _ _ _=>qJ) (λ_ _ _ _ _=>qV (qb (qp b (qc 0) (qc 1)) (qb (qc 2) qe)))) qe))) (qd (jy (qd0 (qc 5) (qV (qb (qK p.gb (qb (k_lc false [] [] ["_law_place","_law_one"] (ze (qc 9)) (λ_ _ _ _ _=>qT (ql (qk 0) (ql (qk 1) qS))) (λ_ _ _ _ _=>qJ) (λ_ _ _ _ _=>qc 0)) qe)) (qb (qc 7) (qb (qK p.gb (qb (k_lc false [] [] ["_law_place","_law_one"] (ze (qc 9)) (λ_ _ _ _ _=>qT (ql (qk 0) (ql (qk 1) qS))) (λ_ _ _ _ _=>qJ) (λ_ _ _ _ _=>qc 1)) qe)) qe)))))) qi))) (qd (qH 5 (qbv true (m2 b) p.gb (qb (qc 5) qe))) (qd (qu (qV (qb (qV (qb (qK p.gb (qb (qc 3) qe)) (qb (qK p.gb (qb (qcj false [] [] ["_law_tie"] (qc 5) (λ_ _ _ _ _=>qk 0) (λ_ _ _ _ _=>qJ) (λ_ _ _ _ _=>qgt (qc 0) (k_on) (k_os qg))) qe)) qe))) (qb (qK p.gb (qb (qcj false [] [] ["_law_tie"] (qc 5) (λ_ _ _ _ _=>qk 0) (λ_ _ _ _ _=>qJ) (λ_ _ _ _ _=>qp b (qc 0) qg)) qe)) qe)))) qi)))))
def b_34:Bq M34:=λp c a tab b =>
 qd (qu (qK p.gb (qb (k_lc false [1] ["_law_factor"] ["_law_shares"] (ze (qc 0)) (λ_ _ _ _ _=>qk 1) (λ_ _ _ _ _=>qJ) (λ_ _ _ _ _=>qK p.gb (qb (k_lc false [0] ["_law_factor"] ["_law_one"] (ze (qc 1)) (λ_ _ _ _ _=>qk 1) (λ_ _ _ _ _=>qJ) (λ_ _ _ _ _=>qh a.h_31 (m2 b) (qb (qc 1) (qb (qV (qb (qc 0) (qb qg qe))) qe)))) qe))) qe))) qi
def b_35:Bq M35:=λp c a tab b =>
 qd (qkw 3 4 5 (qb (qh a.h_20 (m2 b) (qb (qc 1) (qb (qc 2) qe))) (qb (qh a.h_21 (m2 b) (qb (qc 1) (qb (qc 2) qe))) (qb (qh a.h_22 (m2 b) (qb (qc 1) (qb (qc 2) qe))) qe)))) (qd (qH 6 (qV (qb qg (qb qg qe)))) (qd (yx (ze (qc 3)) (qk 7) (qd (qH 6 (qh a.h_30 (m2 b) (qb (qc 6) (qb (qc 7) qe)))) qi)) (qd (z_if (zf .ne b (qc 6) (qV (qb (qjl p.gb (qb (k_lc false [] [] ["_law_some","_law_mass"] (ze (qp b (qc 1) qg)) (λ_ _ _ _ _=>qT (ql (qk 0) (ql (qk 1) qS))) (λ_ _ _ _ _=>qJ) (λ_ _ _ _ _=>qc 1)) qe)) (qb qg qe)))) (qd (qu qY) qi) qi) (qd (qH 8 (qgu true p.gb (qb (zg p.gb (qb (qp b (qc 1) qg) qe)) qe))) (qd (y9 9 false [8,0] ["_law_left","_law_pack_here"] ["_law_place"] (ze (qp b (qc 1) qg)) (λ_ _ _ _ _=>qk 2) (λ_ _ _ _ _=>qJ) (λ_ _ _ _ _=>qjj (qc 0) (qh a.h_26 (m2 b) (qb (qc 1) (qb (zg p.gb (qb (qc 0) qe)) qe))))) (qd (zX (qh a.h_33 (m2 b) (qb (qc 1) (qb (qc 2) (qb (qc 9) qe)))) (qT (ql (qk 10) (ql (qk 11) qS)))) (qd (qd4 12 13 (qb (qh a.h_20 (m2 b) (qb (qc 10) (qb (qc 11) qe))) (qb (qh a.h_21 (m2 b) (qb (qc 10) (qb (qc 11) qe))) qe))) (qd (yx (qan p.gb (qb (zg p.gb (qb (qc 9) qe)) qe)) (qk 14) (qd (z_if (Qpt (w_or (zf .ne b (qp b (qc 12) (qp b (qc 9) (qc 14))) (qp b (qc 3) (qc 14))) (yj (zf .ne b (qp b (qc 13) (qp b (qc 9) (qc 14))) (qp b (qc 4) (qc 14)))))) (qd (qu qY) qi) qi) qi)) (qd (z_if (Qpt (w_or (zf .ne b (qh a.h_22 (m2 b) (qb (qc 10) (qb (qc 11) qe))) (qc 5)) (yj (zf .isn b (qh a.h_17 (m2 b) (qb (qc 10) (qb (qc 11) qe))) qY)))) (qd (qu qY) qi) qi) (qd (qH 15 (qw .add qg (qh a.h_26 (m2 b) (qb (qc 0) (qb qg qe))))) (qd (qH 16 (qV (qb (qK p.gb (qb (k_lc false [15] ["_law_factor"] ["_law_price"] (ze (qp b (qc 1) qg)) (λ_ _ _ _ _=>qk 1) (λ_ _ _ _ _=>qJ) (λ_ _ _ _ _=>qw .mul (qc 1) (qc 0))) qe)) (qb (qp b (qc 1) qg) qe)))) (qd (z_if (zf .ne b (qh a.h_21 (m2 b) (qb (qc 16) (qb (qc 2) qe))) (qK p.gb (qb (k_lc false [15] ["_law_factor"] ["_law_one"] (ze (qc 4)) (λ_ _ _ _ _=>qk 1) (λ_ _ _ _ _=>qJ) (λ_ _ _ _ _=>qh a.h_31 (m2 b) (qb (qc 1) (qb (qV (qb qg (qb (qc 0) qe))) qe)))) qe))) (qd (qu qY) qi) qi) (qd (z_if (zf .ne b (qh a.h_22 (m2 b) (qb (qc 16) (qb (qc 2) qe))) (qc 5)) (qd (qu qY) qi) qi) (qd (qH 17 (qV (qb (qp b (qc 1) qg) (qb (qK p.gb (qb (k_lc false [15] ["_law_factor"] ["_law_some","_law_mass"] (ze (qp b (qc 1) qg)) (λ_ _ _ _ _=>qT (ql (qk 1) (ql (qk 2) qS))) (λ_ _ _ _ _=>qJ) (λ_ _ _ _ _=>qV (qb (qc 1) (qb (qw .mul (qc 2) (qc 0)) qe)))) qe)) qe)))) (qd (z_if (zf .ne b (qh a.h_20 (m2 b) (qb (qc 17) (qb (qh a.h_34 (m2 b) (qb (qc 2) (qb (qc 15) qe))) qe))) (qK p.gb (qb (k_lc false [15] ["_law_factor"] ["_law_one"] (ze (qc 3)) (λ_ _ _ _ _=>qk 1) (λ_ _ _ _ _=>qJ) (λ_ _ _ _ _=>qh a.h_31 (m2 b) (qb (qc 1) (qb (qV (qb (qc 0) (qb qg qe))) qe)))) qe))) (qd (qu qY) qi) qi) (qd (qu (jJ .eq b (qh a.h_22 (m2 b) (qb (qc 17) (qb (qh a.h_34 (m2 b) (qb (qc 2) (qb (qc 15) qe))) qe))) (qc 5))) qi))))))))))))))))
def b_36:Bq M36:=λp c a tab b =>
 qd (qH 3 (qh a.h_26 (m2 b) (qb (qc 0) (qb (zg p.gb (qb (qp b (qc 1) qg) qe)) qe)))) (qd (z_if (zf .inn b (qV (qb (qc 3) qe)) (k_lc false [] [] ["_law_some","_law_mass"] (ze (qp b (qc 1) qg)) (λ_ _ _ _ _=>qT (ql (qk 0) (ql (qk 1) qS))) (λ_ _ _ _ _=>qJ) (λ_ _ _ _ _=>qc 0))) (qd (qu qY) qi) qi) (qd (qH 4 (qw .add qg (qh a.h_26 (m2 b) (qb (qc 0) (qb qg qe))))) (qd (y9 5 true [] [] ["_law_tie","_law_shares"] (yR p.gb (qp b (qc 1) qg) (qc 2)) (λ_ _ _ _ _=>qT (ql (qk 0) (ql (qk 1) qS))) (λ_ _ _ _ _=>qJ) (λ_ _ _ _ _=>qV (qb (qc 0) (qb (qc 1) qe)))) (qd (jy (qd0 (qc 5) (qV (qb (qV (qb (qV (qb (qc 3) qe)) (qb (qc 4) qe))) (qb (qV (qb (qV (qb (qc 4) (qb qg qe))) qe)) qe))))) (qd (qH 5 (qbv true (m2 b) p.gb (qb (qc 5) qe))) (qd (qH 6 (qV (qb (qp b (qc 1) qg) (qb (qK p.gb (qb (qcj false [] [] ["_law_tie","_law_shares"] (qc 5) (λ_ _ _ _ _=>qT (ql (qk 0) (ql (qk 1) qS))) (λ_ _ _ _ _=>qJ) (λ_ _ _ _ _=>qc 0)) qe)) qe)))) (qd (qH 7 (qh a.h_20 (m2 b) (qb (qc 6) (qb (qK p.gb (qb (qcj false [] [] ["_law_tie","_law_shares"] (qc 5) (λ_ _ _ _ _=>qT (ql (qk 0) (ql (qk 1) qS))) (λ_ _ _ _ _=>qJ) (λ_ _ _ _ _=>qc 1)) qe)) qe)))) (qd (qH 8 (qks true p.gb (qb (qh a.h_20 (m2 b) (qb (qc 1) (qb (qc 2) qe))) qe))) (qd (zX (qh a.h_30 (m2 b) (qb (qp b (qc 8) (qc 3)) (qb (qV (qb (qc 4) (qb qg qe))) qe))) (qaV b (qc 8) (qc 3))) (qd (qu (jJ .eq b (qc 7) (qK p.gb (qb (qc 8) qe)))) qi))))))))))
def b_37:Bq M37:=λp c a tab b =>
 qd (yx (qan p.gb (qb qg (qb (qmg p.gb (qb qg (qb (qjk p.gb (qb (zg p.gb (qb (qc 0) qe)) (qb qg qe))) qe))) (qb qg qe)))) (qk 1) (qd (qH 2 (qh a.h_29 (m2 b) (qb (qh a.h_25 (m2 b) (qb (qc 0) (qb (qc 1) qe))) (qb qg (qb qg qe))))) (qd (qH 3 (qh a.h_25 (m2 b) (qb (qc 0) (qb (qw .add (qc 1) qg) qe)))) (qd (yx (qan p.gb (qb qg qe)) (qk 4) (qd (qH 5 (qh a.h_32 (m2 b) (qb (qc 3) (qb (qc 2) qe)))) (qd (z_if (Qpt (w_or (zD (zC (qh a.h_35 (m2 b) (qb (qc 3) (qb (qc 2) (qb (qc 5) qe)))))) (yj (zD (zC (qh a.h_36 (m2 b) (qb (qc 3) (qb (qc 2) (qb (qc 5) qe))))))))) (qd (qu qY) qi) qi) qi))) qi)))) (qd (qu qY) qi)
section
variable{P:Program}{w:World}{K:PySem.W.Frag}{mg:Str->Option Value}{base:Heap}{k N d:Nat}{i:Nat}{m:Df}
theorem oz(u:Uq K mg m)(a:run prg N 0 i=λ_ _=>.no:=by rfl):FnAt P w K mg base 0 (run prg N 0) i m.x m.ps:=u.fn λ_ _ _ _ _=>qmi a
variable(p:Pre K mg)(kb:K.In base)(a:All P w K mg base k (run prg N d))
include p kb a
theorem og{f:Addr}{fd:FuncData}{c t:Addr}(U:FunT K m.x (top m.i) f fd c t)(b:Bq m)(S:FnScope m.N m.ps (defScope (top m.i)))(h:m.ps.length=m.b.np)(hn:m.N.length=m.b.nn)(j:m.b.np<=m.b.nn)(l:run prg N (d+1) i=callC (run prg N d) N m.b):FnOk P w K mg base CX0 (k+3) f fd m.ps (SpD m.ps.length (run prg N (d+1) i)):=qmh (G:=run prg N (d+1)) (i:=i) U S h hn j l λA outer s H E n=>b p kb a U.tab n
theorem oq(u:Uq K mg m)(b:Bq m)(S:FnScope m.N m.ps (defScope (top m.i)):=by exact⟨rfl,rfl,rfl,by decide +kernel,rfl,by decide +kernel,by decide +kernel⟩)(c:m.ps.length=m.b.np:=by rfl)(hn:m.N.length=m.b.nn:=by rfl)(f:m.b.np<=m.b.nn:=by decide)(h:run prg N (d+1) i=callC (run prg N d) N m.b:=by rfl):FnAt P w K mg base (k+3) (run prg N (d+1)) i m.x m.ps:=u.fn λ_ _ _ _ U=>og p kb a U b S c hn f h
theorem qgK:All P w K mg base (k+3) (run prg N (d+1)):=⟨oq p kb a p.u_0 b_0,oq p kb a p.u_1 b_1,oq p kb a p.u_2 b_2,oq p kb a p.u_3 b_3,oq p kb a p.u_4 b_4,oq p kb a p.u_5 b_5,oq p kb a p.u_6 b_6,oq p kb a p.u_7 b_7,oq p kb a p.u_8 b_8,oq p kb a p.u_9 b_9,oq p kb a p.u_10 b_10,oq p kb a p.u_11 b_11,oq p kb a p.u_12 b_12,oq p kb a p.u_13 b_13,oq p kb a p.u_14 b_14,oq p kb a p.u_15 b_15,oq p kb a p.u_16 b_16,oq p kb a p.u_17 b_17,oq p kb a p.u_18 b_18,oq p kb a p.u_19 b_19,oq p kb a p.u_20 b_20,oq p kb a p.u_21 b_21,oq p kb a p.u_22 b_22,oq p kb a p.u_23 b_23,oq p kb a p.u_24 b_24,oq p kb a p.u_25 b_25,oq p kb a p.u_26 b_26,oq p kb a p.u_27 b_27,oq p kb a p.u_28 b_28,oq p kb a p.u_29 b_29,oq p kb a p.u_30 b_30,oq p kb a p.u_31 b_31,oq p kb a p.u_32 b_32,oq p kb a p.u_33 b_33,oq p kb a p.u_34 b_34,oq p kb a p.u_35 b_35,oq p kb a p.u_36 b_36,oq p kb a p.u_37 b_37⟩
omit kb a
theorem qgL:All P w K mg base 0 (run prg N 0):=⟨oz p.u_0,oz p.u_1,oz p.u_2,oz p.u_3,oz p.u_4,oz p.u_5,oz p.u_6,oz p.u_7,oz p.u_8,oz p.u_9,oz p.u_10,oz p.u_11,oz p.u_12,oz p.u_13,oz p.u_14,oz p.u_15,oz p.u_16,oz p.u_17,oz p.u_18,oz p.u_19,oz p.u_20,oz p.u_21,oz p.u_22,oz p.u_23,oz p.u_24,oz p.u_25,oz p.u_26,oz p.u_27,oz p.u_28,oz p.u_29,oz p.u_30,oz p.u_31,oz p.u_32,oz p.u_33,oz p.u_34,oz p.u_35,oz p.u_36,oz p.u_37⟩
omit p
theorem qgM(p:Pre K mg)(kb:K.In base):∀d:Nat,All P w K mg base (3*d) (run prg N d)
 |0=>qgL p
 |d+1=>qgK p kb (qgM p kb d)
include p kb a
theorem o_law{f:Addr}{fd:FuncData}{c t:Addr}(U:FunT K M37.x (top M37.i) f fd c t):FnOk P w K mg base CX0 (k+3) f fd M37.ps (SpD M37.ps.length (run prg N (d+1) 37)):=og p kb a U b_37 ⟨rfl,rfl,rfl,by decide +kernel,rfl,by decide +kernel,by decide +kernel⟩ rfl rfl 02 rfl
end
end RP
namespace RP
open R
section
variable{α:Type}{g:α->D}
theorem jb{n:Nat}{bind:D->En->Sr->Res En}{test:En->Sr->Res Bool}{elt:05}{b:α->Bool}{v:α->D}(R:En->Prop){S:Sr}(hn:S.length=n):∀(ds:List α) (a:List D) (ρ:En),a.length+ds.length<=PySem.sizeLine->R ρ ->
  (∀d∈ds,∀(ρ:En) (m:List D),R ρ->∃ρ1,bind (g d) ρ (S++[.l m])=.ok ρ1 (S++[.l m])/\R ρ1/\test ρ1 (S++[.l m])=.ok (b d) (S++[.l m])/\(b d=true->elt ρ1 (S++[.l m])=.ok (v d) (S++[.l m])/\refsLt 0 (v d)=true)) ->
  ∃c,lcLoop n bind test elt (ds.map g) ρ (S++[.l a])=.ok c (S++[.l (a++(ds.filter b).map v)])
 |[],a,ρ,_,_,_=>⟨ρ,by simp[lcLoop]⟩
 |d::ds,a,ρ,hl,hR,H=>by
  obtain⟨ρ1,e1,f,i,j⟩:=H d wH ρ a hR;simp only[wj]at hl;rw[wU];unfold lcLoop;rw[e1,Res.bind_ok,i,Res.bind_ok];cases z:b d with
  |true =>
   obtain⟨l,o⟩:=j z;have p:appD (S++[.l a]) (.ref n) (v d)=.ok .non (S++[.l (a++[v d])]):=by
    subst hn;have h:a.length<PySem.sizeLine:=by lia
    simp[appD,o,h]
   rw[wR rfl,l,Res.bind_ok,p,Res.bind_ok];obtain⟨c,e⟩:=jb R hn ds (a++[v d]) ρ1 (by simp;lia) f λd' hd=>H d' (wL _ hd)
   exact⟨c,by rw[e];simp[z]⟩
  |false =>
   rw[wT (by simp)];obtain⟨c,e⟩:=jb R hn ds a ρ1 00 f λd' hd=>H d' (wL _ hd)
   exact⟨c,by rw[e];simp[z]⟩
theorem zY{F:Fs}{fr:List Nat}{nt:Nat}{elt:CE}{tg:CT}{it:CI}{ifs:CBs}{ρ:En}{S S1:Sr}{ds:List D}(xs:List α)(b:α->Bool)(v:α->D)(R:En->Prop)(a:evI F it ρ S=.ok ds S1)(hd:ds=xs.map g)(c:R (frE ρ fr nt))(f:xs.length<=PySem.sizeLine)(H:∀d∈xs,∀(ρ:En) (m:List D),R ρ->∃ρ1,asg F tg (g d) ρ (S1++[.l m])=.ok ρ1 (S1++[.l m])/\R ρ1/\tsts F ifs ρ1 (S1++[.l m])=.ok (b d) (S1++[.l m])/\(b d=true->ev F elt ρ1 (S1++[.l m])=.ok (v d) (S1++[.l m])/\refsLt 0 (v d)=true)):
  ev F (.lc false fr nt elt tg it ifs) ρ S=.ok (.l ((xs.filter b).map v)) S1:=by
 obtain⟨h,e⟩:=jb (n:=S1.length) (bind:=λd ρ S=>asg F tg d ρ S) (test:=λρ S=>tsts F ifs ρ S) (elt:=λρ S=>ev F elt ρ S) R rfl xs [] _ (by simpa using f) c H;simp only[ev,a,Res.bind,hd,e,lcEnd];simp
theorem qea{bind:D->En->Sr->Res En}{test:En->Sr->Res Bool}{elt:05}{p:α->Bool}(R:En->Prop){S:Sr}:∀(ds:List α) (ρ:En),R ρ ->
  (∀d∈ds,∀ρ:En,R ρ->∃ρ1,bind (g d) ρ S=.ok ρ1 S/\R ρ1/\test ρ1 S=.ok true S/\elt ρ1 S=.ok (.bl (p d)) S) ->
  genLoop bind test elt (stepG .all) (finG .all) (ds.map g) ρ .non S=.ok (.bl (ds.all p)) S
 |[],ρ,_,_=>by simp[genLoop,finG]
 |d::ds,ρ,hR,H=>by
  obtain⟨ρ1,e1,a,b,c⟩:=H d wH ρ hR;rw[wU];unfold genLoop;rw[e1,Res.bind_ok,b,Res.bind_ok,wR rfl,c,Res.bind_ok];cases z:p d with
  |true=>simp only[stepG];rw[qea R ds ρ1 a λd' hd=>H d' (wL _ hd)];simp[z]
  |false=>simp[stepG,z]
theorem yJ{F:Fs}{fr:List Nat}{nt:Nat}{elt:CE}{tg:CT}{it:CI}{ρ:En}{S S1:Sr}{ds:List D}(xs:List α)(p:α->Bool)(R:En->Prop)(f:evI F it ρ S=.ok ds S1)(hd:ds=xs.map g)(h:R (frE ρ fr nt))(H:∀d∈xs,∀ρ:En,R ρ->∃ρ1,asg F tg (g d) ρ S1=.ok ρ1 S1/\R ρ1/\ev F elt ρ1 S1=.ok (.bl (p d)) S1):
  ev F (.gen .all fr nt elt tg it .nil) ρ S=.ok (.bl (xs.all p)) S1:=by
 simp only[ev,f,Res.bind,hd,startG];exact qea R xs _ h λd hd ρ i=>let ⟨ρ1,a,b,c⟩:=H d hd ρ i;⟨ρ1,a,b,rfl,c⟩
end
noncomputable abbrev Tie:=List Int×Int
noncomputable def tieD(t:Tie):D:=.t [tupI t.1,.int t.2]
structure Wb where
 costs:List Int
 ties:List Tie
noncomputable def webD(w:Wb):D:=.t [tupI w.costs,.t (w.ties.map tieD)]
structure PlOk (n:Nat) (p:List Int):Prop where
 ne:p≠[]
 rng:∀x∈p,0<=x/\x<n
 up:p.Pairwise (· < ·)
structure WbOk (w:Wb):Prop where
 c1:1<=w.costs.length
 c2:w.costs.length<=12
 c3:∀c∈w.costs,1<=c/\c<=100
 t1:w.ties.length<=30
 t2:∀t∈w.ties,PlOk w.costs.length t.1/\t.1.length<=4/\1<=t.2/\t.2<=1000000
 t3:(w.ties.map (·.1)).Pairwise λa b=>HT.lexLt a b=true
def qN:∀l:List Int,intsOf (l.map .int)=some l
 |[]=>rfl
 |a::r=>by simp[intsOf,qN r]
def qgN:∀{l:List Int},l.Pairwise (· < ·)->(l.zip (l.drop 1)).all (λp=>decide (p.1<p.2))=true
 |[],_=>rfl
 |[a],_=>rfl
 |a::b::r,h=>by
  have c:=wx.mp h;have:=qgN c.2;simp only[uw,xG,wv,uc,wZ,wm]at this ⊢;exact⟨c.1 b wH,this⟩
def qeb:∀{l:07},l.Pairwise (λa b=>HT.lexLt a b=true)->(l.zip (l.drop 1)).all (λp=>HT.lexLt p.1 p.2)=true
 |[],_=>rfl
 |[a],_=>rfl
 |a::b::r,h=>by
  have c:=wx.mp h;have:=qeb c.2;simp only[uw,xG,wv,uc,wZ]at this ⊢;exact⟨c.1 b wH,this⟩
def cut1(l:List D):cutD l (some 1) none=l.drop 1:=by
 unfold cutD HT.sIx;cases l with
 |nil=>rfl
 |cons a r =>
  have:min (1:Int).toNat (a::r).length=1:=by simp
  simp only[this];rw[wT 00];simp
section
variable{F:Fs}{N:Nat}{ρ ρ1:En}{S S1 S2:Sr}{r a b:CSs}{e e1 e2:CE}{t:CT}{c:CB}{X:Res Fl}{d d1 d2:D}
theorem qC(h:ev F e ρ S=.ok d S1):exs F N (.c (.ret e) r) ρ S=.ok (.rt d) S1:=by simp[exs,ex,h,Res.bind]
theorem yz:exs F N .nil ρ S=.ok (.nx ρ) S:=by simp[exs]
theorem qI(h:ev F e ρ S=.ok d S1)(f:asg F t d ρ S1=.ok ρ1 S2)(i:exs F N r ρ1 S2=X):exs F N (.c (.set t e) r) ρ S=X:=by simp[exs,ex,h,f,i,Res.bind]
theorem qap(h:ev F e ρ S=.ok d S1)(f:exs F N r ρ S1=X):exs F N (.c (.expr e) r) ρ S=X:=by simp[exs,ex,h,f,Res.bind]
theorem x_no(h:tst F c ρ S=.ok false S1)(f:exs F N r ρ S1=X):exs F N (.c (.ifs c a .nil) r) ρ S=X:=by simp[exs,ex,h,f,Res.bind]
theorem jc(h:tst F c ρ S=.ok true S1)(f:exs F N a ρ S1=.ok (.rt d) S2):exs F N (.c (.ifs c a b) r) ρ S=.ok (.rt d) S2:=by simp[exs,ex,h,f,Res.bind]
theorem qkI(h:tst F c ρ S=.ok true S1)(f:exs F N a ρ S1=.ok (.nx ρ1) S2)(i:exs F N r ρ1 S2=X):exs F N (.c (.ifs c a b) r) ρ S=X:=by simp[exs,ex,h,f,i,Res.bind]
theorem qaq{it:CI}{ds:List D}(h:evI F it ρ S=.ok ds S1)(f:forLoop (λd ρ S=>(asg F t d ρ S).bind λρ1 S1=>exs F N a ρ1 S1) ds ρ S1=.ok (.nx ρ1) S2)(i:exs F N r ρ1 S2=X):exs F N (.c (.forS t it a) r) ρ S=X:=by
 simp only[exs,ex,h,Res.bind]at f ⊢;rw[f];exact i
theorem qF{f:CF}{l:List D}(i:l.length=f.np)(h:exs F N f.body (l.map some++List.replicate (f.nn-f.np) none) S=.ok (.rt d) S):callC F N f l S=.ok d S:=by
 simp only[callC,i,wR,h,Res.bind,leave];cases f.keeps <;> simp
theorem qec{f:CF}{l:List D}(i:l.length=f.np)(h:exs F N f.body (l.map some++List.replicate (f.nn-f.np) none) S=.ok (.nx ρ) S):callC F N f l S=.ok .non S:=by
 simp only[callC,i,wR,h,Res.bind,leave];cases f.keeps <;> simp
theorem qcp{f:CF}{l:List D}(j:l.length=f.np)(m:f.keeps=false)(h:exs F N f.body (l.map some++List.replicate (f.nn-f.np) none) S=.ok (.rt d) (S1++S2))(i:S1.length=S.length)(n:refsLt S.length d=true):callC F N f l S=.ok d S1:=by
 simp only[callC,j,wR,h,Res.bind,leave,m];rw[wT (by simp)];split
 .rename_i z
  have:S2=[]:=by
   rw[wV,i]at z;exact wt.mp 00
  rw[this,vf]
 .rw [<-i];simp
theorem qkJ{f:CF}{l:List D}(i:l.length=f.np)(j:f.keeps=true)(h:exs F N f.body (l.map some++List.replicate (f.nn-f.np) none) S=.ok (.rt d) S1):callC F N f l S=.ok d S1:=by
 simp only[callC,i,wR,h,Res.bind,leave,j]
theorem qa0{x y:Bool}(h:ev F e1 ρ S=.ok (.bl x) S)(f:ev F e2 ρ S=.ok (.bl y) S):ev F (.and e1 e2) ρ S=.ok (.bl (x&&y)) S:=by
 cases x <;> simp[ev,h,f,Res.bind]
theorem qj{i:Nat}{es:CEs}{l:List D}(h:evs F es ρ S=.ok l S1)(f:F i l S1=.ok d S2):ev F (.call i es) ρ S=.ok d S2:=by simp[ev,h,f,Res.bind]
theorem qv{i:Blt}{es:CEs}{l:List D}(h:evs F es ρ S=.ok l S1)(f:bltD i l S1=.ok d S2):ev F (.blt i es) ρ S=.ok d S2:=by simp[ev,h,f,Res.bind]
theorem qf{es:CEs}{l:List D}(h:ev F e ρ S=.ok d S1)(f:evs F es ρ S1=.ok l S2):evs F (.cons e es) ρ S=.ok (d::l) S2:=by simp[evs,h,f,Res.bind]
theorem qD{o:BOp}(h:ev F e1 ρ S=.ok d1 S1)(f:ev F e2 ρ S1=.ok d2 S2)(i:binD o d1 d2 S2=some d):ev F (.bin o e1 e2) ρ S=.ok d S2:=by simp[ev,h,f,i,Res.bind]
theorem qO{o:COp}{x:Bool}(h:ev F e1 ρ S=.ok d1 S1)(f:ev F e2 ρ S1=.ok d2 S2)(i:cmpD o d1 d2 S2=some x):ev F (.cmp o e1 e2) ρ S=.ok (.bl x) S2:=by simp[ev,h,f,i,Res.bind]
theorem qr(h:ev F e1 ρ S=.ok d1 S1)(f:ev F e2 ρ S1=.ok d2 S2)(i:idxD S2 d1 d2=some d):ev F (.idx e1 e2) ρ S=.ok d S2:=by simp[ev,h,f,i,Res.bind]
theorem qL{es:CEs}{l:List D}(h:evs F es ρ S=.ok l S1)(f:l.length<=PySem.sizeLine):ev F (.t es) ρ S=.ok (.t l) S1:=by simp[ev,h,f,Res.bind]
theorem t_of{x:Bool}(h:ev F e ρ S=.ok (.bl x) S1):tst F (.val e) ρ S=.ok x S1:=by simp[tst,h,Res.bind,truD]
theorem t_no{x:Bool}(h:tst F c ρ S=.ok x S1):tst F (.not c) ρ S=.ok (!x) S1:=by simp[tst,h,Res.bind]
theorem t_or{c2:CB}{x y:Bool}(h:tst F c ρ S=.ok x S)(f:tst F c2 ρ S=.ok y S):tst F (.or c c2) ρ S=.ok (x || y) S:=by
 cases x <;> simp[tst,h,f,Res.bind]
theorem qkK{x:Bool}(h:tst F c ρ S=.ok x S):tsts F (.cons c .nil) ρ S=.ok x S:=by
 cases x <;> simp[tsts,h,Res.bind]
end
def qar{a:Type}{g:a->D}{F:Fs}{fr:List Nat}{nt:Nat}{elt:CE}{tg:CT}{it:CI}{ρ:En}{S S1:Sr}{ds:List D}(xs:List a)(R:En->Prop)(b:evI F it ρ S=.ok ds S1)(hd:ds=xs.map g)(c:R (frE ρ fr nt))(H:∀d∈xs,∀ρ:En,R ρ->∃ρ1,asg F tg (g d) ρ S1=.ok ρ1 S1/\R ρ1/\ev F elt ρ1 S1=.ok (.bl true) S1):
  ev F (.gen .all fr nt elt tg it .nil) ρ S=.ok (.bl true) S1:=by
 have:=yJ xs (λ_=>true) R b hd c H;rw[we.mpr (λ_ _=>rfl)]at this;exact this
def qA{a:Type}(l:List a):l.filter (λ_=>true)=l:=List.filter_eq_self.mpr λ_ _=>rfl
def qgO{a:Type}(f:a->D)(p:List a):((p.map f).zip ((p.drop 1).map f)).map (λq=>D.t [q.1,q.2])=(p.zip (p.drop 1)).map λq=>.t [f q.1,f q.2]:=by
 rw[uN,wJ];rfl
def refsI(k:Nat):∀l:List Int,refsLts k (l.map .int)=true
 |[]=>rfl
 |a::r=>by rw[wU,refsLts,refsI k r];rfl
def zI(k:Nat)(l:List Int):refsLt k (tupI l)=true:=refsI k l
def zZ(k:Nat)(t:Tie):refsLt k (tieD t)=true:=by
 show(refsLt k (tupI t.1)&&(refsLt k (.int t.2)&&true))=true;rw[zI];rfl
def qa1(k:Nat):∀l:List Tie,refsLts k (l.map tieD)=true
 |[]=>rfl
 |a::r=>by rw[wU,refsLts,qa1 k r,zZ];rfl
def qcq(k:Nat)(w:Wb):refsLt k (webD w)=true:=by
 show(refsLt k (tupI w.costs)&&(refsLts k (w.ties.map tieD)&&true))=true;rw[zI,qa1];rfl
def zE(l:List Int)(S:Sr):bltD .len [tupI l] S=.ok (.int l.length) S:=by simp[bltD,one,bLen,lenD,tupI]
def yK{a:Int}{n:Nat}(h:a.natAbs<2^n):PySem.Builtin.Int.intBits a<=n:=by
 unfold PySem.Builtin.Int.intBits;split
 .lia
 .rename_i z
  have b:a.natAbs≠0:=by
   intro e;apply z;simp;lia
  have:=(Nat.log2_lt b).mpr h;lia
def jd{a b:Int}(h:a.natAbs<2^64):mulOk a b=true:=by
 have:=yK h;unfold mulOk PySem.shortFactorBits;have e:decide (PySem.Builtin.Int.intBits a>64)=false:=by simp;lia
 rw[e];rfl
def zv{a b:Int}(h:b.natAbs<2^64):mulOk a b=true:=by
 have:=yK h;unfold mulOk PySem.shortFactorBits;have e:decide (PySem.Builtin.Int.intBits b>64)=false:=by simp;lia
 rw[e,Bool.and_false];rfl
def qed{a b:Int}(h:a.natAbs<2^250)(c:b.natAbs<2^250):mulOk a b=true:=by
 have d:=yK h;have c:=yK c;unfold mulOk PySem.Builtin.Int.intTooBig PySem.bitsLine;have e:decide (((PySem.Builtin.Int.intBits a:Int)+(PySem.Builtin.Int.intBits b:Int))>((2^27:Nat):Int))=false:=by
  rw[va];norm_cast;lia
 rw[e,Bool.and_false];rfl
def qiy{a b:Int}(d:0<b)(h:b.natAbs<2^64):divOk a b=true:=by
 have hb:=yK h;unfold divOk PySem.Builtin.divisionGoesByPylong;unfold PySem.Builtin.Int.intBits at hb;have c:(b == 0)=false:=by rw[vB];lia
 rw[c]at hb;simp only[c,vI,uB]at hb ⊢;have e:decide (b.natAbs.log2 / 30+1>300)=false:=by rw[va];lia
 simp only[e,xm];rfl
def bmul{a b:Int}{S:Sr}(h:mulOk a b=true):binD .mul (.int a) (.int b) S=some (.int (a*b)):=by
 simp only[binD,binI];rw[wR h];rfl
def badd{a b:Int}{S:Sr}:binD .add (.int a) (.int b) S=some (.int (a+b)):=rfl
noncomputable def pk(S:Sr)(n:Nat)(v:Int):Sr:=S.set n (.l [.int v])
def qo(S:Sr)(n:Nat)(v:Int):(pk S n v).length=S.length:=by simp[pk]
def qmk{S:Sr}{n:Nat}(h:n<S.length)(v:Int):(pk S n v)[n]?=some (.l [.int v]):=by simp[pk,h]
def zk{S T:Sr}{n:Nat}(h:n<S.length)(v:Int):pk S n v++T=pk (S++T) n v:=by simp[pk,List.set_append_left _ _ h]
def qee{S:Sr}{n:Nat}{v:Int}(h:S[n]?=some (.l [.int v])):pk S n v=S:=by
 unfold pk;apply uT;intro i;rw[xJ];split
 .rename_i e;subst e
  obtain⟨a,_⟩:=wO.mp h;rw[wR a,h]
 .rfl
def qcr{F:Fs}{ρ:En}{S S1:Sr}{es:CEs}{l:List D}(h:evs F es ρ S=.ok l S1)(a:l.length<=1000):ev F (.l false es) ρ S=.ok (.l l) S1:=by
 have:l.length<=PySem.sizeLine:=by unfold PySem.sizeLine;lia
 simp[ev,h,this,Res.bind,newL]
def qdb{F:Fs}{ρ:En}{S S1:Sr}{es:CEs}{l:List D}(h:evs F es ρ S=.ok l S1)(b:l.length<=1000)(a:refsLts 0 l=true):ev F (.l true es) ρ S=.ok (.ref S1.length) (S1++[.l l]):=by
 have:l.length<=PySem.sizeLine:=by unfold PySem.sizeLine;lia
 simp[ev,h,this,Res.bind,newL,a]
def qas{body:D->En->Sr->Res Fl}{d:D}{r:List D}{ρ ρ1:En}{S S1:Sr}(h:body d ρ S=.ok (.nx ρ1) S1):forLoop body (d::r) ρ S=forLoop body r ρ1 S1:=by
 simp only[forLoop,h,Res.bind]
def yf{c:Type}{g:c->D}{body:D->En->Sr->Res Fl}(P:List c->En->Sr->Prop)(xs:List c){ρ:En}{S:Sr}(i:P [] ρ S)(H:∀(pre:List c) (x:c) (b:List c) (ρ:En) (S:Sr),xs=pre++x::b->P pre ρ S->∃ρ1 S1,body (g x) ρ S=.ok (.nx ρ1) S1/\P (pre++[x]) ρ1 S1):
  ∃a d,forLoop body (xs.map g) ρ S=.ok (.nx a) d/\P xs a d:=by
 have f:∀(b pre:List c) (ρ:En) (S:Sr),xs=pre++b->P pre ρ S->∃a d,forLoop body (b.map g) ρ S=.ok (.nx a) d/\P xs a d:=by
  intro b;induction b with
  |nil=>intro pre ρ S e h;rw[vf]at e;subst e;exact⟨ρ,S,rfl,h⟩
  |cons x r j =>
   intro pre ρ S e h;obtain⟨ρ1,S1,e1,l⟩:=H pre x r ρ S e h;obtain⟨a,d,m,n⟩:=j (pre++[x]) ρ1 S1 (by rw[e];simp) l;exact⟨a,d,by rw[wU,qas e1,m],n⟩
 exact f xs [] ρ S rfl i
def qdc{y:Type}{g:y->D}{n:Nat}{bind:D->En->Sr->Res En}{test:En->Sr->Res Bool}{elt:05}(R:En->Prop)(I:List D->Sr->Prop)(i:∀ρ S,test ρ S=.ok true S):∀(ds:List y) (f:List D) (ρ:En) (S:Sr),f.length+ds.length<=1000->R ρ->I f S->S.length=n ->
  (∀d∈ds,∀(ρ:En) (m:List D) (S:Sr),R ρ->I m S->S.length=n->m.length<f.length+ds.length->∃ρ1 v j,bind (g d) ρ (S++[.l m])=.ok ρ1 (S++[.l m])/\R ρ1/\elt ρ1 (S++[.l m])=.ok v (j++[.l m])/\j.length=n/\refsLt 0 v=true/\I (m++[v]) j) ->
  ∃l h j,lcLoop n bind test elt (ds.map g) ρ (S++[.l f])=.ok l (j++[.l h])/\I h j/\j.length=n/\h.length=f.length+ds.length
 |[],f,ρ,S,_,_,hI,hn,_=>⟨ρ,f,S,by simp[lcLoop],hI,hn,by simp⟩
 |d::ds,f,ρ,S,hl,hR,hI,hn,H=>by
  obtain⟨ρ1,v,j,e1,p,A,o,B,q⟩:=H d wH ρ f S hR hI hn (by simp);simp only[wj]at hl;rw[wU];unfold lcLoop;have C:appD (j++[.l f]) (.ref n) v=.ok .non (j++[.l (f++[v])]):=by
   subst o;have r:f.length<PySem.sizeLine:=by unfold PySem.sizeLine;lia
   simp[appD,B,r]
  rw[e1,Res.bind_ok,i,Res.bind_ok,wR rfl,A,Res.bind_ok,C,Res.bind_ok];obtain⟨l,h,S2,e,s,u,w⟩:=qdc R I i ds (f++[v]) ρ1 j (by simp;lia) p q o λd' hd ρ m S a b c x=>H d' (wL _ hd) ρ m S a b c (by simp at x ⊢;lia)
  exact⟨l,h,S2,e,s,u,by rw[w];simp;lia⟩
def qdd{f:Type}{g:f->D}{F:Fs}{fr:List Nat}{nt:Nat}{elt:CE}{tg:CT}{it:CI}{ρ:En}{S S1:Sr}{ds:List D}(xs:List f)(R:En->Prop)(I:List D->Sr->Prop)(i:evI F it ρ S=.ok ds S1)(hd:ds=xs.map g)(j:R (frE ρ fr nt))(l:xs.length<=1000)(hi:I [] S1)(H:∀d∈xs,∀(ρ:En) (m:List D) (S:Sr),R ρ->I m S->S.length=S1.length->m.length<xs.length->∃ρ1 v b,asg F tg (g d) ρ (S++[.l m])=.ok ρ1 (S++[.l m])/\R ρ1/\ev F elt ρ1 (S++[.l m])=.ok v (b++[.l m])/\b.length=S1.length/\refsLt 0 v=true/\I (m++[v]) b):
  ∃a b,ev F (.lc false fr nt elt tg it .nil) ρ S=.ok (.l a) b/\I a b/\b.length=S1.length/\a.length=xs.length:=by
 obtain⟨o,c,b,e,p,h,q⟩:=qdc (n:=S1.length) (bind:=λd ρ S=>asg F tg d ρ S) (test:=λρ S=>tsts F .nil ρ S) (elt:=λρ S=>ev F elt ρ S) R I (λ_ _=>by simp[tsts]) xs [] _ S1 (by simpa using l) j hi rfl (by simpa using H);refine⟨c,b,?_,p,h,by simpa using q⟩;simp only[ev,i,Res.bind,hd,e,lcEnd];rw[<-h];simp
noncomputable def rI(n:Nat):List Int:=(List.range n).map λ(k:Nat)=>(k:Int)
def zG(n:Nat):(rI n).length=n:=by simp[rI]
def zT{n:Nat}{x:Int}:x∈rI n ↔ 0<=x/\x<n:=by
 unfold rI;rw[wW];constructor
 .rintro ⟨k,a,rfl⟩;have:=vY.mp a;lia
 .rintro ⟨b,c⟩;exact⟨x.toNat,vY.mpr 00,by lia⟩
def je(n:Nat):(rI n).Nodup:=by
 unfold rI;exact List.Pairwise.map _ (λa b h e=>h 00) List.nodup_range
def qiz(n:Nat):rngL 0 n 1=(rI n).map .int:=by
 unfold rngL rI;have:(((n:Int)-0+1-1) / 1).toNat=n:=by lia
 rw[this,wJ];apply wo;intro k _;simp
def qgP{n:Nat}(h:n<=1000):rngD [.int n]=some ((rI n).map .int):=by
 have a:-(2^62)<=(n:Int):=by lia
 have b:(n:Int)<2^62:=by lia
 simp only[rngD,a,b,and_self,v6,qiz]
def qml{n:Nat}(h:n<=1000):((rI n).map D.int).length<=1000000:=by
 rw[wF,zG];exact vK h 02
def qde{b c:Type}(f:b->c):∀(l:List b) (i:Nat),(l.map f).eraseIdx i=(l.eraseIdx i).map f
 |[],_=>by simp
 |a::r,0=>by simp
 |a::r,i+1=>by simp[qde f r i]
def qbw{b:Type}:∀{l:List b} {i:Nat} {x:b},l[i]?=some x->(x::l.eraseIdx i).Perm l
 |[],i,x,h=>by simp at h
 |a::r,0,x,h=>by simp at h;subst h;simp
 |a::r,i+1,x,h=>by
  simp at h;have:=qbw h;simp only[List.eraseIdx_cons_succ];exact(List.Perm.swap a x _).trans (this.cons a)
def qcs{l:List Int}(h:l.Nodup):(sortI l).Pairwise (· < ·):=by
 have c:=qai l;have d:(sortI l).Nodup:=(zd l).nodup_iff.mpr h;exact(c.and d).imp λ⟨a,b⟩=>by lia
def qfd{l:List Int}(h:l.length<64):sortL (l.map .int)=some ((sortI l).map .int):=by
 unfold sortL;rw[wR (by simpa using h),qN]
def fm{v m:Int}(h:0<m):0<=v.fmod m/\v.fmod m<m:=⟨vQ v h,ud v h⟩
def qkL{F:Fs}{ρ:En}{S S1:Sr}{es:CEs}{l:List D}{k:Option Bool}(h:evs F es ρ S=.ok l S1){ds:List D}(a:rngD l=some ds)(b:ds.length<=1000000):ev F (.rng k es) ρ S=match k with|some m=>newL m ds S1|none=>.ok (.t ds) S1:=by
 cases k <;> simp only[ev,h,Res.bind,a,b,v6]
def qgQ{F:Fs}{ρ:En}{S S1:Sr}{es:CEs}{n:Nat}(h:evs F es ρ S=.ok [.int n] S1)(hn:n<=1000):ev F (.rng (some true) es) ρ S=.ok (.ref S1.length) (S1++[.l ((rI n).map .int)]):=by
 rw[qkL h (qgP hn) (qml hn)];simp only[newL,refsI,v6]
def i_rng{F:Fs}{ρ:En}{S S1:Sr}{es:CEs}{n:Nat}(h:evs F es ρ S=.ok [.int n] S1)(hn:n<=1000):evI F (.rng es) ρ S=.ok ((rI n).map .int) S1:=by
 simp only[evI,h,Res.bind,qgP hn];rfl
def qjm{F:Fs}{ρ:En}{S S1 S2 S3:Sr}{o i:CE}{x y d:D}(h:ev F o ρ S=.ok x S1)(hi:isLst S1 x=true)(a:ev F i ρ S1=.ok y S2)(b:popD S2 x y=.ok d S3):ev F (.popAt o i) ρ S=.ok d S3:=by
 simp only[ev,h,Res.bind,hi,v6,a,b]
def qgR{F:Fs}{ρ:En}{S S1 S2 S3:Sr}{o i:CE}{x y d:D}(h:ev F o ρ S=.ok x S1)(hi:isLst S1 x=true)(a:ev F i ρ S1=.ok y S2)(b:appD S2 x y=.ok d S3):ev F (.app o i) ρ S=.ok d S3:=by
 simp only[ev,h,Res.bind,hi,v6,a,b]
noncomputable def ent(t:Tie):List Int×D:=(t.1,.int t.2)
noncomputable def dicD(ts:List Tie):SO:=.dic (ts.map ent)
structure KnOk (many:Nat) (ts:List Tie):Prop where
 nd:(ts.map (·.1)).Nodup
 ok:∀t∈ts,PlOk many t.1/\t.1.length<=4/\1<=t.2/\t.2<=1000000
noncomputable def putTie(k:List Int)(w:Int)(ts:List Tie):List Tie :=
 if ts.any (λt=>decide (t.1=k))then ts.map (λt=>if t.1=k then(t.1,w)else t)else ts++[(k,w)]
def qgS(k:List Int)(w:Int)(ts:List Tie):putT k (.int w) (ts.map ent)=(putTie k w ts).map ent:=by
 unfold putT putTie;have e:(ts.map ent).any (λp=>decide (p.1=k))=ts.any (λt=>decide (t.1=k)):=by rw[List.any_map];rfl
 rw[e];split
 .rw [wJ,wJ]
  apply wo;intro t _;show(if t.1=k then(t.1,D.int w)else ent t)=ent (if t.1=k then(t.1,w)else t);split <;> rfl
 .simp [ent]
def KnOk.put{many:Nat}{ts:List Tie}(h:KnOk many ts){k:List Int}{w:Int}(j:PlOk many k)(l:k.length<=4)(f:1<=w)(i:w<=1000000):KnOk many (putTie k w ts)/\(putTie k w ts).length<=ts.length+1:=by
 unfold putTie;split
 .refine ⟨⟨?_,?_⟩,by simp⟩
  .rw [wJ]
   have:ts.map ((·.1)∘λt=>if t.1=k then(t.1,w)else t)=ts.map (·.1):=by
    apply wo;intro t _;show(if t.1=k then(t.1,w)else t).1=t.1;split <;> rfl
   rw[this];exact h.nd
  .intro t d
   obtain⟨s,c,rfl⟩:=wW.mp d;split
   .rename_i e;exact⟨(h.ok s c).1,(h.ok s c).2.1,f,i⟩
   .exact h.ok s c
 .rename_i hn
  refine⟨⟨?_,?_⟩,by simp⟩
  .rw [v5,vX]
   refine⟨h.nd,by simp,λa ha b hb e=>?_⟩;simp at hb;obtain⟨s,c,rfl⟩:=wW.mp ha;apply hn;rw[xX];exact⟨s,c,by rw[wm,e,hb]⟩
  .intro t d
   rcases w9.mp d with z|z
   .exact h.ok t z
   .simp at z;subst z;exact⟨j,l,f,i⟩
noncomputable def look(ts:List Tie)(k:List Int):Int:=match ts with
 |[]=>0
 |t::r=>if t.1=k then t.2 else look r k
def jT:∀{ts:List Tie} {k:List Int},k∈ts.map (·.1)->lookT k (ts.map ent)=some (.int (look ts k))/\∃t∈ts,t.1=k/\t.2=look ts k
 |[],k,h=>by simp at h
 |t::r,k,h=>by
  rw[wU];show(if t.1=k then some (D.int t.2)else lookT k (r.map ent))=some (.int (if t.1=k then t.2 else look r k))/\∃s∈t::r,s.1=k/\s.2=(if t.1=k then t.2 else look r k);by_cases e:t.1=k
  .rw [wR e,wR e];exact⟨rfl,t,wH,e,rfl⟩
  .rw [wT e,wT e]
   have h':k∈r.map (·.1):=by
    rw[wU]at h;rcases wX.mp h with z|z
    .exact absurd z.symm e
    .exact z
   obtain⟨a,s,c,b⟩:=jT h';exact⟨a,s,wL _ c,b⟩
noncomputable def srt(ts:List Tie):List Tie:=(sortT (ts.map (·.1))).map λk=>(k,look ts k)
def qgT(ts:List Tie):(srt ts).map (·.1)=sortT (ts.map (·.1)):=by
 unfold srt;rw[wJ];have:((λt:Tie=>t.1)∘λk=>(k,look ts k))=id:=rfl;rw[this,List.map_id]
def qef(ts:List Tie):(srt ts).length=ts.length:=by
 unfold srt;rw[wF,(qG _).length_eq,wF]
def qkM{many:Nat}{ts:List Tie}(h:KnOk many ts):(∀t∈srt ts,PlOk many t.1/\t.1.length<=4/\1<=t.2/\t.2<=1000000)/\((srt ts).map (·.1)).Pairwise λa b=>HT.lexLt a b=true:=by
 refine⟨λt c=>?_,by rw[qgT];exact zH h.nd⟩;unfold srt at c;obtain⟨k,d,rfl⟩:=wW.mp c;obtain⟨_,s,f,e1,i⟩:=jT ((qG _).mem_iff.mp d);have:=h.ok s f;rw[e1,i]at this;exact this
def yX:∀l:List (List Int),tupsOf (l.map tupI)=some l
 |[]=>rfl
 |a::r=>by simp[tupsOf,tupI,qN];exact yX r
def qfe{l:07}(h:l.length<64)(nd:l.Nodup)(ne:∀t∈l,t≠[]):sortL (l.map tupI)=some ((sortT l).map tupI):=by
 unfold sortL;rw[wR (by simpa using h)];cases l with
 |nil=>rfl
 |cons a r =>
  have:intsOf ((a::r).map tupI)=none:=rfl;rw[this];show(tupsOf ((a::r).map tupI)).bind _=_;rw[yX,wY,wR ⟨nd,ne⟩]
def qkN{F:Fs}{ρ:En}{T:Sr}{kx j many:Nat}{ts:List Tie}(a:ρ[kx]?=some (some (.ref j)))(b:T[j]?=some (dicD ts))(h:KnOk many ts)(f:ts.length<64):
  ev F (.blt .tuple (.c (.lc false [kx] 1 (.t (.c (.v 1) (.c (.idx (.v 0) (.v 1)) .n))) (.v 1) (.seq (.blt (.sorted false) (.c (.v kx) .n))) .n) .n)) ρ T=.ok (.t ((srt ts).map tieD)) T:=by
 have i:ev F (.v kx) ρ T=.ok (.ref j) T:=by simp only[ev,varE,a]
 have n:walkD T (.ref j)=some ((ts.map (·.1)).map tupI):=by
  simp only[walkD,b,dicD,wJ];rfl
 have c:bltD (.sorted false) [.ref j] T=.ok (.l ((sortT (ts.map (·.1))).map tupI)) T:=by
  simp only[bltD,one,bSorted,n,wY];rw[qfe (by simpa using f) h.nd (λt o=>by obtain⟨s,c,rfl⟩:=wW.mp o;exact(h.ok s c).1.ne)];rfl
 have d:ev F (.blt (.sorted false) (.c (.v kx) .n)) ρ T=.ok (.l ((sortT (ts.map (·.1))).map tupI)) T:=qv (qf i rfl) c;have e:=zY (g:=tupI) (F:=F) (fr:=[kx]) (nt:=1) (elt:=.t (.c (.v 1) (.c (.idx (.v 0) (.v 1)) .n))) (tg:=.v 1) (it:=.seq (.blt (.sorted false) (.c (.v kx) .n))) (ifs:=.nil) (ρ:=ρ) (S:=T) (S1:=T) (ds:=(sortT (ts.map (·.1))).map tupI) (sortT (ts.map (·.1))) (λ_=>true) (λk=>tieD (k,look ts k)) (λρ=>∃x,ρ=[some (.ref j),x])
  (by simp only[evI,d,Res.bind]) rfl ⟨none,by simp[frE,a]⟩ (by rw[(qG _).length_eq,wF];unfold PySem.sizeLine;lia) (by
   rintro k p ρ m ⟨x,rfl⟩;refine⟨_,rfl,⟨_,rfl⟩,rfl,λ_=>⟨qL (l:=[tupI k,.int (look ts k)]) (qf rfl (qf (qr (d1:=.ref j) (d2:=tupI k) rfl rfl ?_) rfl)) (by simp[PySem.sizeLine]),zZ _ _⟩⟩;have q:j<T.length:=(wO.mp b).1;have:(T++[SO.l m])[j]?=some (dicD ts):=by rw[wQ q,b]
   simp only[idxD,tupI,this,dicD,qN,wY];exact(jT ((qG _).mem_iff.mp p)).1)
 rw[qA]at e;refine qv (qf e rfl) ?_;simp only[bltD,one,bTuple,seqOf,lstOf,wg,ofO];unfold srt;rw[wJ];rfl
def qat{p:List Int}(h:p.Pairwise (· < ·)):p.Nodup:=h.imp λa=>by lia
noncomputable def eu:Nat->Int->Int->Int
 |0,a,_=>a
 |n+1,a,b=>if b=0 then a else eu n b (a.fmod b)
def half{a b:Int}(h:0<b)(c:0<a.fmod b):2*b.fmod (a.fmod b)<b:=by
 have d:=ud a h;have f:=ud b c;have i:=vQ b c;have j:=Int.mul_fdiv_add_fmod b (a.fmod b);have l:0<b.fdiv (a.fmod b):=by
  rcases xa 0 (b.fdiv (a.fmod b))with z|z
  .exact z
  .exfalso
   have:a.fmod b*b.fdiv (a.fmod b)<=0:=by
    have:=uq z (xb c);simpa using this
   omega
 have m:a.fmod b<=a.fmod b*b.fdiv (a.fmod b):=by
  have:=uq (show(1:Int)<=b.fdiv (a.fmod b) by omega) (xb c);simpa using this
 omega
def wl{test:En->Sr->Res Bool}{body:En->Sr->Res Fl}{E:Int->Int->En}{S:Sr}(l:∀a b,test (E a b) S=.ok (!(b == 0)) S)(hb:∀a b,0<b->body (E a b) S=.ok (.nx (E b (a.fmod b))) S):∀(k n:Nat) (a b:Int),0<=a->0<=b->b<2^k->2*k+1<=n->whileLoop test body n (E a b) S=.ok (.nx (E (eu n a b) 0)) S:=by
 have stop:∀(n:Nat) (a:Int),0<n->whileLoop test body n (E a 0) S=.ok (.nx (E (eu n a 0) 0)) S:=by
  intro n a h;cases n with
  |zero=>omega
  |succ n =>
   unfold whileLoop eu;rw[l,wR rfl];rfl
 have go:∀(n:Nat) (a b:Int),0<b->whileLoop test body (n+1) (E a b) S=whileLoop test body n (E b (a.fmod b)) S:=by
  intro n a b h;rw[whileLoop,l,Res.bind_ok];have:(!(b == 0))=true:=by simp;omega
  rw[wR this,hb a b h,Res.bind_ok]
 have d:∀(n:Nat) (a b:Int),0<b->eu (n+1) a b=eu n b (a.fmod b):=λn a b h=>by rw[eu,wT (by omega)]
 intro k;induction k with
 |zero =>
  intro n a b ha j f hn;have:b=0:=by simp at f;omega
  subst this;exact stop n a (by omega)
 |succ k o =>
  intro n a b ha j f hn;by_cases z:b=0
  .subst z;exact stop n a (by omega)
  .have c:0<b:=by omega
   obtain⟨m,rfl⟩:∃m,n=m+2:=⟨n-2,by omega⟩;have p:=vQ a c;rw[go _ _ _ c,d _ _ _ c];by_cases q:a.fmod b=0
   .rw [q];exact stop _ _ (by omega)
   .have i:0<a.fmod b:=by omega
    rw[go _ _ _ i,d _ _ _ i];have r:=half c i;have e:(2:Int)^(k+1)=2*2^k:=by rw[Int.pow_succ];omega
    exact o m _ _ p (vQ b i) (by omega) (by omega)
def qeg{F:Fs}{N:Nat}{ρ ρ1:En}{S S1:Sr}{r a:CSs}{c:CB}{X:Res Fl}(h:whileLoop (λρ S=>tst F c ρ S) (λρ S=>exs F N a ρ S) N ρ S=.ok (.nx ρ1) S1)(b:exs F N r ρ1 S1=X):exs F N (.c (.whileS c a) r) ρ S=X:=by
 simp only[exs,ex,h,Res.bind];exact b
def bmod{a b:Int}{S:Sr}(h:b≠0):binD .mod (.int a) (.int b) S=some (.int (a.fmod b)):=by
 simp only[binD,binI];rw[wT h];rfl
def qmm{a:Int}{S:Sr}(h:0<=a):bltD .abs [.int a] S=.ok (.int a) S:=by
 simp only[bltD,one,bAbs];rw[wT (by omega)]
noncomputable def cstI(w:Wb)(x:Int):Int:=w.costs.getD x.toNat 0
def qgU{w:Wb}{x:Int}{S:Sr}(h:0<=x)(a:x<w.costs.length):idxD S (tupI w.costs) (.int x)=some (.int (cstI w x)):=by
 have b:x.toNat<w.costs.length:=by omega
 have:L2.ixN (w.costs.map D.int).length x=some x.toNat:=by
  unfold L2.ixN;rw[wR h,wF,wR a]
 show(L2.ixN (w.costs.map D.int).length x).bind (λj=>(w.costs.map D.int)[j]?)=_;rw[this];simp only[wY,w5,cstI,wK,wD b,wg,Option.getD_some]
def qgV:∀{l:List Int},(∀x∈l,0<=x)->0<=l.sum
 |[],_=>by simp
 |a::r,h=>by
  have:=qgV (l:=r) λx b=>h x (wL _ b)
  have:=h a wH;simp only[vO];omega
noncomputable def low(n:Nat)(t b:Int):D:=.t [.int (t.fdiv (eu n t b)),.int (b.fdiv (eu n t b))]
noncomputable def isIntB:D->Bool
 | .int _=>true
 |_=>false
section
variable{F:Fs}{N:Nat}{ρ ρ1:En}{S S1 S2:Sr}{e1 e2:CE}{c c2:CB}
theorem qct(h:tst F c ρ S=.ok true S1):tst F (.or c c2) ρ S=.ok true S1:=by simp[tst,h,Res.bind]
theorem jf{y:Bool}(h:tst F c ρ S=.ok false S)(a:tst F c2 ρ S=.ok y S):tst F (.or c c2) ρ S=.ok y S:=by simp[tst,h,a,Res.bind]
theorem qgW(h:ev F e1 ρ S=.ok (.bl false) S1):ev F (.and e1 e2) ρ S=.ok (.bl false) S1:=by simp[ev,h,Res.bind]
end
def jg(l:List D)(S:Sr):bltD .len [.t l] S=.ok (.int l.length) S:=rfl
mutual
noncomputable def gd:D->Bool
 | .ref _=>false
 | .t l=>decide (l.length<=900)&&gds l
 | .l l=>gds l
 | .non=>true
 | .bl _=>true
 | .int _=>true
 | .str _=>true
 | .emp=>true
 | .exc _=>false
noncomputable def gds:List D->Bool
 |[]=>true
 |x::r=>gd x&&gds r
end
mutual
noncomputable def tr:D->Bool
 | .int i=>decide (i.natAbs<=10000000)
 | .t l=>decide (l.length<=60)&&trs l
 |_=>false
noncomputable def trs:List D->Bool
 |[]=>true
 |x::r=>tr x&&trs r
end
noncomputable def tl:CSs->CSs
 | .cons _ r=>r
 | .nil=>.nil
@[irreducible] noncomputable def Ok{α:Type}(r:Res α)(Q:α->Sr->Prop):Prop:=∃a S,r=.ok a S/\Q a S
def Ok.ex{b:Type}{r:Res b}{Q:b->Sr->Prop}(h:Ok r Q):∃a S,r=.ok a S/\Q a S:=by unfold Ok at h;exact h
def Ok.mk{b:Type}{r:Res b}{Q:b->Sr->Prop}(h:∃a S,r=.ok a S/\Q a S):Ok r Q:=by unfold Ok;exact h
def qcu{b:Type}{a:b}{S:Sr}{Q:b->Sr->Prop}(h:Q a S):Ok (.ok a S) Q:=.mk ⟨a,S,rfl,h⟩
def Ok.of{b:Type}{r:Res b}{a:b}{S:Sr}{Q:b->Sr->Prop}(e:r=.ok a S)(h:Q a S):Ok r Q:=.mk ⟨a,S,e,h⟩
section
variable{F:Fs}{N:Nat}{ρ:En}{S:Sr}{r a b:CSs}{e e1 e2:CE}{t:CT}{c:CB}{Q:Fl->Sr->Prop}{s:CS}
theorem qau(h:Q (.nx ρ) S):Ok (exs F N .nil ρ S) Q:=by rw[yz];exact qcu h
theorem qcv(h:Ok (ev F e ρ S) λd S1=>Q (.rt d) S1):Ok (exs F N (.c (.ret e) r) ρ S) Q:=by
 obtain⟨d,S1,e1,f⟩:=h.ex;rw[qC e1];exact qcu f
theorem qW(h:Ok (ev F e ρ S) λd S1=>Ok (asg F t d ρ S1) λρ1 S2=>Ok (exs F N r ρ1 S2) Q):Ok (exs F N (.c (.set t e) r) ρ S) Q:=by
 obtain⟨d,S1,e1,f⟩:=h.ex;obtain⟨ρ1,S2,e2,i⟩:=f.ex;rw[qI e1 e2 rfl];exact i
theorem qgX(h:Ok (ev F e ρ S) λ_ S1=>Ok (exs F N r ρ S1) Q):Ok (exs F N (.c (.expr e) r) ρ S) Q:=by
 obtain⟨d,S1,e1,f⟩:=h.ex;rw[qap e1 rfl];exact f
theorem o_if(h:Ok (tst F c ρ S) λx S1=>Ok (exs F N (if x then a else b) ρ S1) λf S2=>match f with|.nx ρ1=>Ok (exs F N r ρ1 S2) Q|f=>Q f S2):Ok (exs F N (.c (.ifs c a b) r) ρ S) Q:=by
 obtain⟨x,S1,e1,i⟩:=h.ex;obtain⟨f,S2,e2,d⟩:=i.ex;have:exs F N (.c (.ifs c a b) r) ρ S=(exs F N (if x then a else b) ρ S1).bind λf S1=>match f with|.nx ρ1=>exs F N r ρ1 S1|f=>.ok f S1:=by
  cases x <;> simp only[exs,ex,e1,Res.bind] <;> rfl
 rw[this,e2,Res.bind_ok];cases f <;> first|exact d|exact qcu d
theorem o_no(h:Ok (tst F c ρ S) λx S1=>x=false/\Ok (exs F N r ρ S1) Q):Ok (exs F N (.c (.ifs c a .nil) r) ρ S) Q:=by
 obtain⟨x,S1,e1,rfl,d⟩:=h.ex;rw[x_no e1 rfl];exact d
theorem qcw{m:Type}{g:m->D}{it:CI}(P:List m->En->Sr->Prop)(xs:List m)(h:Ok (evI F it ρ S) λds S1=>ds=xs.map g/\P [] ρ S1)(H:∀(pre:List m) (x:m) (j:List m) (ρ:En) (S:Sr),xs=pre++x::j->P pre ρ S->Ok (asg F t (g x) ρ S) λρ1 S1=>Ok (exs F N a ρ1 S1) λf S2=>match f with|.nx l=>P (pre++[x]) l S2|_=>False)(K:∀i n,P xs i n->Ok (exs F N r i n) Q):Ok (exs F N (.c (.forS t it a) r) ρ S) Q:=by
 obtain⟨ds,S1,e1,rfl,p⟩:=h.ex;obtain⟨i,n,e2,q⟩:=yf (g:=g) (body:=λd ρ S=>(asg F t d ρ S).bind λρ1 S1=>exs F N a ρ1 S1) P xs p (by
  intro pre x j ρ S u v;obtain⟨ρ1,S2,w,y⟩:=(H pre x j ρ S u v).ex;obtain⟨f,S3,A,o⟩:=y.ex;cases f with
  |nx l=>exact⟨l,S3,by rw[w,Res.bind_ok,A],o⟩
  |_=>exact o.elim)
 rw[qaq e1 e2 rfl];exact K i n q
theorem jU{f:CF}{l:List D}{Q:D->Sr->Prop}(j:l.length=f.np)(m:f.keeps=false)(h:Ok (exs F N f.body (l.map some++List.replicate (f.nn-f.np) none) S) λx S1=>match x with
  | .rt d=>S.length<=S1.length/\refsLt S.length d=true/\Q d (S1.take S.length)
  |_=>False):Ok (callC F N f l S) Q:=by
 obtain⟨x,S1,e1,i⟩:=h.ex;cases x with
 |rt d =>
  obtain⟨p,n,o⟩:=i;have:callC F N f l S=.ok d (S1.take S.length):=by
   simp only[callC,j,wR,e1,Res.bind,leave,m];rw[wT (by simp)];split
   .rename_i z;rw[<-z,List.take_length]
   .first|rfl|rw[wR n]
  rw[this];exact qcu o
 |_=>exact i.elim
theorem qjn{e e2:CE}{Q:D->Sr->Prop}(h:Ok (ev F e ρ S) λx S1=>∃n l,x=.ref n/\S1[n]?=some (.l l)/\Ok (ev F e2 ρ S1) λy S2=>S2[n]?=some (.l l)/\l.length<=1000/\refsLt 0 y=true/\Q .non (S2.set n (.l (l++[y])))):Ok (ev F (.app e e2) ρ S) Q:=by
 obtain⟨x,S1,e1,n,l,rfl,d,f⟩:=h.ex;obtain⟨y,S2,e2,i,o,j,m⟩:=f.ex;have ha:appD S2 (.ref n) y=.ok .non (S2.set n (.l (l++[y]))):=by
  have:l.length<PySem.sizeLine:=by unfold PySem.sizeLine;lia
  simp[appD,i,j,this]
 rw[qgR e1 (by simp[isLst,d]) e2 ha];exact qcu m
theorem qdf{S1:Sr}{l:List D}(h:ev F e ρ S=.ok (.l l) S1):evI F (.seq e) ρ S=.ok l S1:=by
 simp only[evI,h,Res.bind]
end
def qcx(a b:Int)(hb:0<b):Int.gcd b (a.fmod b)=Int.gcd a b:=by
 have e:a=a.fmod b+b*a.fdiv b:=by have:=Int.mul_fdiv_add_fmod a b;lia
 have c:Int.gcd a b=Int.gcd (a.fmod b+b*a.fdiv b) b:=by rw[<-e]
 rw[c,Int.gcd_comm b];simp
def qgY:∀(k n:Nat) (a b:Int),0<=a->0<=b->b<2^k->2*k+1<=n->eu n a b=(Int.gcd a b:Int):=by
 have stop:∀(n:Nat) (a:Int),0<=a->0<n->eu n a 0=(Int.gcd a 0:Int):=by
  intro n a ha h;cases n with
  |zero=>lia
  |succ n=>unfold eu;rw[wR rfl,Int.gcd_zero_right];lia
 have d:∀(n:Nat) (a b:Int),0<b->eu (n+1) a b=eu n b (a.fmod b):=λn a b h=>by rw[eu,wT 00]
 intro k;induction k with
 |zero =>
  intro n a b ha j f hn;have:b=0:=by simp at f;lia
  subst this;exact stop n a ha 00
 |succ k l =>
  intro n a b ha j f hn;by_cases z:b=0
  .subst z;exact stop n a ha 00
  .have c:0<b:=by lia
   obtain⟨m,rfl⟩:∃m,n=m+2:=⟨n-2,by lia⟩;have p:=vQ a c;rw[d _ _ _ c,<-qcx a b c];by_cases o:a.fmod b=0
   .rw [o];exact stop _ _ 00 00
   .have i:0<a.fmod b:=by lia
    rw[d _ _ _ i,<-qcx b _ i];have q:=half c i;have e:(2:Int)^(k+1)=2*2^k:=by rw[Int.pow_succ];lia
    exact l m _ _ 00 (vQ b i) 00 00
noncomputable def lw(t b:Int):Int×Int:=(t.fdiv (Int.gcd t b:Int),b.fdiv (Int.gcd t b:Int))
structure Lw (p:Int×Int):Prop where
 pos:1<=p.2
 one:Int.gcd p.1 p.2=1
def zw{t b:Int}(hb:1<=b):0<Int.gcd t b:=Int.gcd_pos_of_ne_zero_right t 00
def qcy{t g:Int}(a:0<g)(h:g∣t):t.fdiv g*g=t:=by
 rw[uW _ 00];exact Int.ediv_mul_cancel h
def yA{t b:Int}(hb:1<=b):(lw t b).1*(Int.gcd t b:Int)=t/\(lw t b).2*(Int.gcd t b:Int)=b :=
 ⟨qcy (by have:=zw (t:=t) hb;lia) (Int.gcd_dvd_left t b),qcy (by have:=zw (t:=t) hb;lia) (Int.gcd_dvd_right t b)⟩
def zM{t b:Int}(hb:1<=b):(lw t b).1*b=t*(lw t b).2:=by
 obtain⟨a,c⟩:=yA (t:=t) hb
 calc (lw t b).1*b=(lw t b).1*((lw t b).2*(Int.gcd t b:Int)):=by rw[c]
  _=((lw t b).1*(Int.gcd t b:Int))*(lw t b).2:=by rw[Int.mul_assoc,Int.mul_comm (lw t b).2]
  _=t*(lw t b).2:=by rw[a]
def q9{t b:Int}(hb:1<=b):Lw (lw t b):=by
 have a:=zw (t:=t) hb;obtain⟨h,c⟩:=yA (t:=t) hb;have d:0<(Int.gcd t b:Int):=by lia
 refine⟨?_,?_⟩
 .rcases xa 0 (lw t b).2 with z|z
  .exact z
  .exfalso
   have:=Int.mul_le_mul_of_nonneg_right z (show 0<=(Int.gcd t b:Int) by lia);rw[c]at this;lia
 .have e1:(lw t b).1=t / (Int.gcd t b:Int):=uW _ 00
  have f:(lw t b).2=b / (Int.gcd t b:Int):=uW _ 00;rw[e1,f];exact Int.gcd_ediv_gcd_ediv_gcd a
def qeh{p a b:Int}(h:p∣a*b)(g:Int.gcd p a=1):p∣b:=by
 rw[<-Int.natAbs_dvd_natAbs]at h ⊢;rw[Int.natAbs_mul]at h;exact Nat.Coprime.dvd_of_dvd_mul_left (show Nat.Coprime _ _ from g) h
def zJ{p q:Int×Int}(c:Lw p)(d:Lw q)(h:p.1*q.2=q.1*p.2):p=q:=by
 have d1:p.2∣q.2:=by
  have:p.2∣p.1*q.2:=by rw[h];exact Int.dvd_mul_left _ _
  exact qeh this (by rw[Int.gcd_comm];exact c.one)
 have d2:q.2∣p.2:=by
  have:q.2∣q.1*p.2:=by rw[<-h];exact Int.dvd_mul_left _ _
  exact qeh this (by rw[Int.gcd_comm];exact d.one)
 have i:=c.pos;have j:=d.pos;have f:p.2=q.2:=by
  have a:=Int.le_of_dvd 00 d1;have b:=Int.le_of_dvd 00 d2;lia
 have e1:p.1=q.1:=by
  rw[f]at h;exact ws 00 h
 exact Prod.ext e1 f
def qcz{a b:List Int}(h:a.Perm b):a.sum=b.sum:=by
 induction h with
 |nil=>rfl
 |cons x _ c=>simp[c]
 |swap x y l=>simp;lia
 |trans _ _ d f=>exact d.trans f
def qdg:∀{a b:List Int},a.Pairwise (· < ·)->b.Pairwise (· < ·)->(∀x,x∈a ↔ x∈b)->a=b
 |[],[],_,_,_=>rfl
 |[],y::s,_,_,h=>by have:=(h y).mpr wH;simp at this
 |x::r,[],_,_,h=>by have:=(h x).mp wH;simp at this
 |x::r,y::s,h1,h2,h=>by
  obtain⟨f,i⟩:=wx.mp h1;obtain⟨b1,b2⟩:=wx.mp h2;have e:x=y:=by
   rcases wX.mp ((h x).mp wH)with z|z
   .exact z
   .rcases wX.mp ((h y).mpr wH)with d|d
    .exact d.symm
    .have:=f y d;have:=b1 x z;lia
  subst e;have:r=s:=qdg i b2 λq=>by
   constructor
   .intro c
    rcases wX.mp ((h q).mp (wL _ c))with z|z
    .have:=f q c;lia
    .exact z
   .intro c
    rcases wX.mp ((h q).mpr (wL _ c))with z|z
    .have:=b1 q c;lia
    .exact z
  rw[this]
noncomputable def nth(o:List Int)(x:Int):Int:=o.getD x.toNat 0
def InR(many:Nat)(x:Int):Prop:=0<=x/\x<many
def jV{o:List Int}{x:Int}(h:0<=x)(b:x<o.length):o[x.toNat]?=some (nth o x):=by
 have a:x.toNat<o.length:=by lia
 unfold nth;rw[wK,wD a];rfl
section
variable{many:Nat}{o:List Int}(hp:o.Perm (rI many))
include hp
theorem yL:o.length=many:=by rw[hp.length_eq,zG]
theorem jW{x:Int}(h:InR many x):InR many (nth o x):=by
 have e:=jV (o:=o) h.1 (by rw[yL hp];exact h.2);exact zT.mp (hp.mem_iff.mp (wc e))
theorem jh{x y:Int}(a:InR many x)(b:InR many y)(e:nth o x=nth o y):x=y:=by
 have nd:o.Nodup:=hp.nodup_iff.mpr (je many);have l:=yL hp;have e1:=jV (o:=o) a.1 (by rw[l];exact a.2);have c:=jV (o:=o) b.1 (by rw[l];exact b.2);rw[e,<-c]at e1;have:=(List.getElem?_inj (by have:=a.1;have:=a.2;lia) nd).mp e1;have:=a.1;have:=b.1;lia
theorem qgZ{j:Int}(h:InR many j):∃x,InR many x/\nth o x=j:=by
 have hm:j∈o:=hp.mem_iff.mpr (zT.mpr h);obtain⟨i,hi,e⟩:=vS hm;have l:=yL hp;refine⟨i,⟨by lia,by lia⟩,?_⟩;unfold nth;rw[wK,show((i:Int)).toNat=i by lia,wD hi,e];rfl
end
noncomputable def cal(o p:List Int):List Int:=sortI (p.map (nth o))
def qbx(o p:List Int):(cal o p).length=p.length:=by unfold cal;rw[(zd _).length_eq,wF]
def qby{o p:List Int}{y:Int}:y∈cal o p ↔ ∃x∈p,nth o x=y:=by
 unfold cal;rw[(zd _).mem_iff,wW]
section
variable{many:Nat}{o:List Int}(hp:o.Perm (rI many))
include hp
theorem jX{p:List Int}(h:∀x∈p,InR many x){x:Int}(b:InR many x):nth o x∈cal o p ↔ x∈p:=by
 rw[qby];constructor
 .rintro ⟨y,a,e⟩
  rw[<-jh hp (h y a) b e];exact a
 .exact λh=>⟨x,h,rfl⟩
theorem qg0{p:List Int}(h:PlOk many p):PlOk many (cal o p):=by
 refine⟨?_,?_,?_⟩
 .intro e
  have:=qbx o p;rw[e]at this;exact h.ne (wt.mp this.symm)
 .intro y b
  obtain⟨x,c,rfl⟩:=qby.mp b;exact jW hp (h.rng x c)
 .apply qcs
  have nd:=qat h.up;exact uS.mpr ((x9.mp nd).imp λ⟨ha,hb,a⟩ e=>a (jh hp (h.rng _ ha) (h.rng _ hb) e))
theorem qiA{a b:List Int}(ha:PlOk many a)(hb:PlOk many b)(e:cal o a=cal o b):a=b:=by
 refine qdg ha.up hb.up λx=>?_
 constructor
 .intro c
  have d:=(jX hp ha.rng (ha.rng x c)).mpr c;rw[e]at d;exact(jX hp hb.rng (ha.rng x c)).mp d
 .intro c
  have d:=(jX hp hb.rng (hb.rng x c)).mpr c;rw[<-e]at d;exact(jX hp ha.rng (hb.rng x c)).mp d
end
def qdh:∀{ps:List (List Int×Int)} {p:List Int×Int},(ps.map (·.1)).Nodup->p∈ps->atP p.1 ps=p.2
 |[],p,_,h=>by simp at h
 |q::r,p,nd,h=>by
  rw[wU,wh]at nd;unfold atP;rcases wX.mp h with z|z
  .subst z;rw[wR rfl]
  .rw [wT (λe=>nd.1 (by rw[e];exact List.mem_map_of_mem z)),qdh nd.2 z]
def qdi{ps:List (List Int×Int)}(nd:(ps.map (·.1)).Nodup):(sortP ps).Perm ps:=by
 unfold sortP;refine((qG _).map _).trans ?_;rw[wJ];have:ps.map ((λk=>(k,atP k ps))∘(·.1))=ps.map id:=by
  apply wo;intro p a;show(p.1,atP p.1 ps)=p;rw[qdh nd a]
 rw[this,List.map_id]
def qdj(ps:List (List Int×Int)):(sortP ps).map (·.1)=sortT (ps.map (·.1)):=by
 unfold sortP;rw[wJ];have:((λt:List Int×Int=>t.1)∘λk=>(k,atP k ps))=id:=rfl;rw[this,List.map_id]
noncomputable def calT1(o:List Int)(t:Tie):Tie:=(cal o t.1,t.2)
noncomputable def calT(o:List Int)(ts:List Tie):List Tie:=sortP (ts.map (calT1 o))
def qa2{l:07}(h:l.Pairwise λa b=>HT.lexLt a b=true):l.Nodup:=h.imp λ{a b} z e=>by
 subst e;have:∀a:List Int,HT.lexLt a a=false:=λa=>by
  induction a with
  |nil=>rfl
  |cons x r c=>simp[HT.lexLt,c]
 rw[this]at z;cases z
section
variable{w:Wb}(hw:WbOk w){o:List Int}(hp:o.Perm (rI w.costs.length))
include hw hp
theorem jY:((w.ties.map (calT1 o)).map (·.1)).Nodup:=by
 rw[wJ];have nd:=qa2 hw.t3;have a:=uS.mp nd;exact uS.mpr ((x9.mp a).imp λ⟨ha,hb,b⟩ e=>b (qiA hp (hw.t2 _ ha).1 (hw.t2 _ hb).1 e))
theorem jB:(calT o w.ties).Perm (w.ties.map (calT1 o)):=qdi (jY hw hp)
theorem qiB{cs:List Int}(f:cs.length=w.costs.length)(p:∀x,InR w.costs.length x->nth cs (nth o x)=cstI w x):WbOk ⟨cs,calT o w.ties⟩:=by
 refine⟨by show 1<=cs.length;rw[f];exact hw.c1,by show cs.length<=12;rw[f];exact hw.c2,?_,?_,?_,?_⟩
 .intro c h
  obtain⟨i,hi,e⟩:=vS h;obtain⟨x,l,ex⟩:=qgZ hp (j:=i) ⟨by lia,by show(i:Int)<_;have:i<cs.length:=hi;lia⟩;have n:=p x l;rw[ex]at n;have q:nth cs (i:Int)=c:=by
   unfold nth;rw[wK,show((i:Int)).toNat=i by lia,wD hi,e];rfl
  rw[<-q,n];have d:x.toNat<w.costs.length:=by have:=l.1;have:=l.2;lia
  have:cstI w x∈w.costs:=by
   unfold cstI;rw[wK,wD d];exact uo d
  exact hw.c3 _ this
 .show (calT o w.ties).length<=30
  rw[(jB hw hp).length_eq,wF];exact hw.t1
 .intro t r
  have m:t∈w.ties.map (calT1 o):=(jB hw hp).mem_iff.mp r;obtain⟨s,u,rfl⟩:=wW.mp m;obtain⟨a,b,c⟩:=hw.t2 s u;show PlOk cs.length (cal o s.1)/\(cal o s.1).length<=4/\_;rw[f,qbx];exact⟨qg0 hp a,b,c⟩
 .show ((calT o w.ties).map (·.1)).Pairwise _
  unfold calT;rw[qdj];exact zH (jY hw hp)
end
def qcA{m c k:Int}(a:1<=c)(f:1<=k):lw ((lw m c).1*k) ((lw m c).2*1)=lw (m*k) c:=by
 have d:=q9 (t:=m) a;have h:=d.pos;have e:=zM (t:=m) a;refine zJ (q9 00) (q9 a) ?_;have i:=zM (t:=(lw m c).1*k) (b:=(lw m c).2*1) 00;have j:=zM (t:=m*k) (b:=c) a;generalize lw ((lw m c).1*k) ((lw m c).2*1)=A at *;generalize lw (m*k) c=B at *;generalize lw m c=L at *;have:(A.1*B.2)*(L.2*c)=(B.1*A.2)*(L.2*c):=by grind
 exact ws (by have:=ui (show 0<L.2 by lia) (show 0<c by lia);lia) this
def qiC{m c k:Int}(a:1<=c)(i:1<=k):lw ((lw m c).1*1) ((lw m c).2*k)=lw m (c*k):=by
 have h:=q9 (t:=m) a;have j:=h.pos;have e:=zM (t:=m) a;have d:1<=c*k:=by have:=ui (show 0<c by lia) (show 0<k by lia);lia
 have f:1<=(lw m c).2*k:=by have:=ui (show 0<(lw m c).2 by lia) (show 0<k by lia);lia
 refine zJ (q9 f) (q9 d) ?_;have l:=zM (t:=(lw m c).1*1) (b:=(lw m c).2*k) f;have n:=zM (t:=m) (b:=c*k) d;generalize lw ((lw m c).1*1) ((lw m c).2*k)=A at *;generalize lw m (c*k)=B at *;generalize lw m c=L at *;have:(A.1*B.2)*(L.2*k*c)=(B.1*A.2)*(L.2*k*c):=by grind
 exact ws (by have:=ui (show 0<L.2*k by lia) (show 0<c by lia);lia) this
def qmn{F:Fs}{ρ:En}{S:Sr}{ns:List Int}{c:Int}(h:ρ[0]?=some (some (.l (ns.map .int))))(a:1<=c)(d:c<=1000):∃n:Nat,(2*n:Int)<=c+1/\evI F (.rng (.c (.k (.int 0)) (.c (.blt .max2 (.c (.k (.int 1)) (.c (.blt .min2 (.c (.blt .len (.c (.v 0) .n)) (.c (.k (.int c)) .n))) .n))) (.c (.k (.int 2)) .n)))) ρ S=.ok ((List.range n).map λ(k:Nat)=>D.int (0+2*k)) S:=by
 obtain⟨b,hb⟩:∃b:Int,b=(if(if c<(ns.length:Int)then c else(ns.length:Int))>1 then(if c<(ns.length:Int)then c else(ns.length:Int))else 1):=⟨_,rfl⟩;have f:1<=b/\b<=c:=by rw[hb];split <;> split <;> lia
 refine⟨((b-0+2-1) / 2).toNat,by lia,?_⟩;have i:ev F (.v 0) ρ S=.ok (.l (ns.map .int)) S:=by simp only[ev,varE,h]
 have j:ev F (.blt .len (.c (.v 0) .n)) ρ S=.ok (.int ns.length) S:=qv (qf i rfl) (by simp[bltD,one,bLen,lenD]);have l:ev F (.blt .min2 (.c (.blt .len (.c (.v 0) .n)) (.c (.k (.int c)) .n))) ρ S=.ok (.int (if c<(ns.length:Int)then c else(ns.length:Int))) S:=qv (qf j (qf rfl rfl)) rfl;have m:ev F (.blt .max2 (.c (.k (.int 1)) (.c (.blt .min2 (.c (.blt .len (.c (.v 0) .n)) (.c (.k (.int c)) .n))) .n))) ρ S=.ok (.int b) S:=qv (qf rfl (qf l rfl)) (by rw[hb];rfl);have o:evs F (.c (.k (.int 0)) (.c (.blt .max2 (.c (.k (.int 1)) (.c (.blt .min2 (.c (.blt .len (.c (.v 0) .n)) (.c (.k (.int c)) .n))) .n))) (.c (.k (.int 2)) .n))) ρ S=.ok [.int 0,.int b,.int 2] S:=qf rfl (qf m rfl);simp only[evI,o,Res.bind,rngD];have p:-(2^62)<=(0:Int)/\(0:Int)<2^62/\-(2^62)<=b/\b<2^62/\(0:Int)<2/\(2:Int)<2^62:=⟨by decide,by decide,by lia,by lia,by decide,by decide⟩;rw[wR p];rfl
end RP
namespace RP
open R PySem
noncomputable def tx(p:Int×Int):Str:=if p.2=1 then Str.ofString (toString p.1)else Str.ofString (toString p.1)++Str.ofString "/"++Str.ofString (toString p.2)
end RP
namespace RP
open R
noncomputable abbrev NW:Nat:=600
@[irreducible] noncomputable def G(d:Nat):Fs:=run prg NW d
def qg1(d:Nat):G d=run prg NW d:=by unfold G;rfl
def G_at{d i:Nat}{c:CF}(h:prg[i]?=some c)(l:List D)(S:Sr):G (d+1) i l S=callC (G d) NW c l S:=by
 rw[qg1,qg1];show(match prg[i]? with|some c=>callC (run prg NW d) NW c l S|none=>.no)=_;rw[h]
def qdk{d:Nat}{i:Int}{S:Sr}:G (d+1) 0 [.int i] S=.ok (.bl true) S:=by
 rw[G_at (c:=c_0) rfl];simp[callC,c_0,Res.bind,exs,ex,ev,varE,isiD,leave]
def zx{d:Nat}{i a b:Int}{S:Sr}:G (d+2) 1 [.int i,.int a,.int b] S=.ok (.bl (decide (a<=i)&&decide (i<=b))) S:=by
 rw[G_at (c:=c_1) rfl];by_cases h:a<=i <;> simp[callC,c_1,exs,ex,ev,evs,varE,Res.bind,qdk,cmpD,h,leave]
def qcB{d:Nat}{p:List Int}{S:Sr}(a:p≠[])(h:p.Pairwise (· < ·)):G (d+1) 15 [tupI p] S=.ok (.bl true) S:=by
 rw[G_at (c:=c_15) rfl];have e:evI (G d) (.zip (.v 0) (.slc (.v 0) (.some (.k (.int 1))) .none)) [some (tupI p)] S=.ok ((p.zip (p.drop 1)).map λq=>.t [.int q.1,.int q.2]) S:=by
  have:slcD S (tupI p) (some 1) none=some (tupI (p.drop 1)):=by
   unfold slcD tupI;simp only[cut1];simp
  simp[Res.bind,callC,exs,ex,ev,evs,evO,evI,asg,asgs,tst,tsts,varE,frE,bltD,one,two,leave,ofO,truD,this];simp only[tupI,walkF,List.zip_map',uN,wJ];simp
 refine qF rfl (qC ?_);rw[<-qgN h];exact yJ (p.zip (p.drop 1)) (λq=>decide (q.1<q.2)) (λρ=>∃x y,ρ=[x,y]) e rfl ⟨_,_,rfl⟩ (by
  rintro q _ ρ ⟨x,y,rfl⟩;exact⟨_,rfl,⟨_,_,rfl⟩,by simp[Res.bind,callC,exs,ex,ev,evs,evO,evI,asg,asgs,tst,tsts,varE,frE,bltD,one,two,leave,ofO,truD,cmpD]⟩)
def qbz{d:Nat}{p:07}{S:Sr}(h:p.Pairwise λa b=>HT.lexLt a b=true):G (d+1) 15 [.l (p.map tupI)] S=.ok (.bl true) S:=by
 rw[G_at (c:=c_15) rfl];have e:evI (G d) (.zip (.v 0) (.slc (.v 0) (.some (.k (.int 1))) .none)) [some (.l (p.map tupI))] S=.ok ((p.zip (p.drop 1)).map λq=>.t [tupI q.1,tupI q.2]) S:=by
  have:slcD S (.l (p.map tupI)) (some 1) none=some (.l ((p.drop 1).map tupI)):=by
   unfold slcD lstOf;simp[cut1]
  rw[<-qgO];simp only[evI,ev,evO,varE,Res.bind,uD,this,ofO,walkF]
 refine qF rfl (qC ?_);rw[<-qeb h];exact yJ (p.zip (p.drop 1)) (λq=>HT.lexLt q.1 q.2) (λρ=>∃x y,ρ=[x,y]) e rfl ⟨_,_,rfl⟩ (by
  rintro q _ ρ ⟨x,y,rfl⟩;exact⟨_,rfl,⟨_,_,rfl⟩,by simp[Res.bind,callC,exs,ex,ev,evs,evO,evI,asg,asgs,tst,tsts,varE,frE,bltD,one,two,leave,ofO,truD,cmpD,tupI,qN]⟩)
def qbA{d n:Nat}{p:List Int}{S:Sr}(h:PlOk n p):G (d+3) 14 [tupI p,.int n] S=.ok (.bl true) S:=by
 rw[G_at (c:=c_14) rfl];have hn:(List.map D.int p).isEmpty=false:=by
  cases p with
  |nil=>exact absurd rfl h.ne
  |cons a r=>rfl
 refine qF rfl (x_no (S1:=S) ?_ (qC (qa0 (x:=true) (y:=true) ?_ ?_)))
 .simp [Res.bind,callC,exs,ex,ev,evs,evO,evI,asg,asgs,tst,tsts,varE,frE,bltD,one,two,leave,ofO,truD,tupI,isiD,hn]
 .exact qar (g:=.int) p (λρ=>∃x,ρ=[some (.int n),x]) rfl rfl ⟨_,rfl⟩ (by
   rintro q b ρ ⟨x,rfl⟩;have f:=(h.rng q b).1;have i:q<=(n:Int)-1:=by have:=(h.rng q b).2;lia
   exact⟨_,rfl,⟨_,rfl⟩,by simp[Res.bind,callC,exs,ex,ev,evs,evO,evI,asg,asgs,tst,tsts,varE,frE,bltD,one,two,leave,ofO,truD,binD,binI,zx,f,i]⟩)
 .exact qj rfl (qcB h.ne h.up)
def ji{d n:Nat}{p:List Int}{S:Sr}(h:PlOk n p)(a:p.length<=4):G (d+4) 13 [tupI p,.int n] S=.ok (.bl true) S:=by
 rw[G_at (c:=c_13) rfl];exact qF rfl (qC (qa0 (x:=true) (y:=true) (qj rfl (qbA h)) (qO (qv rfl (zE _ _)) rfl (by simp[cmpD];lia))))
def qg2{d n:Nat}{t:Tie}{S:Sr}(h:PlOk n t.1)(b:t.1.length<=4)(a:1<=t.2/\t.2<=1000000):G (d+5) 12 [tieD t,.int n] S=.ok (.bl true) S:=by
 rw[G_at (c:=c_12) rfl];refine qF rfl (x_no (S1:=S) ?_ (qI (d:=tieD t) (S1:=S) rfl (ρ1:=[some (tieD t),some (.int n),some (tupI t.1),some (.int t.2)]) rfl (qC (qa0 (x:=true) (y:=true) (qj rfl (ji h b)) ?_))))
 .simp [Res.bind,callC,exs,ex,ev,evs,evO,evI,asg,asgs,tst,tsts,varE,frE,bltD,one,two,leave,ofO,truD,tieD,isiD,bLen,lenD,cmpD,eqD]
 .simp [Res.bind,callC,exs,ex,ev,evs,evO,evI,asg,asgs,tst,tsts,varE,frE,bltD,one,two,leave,ofO,truD,zx,a.1,a.2]
def qdl{d:Nat}{w:Wb}{S:Sr}(h:WbOk w):G (d+6) 11 [.t (w.ties.map tieD),.int w.costs.length] S=.ok (.bl true) S:=by
 rw[G_at (c:=c_11) rfl];refine qF rfl (x_no (S1:=S) ?_ (x_no (S1:=S) (t_no (x:=true) (t_of ?_)) (qC (qj (l:=[.l ((w.ties.map (·.1)).map tupI)]) (qf ?_ rfl) (qbz h.t3)))))
 .simp [Res.bind,callC,exs,ex,ev,evs,evO,evI,asg,asgs,tst,tsts,varE,frE,bltD,one,two,leave,ofO,truD,isiD,bLen,lenD,cmpD];have:=h.t1;lia
 .exact qar (g:=tieD) w.ties (λρ=>∃x,ρ=[some (.int w.costs.length),x]) rfl rfl ⟨_,rfl⟩ (by
   rintro t f ρ ⟨x,rfl⟩;obtain⟨a,b,c⟩:=h.t2 t f;exact⟨_,rfl,⟨_,rfl⟩,qj rfl (qg2 a b c)⟩)
 .have:=zY (g:=tieD) (F:=G (d+5)) (fr:=[]) (nt:=2) (elt:=.v 0) (tg:=.t (.c (.v 0) (.c (.v 1) .n))) (it:=.seq (.v 0)) (ifs:=.nil) (ρ:=[some (.t (w.ties.map tieD)),some (.int w.costs.length)]) (S:=S) (S1:=S) w.ties (λ_=>true) (λt=>tupI t.1) (λρ=>∃x y,ρ=[x,y]) rfl rfl ⟨_,_,rfl⟩ (by have:=h.t1;unfold PySem.sizeLine;lia) (by
   rintro t f ρ m ⟨x,y,rfl⟩;exact⟨_,rfl,⟨_,_,rfl⟩,rfl,λ_=>⟨rfl,zI _ t.1⟩⟩)
  rw[qA]at this;rw[wJ];exact this
def qcC{d:Nat}{w:Wb}{S:Sr}(h:WbOk w):G (d+4) 10 [tupI w.costs] S=.ok (.bl true) S:=by
 rw[G_at (c:=c_10) rfl];refine qF rfl (x_no (S1:=S) ?_ (qC ?_))
 .have b:(1:Int)<=w.costs.length:=by have:=h.c1;lia
  have f:(w.costs.length:Int)<=12:=by have:=h.c2;lia
  simp[Res.bind,callC,exs,ex,ev,evs,evO,evI,asg,asgs,tst,tsts,varE,frE,bltD,one,two,leave,ofO,truD,tupI,isiD,bLen,lenD,cmpD,b,f]
 .exact qar (g:=.int) w.costs (λρ=>∃x,ρ=[x]) rfl rfl ⟨_,rfl⟩ (by
   rintro q a ρ ⟨x,rfl⟩;exact⟨_,rfl,⟨_,rfl⟩,by simp[Res.bind,callC,exs,ex,ev,evs,evO,evI,asg,asgs,tst,tsts,varE,frE,bltD,one,two,leave,ofO,truD,zx,(h.c3 q a).1,(h.c3 q a).2]⟩)
def qg3{d:Nat}{w:Wb}{S:Sr}(h:WbOk w):G (d+7) 9 [webD w] S=.ok (.bl true) S:=by
 rw[G_at (c:=c_9) rfl];refine qF rfl (x_no (S1:=S) ?_ (qI (d:=webD w) (S1:=S) rfl rfl (qC (qa0 (x:=true) (y:=true) (qj rfl (qcC h)) (qj (l:=[.t (w.ties.map tieD),.int w.costs.length]) (qf rfl (qf (qv rfl (zE _ _)) rfl)) (qdl h))))));simp[Res.bind,callC,exs,ex,ev,evs,evO,evI,asg,asgs,tst,tsts,varE,frE,bltD,one,two,leave,ofO,truD,webD,isiD,bLen,lenD,cmpD,eqD]
def qdm{d:Nat}{w:Wb}{S:Sr}(h:WbOk w):G (d+8) 16 [webD w] S=.ok .non S:=by
 rw[G_at (c:=c_16) rfl];exact qec rfl (x_no (S1:=S) (t_no (x:=true) (t_of (qj rfl (qg3 h)))) yz)
def jM{d:Nat}{x:D}{S:Sr}(a:refsLt 0 x=true):G (d+1) 0 [x] S=.ok (.bl (isIntB x)) S:=by
 rw[G_at (c:=c_0) rfl];cases x with
 |ref n=>simp[refsLt]at a
 |exc n=>simp[refsLt]at a
 |_=>exact qF rfl (qC rfl)
def ne2(n:Nat)(S:Sr):cmpD .ne (.int n) (.int 2) S=some (!decide (n=2)):=by
 show some (!((n:Int) == 2))=_;congr 2;rw[ww];simp;lia
def qdn{a:Int}{S:Sr}:bltD .abs [.int a] S=.ok (.int (a.natAbs:Int)) S:=by
 simp only[bltD,one,bAbs];congr 2;split <;> lia
def qiD{a b:Int}(d:0<b)(h:b<2^250):divOk a b=true:=by
 have f:(((2:Nat)^250:Nat):Int)=(2:Int)^250:=by norm_cast
 have hb:=yK (a:=b) (n:=250) 00;unfold divOk PySem.Builtin.divisionGoesByPylong;unfold PySem.Builtin.Int.intBits at hb;have c:(b == 0)=false:=by rw[vB];lia
 rw[c]at hb;simp only[c,vI,uB]at hb ⊢;have e:decide (b.natAbs.log2 / 30+1>300)=false:=by rw[va];lia
 simp only[e,xm];rfl
def bdivB{a b:Int}{S:Sr}(h:0<b)(c:b<2^250):binD .fdiv (.int a) (.int b) S=some (.int (a.fdiv b)):=by
 simp only[binD,binI];rw[wR (qiD h c)];rfl
def qbB(t b:Int):Int.gcd (t.natAbs:Int) b=Int.gcd t b:=by simp[Int.gcd]
def qg4{d:Nat}{a b:Int}{S:Sr}(ha:0<=a)(hb:0<=b)(f:b<2^250):G (d+1) 2 [.int a,.int b] S=.ok (.int (Int.gcd a b:Int)) S:=by
 rw[G_at (c:=c_2) rfl];have h:=wl (S:=S) (test:=λρ S=>tst (G d) (.val (.v 1)) ρ S) (body:=λρ S=>exs (G d) NW (.c (.set (.t (.c (.v 0) (.c (.v 1) .n))) (.t (.c (.v 1) (.c (.bin .mod (.v 0) (.v 1)) .n)))) .n) ρ S) (E:=λa b=>[some (.int a),some (.int b)]) (λa b=>rfl) (λa b h=>qI (qL (qf rfl (qf (qD rfl rfl (bmod 00)) rfl)) (by simp[PySem.sizeLine])) rfl yz) 250 NW a b ha hb f 02;rw[qgY 250 NW a b ha hb f 02]at h;exact qF rfl (qeg h (qC rfl))
noncomputable def nmD(p:Int×Int):D:=.t [.int p.1,.int p.2]
def qg5{t b:Int}(hb:1<=b):(Int.gcd t b:Int)<=b:=Int.le_of_dvd 00 (Int.gcd_dvd_right t b)
def qa3{d:Nat}{t b:Int}{S:Sr}(hb:1<=b)(f:b<2^250):G (d+2) 3 [.int t,.int b] S=.ok (nmD (lw t b)) S:=by
 rw[G_at (c:=c_3) rfl];have h:=zw (t:=t) hb;have i:=qg5 (t:=t) hb;refine qF rfl (qI (d:=.int (Int.gcd t b:Int)) (S1:=S) (qj (qf (qv rfl qdn) rfl) (by have:=qg4 (d:=d) (a:=(t.natAbs:Int)) (b:=b) (S:=S) 00 00 f;rw[qbB]at this;exact this)) (ρ1:=[some (.int t),some (.int b),some (.int (Int.gcd t b:Int))]) rfl (qC (qL (qf (qD rfl rfl (bdivB 00 00)) (qf (qD rfl rfl (bdivB 00 00)) rfl)) (by simp[PySem.sizeLine]))))
noncomputable def numB:D->Bool
 | .t [.int t,.int b]=>decide (1<=b)&&decide (Int.gcd t b=1)
 |_=>false
noncomputable def nsm:D->Bool
 | .t [.int t,.int b]=>decide (t.natAbs<2^45)&&decide (b<2^30)
 | .t [_,.int b]=>decide (b<2^30)
 |_=>true
noncomputable def topD:D->Int
 | .t (.int t::_)=>t
 |_=>0
def qg6{x:D}(h:numB x=true):∃t b:Int,x=nmD (t,b)/\1<=b/\Int.gcd t b=1:=by
 unfold numB at h;split at h
 .simp only[wZ,wm]at h
  exact⟨_,_,rfl,h.1,h.2⟩
 .cases h
def qbC{d:Nat}{x:D}{S:Sr}(h:refsLt 0 x=true)(j:nsm x=true):G (d+2) 4 [x] S=.ok (.bl (numB x)) S:=by
 rw[G_at (c:=c_4) rfl];cases x with
 |ref n=>simp[refsLt]at h
 |exc n=>simp[refsLt]at h
 |t l =>
  by_cases i:l.length=2
  .match l,i with
   |[a,b],_ =>
    have ha:refsLt 0 a=true:=qQ h (by simp);have hb:refsLt 0 b=true:=qQ h (by simp);have p:=jM (d:=d) (S:=S) ha;have q:=jM (d:=d) (S:=S) hb;refine qF rfl (x_no (S1:=S) (jf (t_no (x:=true) (t_of rfl)) (t_of (qO (qv rfl (jg _ _)) rfl (ne2 _ _)))) (qI (d:=.t [a,b]) (S1:=S) rfl (ρ1:=[some (.t [a,b]),some a,some b]) rfl ?_));have t1:tst (G (d+1)) (.not (.val (.call 0 (.c (.v 1) .n)))) [some (.t [a,b]),some a,some b] S=.ok (!isIntB a) S:=t_no (t_of (qj rfl p));have t2:tst (G (d+1)) (.not (.val (.call 0 (.c (.v 2) .n)))) [some (.t [a,b]),some a,some b] S=.ok (!isIntB b) S:=t_no (t_of (qj rfl q));cases a with
    |int t =>
     cases b with
     |int b =>
      have f:b<2^250:=by
       simp only[nsm,wZ,wm]at j;have:=j.2;lia
      have t3:tst (G (d+1)) (.val (.cmp .lt (.v 2) (.k (.int 1)))) [some (.t [.int t,.int b]),some (.int t),some (.int b)] S=.ok (decide (b<1)) S:=t_of (qO rfl rfl rfl);rw[show numB (.t [.int t,.int b])=(decide (1<=b)&&decide (Int.gcd t b=1))from rfl];by_cases m:1<=b
      .rw [wd (show ¬b<1 by lia)]at t3
       rw[wq m,ut];have o:=qg4 (d:=d) (a:=(t.natAbs:Int)) (b:=b) (S:=S) 00 00 f;rw[qbB]at o;exact x_no (jf t1 (jf t2 t3)) (qC (qO (qj (qf (qv rfl qdn) (qf rfl rfl)) o) rfl (by
        show some ((Int.gcd t b:Int) == 1)=_;congr 1;rw[ww];simp;lia)))
      .rw [wq (show b<1 by lia)]at t3
       rw[wd m,xm];exact jc (jf t1 (jf t2 t3)) (qC rfl)
     |_=>exact jc (jf t1 (qct t2)) (qC rfl)
    |_=>exact jc (qct t1) (qC rfl)
  .have r:numB (.t l)=false:=by
    unfold numB;split
    .rename_i z;injection z with z;subst z;simp at i
    .rfl
   rw[r];exact qF rfl (jc (S1:=S) (jf (t_no (x:=true) (t_of rfl)) (t_of (x:=true) (qO (qv rfl (jg _ _)) rfl (by rw[ne2,wd i];rfl)))) (qC rfl))
 |_=>exact qF rfl (jc (S1:=S) (qct rfl) (qC rfl))
noncomputable def amB(x:D):Bool:=numB x&&decide (0<=topD x)
def qbD{d:Nat}{x:D}{S:Sr}(a:refsLt 0 x=true)(f:nsm x=true):G (d+3) 5 [x] S=.ok (.bl (amB x)) S:=by
 rw[G_at (c:=c_5) rfl];have e:=qbC (d:=d) (S:=S) a f;unfold amB;cases z:numB x with
 |false=>rw[z]at e;exact qF rfl (qC (qgW (qj rfl e)))
 |true =>
  rw[z]at e;obtain⟨t,b,rfl,_⟩:=qg6 z;exact qF rfl (qC (qa0 (qj rfl e) (qO (qr (S1:=S) rfl rfl rfl) rfl rfl)))
noncomputable def adn(p q:Int×Int):Int×Int:=lw (p.1*q.2+q.1*p.2) (p.2*q.2)
noncomputable def totN(ps:List (Int×Int)):Int×Int:=ps.foldl adn (0,1)
structure NB (p:Int×Int):Prop where
 t:p.1.natAbs<2^45
 b1:1<=p.2
 b2:p.2<2^30
def yB{t b:Int}(hb:1<=b):(lw t b).2<=b:=by
 obtain⟨c,a⟩:=yA (t:=t) hb;have d:=zw (t:=t) hb;have f:=(q9 (t:=t) hb).pos;have:=uq (show(1:Int)<=(Int.gcd t b:Int) by lia) (show 0<=(lw t b).2 by lia);rw[a]at this;lia
def jC(ps:List (Int×Int))(q:Int×Int):totN (ps++[q])=adn (totN ps) q:=by simp[totN]
def p250{m:Nat}(h:m<=240):(2:Int)^m<2^250:=by
 have a:(2:Nat)^m<=2^240:=Nat.pow_le_pow_right 02 h;have b:(((2:Nat)^m:Nat):Int)=(2:Int)^m:=by norm_cast
 have c:(((2:Nat)^240:Nat):Int)=(2:Int)^240:=by norm_cast
 have d:(2:Int)^240<2^250:=by decide
 lia
structure NBe (e:Nat) (p:Int×Int):Prop where
 t:p.1.natAbs<2^45
 b1:1<=p.2
 b2:p.2<=2^e
def qdo{e k:Nat}(h:e<=k):(2:Int)^e<=2^k:=by
 have a:(2:Nat)^e<=2^k:=Nat.pow_le_pow_right 02 h;have b:(((2:Nat)^e:Nat):Int)=(2:Int)^e:=by norm_cast
 have c:(((2:Nat)^k:Nat):Int)=(2:Int)^k:=by norm_cast
 lia
def qg7{e k:Nat}{B b:Int}(a:1<=B)(c:B<=2^(e*k))(d:1<=b)(f:b<=2^e):1<=B*b/\B*b<=2^(e*(k+1)):=by
 have h:(2:Int)^(e*(k+1))=2^(e*k)*2^e:=by rw[Nat.mul_succ,Int.pow_add]
 refine⟨?_,?_⟩
 .have:=uY a d 02 00
  simpa using this
 .rw [h]
  exact uY c f 00 (xb (Int.pow_pos 02))
def qei{e:Nat}:∀(n:Nat) {ps:List (Int×Int)},ps.length=n->(∀p∈ps,NBe e p)->1<=(totN ps).2/\(totN ps).2<=2^(e*ps.length):=by
 intro n;induction n with
 |zero =>
  intro ps a _;have:ps=[]:=wt.mp a;subst this;exact⟨by decide,by simp[totN]⟩
 |succ n d =>
  intro ps a h;rcases List.eq_nil_or_concat ps with rfl|⟨ps,q,rfl⟩
  .simp at a
  .rw [List.concat_eq_append]at a h ⊢
   rw[wV,vo]at a;obtain⟨f,i⟩:=d (ps:=ps) 00 λp j=>h p (wp _ j)
   have b:=h q (by simp);obtain⟨c,l⟩:=qg7 f i b.b1 b.b2;rw[jC];refine⟨(q9 c).pos,?_⟩;rw[wV,vo];exact Int.le_trans (yB c) l
def qkO{F:Fs}{N:Nat}{ρ ρ1:En}{S S1 S2:Sr}{r a:CSs}{t:CT}{e:CE}{x:D}{ds:List D}{gd:Sr->Prop}{Y:Res Fl}(h:ev F e ρ S=.ok x S1)(b:refX x S1=some (ds,gd))(c:forLoop (λd ρ S=>(grd gd S (asg F t d ρ S)).bind λρ1 S1=>exs F N a ρ1 S1) ds ρ S1=.ok (.nx ρ1) S2)(f:gd S2)(i:exs F N r ρ1 S2=Y):exs F N (.c (.forX t e a) r) ρ S=Y:=by
 simp only[exs,ex,h,Res.bind,b,c,endG,zh f];exact i
def qcD{d e:Nat}{f:D}{gd:Sr->Prop}{ps:List (Int×Int)}{S:Sr}(o:refX f S=some (ps.map nmD,gd))(m:gd S)(h:∀p∈ps,NBe e p)(r:e*ps.length<=240)(s:e<=30):G (d+3) 7 [f] S=.ok (nmD (totN ps)) S:=by
 rw[G_at (c:=c_7) rfl];obtain⟨u,n,v,x,rfl,rfl⟩:=yf (g:=nmD) (body:=λw ρ S=>(grd gd S (asg (G (d+2)) (.v 3) w ρ S)).bind λρ1 S1=>exs (G (d+2)) NW (.c (.set (.t (.c (.v 1) (.c (.v 2) .n))) (.call 3 (.c (.bin .add (.bin .mul (.v 1) (.idx (.v 3) (.k (.int 1)))) (.bin .mul (.idx (.v 3) (.k (.int 0))) (.v 2))) (.c (.bin .mul (.v 2) (.idx (.v 3) (.k (.int 1)))) .n)))) .n) ρ1 S1)
  (λpre ρ T=>∃x,ρ=[some f,some (.int (totN pre).1),some (.int (totN pre).2),x]/\T=S) ps (ρ:=[some f,some (.int 0),some (.int 1),none]) (S:=S) ⟨_,rfl,rfl⟩ (by
   rintro pre q y ρ T a ⟨x,rfl,rfl⟩;have l:∀p∈pre,NBe e p:=λp l=>h p (by rw[a];simp[l])
   have i:NBe e q:=h q (by rw[a];simp);have j:=congrArg List.length a;rw[wV,wj]at j;obtain⟨A,B⟩:=qei _ rfl l;obtain⟨C,E⟩:=qg7 A B i.b1 i.b2;have F:(totN pre).2*q.2<2^250:=by
    refine Int.lt_of_le_of_lt E (p250 (vK (Nat.mul_le_mul_left e ?_) r));lia
   have hb:=i.b2;have H:=i.b1;have K:=i.t;have I:=qdo s;refine⟨[some f,some (.int (totN (pre++[q])).1),some (.int (totN (pre++[q])).2),some (nmD q)],T,?_,_,rfl,rfl⟩;rw[zh m,show asg (G (d+2)) (.v 3) (nmD q) [some f,some (.int (totN pre).1),some (.int (totN pre).2),x] T=.ok [some f,some (.int (totN pre).1),some (.int (totN pre).2),some (nmD q)] T from rfl,Res.bind_ok];have J:=qa3 (d:=d) (t:=(totN pre).1*q.2+q.1*(totN pre).2) (b:=(totN pre).2*q.2) (S:=T) C F;rw[jC];exact qI (qj (qf (qD (S1:=T) (qD (S1:=T) rfl (qr (S1:=T) rfl rfl rfl) (bmul (zv 00))) (qD (S1:=T) (qr (S1:=T) rfl rfl rfl) rfl (bmul (jd 00))) badd) (qf (qD (S1:=T) rfl (qr (S1:=T) rfl rfl rfl) (bmul (zv 00))) rfl)) J) rfl yz)
 exact qF rfl (qI (d:=.t [.int 0,.int 1]) (S1:=n) (qL rfl (by simp[PySem.sizeLine])) (ρ1:=[some f,some (.int 0),some (.int 1),none]) rfl (qkO (ds:=ps.map nmD) (S1:=n) rfl o v m (qC (qL rfl (by simp[PySem.sizeLine])))))
def NB.e{p:Int×Int}(h:NB p):NBe 30 p:=⟨h.t,h.b1,by have:=h.b2;lia⟩
def qiE{d:Nat}{ps:List (Int×Int)}{S:Sr}(h:∀p∈ps,NB p)(b:ps.length<=8):G (d+3) 7 [.t (ps.map nmD)] S=.ok (nmD (totN ps)) S :=
 qcD (e:=30) (gd:=λ_=>True) rfl trivial (λp a=>(h p a).e) 00 02
def qej:∀{l:List D},l.all amB=true->(∀x∈l,nsm x=true)->∃ps:List (Int×Int),l=ps.map nmD/\∀p∈ps,NB p
 |[],_,_=>⟨[],rfl,by simp⟩
 |x::r,h,hs=>by
  simp only[uc,wZ]at h;obtain⟨t,b,rfl,c,i⟩:=qg6 (show numB x=true by have:=h.1;unfold amB at this;simp only[wZ]at this;exact this.1);obtain⟨ps,e,d⟩:=qej h.2 λx f=>hs x (wL _ f)
  have hn:=hs _ wH;simp only[nsm,nmD,wZ,wm]at hn;refine⟨(t,b)::ps,by rw[e];rfl,λp a=>?_⟩;rcases wX.mp a with rfl|z
  .exact ⟨hn.1,c,hn.2⟩
  .exact d p z
noncomputable def toP:D->Int×Int
 | .t [.int t,.int b]=>(t,b)
 |_=>(0,0)
def qek(ps:List (Int×Int)):(ps.map nmD).map toP=ps:=by
 rw[wJ]
 conv=>rhs;rw[<-List.map_id ps]
 apply wo;intro p _;rfl
noncomputable def ltB(t:Tie):D->Bool
 | .t q=>decide (q.length=t.1.length)&&(q.all amB&&decide (totN (q.map toP)=(t.2,1)))
 |_=>false
noncomputable def tsm:D->Bool
 | .t q=>q.all nsm
 |_=>true
def neN(n k:Nat)(S:Sr):cmpD .ne (.int n) (.int k) S=some (!decide (n=k)):=by
 show some (!((n:Int) == k))=_;congr 2;rw[ww];simp;lia
def qmo(p q:Int×Int)(S:Sr):cmpD .eq (nmD p) (nmD q) S=some (decide (p=q)):=by
 show some ((p.1 == q.1)&&((p.2 == q.2)&&true))=_;congr 1;rw[ww];simp[Prod.ext_iff]
def qcE{d:Nat}{t:Tie}{x:D}{S:Sr}(m:t.1.length<=4)(b:refsLt 0 x=true)(h:tsm x=true):G (d+4) 18 [tieD t,x] S=.ok (.bl (ltB t x)) S:=by
 rw[G_at (c:=c_18) rfl];cases x with
 |ref n=>simp[refsLt]at b
 |exc n=>simp[refsLt]at b
 |t q =>
  have t1:tst (G (d+3)) (.or (.not (.val (.isi .tuple (.v 1)))) (.val (.cmp .ne (.blt .len (.c (.v 1) .n)) (.blt .len (.c (.v 2) .n))))) [some (tieD t),some (.t q),some (tupI t.1),some (.int t.2)] S=.ok (!decide (q.length=t.1.length)) S:=jf (t_no (x:=true) (t_of rfl)) (t_of (qO (qv rfl (jg _ _)) (qv rfl (zE _ _)) (neN _ _ _)));refine qF rfl (qI (d:=tieD t) (S1:=S) rfl (ρ1:=[some (tieD t),some (.t q),some (tupI t.1),some (.int t.2)]) rfl ?_);rw[show ltB t (.t q)=(decide (q.length=t.1.length)&&(q.all amB&&decide (totN (q.map toP)=(t.2,1))))from rfl];by_cases f:q.length=t.1.length
  .rw [wq f]at t1 ⊢
   rw[ut];have a:=yJ (g:=λy:D=>y) (F:=G (d+3)) (fr:=[]) (nt:=1) (elt:=.call 5 (.c (.v 0) .n)) (tg:=.v 0) (it:=.seq (.v 1)) (ρ:=[some (tieD t),some (.t q),some (tupI t.1),some (.int t.2)]) (S:=S) (S1:=S) (ds:=q) q amB (λρ=>∃y,ρ=[y]) rfl (by simp) ⟨_,rfl⟩ (by
    rintro y i ρ ⟨z,rfl⟩;exact⟨_,rfl,⟨_,rfl⟩,qj rfl (qbD (qQ b i) (we.mp h y i))⟩)
   refine x_no t1 (qC ?_);cases za:q.all amB with
   |false=>rw[za]at a;exact qgW a
   |true =>
    rw[za]at a;obtain⟨ps,rfl,j⟩:=qej za (we.mp h);rw[qek];rw[wF]at f;exact qa0 a (qO (qj rfl (qiE j 00)) (qL (l:=[.int t.2,.int 1]) rfl (by simp[PySem.sizeLine])) (qmo (totN ps) (t.2,1) S))
  .rw [wd f]at t1 ⊢
   exact jc t1 (qC rfl)
 |_=>exact qF rfl (qI (d:=tieD t) (S1:=S) rfl rfl (jc (S1:=S) (qct (t_no (x:=false) (t_of rfl))) (qC rfl)))
noncomputable def layB(w:Wb):D->Bool
 | .t l=>decide (l.length=w.ties.length)&&(w.ties.zip l).all λp=>ltB p.1 p.2
 |_=>false
noncomputable def lsm:D->Bool
 | .t l=>l.all tsm
 |_=>true
def qiF{c d:Type}{a:List c}{b:List d}{p:c×d}(h:p∈a.zip b):p.1∈a/\p.2∈b:=wn h
def jj{d:Nat}{w:Wb}{x:D}{S:Sr}(h:WbOk w)(a:refsLt 0 x=true)(i:lsm x=true):G (d+9) 17 [webD w,x] S=.ok (.bl (layB w x)) S:=by
 rw[G_at (c:=c_17) rfl];refine qF rfl (qap (S1:=S) (qj rfl (qdm h)) (qI (d:=.t (w.ties.map tieD)) (S1:=S) (qr (S1:=S) rfl rfl rfl) (ρ1:=[some (webD w),some x,some (.t (w.ties.map tieD))]) rfl ?_));cases x with
 |ref n=>simp[refsLt]at a
 |exc n=>simp[refsLt]at a
 |t l =>
  have t1:tst (G (d+8)) (.or (.not (.val (.isi .tuple (.v 1)))) (.val (.cmp .ne (.blt .len (.c (.v 1) .n)) (.blt .len (.c (.v 2) .n))))) [some (webD w),some (.t l),some (.t (w.ties.map tieD))] S=.ok (!decide (l.length=w.ties.length)) S:=jf (t_no (x:=true) (t_of rfl)) (t_of (qO (qv rfl (jg _ _)) (qv rfl (jg _ _)) (by rw[neN,wF])));rw[show layB w (.t l)=(decide (l.length=w.ties.length)&&(w.ties.zip l).all λp=>ltB p.1 p.2)from rfl];by_cases b:l.length=w.ties.length
  .rw [wq b]at t1 ⊢
   rw[ut];have j:=yJ (g:=λp:Tie×D=>.t [tieD p.1,p.2]) (F:=G (d+8)) (fr:=[]) (nt:=2) (elt:=.call 18 (.c (.v 0) (.c (.v 1) .n))) (tg:=.t (.c (.v 0) (.c (.v 1) .n))) (it:=.zip (.v 2) (.v 1)) (ρ:=[some (webD w),some (.t l),some (.t (w.ties.map tieD))]) (S:=S) (S1:=S) (ds:=((w.ties.map tieD).zip l).map λq=>.t [q.1,q.2]) (w.ties.zip l) (λp=>ltB p.1 p.2) (λρ=>∃y z,ρ=[y,z]) rfl (by rw[List.zip_map_left,wJ];rfl) ⟨_,_,rfl⟩ (by
    rintro p m ρ ⟨y,z,rfl⟩;obtain⟨o,f⟩:=qiF m;exact⟨_,rfl,⟨_,_,rfl⟩,qj rfl (qcE (d:=d+4) (h.t2 p.1 o).2.1 (qQ a f) (we.mp i p.2 f))⟩)
   exact x_no t1 (qC j)
  .rw [wd b]at t1 ⊢
   exact jc t1 (qC rfl)
 |_=>exact jc (S1:=S) (qct (t_no (x:=false) (t_of rfl))) (qC rfl)
def qiG{d:Nat}{c:Int}{S:Sr}:∃m:Int,0<=m/\m<10^60/\G (d+1) 24 [.int c] S=.ok (.int m) S:=by
 have a:(0:Int)<10^60:=by decide
 have b:=vQ c a;have f:=ud c a;refine⟨(c.fmod (10^60)*915965594177219015054603514932384110774149374281672134266497).fmod (10^60),vQ _ a,ud _ a,?_⟩;rw[G_at (c:=c_24) rfl];refine qF rfl (qC (qD (d1:=.int (c.fmod (10^60)*915965594177219015054603514932384110774149374281672134266497)) (d2:=.int (10^60)) (S1:=S) (qD (d1:=.int (c.fmod (10^60))) (S1:=S) (qD (d1:=.int c) (d2:=.int (10^60)) (S1:=S) rfl rfl rfl) rfl ?_) rfl rfl));exact bmul (qed (by
  have e:(10:Int)^60<2^250:=by decide
  have:(((2:Nat)^250:Nat):Int)=(2:Int)^250:=by norm_cast
  lia) (by decide))
def zN{d n:Nat}{v m:Int}{S:Sr}(hn:n<S.length)(a:0<m)(hm:m.natAbs<2^64):G (d+1) 26 [.ref n,.int m] (pk S n v)=.ok (.int (v.fmod m)) (pk S n (v.fdiv m)):=by
 rw[G_at (c:=c_26) rfl];have e:=qmk hn v;have b:exs (G d) NW c_26.body [some (.ref n),some (.int m),none] (pk S n v)=.ok (.rt (.int (v.fmod m))) (pk S n (v.fdiv m)):=by
  refine qI (d:=.t [.int (v.fdiv m),.int (v.fmod m)]) (S1:=pk S n v) (qv (qf (qr (d:=.int v) rfl rfl ?_) (qf rfl rfl)) ?_) (ρ1:=[some (.ref n),some (.int m),some (.int (v.fmod m))]) (S2:=pk S n (v.fdiv m)) ?_ (qC rfl)
  .simp [idxD,seqOf,lstOf,e,L2.atI,L2.ixN]
  .simp [bltD,two,bDivmod,qiy a hm]
  .have:putE (pk S n v) (.ref n) (.int 0) (.int (v.fdiv m))=some (pk S n (v.fdiv m)):=by
    simp[putE,putN,e,L2.ixN,refsLt];unfold pk;simp
   simp only[asg,asgs,ev,varE,Res.bind,uD,this];rfl
 exact qcp (S2:=[]) rfl rfl (by rw[vf];exact b) (by simp[qo]) rfl
def qcF(l:List Int)(x:Int)(S:Sr):∃c:Int,idxD S (.l (l.map .int++[.int x])) (.int 0)=some (.int c):=by
 cases l with
 |nil=>exact⟨x,rfl⟩
 |cons a r=>exact⟨a,by simp[idxD,seqOf,lstOf,L2.atI,L2.ixN]⟩
def qiH(l:List Int)(a b:Option Int):∃m:List Int,cutD (l.map .int) a b=m.map .int/\m.length<=l.length:=by
 unfold cutD;rw[wF,<-List.map_drop,<-List.map_take];exact⟨_,rfl,by simp;lia⟩
def bcat{a b:List D}{S:Sr}(h:a.length+b.length<=1000):binD .add (.l a) (.l b) S=some (.l (a++b)):=by
 have:catOk a b=true:=by unfold catOk PySem.sizeLine;rw[wm];lia
 simp[binD,lstOf,this]
def qa4{d:Nat}{ns:List Int}(n:ns.length<=63){k f a:Int}{x y:Option D}{S:Sr}(p:0<=f)(u:f<10^60)(ha:0<=a)(q:a<100):∃m c:Int,0<=m/\m<10^60 /\
  (asg (G (d+1)) (.v 3) (.int a) [some (.l (ns.map .int)),some (.int k),some (.int f),x,y] S).bind (λρ1 S1=>exs (G (d+1)) NW (.c (.set (.v 4) (.idx (.bin .add (.slc (.v 0) (.some (.v 3)) (.some (.bin .add (.v 3) (.k (.int 1))))) (.l false (.c (.bin .add (.bin .add (.bin .mul (.k (.int 5701)) (.v 3)) (.k (.int 43))) (.bin .mul (.k (.int 7)) (.idx (.bin .add (.v 0) (.l false (.c (.k (.int 0)) .n))) (.k (.int 0))))) .n))) (.k (.int 0)))) (.c (.set (.v 2) (.bin .add (.bin .mul (.v 2) (.bin .pow (.k (.int 10)) (.k (.int 60)))) (.call 24 (.c (.v 4) .n)))) .n)) ρ1 S1)
   = .ok (.nx [some (.l (ns.map .int)),some (.int k),some (.int (f*10^60+m)),some (.int a),some (.int c)]) S:=by
 obtain⟨x0,b⟩:=qcF ns 0 S;obtain⟨h,i,v⟩:=qiH ns (some a) (some (a+1));obtain⟨c,r⟩:=qcF h (5701*a+43+7*x0) S;obtain⟨m,j,l,hm⟩:=qiG (d:=d) (c:=c) (S:=S);refine⟨m,c,j,l,?_⟩;rw[show asg (G (d+1)) (.v 3) (.int a) [some (.l (ns.map .int)),some (.int k),some (.int f),x,y] S=.ok [some (.l (ns.map .int)),some (.int k),some (.int f),some (.int a),y] S from rfl,Res.bind_ok];refine qI (d:=.int c) (S1:=S) (qr (d1:=.l (h.map .int++[.int (5701*a+43+7*x0)])) (S1:=S) (qD (d1:=.l (h.map .int)) (d2:=.l [.int (5701*a+43+7*x0)]) (S1:=S) ?_ ?_ (bcat (by simp;lia))) rfl r) rfl (qI (d:=.int (f*10^60+m)) (S1:=S) (qD (d1:=.int (f*10^60)) (S1:=S) (qD (d2:=.int (10^60)) (S1:=S) rfl rfl (bmul (qed ?_ 02))) (qj rfl hm) badd) rfl yz)
 .simp only[ev,evO,varE,Res.bind,uD,List.getElem?_cons_succ,badd,ofO,slcD,lstOf]
  simp only[wg,i]
 .have e1:ev (G (d+1)) (.bin .mul (.k (.int 7)) (.idx (.bin .add (.v 0) (.l false (.c (.k (.int 0)) .n))) (.k (.int 0)))) [some (.l (ns.map .int)),some (.int k),some (.int f),some (.int a),y] S=.ok (.int (7*x0)) S :=
   qD (S1:=S) rfl (qr (d1:=.l (ns.map .int++[.int 0])) (S1:=S) (qD (d2:=.l [.int 0]) (S1:=S) rfl rfl (bcat (by simp;lia))) rfl b) (bmul (jd 02))
  have s:=qD (F:=G (d+1)) (o:=.add) (S:=S) (S1:=S) (e1:=.bin .add (.bin .mul (.k (.int 5701)) (.v 3)) (.k (.int 43))) (d1:=.int (5701*a+43)) (qD (S1:=S) (qD (S1:=S) rfl rfl (bmul (jd 02))) rfl badd) e1 badd;exact qcr (qf s rfl) (by simp)
 .have e:(10:Int)^60<2^250:=by decide
  have:(((2:Nat)^250:Nat):Int)=(2:Int)^250:=by norm_cast
  lia
def qg8{d:Nat}{ns:List Int}(b:ns.length<=63){k:Int}{S:Sr}(p:0<=k)(j:k<90):∃v:Int,0<=v/\G (d+2) 25 [.l (ns.map .int),.int k] S=.ok (.ref S.length) (S++[.l [.int v]]):=by
 obtain⟨m,c,l,n,e1⟩:=qa4 (d:=d) b (k:=k) (f:=0) (a:=k+1) (x:=none) (y:=none) (S:=S) (Int.le_refl 0) 02 00 00;obtain⟨m2,c2,h,i,o⟩:=qa4 (d:=d) b (k:=k) (f:=0*10^60+m) (a:=k) (x:=some (.int (k+1))) (y:=some (.int c)) (S:=S) 00 00 00 00;refine⟨(0*10^60+m)*10^60+m2,by lia,?_⟩;rw[G_at (c:=c_25) rfl];refine qkJ rfl rfl (qI (d:=.int 0) (S1:=S) rfl (ρ1:=[some (.l (ns.map .int)),some (.int k),some (.int 0),none,none]) rfl (qaq (ds:=[.int (k+1),.int k]) (S1:=S) ?_ (ρ1:=[some (.l (ns.map .int)),some (.int k),some (.int ((0*10^60+m)*10^60+m2)),some (.int k),some (.int c2)]) (S2:=S) ?_ (qC (qdb rfl (by simp) rfl))))
 .have:ev (G (d+1)) (.l false (.c (.bin .add (.v 1) (.k (.int 1))) (.c (.v 1) .n))) [some (.l (ns.map .int)),some (.int k),some (.int 0),none,none] S=.ok (.l [.int (k+1),.int k]) S:=qcr (qf (qD (S1:=S) rfl rfl badd) (qf rfl rfl)) (by simp)
  simp only[evI,this,Res.bind]
 .rw [qas e1,qas o];rfl
def qiI{r:Int}(h:0<=r/\r<8)(S:Sr):∃s:Nat,1<=s/\s<=4/\idxD S (.l [.int 2,.int 2,.int 2,.int 3,.int 3,.int 1,.int 4,.int 2]) (.int r)=some (.int s):=by
 have:r=0\/r=1\/r=2\/r=3\/r=4\/r=5\/r=6\/r=7:=by lia
 rcases this with rfl|rfl|rfl|rfl|rfl|rfl|rfl|rfl
 .exact ⟨2,by decide,by decide,rfl⟩
 .exact ⟨2,by decide,by decide,rfl⟩
 .exact ⟨2,by decide,by decide,rfl⟩
 .exact ⟨3,by decide,by decide,rfl⟩
 .exact ⟨3,by decide,by decide,rfl⟩
 .exact ⟨1,by decide,by decide,rfl⟩
 .exact ⟨4,by decide,by decide,rfl⟩
 .exact ⟨2,by decide,by decide,rfl⟩
def qg9{d n many:Nat}{v:Int}{S:Sr}(hn:n<S.length)(K:0<=v)(X:1<=many)(Y:many<=60):∃(p:List Int) (u:Int),PlOk many p/\p.length<=4/\0<=u/\G (d+2) 28 [.ref n,.int many] (pk S n v)=.ok (tupI p) (pk S n u):=by
 obtain⟨s,L,M,N⟩:=qiI (fm (v:=v) (m:=8) 02) (pk S n (v.fdiv 8));have r:0<=v.fdiv 8:=vH K 02;have O:(pk S n (v.fdiv 8)).length=S.length:=qo ..;have i:(if(many:Int)<(s:Int)then(many:Int)else(s:Int))=((min s many:Nat):Int):=by split <;> lia
 obtain⟨b,Z,e,⟨a,ls,u,rfl,rfl,w,j⟩,H,A⟩:=qdd (g:=.int) (F:=G (d+1)) (fr:=[3,0]) (nt:=1) (elt:=.popAt (.v 0) (.call 26 (.c (.v 1) (.c (.blt .len (.c (.v 0) .n)) .n)))) (tg:=.v 2) (it:=.rng (.c (.blt .min2 (.c (.v 2) (.c (.v 1) .n))) .n))
  (ρ:=[some (.ref n),some (.int many),some (.int s),some (.ref S.length),none]) (S:=pk S n (v.fdiv 8)++[.l ((rI many).map .int)]) (S1:=pk S n (v.fdiv 8)++[.l ((rI many).map .int)]) (rI (min s many)) (λρ=>∃x,ρ=[some (.ref S.length),some (.ref n),x])
  (λb T=>∃a ls u,b=a.map .int/\T=pk S n u++[.l (ls.map .int)]/\0<=u/\(a++ls).Perm (rI many))
  (i_rng (n:=min s many) (qf (qv (qf rfl (qf rfl rfl)) (by simp only[bltD,two,bMin,i])) rfl) 00) rfl ⟨_,rfl⟩ (by rw[zG];lia) ⟨[],rI many,_,rfl,rfl,r,.refl _⟩ (by
   rintro q hq ρ m T ⟨x,rfl⟩ ⟨a,ls,u,rfl,rfl,w,j⟩ hT hm;have B:=j.length_eq;rw[wV,zG]at B;rw[wF,zG]at hm;have P:0<ls.length:=by lia
   have f:=fm (v:=u) (m:=(ls.length:Int)) 00;have I:=zN (d:=d) (n:=n) (v:=u) (m:=ls.length) (S:=(S++[.l (ls.map .int)])++[.l (a.map .int)]) (by simp;lia) 00 00;rw[<-zk (by simp;lia),<-zk hn,<-zk (by simp;lia),<-zk hn]at I;obtain⟨y,J⟩:∃y,ls[(u.fmod ls.length).toNat]?=some y:=⟨_,wD 00⟩;refine⟨[some (.ref S.length),some (.ref n),some (.int q)],.int y,pk S n (u.fdiv ls.length)++[.l ((ls.eraseIdx (u.fmod ls.length).toNat).map .int)],rfl,⟨_,rfl⟩,?_,by simp[qo],rfl,a++[y],ls.eraseIdx (u.fmod ls.length).toNat,u.fdiv ls.length,by simp,rfl,vH w 00,?_⟩
   .have h:∀u,(pk S n u++[.l (ls.map .int)]++[.l (a.map .int)])[S.length]?=some (.l (ls.map .int)):=by
     intro u;rw[wf,wI (by rw[qo];lia),qo];simp
    have Q:bltD .len [.ref S.length] (pk S n u++[.l (ls.map .int)]++[.l (a.map .int)])=.ok (.int ls.length) (pk S n u++[.l (ls.map .int)]++[.l (a.map .int)]):=by
     simp only[bltD,one,bLen,lenD,h,wg,wF,ofO];rfl
    have U:ev (G (d+1)) (.call 26 (.c (.v 1) (.c (.blt .len (.c (.v 0) .n)) .n))) [some (.ref S.length),some (.ref n),some (.int q)] (pk S n u++[.l (ls.map .int)]++[.l (a.map .int)])=.ok (.int (u.fmod ls.length)) (pk S n (u.fdiv ls.length)++[.l (ls.map .int)]++[.l (a.map .int)]) :=
     qj (qf rfl (qf (qv rfl Q) rfl)) I
    have l:popD (pk S n (u.fdiv ls.length)++[.l (ls.map .int)]++[.l (a.map .int)]) (.ref S.length) (.int (u.fmod ls.length))=.ok (.int y) (pk S n (u.fdiv ls.length)++[.l ((ls.eraseIdx (u.fmod ls.length).toNat).map .int)]++[.l (a.map .int)]):=by
     unfold popD;simp only[h];rw[wR ⟨f.1,by lia⟩,w5,J];simp only[wg];rw[qde,wf,vD _ _ (by rw[qo];lia),qo];simp
    have hi:isLst (pk S n u++[.l (ls.map .int)]++[.l (a.map .int)]) (.ref S.length)=true:=by simp only[isLst,h]
    exact qjm rfl hi U l
   .rw [wf]
    exact((qbw J).append_left a).trans j)
 have C:a.Nodup:=(vX.mp (j.nodup_iff.mpr (je many))).1;have o:∀x∈a,0<=x/\x<many:=λx E=>zT.mp (j.mem_iff.mp (wp _ E))
 rw[wF,zG]at A;refine⟨sortI a,u,⟨?_,?_,qcs C⟩,?_,w,?_⟩
 .intro W
  have:=(zd a).length_eq;rw[W]at this;simp at this;lia
 .exact λx E=>o x ((zd a).mem_iff.mp E)
 .rw [(zd a).length_eq];lia
 .rw [G_at (c:=c_28) rfl]
  refine qcp (S2:=[.l (ls.map .int)]) rfl rfl (qI (d:=.int s) (S1:=pk S n (v.fdiv 8)) (qr (S1:=pk S n v) (d2:=.int (v.fmod 8)) rfl (qj rfl (zN hn 02 02)) N) (ρ1:=[some (.ref n),some (.int many),some (.int s),none,none]) rfl (qI (qgQ (n:=many) rfl 00) (ρ1:=[some (.ref n),some (.int many),some (.int s),some (.ref S.length),none]) (by rw[O];rfl) (qI e rfl (qC (qv (qf (qv (d:=.l ((sortI a).map .int)) (S2:=pk S n u++[.l (ls.map .int)]) rfl ?_) rfl) ?_))))) (by rw[qo,qo]) (zI _ _)
  .simp only[bltD,one,bSorted,walkD,wY]
   rw[qfd 00];rfl
  .rfl
def eq0(r:Int)(S:Sr):cmpD .eq (.int r) (.int 0) S=some (r == 0):=rfl
def qkP{S:Sr}{j:Nat}{ts:List Tie}{k:List Int}{w:Int}(h:S[j]?=some (dicD ts))(a:ts.length<1000):putE S (.ref j) (tupI k) (.int w)=some (S.set j (dicD (putTie k w ts))):=by
 unfold putE;rw[wR (show refsLt 0 (D.int w)=true from rfl)];simp only[putN,h,dicD,tupI,qN,wY,wF,a,v6,qgS]
def qcG{F:Fs}{ρ:En}{S S1 S2 S3:Sr}{o i:CE}{x y v:D}(h:ev F o ρ S=.ok x S1)(a:ev F i ρ S1=.ok y S2)(b:putE S2 x y v=some S3):asg F (.sub o i) v ρ S=.ok ρ S3:=by
 simp only[asg,h,a,b,Res.bind]
def Sm(w:Wb):Prop:=(∀c∈w.costs,c<=5)/\∀t∈w.ties,t.2<=9
def qkQ{ts:List Tie}{m:Int}(h:∀t∈ts,t.2<=m){k:List Int}{w:Int}(b:w<=m):∀t∈putTie k w ts,t.2<=m:=by
 unfold putTie;split
 .intro t a
  obtain⟨s,c,rfl⟩:=wW.mp a;split
  .exact b
  .exact h s c
 .intro t a
  rcases w9.mp a with z|z
  .exact h t z
  .simp at z;subst z;exact b
def qkR{ts:List Tie}{m:Int}(h:∀t∈ts,t.2<=m):∀t∈srt ts,t.2<=m:=by
 intro t a;unfold srt at a;obtain⟨k,b,rfl⟩:=wW.mp a;obtain⟨_,s,c,e1,d⟩:=jT ((qG _).mem_iff.mp b);show look ts k<=m;rw[<-d];exact h s c
def qcH{d n many:Nat}{v tn:Int}{S:Sr}{cs:List Int}{x0:Option D}(hn:n<S.length)(N:0<=v)(O:1<=many)(h2:many<=12)(P:0<=tn)(ht:tn<=30)(i:cs.length=many)(A:∀c∈cs,1<=c/\c<=100)(B:∀c∈cs,c<=5):∃(w:Wb) (u:Int) (T:Sr),WbOk w/\w.costs.length=many/\Sm w/\(w.ties.length:Int)<=tn/\0<=u /\
  exs (G (d+2)) NW (tl (tl (tl c_29.body))) [some (.ref n),x0,some (.int tn),some (.int many),some (.l (cs.map .int)),none,none,none] (pk S n v)=.ok (.rt (webD w)) (pk S n u++T):=by
 have hm:0<tn+1:=by lia
 have fr:=fm (v:=v) hm;obtain⟨c,Q⟩:∃c:Nat,v.fmod (tn+1)=c:=⟨(v.fmod (tn+1)).toNat,by lia⟩;have K:=zN (d:=d+1) (n:=n) (v:=v) (m:=tn+1) (S:=S++[dicD []]) (by simp;lia) hm 00;rw[<-zk hn,<-zk hn,Q]at K;obtain⟨U,S',W,x,y,ts,u,rfl,rfl,C,s,l,a⟩:=yf (g:=.int) (body:=λX ρ S=>(asg (G (d+2)) (.v 6) X ρ S).bind λρ1 S1=>exs (G (d+2)) NW (.c (.set (.v 7) (.call 28 (.c (.v 0) (.c (.v 3) .n)))) (.c (.set (.sub (.v 5) (.v 7)) (.bin .add (.k (.int 1)) (.call 26 (.c (.v 0) (.c (.k (.int 9)) .n))))) .n)) ρ1 S1)
  (λ(pre:List Int) ρ T=>∃x y ts u,ρ=[some (.ref n),x0,some (.int tn),some (.int many),some (.l (cs.map .int)),some (.ref S.length),x,y]/\T=pk S n u++[dicD ts]/\0<=u/\KnOk many ts/\ts.length<=pre.length/\∀t∈ts,t.2<=9) (rI c)
  (ρ:=[some (.ref n),x0,some (.int tn),some (.int many),some (.l (cs.map .int)),some (.ref S.length),none,none]) (S:=pk S n (v.fdiv (tn+1))++[dicD []])
  ⟨_,_,[],_,rfl,rfl,vH N 00,⟨List.nodup_nil,λt h=>by simp at h⟩,by simp,by simp⟩ (by
   rintro pre q Y ρ T o ⟨x,y,ts,u,rfl,rfl,C,s,l,a⟩;have r:=congrArg List.length o;rw[zG,wV,wj]at r;obtain⟨p,f,Z,E,F,L⟩:=qg9 (d:=d) (n:=n) (many:=many) (v:=u) (S:=S++[dicD ts]) (by simp;lia) C O 00;have M:=zN (d:=d+1) (n:=n) (v:=f) (m:=9) (S:=S++[dicD ts]) (by simp;lia) 02 02;rw[<-zk hn,<-zk hn]at L M;have f9:=fm (v:=f) (m:=9) 02;have b:(pk S n (f.fdiv 9)++[dicD ts])[S.length]?=some (dicD ts):=by
    rw[wI (by rw[qo];lia),qo];simp
   obtain⟨H,a0⟩:=s.put (k:=p) (w:=1+f.fmod 9) Z E 00 00;refine⟨[some (.ref n),x0,some (.int tn),some (.int many),some (.l (cs.map .int)),some (.ref S.length),some (.int q),some (tupI p)],pk S n (f.fdiv 9)++[dicD (putTie p (1+f.fmod 9) ts)],?_,_,_,_,_,rfl,rfl,vH F 02,H,by simp;lia,qkQ a 00⟩;rw[show asg (G (d+2)) (.v 6) (.int q) [some (.ref n),x0,some (.int tn),some (.int many),some (.l (cs.map .int)),some (.ref S.length),x,y] (pk S n u++[dicD ts])=.ok [some (.ref n),x0,some (.int tn),some (.int many),some (.l (cs.map .int)),some (.ref S.length),some (.int q),y] (pk S n u++[dicD ts])from rfl,Res.bind_ok];refine qI (qj rfl L) (ρ1:=[some (.ref n),x0,some (.int tn),some (.int many),some (.l (cs.map .int)),some (.ref S.length),some (.int q),some (tupI p)]) rfl (qI (qD rfl (qj rfl M) badd) (qcG rfl rfl (qkP b 00)) ?_);rw[vD _ _ (by rw[qo];lia),qo];simp[exs])
 obtain⟨I,J⟩:=qkM s;rw[zG]at l;refine⟨⟨cs,srt ts⟩,u,[dicD ts],⟨by show 1<=cs.length;lia,by show cs.length<=12;lia,A,by show(srt ts).length<=30;rw[qef];lia,by show ∀t∈srt ts,PlOk cs.length t.1/\_;rw[i];exact I,J⟩,i,⟨B,qkR a⟩,by show((srt ts).length:Int)<=tn;rw[qef];lia,C,?_⟩;have b:(pk S n u++[dicD ts])[S.length]?=some (dicD ts):=by
  rw[wI (by rw[qo];lia),qo];simp
 refine qI (d:=.ref S.length) (S1:=pk S n v++[dicD []]) ?_ (ρ1:=[some (.ref n),x0,some (.int tn),some (.int many),some (.l (cs.map .int)),some (.ref S.length),none,none]) rfl (qaq (i_rng (n:=c) (qf (qj (qf rfl (qf (qD rfl rfl badd) rfl)) K) rfl) 00) W (qC (qL (qf (qv (d:=tupI cs) (S2:=pk S n u++[dicD ts]) rfl rfl) (qf (qkN (kx:=5) (j:=S.length) rfl b s 00) rfl)) (by simp[PySem.sizeLine]))));have:(pk S n v).length=S.length:=qo ..;simp only[ev,v6,this];rfl
def rep1(m:Nat):rep [D.int 1] (m:Int)=(List.replicate m (1:Int)).map .int:=by
 unfold rep;have:((m:Int)).toNat=m:=by lia
 rw[this,xC];induction m with
 |zero=>rfl
 |succ k a =>
  rw[vL,uA,a 00,vL];rfl
def qmp{d n:Nat}{v mo tn:Int}{S:Sr}(hn:n<S.length)(N:0<=v)(O:1<=mo)(P:mo<=12)(y:0<=tn)(L:tn<=30):∃(w:Wb) (u:Int),WbOk w/\(w.costs.length:Int)<=mo/\Sm w/\(w.ties.length:Int)<=tn/\0<=u/\G (d+3) 29 [.ref n,.int mo,.int tn] (pk S n v)=.ok (webD w) (pk S n u):=by
 have f:=fm (v:=v) (m:=mo) 00;obtain⟨many,i⟩:∃c:Nat,1+v.fmod mo=c:=⟨(1+v.fmod mo).toNat,by lia⟩;have E:0<=v.fdiv mo:=vH N 00;have A:0<=(v.fdiv mo).fdiv 3:=vH E 02;have a:∀{w:Wb} {u:Int} {T:Sr} {cs:List Int} {v3:Int},exs (G (d+2)) NW (tl (tl c_29.body)) [some (.ref n),some (.int mo),some (.int tn),some (.int many),some (.l ((List.replicate many (1:Int)).map .int)),none,none,none] (pk S n (v.fdiv mo))=.ok (.rt (webD w)) (pk S n u++T)->G (d+3) 29 [.ref n,.int mo,.int tn] (pk S n v)=.ok (webD w) (pk S n u):=by
  intro w u T cs v3 h;rw[G_at (c:=c_29) rfl];refine qcp (S2:=T) rfl rfl (qI (d:=.int many) (S1:=pk S n (v.fdiv mo)) (qD (d2:=.int (v.fmod mo)) (S1:=pk S n v) rfl (qj rfl (zN hn 00 00)) (by rw[badd,i])) (ρ1:=[some (.ref n),some (.int mo),some (.int tn),some (.int many),none,none,none,none]) rfl (qI (d:=.l ((List.replicate many (1:Int)).map .int)) (S1:=pk S n (v.fdiv mo)) (qD (S1:=pk S n (v.fdiv mo)) (qcr rfl (by simp)) rfl ?_) (ρ1:=[some (.ref n),some (.int mo),some (.int tn),some (.int many),some (.l ((List.replicate many (1:Int)).map .int)),none,none,none]) rfl h)) (by rw[qo,qo]) (qcq _ _);have:repOk [D.int 1] (many:Int)=true:=by
   unfold repOk PySem.sizeLine;rw[wm];refine⟨by lia,by lia,?_⟩;simp;lia
  simp only[binD,lstOf];rw[wR this,rep1]
 have j:=zN (d:=d+1) (n:=n) (v:=v.fdiv mo) (m:=3) hn 02 02;by_cases z:((v.fdiv mo).fmod 3)=0
 .rw [z]at j
  obtain⟨b,U,e,⟨cs,Q,rfl,rfl,H,l,o⟩,_,B⟩:=qdd (g:=.int) (F:=G (d+2)) (fr:=[0]) (nt:=1) (elt:=.bin .add (.k (.int 1)) (.call 26 (.c (.v 0) (.c (.k (.int 5)) .n)))) (tg:=.v 1) (it:=.rng (.c (.v 3) .n))
   (ρ:=[some (.ref n),some (.int mo),some (.int tn),some (.int many),some (.l ((List.replicate many (1:Int)).map .int)),none,none,none]) (S:=pk S n ((v.fdiv mo).fdiv 3)) (S1:=pk S n ((v.fdiv mo).fdiv 3)) (rI many) (λρ=>∃x,ρ=[some (.ref n),x])
   (λb T=>∃cs u,b=cs.map .int/\T=pk S n u/\0<=u/\(∀c∈cs,(1:Int)<=c/\c<=100)/\∀c∈cs,c<=(5:Int)) (i_rng rfl 00) rfl ⟨_,rfl⟩ (by rw[zG];lia) ⟨[],_,rfl,rfl,A,by simp,by simp⟩ (by
    rintro q W ρ m T ⟨x,rfl⟩ ⟨cs,u,rfl,rfl,C,l,o⟩ _ _;have M:=zN (d:=d+1) (n:=n) (v:=u) (m:=5) (S:=S++[.l (cs.map .int)]) (by simp;lia) 02 02;rw[<-zk hn,<-zk hn]at M;have X:=fm (v:=u) (m:=5) 02;refine⟨_,.int (1+u.fmod 5),pk S n (u.fdiv 5),rfl,⟨_,rfl⟩,qD rfl (qj rfl M) badd,by rw[qo,qo],rfl,cs++[1+u.fmod 5],_,by simp,rfl,vH C 02,?_,?_⟩
    .intro c p
     rcases w9.mp p with z|z
     .exact l c z
     .simp at z;lia
    .intro c p
     rcases w9.mp p with z|z
     .exact o c z
     .simp at z;lia)
  rw[wF,zG]at B;obtain⟨w,u,T,I,J,r,s,C,K⟩:=qcH (d:=d) (tn:=tn) (x0:=some (.int mo)) hn H 00 00 y L B l o;refine⟨w,u,I,by lia,r,s,C,a (cs:=cs) (v3:=Q) (qkI (t_of (qO (qj rfl j) rfl (eq0 _ _))) (qI e rfl yz) K)⟩
 .obtain ⟨w,u,T,I,J,r,s,C,K⟩:=qcH (d:=d) (many:=many) (tn:=tn) (x0:=some (.int mo)) (cs:=List.replicate many 1) hn A 00 00 y L (by simp) (by intro c p;rw[uL]at p;lia) (by intro c p;rw[uL]at p;lia)
  refine⟨w,u,I,by lia,r,s,C,a (cs:=[]) (v3:=0) (x_no (t_of (qO (qj rfl j) rfl ?_)) K)⟩;rw[eq0,vB.mpr z]
def jZ{d n:Nat}{v m:Int}{S T:Sr}(hn:n<S.length)(a:0<m)(hm:m.natAbs<2^64):G (d+1) 26 [.ref n,.int m] (pk S n v++T)=.ok (.int (v.fmod m)) (pk S n (v.fdiv m)++T):=by
 rw[zk hn,zk hn];exact zN (by rw[wV];lia) a hm
def qdp{d:Nat}{t b:Int}{S:Sr}(hb:1<=b)(a:b<2^250):G (d+1) 27 [.int t,.int b] S=.ok (nmD (lw t b)) S:=by
 have j:=zw (t:=t) hb;have l:=qg5 (t:=t) hb;have h:=wl (S:=S) (test:=λρ S=>tst (G d) (.val (.cmp .ne (.v 3) (.k (.int 0)))) ρ S) (body:=λρ S=>exs (G d) NW (.c (.set (.t (.c (.v 2) (.c (.v 3) .n))) (.t (.c (.v 3) (.c (.bin .mod (.v 2) (.v 3)) .n)))) .n) ρ S) (E:=λx y=>[some (.int t),some (.int b),some (.int x),some (.int y)]) (λx y=>rfl) (λx y h=>qI (qL (qf rfl (qf (qD rfl rfl (bmod 00)) rfl)) (by simp[PySem.sizeLine])) rfl yz) 250 NW (t.natAbs:Int) b 00 00 a 02;rw[qgY 250 NW (t.natAbs:Int) b 00 00 a 02,qbB]at h;have f:cmpD .lt (.int b) (.int 0) S=some false:=by simp only[cmpD];rw[wd 00]
 have i:bltD .abs [.int b] S=.ok (.int b) S:=qmm 00;rw[G_at (c:=c_27) rfl];exact qF rfl (qI (qL (qf (qv rfl qdn) (qf (qv rfl i) rfl)) (by simp[PySem.sizeLine])) (ρ1:=[some (.int t),some (.int b),some (.int (t.natAbs:Int)),some (.int b)]) rfl (qeg h (x_no (t_of (qO rfl rfl f)) (qC (qL (qf (qD rfl rfl (bdivB 00 00)) (qf (qD rfl rfl (bdivB 00 00)) rfl)) (by simp[PySem.sizeLine]))))))
structure NS (p:Int×Int):Prop where
 t:p.1.natAbs<2^64
 b1:1<=p.2
 b2:p.2<2^64
noncomputable def byn(p q:Int×Int):Int×Int:=lw (p.1*q.1) (p.2*q.2)
def yg{a b:Int}(ha:1<=a)(hb:1<=b):1<=a*b:=by
 have:=uY ha hb 02 00;simpa using this
def qha{d:Nat}{p q:Int×Int}{S:Sr}(b:1<=p.2)(a:NS q)(hb:p.2*q.2<2^250):G (d+2) 30 [nmD p,nmD q] S=.ok (nmD (adn p q)) S:=by
 rw[G_at (c:=c_30) rfl];have h:=a.t;have f:=a.b1;have i:=a.b2;exact qF rfl (qC (qj (qf (qD (S1:=S) (qD (S1:=S) (qr (S1:=S) rfl rfl rfl) (qr (S1:=S) rfl rfl rfl) (bmul (zv 00))) (qD (S1:=S) (qr (S1:=S) rfl rfl rfl) (qr (S1:=S) rfl rfl rfl) (bmul (jd 00))) badd) (qf (qD (S1:=S) (qr (S1:=S) rfl rfl rfl) (qr (S1:=S) rfl rfl rfl) (bmul (zv 00))) rfl)) (qdp (yg b f) hb)))
def e_by{d:Nat}{p q:Int×Int}{S:Sr}(b:1<=p.2)(a:NS q)(hb:p.2*q.2<2^250):G (d+2) 31 [nmD p,nmD q] S=.ok (nmD (byn p q)) S:=by
 rw[G_at (c:=c_31) rfl];have h:=a.t;have f:=a.b1;have i:=a.b2;exact qF rfl (qC (qj (qf (qD (S1:=S) (qr (S1:=S) rfl rfl rfl) (qr (S1:=S) rfl rfl rfl) (bmul (zv 00))) (qf (qD (S1:=S) (qr (S1:=S) rfl rfl rfl) (qr (S1:=S) rfl rfl rfl) (bmul (zv 00))) rfl)) (qdp (yg b f) hb)))
def qdq{a b s:Int}(c:1<=s):adn (lw a s) (lw b s)=lw (a+b) s:=by
 have f:=q9 (t:=a) c;have h:=q9 (t:=b) c;have e1:=zM (t:=a) c;have j:=zM (t:=b) c;have l:=zM (t:=a+b) c;unfold adn;have d:1<=(lw a s).2*(lw b s).2:=yg f.pos h.pos;refine zJ (q9 d) (q9 c) ?_;have m:=zM (t:=(lw a s).1*(lw b s).2+(lw b s).1*(lw a s).2) d;generalize lw ((lw a s).1*(lw b s).2+(lw b s).1*(lw a s).2) ((lw a s).2*(lw b s).2)=A at *;generalize lw (a+b) s=B at *;have i:0<(lw a s).2*(lw b s).2*s:=ui 00 00;generalize lw a s=P at *;generalize lw b s=Q at *;have:(A.1*B.2)*(P.2*Q.2*s)=(B.1*A.2)*(P.2*Q.2*s):=by grind
 exact ws 00 this
def qa5{s:Int}(a:1<=s):lw 0 s=(0,1):=by
 refine zJ (q9 a) ⟨by decide,by decide⟩ ?_;have:=zM (t:=0) a;have e:(lw 0 s).1=0:=by
  rw[Int.zero_mul]at this;rcases Int.mul_eq_zero.mp this with z|z
  .exact z
  .lia
 rw[e];simp
def jk{m s:Int}(a:1<=s):lw (m*s) s=(m,1):=by
 refine zJ (q9 a) ⟨by simp,by simp⟩ ?_;have:=zM (t:=m*s) a;have b:((lw (m*s) s).1*1)*s=(m*(lw (m*s) s).2)*s:=by grind
 exact ws 00 b
def qhb{s:Int}(a:1<=s):∀(n:Nat) (xs:List Int),xs.length=n->totN (xs.map (lw · s))=lw xs.sum s:=by
 intro n;induction n with
 |zero =>
  intro xs h;have:xs=[]:=wt.mp h;subst this;exact(qa5 a).symm
 |succ n b =>
  intro xs h;rcases List.eq_nil_or_concat xs with rfl|⟨ys,y,rfl⟩
  .simp at h
  .rw [List.concat_eq_append]at h ⊢
   rw[v5,List.map_singleton,jC,b ys (by simpa using h),qdq a];simp
structure AmOk (B:Int) (t:Tie) (ps:List (Int×Int)):Prop where
 ex:∃(xs:List Int) (s:Int),1<=s/\s<=B/\xs.length=t.1.length/\xs.sum=t.2*s/\(∀x∈xs,0<=x/\x<=1000000*s)/\ps=xs.map (lw · s)
def qhc{t b:Int}(hb:1<=b):(lw t b).1.natAbs<=t.natAbs:=by
 obtain⟨a,_⟩:=yA (t:=t) hb;have c:=zw (t:=t) hb;have:((lw t b).1*(Int.gcd t b:Int)).natAbs=t.natAbs:=by rw[a]
 rw[Int.natAbs_mul]at this;rw[<-this];exact Nat.le_mul_of_pos_right _ 00
def qmq{t b:Int}(a:0<=t)(hb:1<=b):0<=(lw t b).1:=by
 obtain⟨c,_⟩:=yA (t:=t) hb;have d:=zw (t:=t) hb;rcases xa (lw t b).1 0 with z|z
 .have:=Int.mul_neg_of_neg_of_pos z (show(0:Int)<(Int.gcd t b:Int) by lia)
  lia
 .exact z
def zy:∀ps:List (Int×Int),refsLts 0 (ps.map nmD)=true
 |[]=>rfl
 |a::r=>by rw[wU,refsLts,zy r];rfl
def qkS{p:Int×Int}(h:NB p):nsm (nmD p)=true:=by
 show(decide (p.1.natAbs<2^45)&&decide (p.2<2^30))=true;rw[wq h.t,wq h.b2];rfl
def qjo{B:Int}(l:B<=1000000){t:Tie}{ps:List (Int×Int)}(h:AmOk B t ps):∀p∈ps,NB p:=by
 obtain⟨xs,s,c,m,_,_,d,rfl⟩:=h.ex;intro p f;obtain⟨x,i,rfl⟩:=wW.mp f;have j:=d x i;have a:=qhc (t:=x) c;have b:=yB (t:=x) c;refine⟨?_,(q9 c).pos,by lia⟩;have:x.natAbs<2^45:=by lia
 lia
def qiJ{B:Int}{t:Tie}{ps:List (Int×Int)}(h:AmOk B t ps):ltB t (.t (ps.map nmD))=true:=by
 obtain⟨xs,s,a,l,c,d,f,rfl⟩:=h.ex;show(decide (((xs.map (lw · s)).map nmD).length=t.1.length)&&(((xs.map (lw · s)).map nmD).all amB&&decide (totN (((xs.map (lw · s)).map nmD).map toP)=(t.2,1))))=true;rw[qek,qhb a _ xs rfl,d,jk a];have e1:decide (((xs.map (lw · s)).map nmD).length=t.1.length)=true:=wq (by simpa using c);have i:((xs.map (lw · s)).map nmD).all amB=true:=by
  rw[xD,xD,we];intro x j;have b:=q9 (t:=x) a;show((decide (1<=(lw x s).2)&&decide (Int.gcd (lw x s).1 (lw x s).2=1))&&decide (0<=(lw x s).1))=true;rw[wq b.pos,wq b.one,wq (qmq (f x j).1 a)];rfl
 rw[e1,i];simp
noncomputable def lyD(l:List (List (Int×Int))):List D:=l.map λps=>.t (ps.map nmD)
def LyOk(B:Int)(ts:List Tie)(l:List (List (Int×Int))):Prop:=l.length=ts.length/\∀p∈ts.zip l,AmOk B p.1 p.2
def j0(l:List (List (Int×Int))):refsLts 0 (lyD l)=true:=qU λd hd=>by
 obtain⟨ps,_,rfl⟩:=wW.mp hd;exact zy ps
def qkT{B:Int}{ts:List Tie}{l:List (List (Int×Int))}(h:LyOk B ts l){ps:List (Int×Int)}(b:ps∈l):∃t∈ts,AmOk B t ps:=by
 obtain⟨i,hi,e⟩:=vS b;have a:i<ts.length:=by rw[<-h.1];exact hi
 have:(ts[i],l[i])∈ts.zip l:=by
  apply wc (i:=i);rw[vu];exact⟨wD a,wD hi⟩
 have:=h.2 _ this;rw[e]at this;exact⟨_,uo a,this⟩
def qhd{B:Int}(b:B<=1000000){ts:List Tie}{l:List (List (Int×Int))}(h:LyOk B ts l):∀x∈lyD l,tsm x=true:=by
 intro x c;obtain⟨ps,a,rfl⟩:=wW.mp c;obtain⟨t,_,ha⟩:=qkT h a;show(ps.map nmD).all nsm=true;rw[xD,we];exact λp a=>qkS (qjo b ha p a)
def qel{B:Int}{w:Wb}{l:List (List (Int×Int))}(h:LyOk B w.ties l):layB w (.t (lyD l))=true:=by
 show(decide ((lyD l).length=w.ties.length)&&(w.ties.zip (lyD l)).all λp=>ltB p.1 p.2)=true;have e1:decide ((lyD l).length=w.ties.length)=true:=wq (by unfold lyD;rw[wF];exact h.1);rw[e1,ut,we];unfold lyD;rw[vn];intro p a;obtain⟨q,b,rfl⟩:=wW.mp a;exact qiJ (h.2 q b)
def qiK{B:Int}{pre:List Tie}{l:List (List (Int×Int))}(h:LyOk B pre l){t:Tie}{ps:List (Int×Int)}(ha:AmOk B t ps):LyOk B (pre++[t]) (l++[ps]):=by
 refine⟨by simp[h.1],?_⟩;rw[List.zip_append h.1.symm];intro p a;rcases w9.mp a with z|z
 .exact h.2 p z
 .simp at z;subst z;exact ha
def qav{f:Type}{g:f->D}{F:Fs}{fr:List Nat}{nt:Nat}{elt:CE}{tg:CT}{e:CE}{ifs:CBs}{ρ:En}{S S1:Sr}{n:Nat}(xs:List f)(b:f->Bool)(v:f->D)(R:En->Prop)(i:ev F e ρ S=.ok (.ref n) S1)(hn:S1[n]?=some (.l (xs.map g)))(j:R (frE ρ fr nt))(l:xs.length<=PySem.sizeLine)(H:∀d∈xs,∀(ρ:En) (m:List D),R ρ->∃ρ1,asg F tg (g d) ρ (S1++[.l m])=.ok ρ1 (S1++[.l m])/\R ρ1/\tsts F ifs ρ1 (S1++[.l m])=.ok (b d) (S1++[.l m])/\(b d=true->ev F elt ρ1 (S1++[.l m])=.ok (v d) (S1++[.l m])/\refsLt 0 (v d)=true)):
  ev F (.lcR false fr nt elt tg e ifs) ρ S=.ok (.l ((xs.filter b).map v)) S1:=by
 have h:n<S1.length:=(wO.mp hn).1;have c:∀X:Sr,own n (xs.map g) (S1++X):=λX=>by unfold own;rw[wQ h];exact hn
 obtain⟨o,e1⟩:=jb (n:=S1.length) (bind:=λd ρ S=>grd (own n (xs.map g)) S (asg F tg d ρ S)) (test:=λρ S=>tsts F ifs ρ S) (elt:=λρ S=>ev F elt ρ S) R rfl xs [] _ (by simpa using l) j (λd hd ρ m p=>by
  obtain⟨ρ1,a,b⟩:=H d hd ρ m p;exact⟨ρ1,by rw[zh (c _)];exact a,b⟩)
 have q:refL (.ref n) S1=some (n,xs.map g):=by simp only[refL,hn]
 simp only[ev,i,Res.bind,q,e1,zh (c _),lcEnd];simp
def qbE{S:Sr}{j:Nat}{l:List D}{i:Int}{k:Nat}{v:D}(h:S[j]?=some (.l l))(hi:L2.ixN l.length i=some k)(a:refsLt 0 v=true):putE S (.ref j) (.int i) v=some (S.set j (.l (l.set k v))):=by
 unfold putE;rw[wR a];simp only[putN,h,hi,wg]
def qhe{F:Fs}{ρ:En}{S S1 S2:Sr}{o:BOp}{e1 a:CE}{d1 d2:D}{r:Res D}(h:ev F e1 ρ S=.ok d1 S1)(b:ev F a ρ S1=.ok d2 S2)(c:R.binM o d1 d2 S2=r):ev F (.binM o e1 a) ρ S=r:=by
 simp only[ev,h,b,Res.bind,c]
def repD(x:D)(m:Nat):rep [x] (m:Int)=List.replicate m x:=by
 unfold rep;have:((m:Int)).toNat=m:=by lia
 rw[this];induction m with
 |zero=>rfl
 |succ k a=>rw[vL,uA,a 00,vL];rfl
def qcI{x:D}{m:Nat}{S:Sr}(a:refsLt 0 x=true)(hm:m<=100):R.binM .mul (.l [x]) (.int m) S=.ok (.ref S.length) (S++[.l (List.replicate m x)]):=by
 have b:repOk [x] (m:Int)=true:=by
  unfold repOk PySem.sizeLine;rw[wm];refine⟨by lia,by lia,?_⟩;simp;lia
 have c:refsLts 0 (List.replicate m x)=true:=qU λd hd=>by rw[uL]at hd;rw[hd.2];exact a
 simp only[R.binM,lstOf];rw[wR b,repD];simp only[newL,c,v6]
def qhf{F:Fs}{N:Nat}{ρ:En}{S S1:Sr}{r a b:CSs}{c:CB}{Q:Fl->Sr->Prop}(h:tst F c ρ S=.ok true S1)(d:Ok (exs F N a ρ S1) λf S2=>match f with|.nx ρ1=>Ok (exs F N r ρ1 S2) Q|f=>Q f S2):Ok (exs F N (.c (.ifs c a b) r) ρ S) Q:=o_if (Ok.of h d)
def zO{F:Fs}{N:Nat}{ρ:En}{S S1:Sr}{r a:CSs}{c:CB}{Q:Fl->Sr->Prop}(h:tst F c ρ S=.ok false S1)(b:Ok (exs F N r ρ S1) Q):Ok (exs F N (.c (.ifs c a .nil) r) ρ S) Q:=o_no (Ok.of h ⟨rfl,b⟩)
def qiL{f:Type}{g:f->D}{F:Fs}{fr:List Nat}{nt:Nat}{elt:CE}{tg:CT}{it:CI}{ρ:En}{S S1:Sr}{ds:List D}(xs:List f)(R:En->Prop)(I:List D->Sr->Prop)(h:evI F it ρ S=.ok ds S1)(hd:ds=xs.map g)(i:R (frE ρ fr nt))(j:xs.length<=1000)(hi:I [] S1)(H:∀d∈xs,∀(ρ:En) (m:List D) (S:Sr),R ρ->I m S->S.length=S1.length->m.length<xs.length->∃ρ1 v b,asg F tg (g d) ρ (S++[.l m])=.ok ρ1 (S++[.l m])/\R ρ1/\ev F elt ρ1 (S++[.l m])=.ok v (b++[.l m])/\b.length=S1.length/\refsLt 0 v=true/\I (m++[v]) b):
  ∃a b,ev F (.lc true fr nt elt tg it .nil) ρ S=.ok (.ref S1.length) (b++[.l a])/\I a b/\b.length=S1.length/\a.length=xs.length:=by
 obtain⟨l,c,b,e,o,p,q⟩:=qdc (n:=S1.length) (bind:=λd ρ S=>asg F tg d ρ S) (test:=λρ S=>tsts F .nil ρ S) (elt:=λρ S=>ev F elt ρ S) R I (λ_ _=>by simp[tsts]) xs [] _ S1 (by simpa using j) i hi rfl (by simpa using H);refine⟨c,b,?_,o,p,by simpa using q⟩;simp only[ev,h,Res.bind,hd,e,lcEnd,v6]
def jl:∀{l:List Int},(∀x∈l,0<=x)->∀{y:Int},y∈l->y<=l.sum
 |[],_,_,h=>by simp at h
 |a::r,h,y,hy=>by
  have c:=qgV λx b=>h x (wL _ b)
  have d:=h a wH;rw[vO];rcases wX.mp hy with z|z
  .subst z;lia
  .have:=jl (λx b=>h x (wL _ b)) z;lia
def qem:∀{l:List Int},(∀x∈l,x<=3)->l.sum<=3*(l.length:Int)
 |[],_=>by simp
 |a::r,h=>by
  have c:=qem λx b=>h x (wL _ b)
  have d:=h a wH;rw[vO,wj];lia
def qcJ(k:Int):∀l:List Int,(l.map (k*·)).sum=k*l.sum
 |[]=>by simp
 |a::r=>by rw[wU,vO,vO,qcJ k r,Int.mul_add]
structure ShOk (n:Nat) (ss:List Int):Prop where
 len:ss.length=n
 rng:∀s∈ss,0<=s/\s<=3
 pos:∃s∈ss,1<=s
def qmr{t:Tie}{ss:List Int}(h:ShOk t.1.length ss)(l:t.1.length<=4)(m:1<=t.2)(f:t.2<=1000000):1<=ss.sum/\ss.sum<=12/\AmOk 12 t (ss.map λs=>lw (t.2*s) ss.sum):=by
 obtain⟨n,b,i⟩:=h.pos;have o:=jl (λx a=>(h.rng x a).1) b;have p:=qem (λx a=>(h.rng x a).2);have j:=h.len;have c:ss.sum<=12:=by lia
 refine⟨by lia,c,⟨ss.map (t.2*·),ss.sum,by lia,c,by rw[wF];exact j,qcJ _ _,?_,by rw[wJ];rfl⟩⟩;intro x a;obtain⟨s,d,rfl⟩:=wW.mp a;have b1:=h.rng s d;have b2:=jl (λx a=>(h.rng x a).1) d;refine⟨Int.mul_nonneg 00 b1.1,?_⟩;exact uY f b2 b1.1 00
section
variable{S:Sr}{n:Nat}
theorem qaw(u:Int)(Y:Sr)(o:SO):(pk S n u++(Y++[o]))[S.length+Y.length]?=some o:=by
 rw[wI (by rw[qo];lia),qo];simp
theorem qen(u:Int)(Y:Sr)(o o':SO):(pk S n u++(Y++[o])).set (S.length+Y.length) o'=pk S n u++(Y++[o']):=by
 rw[vD _ _ (by rw[qo];lia),qo];simp
theorem qbF(u:Int)(Y:Sr):(pk S n u++Y)[S.length]?=Y[0]?:=by
 rw[wI (by rw[qo];lia),qo];simp
theorem jm(u:Int)(Y:Sr):(pk S n u++Y).length=S.length+Y.length:=by rw[wV,qo]
end
noncomputable abbrev yE(n:Nat)(w:Wb)(k:Nat)(a b c e:Option D):En:=[some (.ref n),some (webD w),some (.ref k),a,b,c,e]
def qiM{T:Sr}{j:Nat}{l:List Int}{i:Int}{k:Nat}{x:Int}(h:T[j]?=some (.l (l.map .int)))(hi:L2.ixN l.length i=some k)(a:l[k]?=some x):idxD T (.ref j) (.int i)=some (.int x):=by
 simp only[idxD,seqOf,lstOf,h,wY,L2.atI,wF,hi];rw[w5,a];rfl
def qiN{n:Nat}(h:1<=n):L2.ixN n (-1)=some (n-1):=by
 unfold L2.ixN;rw[wT 02];have e:(-1+(n:Int))=((n-1:Nat):Int):=by lia
 simp only[e];rw[wR 00];simp
def qff{d n:Nat}{v:Int}{S:Sr}{w:Wb}(hw:WbOk w)(hn:n<S.length)(hv:0<=v):Ok (G (d+2) 32 [.ref n,webD w] (pk S n v)) λy T=>∃l u,LyOk 12 w.ties l/\0<=u/\y=.t (lyD l)/\T=pk S n u:=by
 rw[G_at (c:=c_32) rfl];refine jU (f:=c_32) rfl rfl ?_;refine qW (Ok.of (a:=.ref S.length) (S:=pk S n v++[.l []]) (by have:=qdb (F:=G (d+1)) (ρ:=[some (.ref n),some (webD w),none,none,none,none,none]) (S:=pk S n v) (S1:=pk S n v) (es:=.nil) (l:=[]) rfl 02 rfl;rw[qo]at this;exact this) (Ok.of (a:=yE n w S.length none none none none) rfl ?_));refine qcw (g:=tieD) (λpre ρ T=>∃a b c e l u X,ρ=yE n w S.length a b c e/\LyOk 12 pre l/\0<=u/\T=pk S n u++(.l (lyD l)::X)) w.ties (Ok.of (a:=w.ties.map tieD) (S:=pk S n v++[.l []]) rfl ⟨rfl,_,_,_,_,[],v,[],rfl,⟨rfl,by simp⟩,hv,rfl⟩) ?_ ?_
 .rintro pre t ab ρ T H ⟨a0,b0,c0,e0,l,u,X,rfl,Z,N,rfl⟩
  have O:=hw.t2 t (by rw[H];simp);have a1:1<=t.1.length:=by
   cases hc:t.1 with
   |nil=>exact absurd hc O.1.ne
   |cons a r=>simp
  have ac:l.length<=100:=by
   have:=congrArg List.length H;have:=hw.t1;have:=Z.1;rw[wV,wj]at *;lia
  refine Ok.of (a:=yE n w S.length (some (tupI t.1)) (some (.int t.2)) c0 e0) rfl ?_;generalize hY:(SO.l (lyD l)::X)=Y;have a2:Y[0]?=some (.l (lyD l)):=by rw[<-hY];rfl
  have fin:∀(p:Int) (A:Sr) (j:Nat) (ss:List Int) (c1:Option D),0<=p->A[0]?=some (.l (lyD l))->(pk S n p++A)[j]?=some (.l (ss.map .int))->ShOk t.1.length ss ->
    Ok (exs (G (d+1)) NW (.c (.expr (.app (.v 2) (.blt .tuple (.c (.lcR false [4,6] 1 (.call 27 (.c (.bin .mul (.v 0) (.v 2)) (.c (.blt .sum (.c (.v 1) .n)) .n))) (.v 2) (.v 6) .n) .n)))) .n) (yE n w S.length (some (tupI t.1)) (some (.int t.2)) c1 (some (.ref j))) (pk S n p++A)) λf S2=>match f with
     | .nx a3=>∃a b c e l u X,a3=yE n w S.length a b c e/\LyOk 12 (pre++[t]) l/\0<=u/\S2=pk S n u++(.l (lyD l)::X)
     |_=>False:=by
   intro p A j ss c1 a4 K hj i;obtain⟨b1,b2,hA⟩:=qmr i O.2.1 O.2.2.1 O.2.2.2;have el:=qav (g:=.int) (F:=G (d+1)) (fr:=[4,6]) (nt:=1) (elt:=.call 27 (.c (.bin .mul (.v 0) (.v 2)) (.c (.blt .sum (.c (.v 1) .n)) .n))) (tg:=.v 2) (e:=.v 6) (ifs:=.nil) (ρ:=yE n w S.length (some (tupI t.1)) (some (.int t.2)) c1 (some (.ref j))) (S:=pk S n p++A) (S1:=pk S n p++A) (n:=j) ss (λ_=>true) (λs=>nmD (lw (t.2*s) ss.sum)) (λρ=>∃y,ρ=[some (.int t.2),some (.ref j),y]) rfl hj ⟨_,rfl⟩ (by rw[i.len];unfold PySem.sizeLine;lia) (by
    rintro s I ρ m ⟨y,rfl⟩;have a5:j<(pk S n p++A).length:=(wO.mp hj).1;have a6:(pk S n p++A++[SO.l m])[j]?=some (.l (ss.map .int)):=by rw[wQ a5];exact hj
    have P:bltD .sum [.ref j] (pk S n p++A++[SO.l m])=.ok (.int ss.sum) (pk S n p++A++[SO.l m]):=by
     simp only[bltD,one,bSum,seqOf,lstOf,a6,wY,qN,wg,ofO]
    exact⟨_,rfl,⟨_,rfl⟩,rfl,λ_=>⟨qj (qf (qD rfl rfl (bmul (jd (by have:=O.2.2;lia)))) (qf (qv rfl P) rfl)) (qdp b1 00),rfl⟩⟩)
   rw[qA]at el;refine qgX (qjn (Ok.of (a:=.ref S.length) (S:=pk S n p++A) rfl ⟨S.length,lyD l,rfl,by rw[qbF];exact K,Ok.of (a:=.t ((ss.map λs=>lw (t.2*s) ss.sum).map nmD)) (S:=pk S n p++A) (qv (qf el rfl) (by rw[wJ];rfl)) ⟨by rw[qbF];exact K,by unfold lyD;rw[wF];lia,(show refsLt 0 (.t ((ss.map λs=>lw (t.2*s) ss.sum).map nmD))=true from zy _),?_⟩⟩));cases A with
   |nil=>simp at K
   |cons y0 Y1 =>
    refine qau ⟨_,_,_,_,l++[ss.map λs=>lw (t.2*s) ss.sum],p,Y1,rfl,qiK Z hA,a4,?_⟩;rw[vD _ _ (by rw[qo];lia),qo];simp[lyD]
  have f3:=fm (v:=u) (m:=3) 02;have et:=jZ (d:=d) (n:=n) (v:=u) (m:=3) (S:=S) (T:=Y) hn 02 02;have E:0<=u.fdiv 3:=vH N 02;refine qW (Ok.of (qj rfl et) (Ok.of (a:=yE n w S.length (some (tupI t.1)) (some (.int t.2)) (some (.int (u.fmod 3))) e0) rfl ?_));have eb:∀(x:Int) (u:Int) (Y:Sr) (c e:Option D),ev (G (d+1)) (.binM .mul (.l false (.c (.k (.int x)) .n)) (.blt .len (.c (.v 3) .n))) (yE n w S.length (some (tupI t.1)) (some (.int t.2)) c e) (pk S n u++Y)=.ok (.ref (S.length+Y.length)) (pk S n u++(Y++[.l ((List.replicate t.1.length x).map .int)])):=by
   intro x u Y c e;refine qhe (d1:=.l [.int x]) (S1:=pk S n u++Y) (qcr rfl (by simp)) (qv rfl (zE _ _)) ?_;rw[qcI rfl 00,jm,xC,wf]
  refine qW (Ok.of (eb 1 _ Y _ _) (Ok.of (a:=yE n w S.length (some (tupI t.1)) (some (.int t.2)) (some (.int (u.fmod 3))) (some (.ref (S.length+Y.length)))) rfl ?_));have L:∀(Y:Sr) (o:SO),Y[0]?=some (.l (lyD l))->(Y++[o])[0]?=some (.l (lyD l)):=λY o h=>by
   rw[wQ (wO.mp h).1];exact h
  have B:∀(r k:Int) (T:Sr),cmpD .eq (.int r) (.int k) T=some (r == k):=λ_ _ _=>rfl
  have C:=L Y (.l ((List.replicate t.1.length (1:Int)).map .int)) a2;by_cases z0:u.fmod 3=0
  .
   rw[z0];refine qhf (t_of (qO rfl rfl (B 0 0 _))) ?_;refine qW (Ok.of (eb 0 _ _ _ _) (Ok.of (a:=yE n w S.length (some (tupI t.1)) (some (.int t.2)) (some (.int 0)) (some (.ref (S.length+(Y++[SO.l ((List.replicate t.1.length (1:Int)).map .int)]).length)))) rfl ?_));generalize Y++[SO.l ((List.replicate t.1.length (1:Int)).map .int)]=Y2 at C ⊢;have fl:=fm (v:=u.fdiv 3) (m:=t.1.length) 00;have Q:=jZ (d:=d) (n:=n) (v:=u.fdiv 3) (m:=t.1.length) (S:=S) (T:=Y2++[.l ((List.replicate t.1.length (0:Int)).map .int)]) hn 00 00;obtain⟨r,hr⟩:∃r:Nat,(u.fdiv 3).fmod t.1.length=r:=⟨((u.fdiv 3).fmod t.1.length).toNat,by lia⟩;rw[hr]at Q;have a7:L2.ixN ((List.replicate t.1.length (0:Int)).map D.int).length (r:Int)=some r:=by
    unfold L2.ixN;rw[wR 00,wF,uP,wR 00];rfl
   refine qW (Ok.of (a:=.int 1) (S:=pk S n (u.fdiv 3)++(Y2++[.l ((List.replicate t.1.length (0:Int)).map .int)])) rfl (Ok.of (qcG rfl (qj (qf rfl (qf (qv rfl (zE _ _)) rfl)) Q) (qbE (qaw _ _ _) a7 rfl)) ?_));rw[qen,<-x6];refine qau ?_;refine zO (t_of (qO rfl rfl (B 0 2 _))) ?_;refine fin _ _ _ _ _ (vH E 00) (L _ _ C) (qaw _ _ _) ⟨by simp,?_,?_⟩
   .intro s I
    rcases xF I with z|z
    .rw [uL]at z;lia
    .lia
   .exact ⟨1,List.mem_set (by simp;lia) 1,by decide⟩
  .have a8:(u.fmod 3 == 0)=false:=vB.mpr z0
   refine zO (S1:=pk S n (u.fdiv 3)++(Y++[.l ((List.replicate t.1.length (1:Int)).map .int)])) (t_of (qO rfl rfl (by rw[B,a8]))) ?_;by_cases z2:u.fmod 3=2
   .
    rw[z2];refine qhf (t_of (qO rfl rfl (B 2 2 _))) ?_;generalize Y++[SO.l ((List.replicate t.1.length (1:Int)).map .int)]=Y2 at C ⊢;generalize u.fdiv 3=u1 at E ⊢;obtain⟨J,S',e,⟨ss,u2,rfl,rfl,a9,i⟩,_,M⟩:=qiL (g:=.int) (F:=G (d+1)) (fr:=[0]) (nt:=1) (elt:=.call 26 (.c (.v 0) (.c (.k (.int 3)) .n))) (tg:=.v 1) (it:=.seq (.v 3)) (ρ:=yE n w S.length (some (tupI t.1)) (some (.int t.2)) (some (.int 2)) (some (.ref (S.length+Y.length)))) (S:=pk S n u1++Y2) (S1:=pk S n u1++Y2) (ds:=t.1.map .int) t.1 (λρ=>∃y,ρ=[some (.ref n),y])
     (λJ T=>∃ss u,J=ss.map .int/\T=pk S n u++Y2/\0<=u/\∀s∈ss,(0:Int)<=s/\s<=2) rfl rfl ⟨_,rfl⟩ 00 ⟨[],u1,rfl,rfl,E,by simp⟩ (by
      rintro q hq ρ m T ⟨y,rfl⟩ ⟨ss,u,rfl,rfl,N,i⟩ _ _;have ek:=jZ (d:=d) (n:=n) (v:=u) (m:=3) (S:=S) (T:=Y2++[.l (ss.map .int)]) hn 02 02;rw[<-wf,<-wf]at ek;have f:=fm (v:=u) (m:=3) 02;refine⟨_,.int (u.fmod 3),pk S n (u.fdiv 3)++Y2,rfl,⟨_,rfl⟩,qj rfl ek,by rw[jm,jm],rfl,ss++[u.fmod 3],_,by simp,rfl,vH N 02,?_⟩;intro s I;rcases w9.mp I with z|z
      .exact i s z
      .simp at z;lia)
    rw[wF]at M;rw[jm,wf]at e;refine qW (Ok.of e (Ok.of (a:=yE n w S.length (some (tupI t.1)) (some (.int t.2)) (some (.int 2)) (some (.ref (S.length+Y2.length)))) rfl ?_));obtain⟨x,hx⟩:∃x,ss[t.1.length-1]?=some x:=⟨_,wD 00⟩;have ad:=i x (wc hx);have U:L2.ixN ss.length (-1)=some (t.1.length-1):=by rw[M];exact qiN a1
    have W:=qaw (S:=S) (n:=n) u2 Y2 (.l (ss.map .int));refine qW (Ok.of (a:=.int (1+x)) (S:=pk S n u2++(Y2++[.l (ss.map .int)])) (qD rfl (qr rfl rfl (qiM W U hx)) badd) (Ok.of (qcG rfl rfl (qbE W (by rw[wF];exact U) rfl)) ?_));rw[qen,<-x6];refine qau (fin _ _ _ _ _ a9 (L _ _ C) (qaw _ _ _) ⟨by simpa using M,?_,?_⟩)
    .intro s I
     rcases xF I with z|z
     .have:=i s z;lia
     .lia
    .exact ⟨1+x,List.mem_set 00 _,by lia⟩
   .have aa:(u.fmod 3 == 2)=false:=vB.mpr z2
    refine zO (S1:=pk S n (u.fdiv 3)++(Y++[.l ((List.replicate t.1.length (1:Int)).map .int)])) (t_of (qO rfl rfl (by rw[B,aa]))) ?_;refine fin _ _ _ _ _ E C (qaw _ _ _) ⟨by simp,?_,?_⟩
    .intro s I
     rw[uL]at I;lia
    .exact ⟨1,by rw[uL];lia,by decide⟩
 .rintro ρ T ⟨a0,b0,c0,e0,l,u,X,rfl,Z,N,rfl⟩
  refine qcv (Ok.of (a:=.t (lyD l)) (S:=pk S n u++(.l (lyD l)::X)) (qv rfl ?_) ⟨by rw[qo,jm];lia,(show refsLt _ (.t (lyD l))=true from qR _ (j0 l)),l,u,Z,N,rfl,?_⟩)
  .have:(pk S n u++(SO.l (lyD l)::X))[S.length]?=some (.l (lyD l)):=by rw[qbF];rfl
   simp only[bltD,one,bTuple,seqOf,lstOf,this,wg,ofO]
  .have:(pk S n v).length=(pk S n u).length:=by rw[qo,qo]
   rw[this,List.take_left'];rfl
noncomputable abbrev Am:=Int×Int
noncomputable def addP(ls:List (List Am))(q:Int×Am):List (List Am):=ls.set q.1.toNat (ls.getD q.1.toNat []++[q.2])
noncomputable def addT(ls:List (List Am))(x:Tie×List Am):List (List Am):=(x.1.1.zip x.2).foldl addP ls
noncomputable def layP(m:Nat)(a:List (Tie×List Am)):List (List Am):=a.foldl addT (List.replicate m [])
def qax(ls:List (List Am))(q:Int×Am):(addP ls q).length=ls.length:=by simp[addP]
def yM:∀(qs:List (Int×Am)) (ls:List (List Am)),(qs.foldl addP ls).length=ls.length
 |[],_=>rfl
 |q::r,ls=>by rw[ua,yM r,qax]
def qa6:∀(a:List (Tie×List Am)) (ls:List (List Am)),(a.foldl addT ls).length=ls.length
 |[],_=>rfl
 |z::r,ls=>by rw[ua,qa6 r];exact yM _ _
def qhg{ls:List (List Am)}{q:Int×Am}{i:Nat}(h:i<ls.length):(addP ls q).getD i []=ls.getD i []++if q.1.toNat=i then[q.2]else[]:=by
 unfold addP;rw[wK,xJ];by_cases e:q.1.toNat=i
 .subst e;rw[wR rfl,wR h,wR rfl];rfl
 .rw [wT e,wT e,vf,wK]
def jD{i:Nat}:∀(qs:List (Int×Am)) (ls:List (List Am)),i<ls.length->(qs.foldl addP ls).getD i []=ls.getD i []++(qs.filter λq=>decide (q.1.toNat=i)).map (·.2)
 |[],_,_=>by simp
 |q::r,ls,h=>by
  rw[ua,jD r _ (by rw[qax];exact h),qhg h,wf];congr 1;by_cases e:q.1.toNat=i
  .rw [xQ (by simpa using e),wR e];rfl
  .rw [xR (by simpa using e),wT e];rfl
def filt1{i:Nat}:∀{qs:List (Int×Am)},(qs.map (·.1)).Nodup->(∀q∈qs,0<=q.1)->(qs.filter λq=>decide (q.1.toNat=i)).length<=1
 |[],_,_=>by simp
 |q::r,nd,h=>by
  rw[wU,wh]at nd;by_cases e:q.1.toNat=i
  .have:(r.filter λq=>decide (q.1.toNat=i))=[]:=by
    rw[List.filter_eq_nil_iff];intro p a z;have b:p.1.toNat=i:=by simpa using z
    have c:=h q wH;have d:=h p (wL _ a);exact nd.1 (wW.mpr ⟨p,a,by lia⟩)
   rw[xQ (by simpa using e),this];simp
  .rw [xR (by simpa using e)]
   exact filt1 nd.2 λp a=>h p (wL _ a)
structure Good (e k m:Nat) (ls:List (List Am)):Prop where
 len:ls.length=m
 at':∀i,i<m->(ls.getD i []).length<=k/\∀a∈ls.getD i [],NBe e a
def good0(e m:Nat):Good e 0 m (List.replicate m []):=⟨by simp,λi hi=>by
 have:(List.replicate m ([]:List Am)).getD i []=[]:=by rw[wK,vF];split <;> rfl
 rw[this];simp⟩
def qcK{e k m:Nat}{ls:List (List Am)}(g:Good e k m ls){qs:List (Int×Am)}(nd:(qs.map (·.1)).Nodup)(h:∀q∈qs,0<=q.1/\NBe e q.2):Good e (k+1) m (qs.foldl addP ls):=by
 refine⟨by rw[yM];exact g.len,λi hi=>?_⟩;rw[jD _ _ (by rw[g.len];exact hi)];obtain⟨g1,g2⟩:=g.at' i hi;have c:=filt1 (i:=i) nd λq b=>(h q b).1
 refine⟨by rw[wV,wF];lia,λa ha=>?_⟩;rcases w9.mp ha with z|z
 .exact g2 a z
 .obtain ⟨q,b,rfl⟩:=wW.mp z
  exact(h q (uO.mp b).1).2
structure ZOk (e m:Nat) (z:Tie×List Am):Prop where
 pl:PlOk m z.1.1
 nb:∀a∈z.2,NBe e a
 len:z.2.length=z.1.1.length
def zq{e m:Nat}{z:Tie×List Am}(h:ZOk e m z):((z.1.1.zip z.2).map (·.1)).Nodup/\∀q∈z.1.1.zip z.2,0<=q.1/\q.1<m/\NBe e q.2:=by
 refine⟨?_,λq b=>?_⟩
 .rw [xV (by rw[h.len];exact wN _)]
  exact qat h.pl.up
 .obtain ⟨a,c⟩:=wn b
  exact⟨(h.pl.rng _ a).1,(h.pl.rng _ a).2,h.nb _ c⟩
def qkU{e k m:Nat}{ls:List (List Am)}(g:Good e k m ls){z:Tie×List Am}(h:ZOk e m z):Good e (k+1) m (addT ls z):=qcK g (zq h).1 λq a=>⟨((zq h).2 q a).1,((zq h).2 q a).2.2⟩
def qa7{e m:Nat}:∀(a:List (Tie×List Am)) (k:Nat) (ls:List (List Am)),Good e k m ls->(∀z∈a,ZOk e m z)->Good e (k+a.length) m (a.foldl addT ls)
 |[],_,_,g,_=>g
 |z::r,k,ls,g,h=>by
  have:=qa7 r (k+1) _ (qkU g (h z wH)) λy b=>h y (wL _ b)
  rw[ua,wj,show k+(r.length+1)=k+1+r.length by lia];exact this
def qay{e m:Nat}{a:List (Tie×List Am)}(h:∀z∈a,ZOk e m z):Good e a.length m (layP m a):=by
 have:=qa7 a 0 _ (good0 e m) h;rw[Nat.zero_add]at this;exact this
def qkV{e k m:Nat}{ls:List (List Am)}(g:Good e k m ls){i:Nat}(hi:i<m):1<=(totN (ls.getD i [])).2/\(totN (ls.getD i [])).2<=2^(e*k):=by
 obtain⟨g1,g2⟩:=g.at' i hi;obtain⟨a,b⟩:=qei _ rfl g2;exact⟨a,Int.le_trans b (qdo (Nat.mul_le_mul_left e g1))⟩
noncomputable def lsS(ls:List (List Am)):Sr:=ls.map λxs=>.l (xs.map nmD)
noncomputable def stP(S:Sr)(ls:List (List Am)):Sr:=S++lsS ls++[.l ((List.range ls.length).map λi=>.ref (S.length+i))]
def qdr{S:Sr}{ls:List (List Am)}{i:Nat}(h:i<ls.length):(stP S ls)[S.length+i]?=some (.l ((ls.getD i []).map nmD)):=by
 unfold stP lsS;rw[wQ (by simp;lia),wI 00,w5,show S.length+i-S.length=i by lia,wK,wD h];rfl
def qeo(S:Sr)(ls:List (List Am)):(stP S ls)[S.length+ls.length]?=some (.l ((List.range ls.length).map λi=>.ref (S.length+i))):=by
 unfold stP lsS;rw[wI (by simp)];simp
def qiO{S:Sr}{ls:List (List Am)}{q:Int×Am}(h:q.1.toNat<ls.length):(stP S ls).set (S.length+q.1.toNat) (.l ((ls.getD q.1.toNat []).map nmD++[nmD q.2]))=stP S (addP ls q):=by
 unfold stP lsS;rw[List.set_append_left _ _ (by simp;lia),vD _ _ 00,show S.length+q.1.toNat-S.length=q.1.toNat by lia,qax];congr 2;unfold addP;rw[x6];simp
def qep{n:Nat}{p:Int}(a:0<=p)(b:p<n):L2.ixN n p=some p.toNat:=by unfold L2.ixN;rw[wR a,wR b]
def qkW{F:Fs}{ρ:En}{S:Sr}{ls:List (List Am)}{q:Int×Am}(b:ρ[2]?=some (some (.ref (S.length+ls.length))))(c:ρ[6]?=some (some (.int q.1)))(d:ρ[7]?=some (some (nmD q.2)))(f:0<=q.1)(h:q.1<ls.length)(r:(ls.getD q.1.toNat []).length<=1000):
  ev F (.app (.idx (.v 2) (.v 6)) (.v 7)) ρ (stP S ls)=.ok .non (stP S (addP ls q)):=by
 have hi:q.1.toNat<ls.length:=by lia
 have j:ev F (.v 2) ρ (stP S ls)=.ok (.ref (S.length+ls.length)) (stP S ls):=by simp only[ev,varE,b]
 have l:ev F (.v 6) ρ (stP S ls)=.ok (.int q.1) (stP S ls):=by simp only[ev,varE,c]
 have m:ev F (.v 7) ρ (stP S ls)=.ok (nmD q.2) (stP S ls):=by simp only[ev,varE,d]
 have a:idxD (stP S ls) (.ref (S.length+ls.length)) (.int q.1)=some (.ref (S.length+q.1.toNat)):=by
  have n:L2.ixN ((List.range ls.length).map λi=>D.ref (S.length+i)).length q.1=some q.1.toNat:=by rw[wF,List.length_range];exact qep f h
  simp only[idxD,seqOf,lstOf,qeo,wY,L2.atI,n];rw[w5,uC hi];rfl
 have o:appD (stP S ls) (.ref (S.length+q.1.toNat)) (nmD q.2)=.ok .non (stP S (addP ls q)):=by
  have p:(ls.getD q.1.toNat []).length<PySem.sizeLine:=by unfold PySem.sizeLine;lia
  simp only[appD,qdr hi];rw[wR ⟨by rw[wF];exact p,rfl⟩,qiO hi]
 exact qgR (qr j l a) (by simp only[isLst,qdr hi]) m o
def qds{F:Fs}{ρ:En}{T:Sr}{i j:Nat}{p:List Int}{ps:List Am}(hi:ρ[i]?=some (some (tupI p)))(a:ρ[j]?=some (some (.t (ps.map nmD)))):evI F (.zip (.v i) (.v j)) ρ T=.ok ((p.zip ps).map λq=>.t [.int q.1,nmD q.2]) T:=by
 have e1:ev F (.v i) ρ T=.ok (tupI p) T:=by simp only[ev,varE,hi]
 have b:ev F (.v j) ρ T=.ok (.t (ps.map nmD)) T:=by simp only[ev,varE,a]
 simp only[evI,e1,b,Res.bind,tupI,walkF];rw[uN,wJ];rfl
def qbG{F:Fs}{ρ:En}{T:Sr}{w:Wb}{l:List (List Am)}(hi:ρ[0]?=some (some (webD w)))(a:ρ[1]?=some (some (.t (lyD l)))):evI F (.zip (.idx (.v 0) (.k (.int 1))) (.v 1)) ρ T=.ok ((w.ties.zip l).map λz=>.t [tieD z.1,.t (z.2.map nmD)]) T:=by
 have b:ev F (.v 0) ρ T=.ok (webD w) T:=by simp only[ev,varE,hi]
 have e1:ev F (.idx (.v 0) (.k (.int 1))) ρ T=.ok (.t (w.ties.map tieD)) T:=qr (S1:=T) b rfl rfl;have c:ev F (.v 1) ρ T=.ok (.t (lyD l)) T:=by simp only[ev,varE,a]
 simp only[evI,e1,c,Res.bind,lyD,walkF];rw[uN,wJ];rfl
def qaz{h:Type}{g v:h->D}{gd:Sr->Prop}{bind:D->En->Sr->Res En}{test:En->Sr->Res Bool}{elt:05}(R:En->Prop){S:Sr}(b:gd S):∀(ds:List h) (a:List D) (ρ:En),a.length+ds.length<=1000->R ρ ->
  (∀d∈ds,∀ρ,R ρ->∃ρ1,bind (g d) ρ S=.ok ρ1 S/\R ρ1/\test ρ1 S=.ok true S/\elt ρ1 S=.ok (v d) S)->genLoopG gd bind test elt (stepG .tuple) (finG .tuple) (ds.map g) ρ (.t a) S=.ok (.t (a++ds.map v)) S
 |[],a,ρ,_,_,_=>by rw[u5,u5,vf];exact zh b _
 |d::r,a,ρ,hl,hR,H=>by
  obtain⟨ρ1,e1,c,i,j⟩:=H d wH ρ hR;rw[wj]at hl;have f:a.length<PySem.sizeLine:=by unfold PySem.sizeLine;lia
  rw[wU];unfold genLoopG;rw[zh b,e1,Res.bind_ok,i,Res.bind_ok,wR rfl,j,Res.bind_ok];simp only[stepG,wR f];have l:=qaz R b r (a++[v d]) ρ1 (by rw[wV,vo];lia) c λy m=>H y (wL _ m)
  rw[l];simp
def qiP{a:Type}{g v:a->D}{bind:D->En->Sr->Res En}{test:En->Sr->Res Bool}{elt:05}(R:En->Prop){S:Sr}(ds:List a)(ρ:En)(b:ds.length<=1000)(c:R ρ)(H:∀d∈ds,∀ρ,R ρ->∃ρ1,bind (g d) ρ S=.ok ρ1 S/\R ρ1/\test ρ1 S=.ok true S/\elt ρ1 S=.ok (v d) S):genLoop bind test elt (stepG .tuple) (finG .tuple) (ds.map g) ρ (.t []) S=.ok (.t (ds.map v)) S:=by
 rw[<-zP];exact qaz (gd:=λ_=>True) R trivial ds [] ρ (by simpa using b) c H
noncomputable def ldD(ls:List (List Am)):D:=.t (ls.map λxs=>nmD (totN xs))
def qms{F:Fs}{ρ:En}{S S1:Sr}{e:CE}{l:List D}(h:ev F e ρ S=.ok (.t l) S1)(b:l.length<=1000):ev F (.lls e) ρ S=.ok (.ref (S1.length+l.length)) (S1++List.replicate l.length (.l [])++[.l ((List.range l.length).map λi=>.ref (S1.length+i))]):=by
 have a:l.length<=PySem.sizeLine:=by unfold PySem.sizeLine;lia
 simp only[ev,h,Res.bind,newLls];rw[wR a]
def qkX{F:Fs}{ρ:En}{S S1:Sr}{w:GW}{fr:List Nat}{nt:Nat}{a e:CE}{t:CT}{b:CBs}{x:D}{ds:List D}{gd:Sr->Prop}{r:Res D}(h:ev F e ρ S=.ok x S1)(c:refX x S1=some (ds,gd))(f:genLoopG gd (λd ρ S=>asg F t d ρ S) (λρ S=>tsts F b ρ S) (λρ S=>ev F a ρ S) (stepG w) (finG w) ds (frE ρ fr nt) (startG w) S1=r):ev F (.genX w fr nt a t e b) ρ S=r:=by
 simp only[ev,h,Res.bind,c];exact f
structure LyG (w:Wb) (l:List (List Am)):Prop where
 ex:∃(B:Int) (e:Nat),LyOk B w.ties l/\B<=1000000/\B<=2^e/\e*w.ties.length<=240/\e<=20/\1<=B
def qkY{B:Int}{e:Nat}(c:B<=1000000)(f:B<=2^e){t:Tie}{ps:List Am}(h:AmOk B t ps):∀p∈ps,NBe e p:=by
 intro p a;have hn:=qjo c h p a;obtain⟨xs,s,d,i,_,_,j,rfl⟩:=h.ex;obtain⟨x,l,rfl⟩:=wW.mp a;have b:=yB (t:=x) d;exact⟨hn.t,hn.b1,by lia⟩
def LyG.z{w:Wb}(c:WbOk w){l:List (List Am)}(h:LyG w l):∃e:Nat,e*w.ties.length<=240/\e<=20/\(w.ties.zip l).length=w.ties.length/\∀z∈w.ties.zip l,ZOk e w.costs.length z:=by
 obtain⟨B,e,a,d,f,i,j,_⟩:=h.ex;refine⟨e,i,j,by rw[wi,a.1];lia,λz b=>?_⟩;have ha:=a.2 z b;refine⟨(c.t2 _ (wn b).1).1,qkY d f ha,?_⟩;obtain⟨xs,s,_,_,q,_,_,e⟩:=ha.ex;rw[e,wF];exact q
noncomputable def lyl(w:Wb)(l:List (List Am)):List (List Am):=layP w.costs.length (w.ties.zip l)
def zR(w:Wb)(l:List (List Am)):(lyl w l).length=w.costs.length:=by unfold lyl layP;rw[qa6,uP]
def qaI{d:Nat}{w:Wb}{l:List (List Am)}{S:Sr}(b:WbOk w)(h:LyG w l):G (d+10) 19 [webD w,.t (lyD l)] S=.ok .non S:=by
 obtain⟨B,e,a,f,_⟩:=h.ex;have e1:=jj (d:=d) (S:=S) b (x:=.t (lyD l)) (j0 l) (we.mpr λy i=>qhd f a y i);rw[qel a]at e1;rw[G_at (c:=c_19) rfl];exact qec rfl (x_no (S1:=S) (t_no (x:=true) (t_of (qj rfl e1))) yz)
def stP0(S:Sr)(m:Nat):S++List.replicate m (.l [])++[.l ((List.range m).map λi=>.ref (S.length+i))]=stP S (List.replicate m []):=by
 unfold stP lsS;rw[xC,uP];rfl
def qeq{d:Nat}{w:Wb}{l:List (List Am)}{S:Sr}(J:WbOk w)(h:LyG w l):G (d+11) 20 [webD w,.t (lyD l)] S=.ok (ldD (lyl w l)) S:=by
 obtain⟨e,he,a1,x,L⟩:=h.z J;have ht:=J.t1;have hm:=J.c2;rw[G_at (c:=c_20) rfl];have en:=qaI (d:=d) (S:=S) J h;obtain⟨M,S',K,n,o,r,a,b,rfl,rfl⟩:=yf (g:=λz:Tie×List Am=>.t [tieD z.1,.t (z.2.map nmD)]) (body:=λN ρ T=>(asg (G (d+10)) (.t (.c (.t (.c (.v 3) (.c (.v 4) .n))) (.c (.v 5) .n))) N ρ T).bind λρ1 O=>exs (G (d+10)) NW (.c (.forS (.t (.c (.v 6) (.c (.v 7) .n))) (.zip (.v 3) (.v 5)) (.c (.expr (.app (.idx (.v 2) (.v 6)) (.v 7))) .n)) .n) ρ1 O)
  (λpre ρ T=>∃n o r a b,ρ=[some (webD w),some (.t (lyD l)),some (.ref (S.length+w.costs.length)),n,o,r,a,b]/\T=stP S (layP w.costs.length pre)) (w.ties.zip l) (ρ:=[some (webD w),some (.t (lyD l)),some (.ref (S.length+w.costs.length)),none,none,none,none,none]) (S:=stP S (List.replicate w.costs.length [])) ⟨_,_,_,_,_,rfl,rfl⟩ (by
   rintro pre z a2 ρ T j ⟨n,o,r,a,b,rfl,rfl⟩;have A:=congrArg List.length j;rw[wV,wj,x]at A;have P:∀y∈pre,ZOk e w.costs.length y:=λy Q=>L y (by rw[j];simp[Q])
   have U:ZOk e w.costs.length z:=L z (by rw[j];simp);have g0:=qay P;rw[show asg (G (d+10)) (.t (.c (.t (.c (.v 3) (.c (.v 4) .n))) (.c (.v 5) .n))) (.t [tieD z.1,.t (z.2.map nmD)]) [some (webD w),some (.t (lyD l)),some (.ref (S.length+w.costs.length)),n,o,r,a,b] (stP S (layP w.costs.length pre))=.ok [some (webD w),some (.t (lyD l)),some (.ref (S.length+w.costs.length)),some (tupI z.1.1),some (.int z.1.2),some (.t (z.2.map nmD)),a,b] (stP S (layP w.costs.length pre))from rfl,Res.bind_ok];obtain⟨M,S',K,a,b,rfl,rfl⟩:=yf (g:=λq:Int×Am=>.t [.int q.1,nmD q.2]) (body:=λN ρ T=>(asg (G (d+10)) (.t (.c (.v 6) (.c (.v 7) .n))) N ρ T).bind λρ1 O=>exs (G (d+10)) NW (.c (.expr (.app (.idx (.v 2) (.v 6)) (.v 7))) .n) ρ1 O)
    (λu ρ T=>∃a b,ρ=[some (webD w),some (.t (lyD l)),some (.ref (S.length+w.costs.length)),some (tupI z.1.1),some (.int z.1.2),some (.t (z.2.map nmD)),a,b]/\T=stP S (u.foldl addP (layP w.costs.length pre))) (z.1.1.zip z.2) (ρ:=[some (webD w),some (.t (lyD l)),some (.ref (S.length+w.costs.length)),some (tupI z.1.1),some (.int z.1.2),some (.t (z.2.map nmD)),a,b]) (S:=stP S (layP w.costs.length pre)) ⟨_,_,rfl,rfl⟩ (by
     rintro u q su ρ T m ⟨a,b,rfl,rfl⟩;obtain⟨nd,W⟩:=zq U;have B:=W q (by rw[m];simp);have g1:=qcK g0 (qs:=u) (by rw[m,v5]at nd;exact(vX.mp nd).1) λp hp=>⟨(W p (by rw[m];simp[hp])).1,(W p (by rw[m];simp[hp])).2.2⟩
     have C:=g1.len;refine⟨[some (webD w),some (.t (lyD l)),some (.ref (S.length+w.costs.length)),some (tupI z.1.1),some (.int z.1.2),some (.t (z.2.map nmD)),some (.int q.1),some (nmD q.2)],stP S ((u++[q]).foldl addP (layP w.costs.length pre)),?_,_,_,rfl,rfl⟩;rw[show asg (G (d+10)) (.t (.c (.v 6) (.c (.v 7) .n))) (.t [.int q.1,nmD q.2]) [some (webD w),some (.t (lyD l)),some (.ref (S.length+w.costs.length)),some (tupI z.1.1),some (.int z.1.2),some (.t (z.2.map nmD)),a,b] (stP S (u.foldl addP (layP w.costs.length pre)))=.ok [some (webD w),some (.t (lyD l)),some (.ref (S.length+w.costs.length)),some (tupI z.1.1),some (.int z.1.2),some (.t (z.2.map nmD)),some (.int q.1),some (nmD q.2)] (stP S (u.foldl addP (layP w.costs.length pre)))from rfl,Res.bind_ok,List.foldl_append];have hb:=(g1.at' q.1.toNat 00).1;exact qap (qkW (by rw[C];rfl) rfl rfl B.1 (by rw[C];exact B.2.1) 00) yz)
   refine⟨_,_,qaq (qds rfl rfl) K yz,_,_,_,_,_,rfl,?_⟩;unfold layP;rw[List.foldl_append];rfl)
 have g:=qay L;have E:=g.len;have X:layP w.costs.length (w.ties.zip l)=lyl w l:=rfl;rw[X]at g E K;rw[x]at g;have Y:stP S (List.replicate w.costs.length [])=S++List.replicate w.costs.length (.l [])++[.l ((List.range w.costs.length).map λi=>.ref (S.length+i))]:=(stP0 S _).symm;have H:ev (G (d+10)) (.lls (.idx (.v 0) (.k (.int 0)))) [some (webD w),some (.t (lyD l)),none,none,none,none,none,none] S=.ok (.ref (S.length+w.costs.length)) (stP S (List.replicate w.costs.length [])):=by
  rw[Y];have:=qms (F:=G (d+10)) (e:=.idx (.v 0) (.k (.int 0))) (ρ:=[some (webD w),some (.t (lyD l)),none,none,none,none,none,none]) (S:=S) (S1:=S) (l:=w.costs.map .int) (qr (S1:=S) rfl rfl rfl) (by rw[wF];lia);rw[wF]at this;exact this
 have eg:ev (G (d+10)) (.genX .tuple [] 1 (.call 7 (.c (.v 0) .n)) (.v 0) (.v 2) .n) [some (webD w),some (.t (lyD l)),some (.ref (S.length+w.costs.length)),n,o,r,a,b] (stP S (lyl w l))=.ok (ldD (lyl w l)) (stP S (lyl w l)):=by
  have I:=qeo S (lyl w l);have hr:refX (.ref (S.length+w.costs.length)) (stP S (lyl w l))=some ((List.range (lyl w l).length).map λi=>.ref (S.length+i),own (S.length+(lyl w l).length) ((List.range (lyl w l).length).map λi=>.ref (S.length+i))):=by
   rw[<-E];simp only[refX,I]
  have hg:own (S.length+(lyl w l).length) ((List.range (lyl w l).length).map λi=>D.ref (S.length+i)) (stP S (lyl w l)):=I;have e2:ev (G (d+10)) (.v 2) [some (webD w),some (.t (lyD l)),some (.ref (S.length+w.costs.length)),n,o,r,a,b] (stP S (lyl w l))=.ok (.ref (S.length+w.costs.length)) (stP S (lyl w l)):=rfl;refine qkX e2 hr ?_;have:=qaz (g:=λi:Nat=>D.ref (S.length+i)) (v:=λi=>nmD (totN ((lyl w l).getD i []))) (bind:=λZ ρ T=>asg (G (d+10)) (.v 0) Z ρ T) (test:=λρ T=>tsts (G (d+10)) .nil ρ T) (elt:=λρ T=>ev (G (d+10)) (.call 7 (.c (.v 0) .n)) ρ T) (λρ=>∃y,ρ=[y]) hg (List.range (lyl w l).length) [] (frE [some (webD w),some (.t (lyD l)),some (.ref (S.length+w.costs.length)),n,o,r,a,b] [] 1) (by simp;lia) ⟨_,rfl⟩ (by
   rintro i hi ρ ⟨y,rfl⟩;have a0:=vY.mp hi;refine⟨_,rfl,⟨_,rfl⟩,rfl,qj rfl ?_⟩;obtain⟨g1,g2⟩:=g.at' i 00;have s:=qdr (S:=S) a0;exact qcD (d:=d+7) (e:=e) (gd:=own (S.length+i) (((lyl w l).getD i []).map nmD)) (by simp only[refX,s]) s g2 (vK (Nat.mul_le_mul_left e g1) he) 00)
  rw[show startG .tuple=D.t []from rfl,show frE [some (webD w),some (.t (lyD l)),some (.ref (S.length+w.costs.length)),n,o,r,a,b] [] 1=[none]from rfl]at *;have e3:(List.range (lyl w l).length).map (λi=>nmD (totN ((lyl w l).getD i [])))=(lyl w l).map λxs=>nmD (totN xs):=by
   apply List.ext_getElem
   .simp
   .intro i h1 h2
    simp at h1;rw[uZ,uZ,u8,wK,wD h1];rfl
  rw[x5,e3]at this;exact this
 refine qcp (f:=c_20) (S1:=S) (S2:=lsS (lyl w l)++[.l ((List.range (lyl w l).length).map λi=>.ref (S.length+i))]) rfl rfl ?_ rfl (qU λy Q=>by
  obtain⟨xs,_,rfl⟩:=wW.mp Q;rfl)
 rw[<-wf];exact qap (S1:=S) (qj rfl en) (qI H (ρ1:=[some (webD w),some (.t (lyD l)),some (.ref (S.length+w.costs.length)),none,none,none,none,none]) rfl (qaq (qbG rfl rfl) K (qC eg)))
noncomputable def hgt(w:Wb)(l:List (List Am)):List Am:=((lyl w l).zip w.costs).map λp=>lw (totN p.1).1 ((totN p.1).2*p.2)
def qiQ{F:Fs}{ρ:En}{T:Sr}{f:Nat}{w:Wb}{l:List (List Am)}{ls:List (List Am)}(b:ρ[0]?=some (some (webD w)))(c:ρ[1]?=some (some (.t (lyD l))))(e:F f [webD w,.t (lyD l)] T=.ok (ldD ls) T):
  evI F (.zip (.call f (.c (.v 0) (.c (.v 1) .n))) (.idx (.v 0) (.k (.int 0)))) ρ T=.ok ((ls.zip w.costs).map λp=>.t [nmD (totN p.1),.int p.2]) T:=by
 have a:ev F (.v 0) ρ T=.ok (webD w) T:=by simp only[ev,varE,b]
 have e1:ev F (.v 1) ρ T=.ok (.t (lyD l)) T:=by simp only[ev,varE,c]
 have d:ev F (.call f (.c (.v 0) (.c (.v 1) .n))) ρ T=.ok (ldD ls) T:=qj (qf a (qf e1 rfl)) e;have h:ev F (.idx (.v 0) (.k (.int 0))) ρ T=.ok (tupI w.costs) T:=qr (S1:=T) a rfl rfl;simp only[evI,d,h,Res.bind,ldD,tupI,walkF];rw[uN,wJ];rfl
def hb{w:Wb}(d:WbOk w){l:List (List Am)}(h:LyG w l){p:List Am×Int}(f:p∈(lyl w l).zip w.costs):1<=(totN p.1).2/\1<=p.2/\p.2<=100/\1<=(totN p.1).2*p.2/\(totN p.1).2*p.2<2^250:=by
 obtain⟨e,j,m,a,n⟩:=h.z d;obtain⟨o,q⟩:=wn f;have g:=qay n;rw[a]at g;obtain⟨i,hi,r⟩:=vS o;have b:i<w.costs.length:=by rw[<-zR w l];exact hi
 obtain⟨t1,t2⟩:=qkV g b;have s:(lyl w l).getD i []=p.1:=by rw[wK,wD hi,r];rfl
 have c:(layP w.costs.length (w.ties.zip l)).getD i []=p.1:=s;rw[c]at t1 t2;obtain⟨c1,c2⟩:=d.c3 _ q;have t3:(totN p.1).2<=2^240:=Int.le_trans t2 (qdo j);refine⟨t1,c1,c2,yg t1 c1,?_⟩;have u:(totN p.1).2*p.2<=2^240*100:=uY t3 c2 00 02;have v:(2:Int)^240*100<2^250:=by decide
 lia
def qhh{d:Nat}{p:Am}{c:Int}{S:Sr}(a:1<=p.2*c)(b:p.2*c<2^250)(f:c.natAbs<2^64):G (d+3) 8 [nmD p,.int c] S=.ok (nmD (lw p.1 (p.2*c))) S:=by
 rw[G_at (c:=c_8) rfl];exact qF rfl (qC (qj (qf (qr (S1:=S) rfl rfl rfl) (qf (qD (S1:=S) (qr (S1:=S) rfl rfl rfl) rfl (bmul (zv f))) rfl)) (qa3 a b)))
def qfg{d:Nat}{w:Wb}{l:List (List Am)}{S:Sr}(i:WbOk w)(h:LyG w l):G (d+12) 21 [webD w,.t (lyD l)] S=.ok (.t ((hgt w l).map nmD)) S:=by
 rw[G_at (c:=c_21) rfl];have hm:=i.c2;have m:=qeq (d:=d) (S:=S) i h;refine qF rfl (qC ?_);simp only[ev];rw[qiQ rfl rfl m,Res.bind_ok];have:=qiP (g:=λp:List Am×Int=>.t [nmD (totN p.1),.int p.2]) (v:=λp=>nmD (lw (totN p.1).1 ((totN p.1).2*p.2))) (bind:=λj ρ T=>asg (G (d+11)) (.t (.c (.v 0) (.c (.v 1) .n))) j ρ T) (test:=λρ T=>tsts (G (d+11)) .nil ρ T) (elt:=λρ T=>ev (G (d+11)) (.call 8 (.c (.v 0) (.c (.v 1) .n))) ρ T) (S:=S) (λρ=>∃y z,ρ=[y,z]) ((lyl w l).zip w.costs) [none,none] (by rw[wi,zR];lia) ⟨_,_,rfl⟩ (by
  rintro p n ρ ⟨y,z,rfl⟩;obtain⟨a,b,c,f,g⟩:=hb i h n;exact⟨_,rfl,⟨_,_,rfl⟩,rfl,qj rfl (qhh (d:=d+8) f g 00)⟩)
 unfold hgt;rw[wJ];exact this
def qcL{t b t' c:Int}(hb:1<=b)(a:1<=c)(h:t*c=t'*b):lw t b=lw t' c:=by
 refine zJ (q9 hb) (q9 a) ?_;have e1:=zM (t:=t) hb;have d:=zM (t:=t') a;have f:=yg hb a;generalize lw t b=A at *;generalize lw t' c=B at *;have:(A.1*B.2)*(b*c)=(B.1*A.2)*(b*c):=by grind
 exact ws 00 this
structure TyI (t:Tie) (ys:List Int):Prop where
 len:ys.length=t.1.length
 sum:ys.sum=t.2*27720
 nn:∀y∈ys,0<=y
noncomputable def amI(ys:List Int):List Am:=ys.map (lw · 27720)
noncomputable def lyI(L:07):List (List Am):=L.map amI
def LyZ(ts:List Tie)(L:07):Prop:=L.length=ts.length/\∀z∈ts.zip L,TyI z.1 z.2
def jn(k:Int):∀l:List Int,(l.map (·*k)).sum=l.sum*k
 |[]=>by simp
 |a::r=>by rw[wU,vO,vO,jn k r,Int.add_mul]
def div27:∀n:Fin 13,1<=n.val->n.val*(27720 / n.val)=27720/\1<=27720 / n.val:=by decide
def qkZ{t:Tie}{ps:List Am}(h:AmOk 12 t ps):∃ys,TyI t ys/\ps=amI ys:=by
 obtain⟨xs,s,c,m,d,f,i,rfl⟩:=h.ex;obtain⟨n,rfl⟩:∃n:Nat,s=n:=⟨s.toNat,by lia⟩;obtain⟨e1,a⟩:=div27 ⟨n,by lia⟩ (by show 1<=n;lia);have e1:n*(27720 / n)=27720:=e1;have a:1<=27720 / n:=a;generalize 27720 / n=k at e1 a;have b:(n:Int)*(k:Int)=27720:=by
  have:=congrArg (λx:Nat=>(x:Int)) e1;simpa using this
 refine⟨xs.map (·*(k:Int)),⟨by simpa using d,?_,?_⟩,?_⟩
 .rw [jn,f,Int.mul_assoc,b]
 .intro y j
  obtain⟨x,l,rfl⟩:=wW.mp j;exact Int.mul_nonneg (i x l).1 00
 .unfold amI
  rw[wJ];apply wo;intro x _;exact qcL c 02 (by show x*27720=x*k*n;rw[<-b];grind)
def qhi:∀{ts:List Tie} {l:List (List Am)},LyOk 12 ts l->∃L,LyZ ts L/\l=lyI L
 |[],l,h=>by
  have:l=[]:=wt.mp h.1;subst this;exact⟨[],⟨rfl,by simp⟩,rfl⟩
 |t::ts,[],h=>by have:=h.1;simp at this
 |t::ts,ps::l,h=>by
  obtain⟨L,b,c⟩:=qhi (ts:=ts) (l:=l) ⟨by have:=h.1;simpa using this,λp d=>h.2 p (by rw[wv];exact wL _ d)⟩;obtain⟨ys,f,i⟩:=qkZ (h.2 (t,ps) (by rw[wv];exact wH));refine⟨ys::L,⟨by simp[b.1],λz a=>?_⟩,by rw[c,show ps=amI ys from i];rfl⟩;rw[wv]at a;rcases wX.mp a with rfl|a
  .exact f
  .exact b.2 z a
def qmt{t:Tie}{ys:List Int}(h:TyI t ys)(b:t.2<=1000000):AmOk 27720 t (amI ys) :=
 ⟨ys,27720,by decide,by decide,h.len,h.sum,λy a=>⟨h.nn y a,by have:=jl h.nn a;rw[h.sum]at this;lia⟩,rfl⟩
def qaA(ts:List Tie)(L:07):ts.zip (lyI L)=(ts.zip L).map λz=>(z.1,amI z.2):=by
 unfold lyI;rw[vn];rfl
def qjp{w:Wb}(c:WbOk w){L:07}(h:LyZ w.ties L):LyOk 27720 w.ties (lyI L):=by
 refine⟨by unfold lyI;rw[wF];exact h.1,λp a=>?_⟩;rw[qaA]at a;obtain⟨z,b,rfl⟩:=wW.mp a;exact qmt (h.2 z b) (c.t2 _ (wn b).1).2.2.2
def lz_g{w:Wb}(a:WbOk w)(b:w.ties.length<=16){L:07}(h:LyZ w.ties L):LyG w (lyI L):=⟨27720,15,qjp a h,by decide,by decide,by lia,by decide,by decide⟩
noncomputable def prs(ts:List Tie)(L:07):List (Int×Int):=(ts.zip L).flatMap λz=>z.1.1.zip z.2
noncomputable def onI(qs:List (Int×Int))(i:Int):Int:=((qs.filter λq=>decide (q.1=i)).map (·.2)).sum
noncomputable def ldI(ts:List Tie)(L:07)(i:Int):Int:=onI (prs ts L) i
def qa8{i:Nat}:∀(a:List (Tie×List Am)) (ls:List (List Am)),i<ls.length->(a.foldl addT ls).getD i []=ls.getD i []++((a.flatMap λz=>z.1.1.zip z.2).filter λq=>decide (q.1.toNat=i)).map (·.2)
 |[],ls,_=>by simp
 |z::r,ls,h=>by
  rw[ua,qa8 r _ (by unfold addT;rw[yM];exact h)];unfold addT;rw[jD _ _ h,xK,List.filter_append,v5,wf]
def qdt{w:Wb}(b:WbOk w){L:07}{q:Int×Int}(a:q∈prs w.ties L):InR w.costs.length q.1:=by
 unfold prs at a;obtain⟨z,c,h⟩:=List.mem_flatMap.mp a;exact(b.t2 _ (wn c).1).1.rng _ (wn h).1
def qk0(ts:List Tie)(L:07):((ts.zip (lyI L)).flatMap λz=>z.1.1.zip z.2)=(prs ts L).map λq=>(q.1,lw q.2 27720):=by
 rw[qaA,List.flatMap_map];unfold prs;rw[List.map_flatMap];congr 1;funext z;show z.1.1.zip (amI z.2)=_;unfold amI;rw[vn];rfl
def qiR{w:Wb}(a:WbOk w)(L:07){i:Nat}(hi:i<w.costs.length):(lyl w (lyI L)).getD i []=((prs w.ties L).filter λq=>decide (q.1=(i:Int))).map λq=>lw q.2 27720:=by
 unfold lyl layP;rw[qa8 _ _ (by rw[uP];exact hi),qk0];have:(List.replicate w.costs.length ([]:List Am)).getD i []=[]:=by rw[wK,vF];split <;> rfl
 rw[this,x5,List.filter_map,wJ];have e:(prs w.ties L).filter ((λq:Int×Am=>decide (q.1.toNat=i))∘λq=>(q.1,lw q.2 27720))=(prs w.ties L).filter λq=>decide (q.1=(i:Int)):=by
  apply List.filter_congr;intro q b;have:=qdt a b;show decide (q.1.toNat=i)=_;congr 1;have c:=this.1;exact propext ⟨λe=>by lia,λe=>by lia⟩
 rw[e];rfl
def qer{w:Wb}(a:WbOk w)(L:07){i:Nat}(hi:i<w.costs.length):totN ((lyl w (lyI L)).getD i [])=lw (ldI w.ties L i) 27720:=by
 rw[qiR a L hi];have:(((prs w.ties L).filter λq=>decide (q.1=(i:Int))).map λq=>lw q.2 27720)=(((prs w.ties L).filter λq=>decide (q.1=(i:Int))).map (·.2)).map (lw · 27720):=by rw[wJ];rfl
 rw[this,qhb 02 _ _ rfl];rfl
noncomputable def ldV(w:Wb)(L:07):List Am:=(List.range w.costs.length).map λi:Nat=>lw (ldI w.ties L i) 27720
noncomputable def hgV(w:Wb)(L:07):List Am:=(List.range w.costs.length).map λi:Nat=>lw (ldI w.ties L i) (27720*cstI w i)
def qk1{w:Wb}(b:WbOk w)(L:07):(lyl w (lyI L)).map totN=ldV w L:=by
 unfold ldV;apply List.ext_getElem
 .simp [zR]
 .intro i a d
  have hi:i<w.costs.length:=by rw[wF,zR]at a;exact a
  have c:i<(lyl w (lyI L)).length:=by rw[zR];exact hi
  have:=qer b L hi;rw[wK,wD c]at this;rw[uZ,uZ,u8];exact this
def qes{w:Wb}{i:Nat}(hi:i<w.costs.length):cstI w i=w.costs[i]:=by
 unfold cstI;rw[wK,show((i:Int)).toNat=i by lia,wD hi];rfl
def j3{w:Wb}(a:WbOk w){i:Nat}(hi:i<w.costs.length):1<=cstI w i/\cstI w i<=100:=by
 rw[qes hi];exact a.c3 _ (uo hi)
def qmu{X M c:Int}(a:1<=M)(b:1<=c):lw (lw X M).1 ((lw X M).2*c)=lw X (M*c):=by
 have h:=q9 (t:=X) a;have e:=zM (t:=X) a;exact qcL (yg h.pos b) (yg a b) (by generalize lw X M=A at *;grind)
def qk2{w:Wb}(a:WbOk w)(L:07):hgt w (lyI L)=hgV w L:=by
 unfold hgt hgV;apply List.ext_getElem
 .simp [zR]
 .intro i b d
  have hi:i<w.costs.length:=by rw[wF,wi,zR]at b;lia
  have c:i<(lyl w (lyI L)).length:=by rw[zR];exact hi
  have:=qer a L hi;rw[wK,wD c]at this;have this:totN (lyl w (lyI L))[i]=lw (ldI w.ties L i) 27720:=this;rw[uZ,List.getElem_zip,uZ,u8];dsimp only;rw[this,<-qes hi];exact qmu 02 (j3 a hi).1
def yC{d:Nat}{w:Wb}{L:07}{S:Sr}(a:WbOk w)(b:w.ties.length<=16)(h:LyZ w.ties L):G (d+11) 20 [webD w,.t (lyD (lyI L))] S=.ok (.t ((ldV w L).map nmD)) S:=by
 rw[qeq a (lz_g a b h),<-qk1 a];unfold ldD;rw[wJ];rfl
def yh{d:Nat}{w:Wb}{L:07}{S:Sr}(a:WbOk w)(b:w.ties.length<=16)(h:LyZ w.ties L):G (d+12) 21 [webD w,.t (lyD (lyI L))] S=.ok (.t ((hgV w L).map nmD)) S:=by
 rw[qfg a (lz_g a b h),qk2 a]
def qbH{w:Wb}(L:07){x:Int}(h:InR w.costs.length x)(S:Sr):idxD S (.t ((hgV w L).map nmD)) (.int x)=some (nmD (lw (ldI w.ties L x) (27720*cstI w x))):=by
 obtain⟨i,rfl⟩:∃i:Nat,x=i:=⟨x.toNat,by have:=h.1;lia⟩;have hi:i<w.costs.length:=by have:=h.2;lia
 have a:L2.ixN ((hgV w L).map nmD).length (i:Int)=some i:=by
  have:=qep (n:=((hgV w L).map nmD).length) (p:=(i:Int)) 00 (by simp[hgV];lia);rw[this];congr 1
 simp only[idxD,seqOf,wY,L2.atI,a];unfold hgV;rw[wJ,w5,uC hi];rfl
def qdu{w:Wb}(L:07){x:Int}(h:InR w.costs.length x)(S:Sr):idxD S (.t ((ldV w L).map nmD)) (.int x)=some (nmD (lw (ldI w.ties L x) 27720)):=by
 obtain⟨i,rfl⟩:∃i:Nat,x=i:=⟨x.toNat,by have:=h.1;lia⟩;have hi:i<w.costs.length:=by have:=h.2;lia
 have a:L2.ixN ((ldV w L).map nmD).length (i:Int)=some i:=by
  have:=qep (n:=((ldV w L).map nmD).length) (p:=(i:Int)) 00 (by simp[ldV];lia);rw[this];congr 1
 simp only[idxD,seqOf,wY,L2.atI,a];unfold ldV;rw[wJ,w5,uC hi];rfl
section
variable{α:Type}{g:α->D}
theorem qet{bind:D->En->Sr->Res En}{test:En->Sr->Res Bool}{elt:05}{p:α->Bool}(R:En->Prop){S:Sr}:∀(ds:List α) (ρ:En) (b:D),R ρ ->
  (∀d∈ds,∀ρ:En,R ρ->∃ρ1,bind (g d) ρ S=.ok ρ1 S/\R ρ1/\test ρ1 S=.ok true S/\elt ρ1 S=.ok (.bl (p d)) S) ->
  genLoop bind test elt (stepG .any) (finG .any) (ds.map g) ρ b S=.ok (.bl (ds.any p)) S
 |[],ρ,b,_,_=>by simp[genLoop,finG]
 |d::ds,ρ,b,hR,H=>by
  obtain⟨ρ1,e1,a,c,f⟩:=H d wH ρ hR;rw[wU];unfold genLoop;rw[e1,Res.bind_ok,c,Res.bind_ok,wR rfl,f,Res.bind_ok];cases z:p d with
  |false=>simp only[stepG];rw[qet R ds ρ1 _ a λd' hd=>H d' (wL _ hd)];simp[z]
  |true=>simp[stepG,z]
theorem qeu{F:Fs}{fr:List Nat}{nt:Nat}{elt:CE}{tg:CT}{it:CI}{ρ:En}{S S1:Sr}{ds:List D}(xs:List α)(p:α->Bool)(R:En->Prop)(f:evI F it ρ S=.ok ds S1)(hd:ds=xs.map g)(h:R (frE ρ fr nt))(H:∀d∈xs,∀ρ:En,R ρ->∃ρ1,asg F tg (g d) ρ S1=.ok ρ1 S1/\R ρ1/\ev F elt ρ1 S1=.ok (.bl (p d)) S1):
  ev F (.gen .any fr nt elt tg it .nil) ρ S=.ok (.bl (xs.any p)) S1:=by
 simp only[ev,f,Res.bind,hd,startG];exact qet R xs _ _ h λd hd ρ i=>let ⟨ρ1,a,b,c⟩:=H d hd ρ i;⟨ρ1,a,b,rfl,c⟩
end
def qmv{X B Y C:Int}(a:1<=B)(b:1<=C):((lw X B).1*(lw Y C).2<(lw Y C).1*(lw X B).2) ↔ X*C<Y*B:=by
 obtain⟨d,f⟩:=yA (t:=X) a;obtain⟨b1,b2⟩:=yA (t:=Y) b;have m:=zw (t:=X) a;have gb:=zw (t:=Y) b;generalize lw X B=A at *;generalize lw Y C=E at *;generalize Int.gcd X B=g at *;generalize Int.gcd Y C=k at *;have i:(0:Int)<g:=by lia
 have j:(0:Int)<k:=by lia
 have c:(0:Int)<(g:Int)*(k:Int):=ui i j;have e1:X*C=(A.1*E.2)*((g:Int)*(k:Int)):=by rw[<-d,<-b2];grind
 have l:Y*B=(E.1*A.2)*((g:Int)*(k:Int)):=by rw[<-b1,<-f];grind
 rw[e1,l];exact⟨λh=>ux h c,λh=>uy h (xb c)⟩
def qhj{y:Int}:0<(lw y 27720).1 ↔ 0<y:=by
 obtain⟨c,_⟩:=yA (t:=y) (b:=27720) 02;have d:=zw (t:=y) (b:=27720) 02;have a:(0:Int)<(Int.gcd y 27720:Int):=by lia
 generalize lw y 27720=A at *;rw[<-c];exact⟨λh=>ui h a,λh=>by
  rcases xa 0 A.1 with z|z
  .exact z
  .have:=Int.mul_nonpos_of_nonpos_of_nonneg z (xb a)
   lia⟩
def qfh{d:Nat}{p q:Am}{S:Sr}(a:p.2.natAbs<2^64)(b:q.2.natAbs<2^64):G (d+1) 6 [nmD p,nmD q] S=.ok (.bl (decide (p.1*q.2<q.1*p.2))) S:=by
 rw[G_at (c:=c_6) rfl];exact qF rfl (qC (qO (qD (S1:=S) (qr (S1:=S) rfl rfl rfl) (qr (S1:=S) rfl rfl rfl) (bmul (zv b))) (qD (S1:=S) (qr (S1:=S) rfl rfl rfl) (qr (S1:=S) rfl rfl rfl) (bmul (zv a))) rfl))
noncomputable def lowB(X c:Int->Int)(qs:List (Int×Int)):Bool:=qs.all λq=>decide (q.2<=0) || qs.all λo=>!decide (X o.1*c q.1<X q.1*c o.1)
def qmw{F:Fs}{ρ:En}{S S1:Sr}{e:CE}{x:Bool}(h:ev F e ρ S=.ok (.bl x) S1):ev F (.not e) ρ S=.ok (.bl (!x)) S1:=by simp[ev,h,Res.bind,truD]
def qcM{X B:Int}(c:1<=B)(d:B<=2772000):(lw X B).2.natAbs<2^64:=by
 have a:=yB (t:=X) c;have b:=(q9 (t:=X) c).pos;lia
def qdv{d:Nat}{w:Wb}{L:07}{p ys:List Int}{S:Sr}(K:WbOk w)(n:∀x∈p,InR w.costs.length x)(P:p.length<=4)(Q:ys.length=p.length):G (d+2) 23 [tupI p,.t ((amI ys).map nmD),.t ((hgV w L).map nmD)] S=.ok (.bl (lowB (ldI w.ties L) (λi=>cstI w i) (p.zip ys))) S:=by
 rw[G_at (c:=c_23) rfl];have u:∀x,InR w.costs.length x->1<=27720*cstI w x/\27720*cstI w x<=2772000:=λx v=>by
  obtain⟨i,rfl⟩:∃i:Nat,x=i:=⟨x.toNat,by have:=v.1;lia⟩;have:=j3 K (i:=i) (by have:=v.2;lia);lia
 have e1:=zY (g:=λq:Int×Am=>.t [.int q.1,nmD q.2]) (F:=G (d+1)) (fr:=[]) (nt:=2) (elt:=.v 0) (tg:=.t (.c (.v 0) (.c (.v 1) .n))) (it:=.zip (.v 0) (.v 1)) (ifs:=.c (.val (.cmp .gt (.idx (.v 1) (.k (.int 0))) (.k (.int 0)))) .n) (ρ:=[some (tupI p),some (.t ((amI ys).map nmD)),some (.t ((hgV w L).map nmD)),none]) (S:=S) (S1:=S) (p.zip (amI ys)) (λq=>decide (0<q.2.1)) (λq=>.int q.1) (λρ=>∃y z,ρ=[y,z]) (qds rfl rfl) rfl ⟨_,_,rfl⟩ (by rw[wi];unfold PySem.sizeLine;lia) (by
  rintro q a ρ m ⟨y,z,rfl⟩;exact⟨[some (.int q.1),some (nmD q.2)],rfl,⟨_,_,rfl⟩,qkK (t_of (qO (qr rfl rfl rfl) rfl rfl)),λ_=>⟨rfl,rfl⟩⟩)
 generalize hb:(p.zip (amI ys)).filter (λq=>decide (0<q.2.1))=bs at e1;have f:∀q∈bs,InR w.costs.length q.1:=λq a=>by
  rw[<-hb]at a;exact n _ (wn (uO.mp a).1).1
 have M:=qeu (g:=λq:Int×Am=>.int q.1) (F:=G (d+1)) (fr:=[2,0]) (nt:=2) (elt:=.gen .any [0,1,2] 1 (.call 6 (.c (.idx (.v 0) (.v 3)) (.c (.idx (.v 0) (.v 2)) .n))) (.v 3) (.seq (.v 1)) .n) (tg:=.v 2) (it:=.seq (.v 3)) (ρ:=[some (tupI p),some (.t ((amI ys).map nmD)),some (.t ((hgV w L).map nmD)),some (.l (bs.map λq=>.int q.1))]) (S:=S) (S1:=S) (ds:=bs.map λq=>.int q.1) bs (λq=>p.any λo=>decide (ldI w.ties L o*cstI w q.1<ldI w.ties L q.1*cstI w o)) (λρ=>∃y,ρ=[some (.t ((hgV w L).map nmD)),some (tupI p),y,none]) (qdf rfl) rfl ⟨_,rfl⟩ (by
  rintro q a ρ ⟨y,rfl⟩;refine⟨[some (.t ((hgV w L).map nmD)),some (tupI p),some (.int q.1),none],rfl,⟨_,rfl⟩,?_⟩;refine qeu (g:=D.int) (ds:=p.map .int) p (λo=>decide (ldI w.ties L o*cstI w q.1<ldI w.ties L q.1*cstI w o)) (λρ=>∃y,ρ=[some (.t ((hgV w L).map nmD)),some (tupI p),some (.int q.1),y]) rfl rfl ⟨_,rfl⟩ ?_;rintro o b ρ ⟨y,rfl⟩;refine⟨[some (.t ((hgV w L).map nmD)),some (tupI p),some (.int q.1),some (.int o)],rfl,⟨_,rfl⟩,?_⟩;have c1:=u o (n o b);have c2:=u q.1 (f q a);refine qj (qf (qr rfl rfl (qbH L (n o b) _)) (qf (qr rfl rfl (qbH L (f q a) _)) rfl)) ?_;rw[qfh (qcM c1.1 c1.2) (qcM c2.1 c2.2)];congr 3;refine propext ((qmv c1.1 c2.1).trans ?_);generalize ldI w.ties L o=A;generalize ldI w.ties L q.1=B;generalize cstI w q.1=C;generalize cstI w o=E;rw[show A*(27720*C)=27720*(A*C) by grind,show B*(27720*E)=27720*(B*E) by grind];lia)
 refine qF rfl (qI e1 rfl (qC ?_));have N:=qmw M;refine N.trans ?_;congr 2;rw[ww];simp only[vd,List.any_eq_false,wm,lowB,we,vg,wm,vd,va,xX,not_exists,not_and];have H:p.zip (amI ys)=(p.zip ys).map λq=>(q.1,lw q.2 27720):=by unfold amI;rw[vn];rfl
 have j:∀o∈p,∃y,(o,y)∈p.zip ys:=λo b=>by
  obtain⟨i,hi,rfl⟩:=vS b;refine⟨ys[i],wc (i:=i) ?_⟩;rw[vu];exact⟨wD hi,wD 00⟩
 constructor
 .intro h q a
  by_cases I:q.2<=0
  .exact .inl I
  .refine .inr λo b=>?_
   refine h (q.1,lw q.2 27720) ?_ o.1 (wn b).1;rw[<-hb,H];exact uO.mpr ⟨wW.mpr ⟨q,a,rfl⟩,by rw[wm];exact qhj.mpr 00⟩
 .intro h q a o b
  rw[<-hb,H]at a;obtain⟨r,l⟩:=uO.mp a;obtain⟨J,s,rfl⟩:=wW.mp r;rw[wm]at l;have I:0<J.2:=qhj.mp l;obtain⟨y,O⟩:=j o b;rcases h J s with z|z
  .lia
  .exact z (o,y) O
noncomputable def lvB(w:Wb)(L:07):Bool:=(w.ties.zip L).all λz=>lowB (ldI w.ties L) (λi=>cstI w i) (z.1.1.zip z.2)
def yi{d:Nat}{w:Wb}{L:07}{S:Sr}(f:WbOk w)(j:w.ties.length<=16)(h:LyZ w.ties L):G (d+13) 22 [webD w,.t (lyD (lyI L))] S=.ok (.bl (lvB w L)) S:=by
 rw[G_at (c:=c_22) rfl];refine qF rfl (qI (d:=.t ((hgV w L).map nmD)) (S1:=S) (qj rfl (yh f j h)) rfl (qC ?_));refine yJ (g:=λz:Tie×List Int=>.t [tieD z.1,.t ((amI z.2).map nmD)]) (w.ties.zip L) (λz=>lowB (ldI w.ties L) (λi=>cstI w i) (z.1.1.zip z.2)) (λρ=>∃y z,ρ=[some (.t ((hgV w L).map nmD)),y,z]) (qbG rfl rfl) (by rw[qaA,wJ];rfl) ⟨_,_,rfl⟩ ?_;rintro z l ρ ⟨a,b,rfl⟩;have m:=f.t2 _ (wn l).1;have n:=h.2 z l;exact⟨[some (.t ((hgV w L).map nmD)),some (tieD z.1),some (.t ((amI z.2).map nmD))],rfl,⟨_,_,rfl⟩,qj (qf (qr rfl rfl rfl) (qf rfl (qf rfl rfl))) (qdv (d:=d+10) f m.1.rng m.2.1 n.len)⟩
def qbI{d:Nat}{w:Wb}{L:07}{S:Sr}(a:WbOk w)(h:LyZ w.ties L):G (d+9) 17 [webD w,.t (lyD (lyI L))] S=.ok (.bl true) S:=by
 have b:=qjp a h;have e1:=jj (d:=d) (S:=S) a (x:=.t (lyD (lyI L))) (j0 _) (we.mpr λy c=>qhd 02 b y c);rw[qel b]at e1;exact e1
def jo{b c:Type}{f:b->c}:∀{ys:List c} {xs:List b},ys.Perm (xs.map f)->∃a:List b,a.Perm xs/\a.map f=ys
 |[],xs,h=>by
  have:xs=[]:=by
   have:=h.length_eq;rw[wF]at this;exact wt.mp this.symm
  subst this;exact⟨[],.refl _,rfl⟩
 |y::r,xs,h=>by
  have:y∈xs.map f:=h.mem_iff.mp wH;obtain⟨x,d,rfl⟩:=wW.mp this;obtain⟨s,t,rfl⟩:=List.append_of_mem d;have i:(f x::r).Perm (f x::(s++t).map f):=by
   refine h.trans ?_;rw[v5,wU,v5];exact List.perm_middle
  obtain⟨a,e1,j⟩:=jo i.cons_inv;exact⟨x::a,(e1.cons x).trans List.perm_middle.symm,by rw[wU,j]⟩
noncomputable def srtB{a:Type}(κ:a->List Int)(xs:List a):List a:=Classical.choose (jo (qG (xs.map κ)))
def qM{a:Type}(κ:a->List Int)(xs:List a):(srtB κ xs).Perm xs:=(Classical.choose_spec (jo (qG (xs.map κ)))).1
def yN{a:Type}(κ:a->List Int)(xs:List a):(srtB κ xs).map κ=sortT (xs.map κ):=(Classical.choose_spec (jo (qG (xs.map κ)))).2
def qhk{a:Type}(κ:a->List Int)(b:a->D):∀{xs:List a} {x:a},(xs.map κ).Nodup->x∈xs->atK (κ x) ((xs.map κ).zip (xs.map b))=b x
 |[],x,_,h=>by simp at h
 |y::r,x,nd,h=>by
  rw[wU,wh]at nd;rw[wU,wU,wv];unfold atK;rcases wX.mp h with rfl|z
  .rw [wR rfl]
  .rw [wT (λe=>nd.1 (by rw[show κ y=κ x from e];exact List.mem_map_of_mem z)),qhk κ b nd.2 z]
def qhl{a:Type}(κ:a->List Int)(b:a->D){xs:List a}(nd:(xs.map κ).Nodup):sortK (xs.map κ) (xs.map b)=(srtB κ xs).map b:=by
 unfold sortK;rw[<-yN,wJ];exact wo λx c=>qhk κ b nd ((qM κ xs).mem_iff.mp c)
def qa9{a:Type}{k:Nat}(κ:a->List Int)(b:a->D):∀{xs:List a},(∀x∈xs,keyK k (b x)=some (κ x))->keysK k (xs.map b)=some (xs.map κ)
 |[],_=>rfl
 |x::r,h=>by
  rw[wU,keysK,h x wH,wY,qa9 κ b λy c=>h y (wL _ c)];rfl
def qiS{k:Nat}{m:List Int}{d:D}{r:List D}(h:keyK k d=some m):kindK (d::r)=k:=by
 unfold keyK at h;split at h
 .rename_i x a
  cases z:headK x with
  |none=>rw[z]at h;cases h
  |some p =>
   rw[z,wY]at h;by_cases e:p.1=k
   .show ((headK x).map (·.1)).getD 0=k
    rw[z];exact e
   .rw [wT e]at h;cases h
 .cases h
def qbJ{b:Type}{m:Bool}{S:Sr}{x:D}{k:Nat}(κ:b->List Int)(a:b->D){xs:List b}(f:lstOf S x=some (xs.map a))(d:∀x∈xs,keyK k (a x)=some (κ x))(nd:(xs.map κ).Nodup)(c:xs.length<64):bltD (.sortq m) [x] S=newL m ((srtB κ xs).map a) S:=by
 have e:keysK (kindK (xs.map a)) (xs.map a)=some (xs.map κ):=by
  cases xs with
  |nil=>rfl
  |cons y r =>
   rw[show kindK ((y::r).map a)=k from qiS (d y wH)];exact qa9 κ a d
 simp only[bltD,one,bSortQ,f,bSortq,e];rw[wR ⟨by rw[wF];exact c,nd⟩,qhl κ a nd]
noncomputable def cq(o:List Int)(q:Int×Int):Int×Int:=(nth o q.1,q.2)
noncomputable def clP(o:List Int)(z:Tie×List Int):List (Int×Int):=srtB (λq:Int×Int=>[q.1]) ((z.1.1.zip z.2).map (cq o))
noncomputable def clZ(o:List Int)(z:Tie×List Int):Tie×List Int:=(calT1 o z.1,(clP o z).map (·.2))
def qev:∀{l:List Int},(l.map λx=>[x]).Pairwise (λa b=>HT.lexLt a b=true)->l.Pairwise (· < ·)
 |[],_=>.nil
 |a::r,h=>by
  rw[wU]at h;obtain⟨c,d⟩:=wx.mp h;refine wx.mpr ⟨λb hb=>?_,qev d⟩;have:=c [b] (wW.mpr ⟨b,hb,rfl⟩);rw[HT.qZ]at this;by_cases e:a=b
  .rw [wR e]at this;cases this
  .rw [wT e]at this;simpa using this
def qiT{p:List Int}{ys:List Int}(h:ys.length=p.length):(p.zip ys).map (·.1)=p:=xV 00
def qew{p:List Int}{ys:List Int}(h:ys.length=p.length):(p.zip ys).map (·.2)=ys:=List.map_snd_zip 00
def yD{b c:Type}:∀l:List (b×c),(l.map (·.1)).zip (l.map (·.2))=l
 |[]=>rfl
 |a::r=>by rw[wU,wU,wv,yD r]
section
variable{many:Nat}{o:List Int}(hp:o.Perm (rI many)){z:Tie×List Int}(hz:PlOk many z.1.1)(hy:TyI z.1 z.2)
include hp hz hy
theorem qhm:((z.1.1.zip z.2).map (cq o)).map (·.1)=z.1.1.map (nth o):=by
 rw[wJ]
 conv=>rhs;rw[<-qiT hy.len,wJ]
 rfl
theorem qjq:(((z.1.1.zip z.2).map (cq o)).map λq:Int×Int=>[q.1]).Nodup:=by
 have e:((z.1.1.zip z.2).map (cq o)).map (λq:Int×Int=>[q.1])=(z.1.1.map (nth o)).map λx=>[x]:=by
  rw[<-qhm hp hz hy];simp only[wJ];rfl
 rw[e];have nd:=qat hz.up;refine uS.mpr (uS.mpr ((x9.mp nd).imp λ⟨ha,hb,a⟩ e=>?_));injection e with e _;exact a (jh hp (hz.rng _ ha) (hz.rng _ hb) e)
theorem qex:(clP o z).map (·.1)=cal o z.1.1:=by
 have nd:=qjq hp hz hy;have k:=yN (λq:Int×Int=>[q.1]) ((z.1.1.zip z.2).map (cq o));have r:=zH nd;rw[<-k]at r;have r2:(((clP o z).map (·.1)).map λx=>[x]).Pairwise λa b=>HT.lexLt a b=true:=by
  rw[wJ];exact r
 have pm:=(qM (λq:Int×Int=>[q.1]) ((z.1.1.zip z.2).map (cq o))).map (·.1);rw[qhm hp hz hy]at pm;refine qdg (qev r2) (qg0 hp hz).up λx=>?_
 rw[qby];have:=pm.mem_iff (a:=x);rw[wW (f:=nth o)]at this;exact this
theorem qiU:(clZ o z).1.1.zip (clZ o z).2=clP o z:=by
 show(cal o z.1.1).zip ((clP o z).map (·.2))=_;rw[<-qex hp hz hy];exact yD _
theorem qcN:((clZ o z).1.1.zip (clZ o z).2).Perm ((z.1.1.zip z.2).map (cq o)):=by
 rw[qiU hp hz hy];exact qM _ _
theorem qk3:TyI (clZ o z).1 (clZ o z).2:=by
 have pm:=(qM (λq:Int×Int=>[q.1]) ((z.1.1.zip z.2).map (cq o))).map (·.2);have e:((z.1.1.zip z.2).map (cq o)).map (·.2)=z.2:=by
  rw[wJ]
  conv=>rhs;rw[<-qew hy.len]
  rfl
 rw[e]at pm;refine⟨?_,?_,λy h=>hy.nn y (pm.mem_iff.mp h)⟩
 .show ((clP o z).map (·.2)).length=(cal o z.1.1).length
  rw[qbx,<-hy.len];exact pm.length_eq
 .show ((clP o z).map (·.2)).sum=z.1.2*27720
  rw[<-hy.sum];exact qcz pm
end
noncomputable def clA(o:List Int)(a:List (Tie×List Int)):List (Tie×List Int):=srtB (λz:Tie×List Int=>z.1.1) (a.map (clZ o))
noncomputable def prz(a:List (Tie×List Int)):List (Int×Int):=a.flatMap λz=>z.1.1.zip z.2
def j4(ts:List Tie)(L:07):prs ts L=prz (ts.zip L):=rfl
def qcO{a b:List (Int×Int)}(h:a.Perm b)(i:Int):onI a i=onI b i:=by
 unfold onI;exact qcz ((h.filter _).map _)
def qba{c d:Type}{f g:c->List d}:∀{l:List c},(∀a∈l,(f a).Perm (g a))->(l.flatMap f).Perm (l.flatMap g)
 |[],_=>.refl _
 |a::r,h=>by
  rw[xK,xK];exact(h a wH).append (qba λb hb=>h b (wL _ hb))
def qfi{X c:Int->Int}{a b:List (Int×Int)}(h:a.Perm b):lowB X c a=lowB X c b:=by
 unfold lowB;rw[ww];simp only[we,vg];constructor
 .intro z q d
  rcases z q (h.mem_iff.mpr d)with y|y
  .exact .inl y
  .exact .inr λo f=>y o (h.mem_iff.mpr f)
 .intro z q d
  rcases z q (h.mem_iff.mp d)with y|y
  .exact .inl y
  .exact .inr λo f=>y o (h.mem_iff.mp f)
def qfj{X c i j:Int->Int}{qs:List (Int×Int)}(f:Int×Int->Int×Int)(l:∀q∈qs,(f q).2=q.2)(d:∀q∈qs,i (f q).1=X q.1)(h:∀q∈qs,j (f q).1=c q.1):lowB i j (qs.map f)=lowB X c qs:=by
 unfold lowB;rw[ww];simp only[we,vg,wW,forall_exists_index,and_imp,forall_apply_eq_imp_iff₂];constructor
 .intro z q a
  rcases z q a with y|y
  .rw [l q a]at y;exact .inl y
  .refine .inr λo b=>?_
   have:=y o b;rw[d o b,d q a,h o b,h q a]at this;exact this
 .intro z q a
  rcases z q a with y|y
  .rw [l q a];exact .inl y
  .refine .inr λo b=>?_
   rw[d o b,d q a,h o b,h q a];exact y o b
section
variable{w:Wb}(hw:WbOk w){o cs:List Int}(hp:o.Perm (rI w.costs.length)){L:List (List Int)}(h:LyZ w.ties L)
include hw hp h
theorem qey{z:Tie×List Int}(a:z∈w.ties.zip L):PlOk w.costs.length z.1.1/\TyI z.1 z.2:=⟨(hw.t2 _ (wn a).1).1,h.2 z a⟩
theorem qaB:((w.ties.zip L).map (clZ o)).map (·.1)=w.ties.map (calT1 o):=by
 rw[wJ];have:(w.ties.zip L).map (·.1)=w.ties:=xV (by have:=h.1;lia)
 conv=>rhs;rw[<-this,wJ]
 rfl
theorem qk4:(((w.ties.zip L).map (clZ o)).map λz:Tie×List Int=>z.1.1).Nodup:=by
 have e:((w.ties.zip L).map (clZ o)).map (λz:Tie×List Int=>z.1.1)=(((w.ties.zip L).map (clZ o)).map (·.1)).map (·.1):=by simp only[wJ];rfl
 rw[e,qaB hw hp h];exact jY hw hp
theorem qbK:(clA o (w.ties.zip L)).map (·.1)=calT o w.ties:=by
 have nd:=jY hw hp;have pm:=(qM (λz:Tie×List Int=>z.1.1) ((w.ties.zip L).map (clZ o))).map (·.1);rw[qaB hw hp h]at pm;have k:=yN (λz:Tie×List Int=>z.1.1) ((w.ties.zip L).map (clZ o));have e:((w.ties.zip L).map (clZ o)).map (λz:Tie×List Int=>z.1.1)=(w.ties.map (calT1 o)).map (·.1):=by
  rw[<-qaB hw hp h];simp only[wJ];rfl
 rw[e]at k;unfold calT sortP;rw[<-k,wJ];apply wo;intro z a;have hm:z.1∈w.ties.map (calT1 o):=pm.mem_iff.mp (wW.mpr ⟨z,a,rfl⟩);have:=qdh nd hm;show z.1=(z.1.1,atP z.1.1 (w.ties.map (calT1 o)));rw[this]
theorem qbL:(calT o w.ties).zip ((clA o (w.ties.zip L)).map (·.2))=clA o (w.ties.zip L):=by
 rw[<-qbK hw hp h];exact yD _
theorem qk5:LyZ (calT o w.ties) ((clA o (w.ties.zip L)).map (·.2)):=by
 refine⟨by rw[<-qbK hw hp h,wF,wF],λz c=>?_⟩;rw[qbL hw hp h]at c;have hm:=(qM _ _).mem_iff.mp c;obtain⟨y,d,rfl⟩:=wW.mp hm;obtain⟨a,b⟩:=qey hw hp h d;exact qk3 hp a b
theorem qiV:(prs (calT o w.ties) ((clA o (w.ties.zip L)).map (·.2))).Perm ((prs w.ties L).map (cq o)):=by
 rw[j4,j4,qbL hw hp h];unfold prz;refine((qM (λz:Tie×List Int=>z.1.1) ((w.ties.zip L).map (clZ o))).flatMap_right _).trans ?_;rw[List.flatMap_map,List.map_flatMap];refine qba λz c=>?_
 obtain⟨a,b⟩:=qey hw hp h c;exact qcN hp a b
theorem qhn{x:Int}(a:InR w.costs.length x):ldI (calT o w.ties) ((clA o (w.ties.zip L)).map (·.2)) (nth o x)=ldI w.ties L x:=by
 unfold ldI;rw[qcO (qiV hw hp h)];unfold onI;rw[List.filter_map,wJ];have e:(prs w.ties L).filter ((λq:Int×Int=>decide (q.1=nth o x))∘cq o)=(prs w.ties L).filter λq=>decide (q.1=x):=by
  apply List.filter_congr;intro q b;show decide (nth o q.1=nth o x)=decide (q.1=x);congr 1;exact propext ⟨λe=>jh hp (qdt hw b) a e,λe=>by rw[e]⟩
 rw[e];rfl
theorem qk6(l:∀x,InR w.costs.length x->nth cs (nth o x)=cstI w x):lvB ⟨cs,calT o w.ties⟩ ((clA o (w.ties.zip L)).map (·.2))=lvB w L:=by
 unfold lvB;show((calT o w.ties).zip _).all _=_;rw[qbL hw hp h];have step:∀z∈w.ties.zip L,lowB (ldI (calT o w.ties) ((clA o (w.ties.zip L)).map (·.2))) (λi=>cstI ⟨cs,calT o w.ties⟩ i) ((clZ o z).1.1.zip (clZ o z).2)=lowB (ldI w.ties L) (λi=>cstI w i) (z.1.1.zip z.2):=λz c=>by
  obtain⟨a,b⟩:=qey hw hp h c;rw[qfi (qcN hp a b)];have f:∀q∈z.1.1.zip z.2,InR w.costs.length q.1:=λq d=>a.rng _ (wn d).1
  exact qfj (cq o) (λq _=>rfl) (λq d=>qhn hw hp h (f q d)) λq d=>l _ (f q d)
 rw[ww,we,we];have pm:=qM (λz:Tie×List Int=>z.1.1) ((w.ties.zip L).map (clZ o));constructor
 .intro q z c
  rw[<-step z c];exact q _ (pm.mem_iff.mpr (wW.mpr ⟨z,c,rfl⟩))
 .intro q z c
  obtain⟨y,j,rfl⟩:=wW.mp (pm.mem_iff.mp c);exact(step y j).trans (q y j)
end
noncomputable abbrev kE(w:Wb)(L:07)(o:List Int)(a b c d e f g:Option D):En:=[some (webD w),some (.t (lyD (lyI L))),some (.l (o.map .int)),a,b,c,d,e,f,g]
noncomputable def pD(q:Int×Int):D:=.t [.int q.1,nmD (lw q.2 27720)]
noncomputable def d3(z:Tie×List Int):D:=.t [tupI z.1.1,.int z.1.2,.t ((amI z.2).map nmD)]
def qbM{l:List Int}{x:Int}{S:Sr}(h:0<=x)(a:x<l.length):idxD S (.l (l.map .int)) (.int x)=some (.int (nth l x)):=by
 have b:x.toNat<l.length:=by lia
 have:L2.ixN (l.map D.int).length x=some x.toNat:=by
  unfold L2.ixN;rw[wR h,wF,wR a]
 simp only[idxD,seqOf,lstOf,wY,L2.atI,this];rw[w5,jV h a];rfl
def put_lst{S:Sr}{j:Nat}{l:List Int}{i v:Int}(h:S[j]?=some (.l (l.map .int)))(a:0<=i)(b:i<l.length):putE S (.ref j) (.int i) (.int v)=some (S.set j (.l ((l.set i.toNat v).map .int))):=by
 unfold putE;rw[wR (show refsLt 0 (D.int v)=true from rfl)];have:L2.ixN (l.map D.int).length i=some i.toNat:=by
  unfold L2.ixN;rw[wR a,wF,wR b]
 simp only[putN,h,this,wg,x6]
def qez(l:List Int)(S:Sr):bltD .len [.l (l.map .int)] S=.ok (.int l.length) S:=by simp[bltD,one,bLen,lenD]
def qeA{l:List Int}{i j v:Int}(hi:0<=i)(a:i<l.length)(c:0<=j):nth (l.set i.toNat v) j=if i=j then v else nth l j:=by
 unfold nth;simp only[wK,xJ];split
 .rename_i e
  have b:i=j:=by lia
  rw[wR 00,wR b];rfl
 .rename_i e
  rw[wT 00]
def qiW{F:Fs}{ρ:En}{S:Sr}{many:Nat}{o:List Int}(a:o.Perm (rI many)){z:Tie×List Int}(b:PlOk many z.1.1)(d:TyI z.1 z.2)(p:z.1.1.length<=4)(f:ρ[2]?=some (some (.l (o.map .int))))(h:ρ[6]?=some (some (tupI z.1.1)))(i:ρ[8]?=some (some (.t ((amI z.2).map nmD)))):
  ev F (.blt (.sortq false) (.c (.lc false [2] 2 (.t (.c (.idx (.v 0) (.v 1)) (.c (.v 2) .n))) (.t (.c (.v 1) (.c (.v 2) .n))) (.zip (.v 6) (.v 8)) .n) .n)) ρ S=.ok (.l ((clP o z).map pD)) S:=by
 have j:=yL a;have e1:=zY (g:=λq:Int×Am=>.t [.int q.1,nmD q.2]) (F:=F) (fr:=[2]) (nt:=2) (elt:=.t (.c (.idx (.v 0) (.v 1)) (.c (.v 2) .n))) (tg:=.t (.c (.v 1) (.c (.v 2) .n))) (it:=.zip (.v 6) (.v 8)) (ifs:=.nil) (ρ:=ρ) (S:=S) (S1:=S) (z.1.1.zip (amI z.2)) (λ_=>true) (λq=>.t [.int (nth o q.1),nmD q.2]) (λρ=>∃y z,ρ=[some (.l (o.map .int)),y,z]) (qds h i) rfl ⟨none,none,by simp[frE,f]⟩ (by rw[wi];unfold PySem.sizeLine;lia) (by
  rintro q l ρ m ⟨y,r,rfl⟩;have c:=b.rng q.1 (wn l).1;exact⟨[some (.l (o.map .int)),some (.int q.1),some (nmD q.2)],rfl,⟨_,_,rfl⟩,rfl,λ_=>⟨qL (qf (qr rfl rfl (qbM c.1 (by rw[j];exact c.2))) (qf rfl rfl)) (by simp[PySem.sizeLine]),rfl⟩⟩)
 rw[qA]at e1;have n:(z.1.1.zip (amI z.2)).map (λq=>D.t [.int (nth o q.1),nmD q.2])=((z.1.1.zip z.2).map (cq o)).map pD:=by
  unfold amI;rw[vn,wJ,wJ];rfl
 rw[n]at e1;refine qv (qf e1 rfl) ?_;rw[qbJ (k:=0) (λq:Int×Int=>[q.1]) pD rfl (λq _=>rfl) (qjq a b d) (by rw[wF,wi];lia)];rfl
def qk7(z:Tie×List Int):keyK 1 (d3 z)=some z.1.1:=by
 have:headK (tupI z.1.1)=some (1,z.1.1):=by
  unfold tupI;have h:=qN z.1.1;unfold headK;split
  .rename_i x e;cases e
  .rename_i b i e
   injection e with e;rw[e]at h;cases h
  .rename_i a _ e
   injection e with e;rw[<-e,h];rfl
  .rename_i a b c
   exact absurd rfl (c _)
 unfold keyK d3;dsimp only;rw[this];rfl
def qeB(z:Tie×List Int):refsLt 0 (d3 z)=true:=by
 show refsLts 0 [tupI z.1.1,.int z.1.2,.t ((amI z.2).map nmD)]=true;have a:=zI 0 z.1.1;have b:refsLts 0 ((amI z.2).map nmD)=true:=zy _;simp only[refsLts,a,b,Bool.and_true,ut,refsLt]
set_option maxHeartbeats 1000000 in
def qho{d:Nat}{w:Wb}{L:07}{o:List Int}{S:Sr}(u:WbOk w)(h:LyZ w.ties L)(j:o.Perm (rI w.costs.length)):∃cs:List Int,cs.length=w.costs.length/\(∀x,InR w.costs.length x->nth cs (nth o x)=cstI w x) /\
  G (d+1) 33 [webD w,.t (lyD (lyI L)),.l (o.map .int)] S=.ok (.t [webD ⟨cs,calT o w.ties⟩,.t (lyD (lyI ((clA o (w.ties.zip L)).map (·.2))))]) S:=by
 have ol:=yL j;have a0:=u.c2;have a1:=u.t1;have r:(w.ties.zip L).length=w.ties.length:=by rw[wi,h.1];lia
 obtain⟨P,T,ef,x,cs,rfl,rfl,v,Q⟩:=yf (g:=.int) (body:=λW ρ S=>(asg (G d) (.v 4) W ρ S).bind λρ1 S1=>exs (G d) NW (.c (.set (.sub (.v 3) (.idx (.v 2) (.v 4))) (.idx (.idx (.v 0) (.k (.int 0))) (.v 4))) .n) ρ1 S1)
  (λ(pre:List Int) ρ T=>∃x cs,ρ=kE w L o (some (.ref S.length)) x none none none none none/\T=S++[.l (cs.map .int)]/\cs.length=w.costs.length/\∀x∈pre,nth cs (nth o x)=cstI w x) (rI w.costs.length)
  (ρ:=kE w L o (some (.ref S.length)) none none none none none none) (S:=S++[.l ((List.replicate w.costs.length (0:Int)).map .int)]) ⟨_,_,rfl,rfl,by simp,by simp⟩ (by
   rintro pre q A ρ T f ⟨x,cs,rfl,rfl,v,Q⟩;have i:InR w.costs.length q:=zT.mp (by rw[f];simp);have p:=jW j i;refine⟨kE w L o (some (.ref S.length)) (some (.int q)) none none none none none,S++[.l ((cs.set (nth o q).toNat (cstI w q)).map .int)],?_,_,_,rfl,rfl,by simpa using v,?_⟩
   .rw [show asg (G d) (.v 4) (.int q) (kE w L o (some (.ref S.length)) x none none none none none) (S++[.l (cs.map .int)])=.ok (kE w L o (some (.ref S.length)) (some (.int q)) none none none none none) (S++[.l (cs.map .int)])from rfl,Res.bind_ok]
    refine qI (d:=.int (cstI w q)) (S1:=S++[.l (cs.map .int)]) (qr (qr rfl rfl rfl) rfl (qgU i.1 i.2)) (qcG rfl (qr rfl rfl (qbM i.1 (by rw[ol];exact i.2))) (put_lst (l:=cs) (by simp) p.1 (by rw[v];exact p.2))) ?_;rw[vD _ _ 00];simp[exs]
   .have nd:(pre++q::A).Nodup:=by rw[<-f];exact je _
    intro y I;rcases w9.mp I with z|z
    .have B:InR w.costs.length y:=zT.mp (by rw[f];exact wp _ z)
     rw[qeA p.1 (by rw[v];exact p.2) (jW j B).1,wT,Q y z];intro e;have:=jh j i B e;subst this;exact(vX.mp nd).2.2 q z q wH rfl
    .simp at z;subst z
     rw[qeA p.1 (by rw[v];exact p.2) p.1,wR rfl])
 have X:∀x,InR w.costs.length x->nth cs (nth o x)=cstI w x:=λx hx=>Q x (zT.mpr hx)
 refine⟨cs,v,X,?_⟩;have s:∀(us:List D),(S++[SO.l (cs.map .int),.l us])[S.length+1]?=some (.l us):=λus=>by rw[wI 00];simp
 obtain⟨P,T,Y,J,K,M,N,rfl,rfl⟩:=yf (g:=λz:Tie×List Int=>.t [tieD z.1,.t ((amI z.2).map nmD)]) (body:=λW ρ S=>(asg (G d) (.t (.c (.t (.c (.v 6) (.c (.v 7) .n))) (.c (.v 8) .n))) W ρ S).bind λρ1 S1=>exs (G d) NW (.c (.set (.v 9) (.blt (.sortq false) (.c (.lc false [2] 2 (.t (.c (.idx (.v 0) (.v 1)) (.c (.v 2) .n))) (.t (.c (.v 1) (.c (.v 2) .n))) (.zip (.v 6) (.v 8)) .n) .n))) (.c (.expr (.app (.v 5) (.t (.c (.blt .tuple (.c (.lc false [] 2 (.v 0) (.t (.c (.v 0) (.c (.v 1) .n))) (.seq (.v 9)) .n) .n)) (.c (.v 7) (.c (.blt .tuple (.c (.lc false [] 2 (.v 1) (.t (.c (.v 0) (.c (.v 1) .n))) (.seq (.v 9)) .n) .n)) .n)))))) .n)) ρ1 S1)
  (λ(pre:List (Tie×List Int)) ρ T=>∃a b c e,ρ=kE w L o (some (.ref S.length)) x (some (.ref (S.length+1))) a b c e/\T=S++[.l (cs.map .int),.l ((pre.map (clZ o)).map d3)]) (w.ties.zip L)
  (ρ:=kE w L o (some (.ref S.length)) x (some (.ref (S.length+1))) none none none none) (S:=S++[.l (cs.map .int),.l []]) ⟨_,_,_,_,rfl,rfl⟩ (by
   rintro pre z A ρ T f ⟨a,b,c,e,rfl,rfl⟩;have C:z∈w.ties.zip L:=by rw[f];simp
   obtain⟨O,I⟩:=qey u j h C;have h4:=(u.t2 _ (wn C).1).2.1;have a2:pre.length<=30:=by
    have:=congrArg List.length f;rw[r,wV]at this;lia
   generalize E:(pre.map (clZ o)).map d3=us;have a3:us.length=pre.length:=by rw[<-E];simp
   refine⟨kE w L o (some (.ref S.length)) x (some (.ref (S.length+1))) (some (tupI z.1.1)) (some (.int z.1.2)) (some (.t ((amI z.2).map nmD))) (some (.l ((clP o z).map pD))),S++[.l (cs.map .int),.l (us++[d3 (clZ o z)])],?_,_,_,_,_,rfl,by rw[<-E];simp⟩;rw[show asg (G d) (.t (.c (.t (.c (.v 6) (.c (.v 7) .n))) (.c (.v 8) .n))) (.t [tieD z.1,.t ((amI z.2).map nmD)]) (kE w L o (some (.ref S.length)) x (some (.ref (S.length+1))) a b c e) (S++[.l (cs.map .int),.l us])=.ok (kE w L o (some (.ref S.length)) x (some (.ref (S.length+1))) (some (tupI z.1.1)) (some (.int z.1.2)) (some (.t ((amI z.2).map nmD))) e) (S++[.l (cs.map .int),.l us])from rfl,Res.bind_ok];refine qI (qiW j O I h4 rfl rfl rfl) (ρ1:=kE w L o (some (.ref S.length)) x (some (.ref (S.length+1))) (some (tupI z.1.1)) (some (.int z.1.2)) (some (.t ((amI z.2).map nmD))) (some (.l ((clP o z).map pD)))) rfl ?_;have a4:(clP o z).length<=4:=by
    have:=(qM (λq:Int×Int=>[q.1]) ((z.1.1.zip z.2).map (cq o))).length_eq;rw[wF,wi]at this;show(clP o z).length<=4;unfold clP;lia
   have Z:=zY (g:=pD) (F:=G d) (fr:=[]) (nt:=2) (elt:=.v 0) (tg:=.t (.c (.v 0) (.c (.v 1) .n))) (it:=.seq (.v 9)) (ifs:=.nil) (ρ:=kE w L o (some (.ref S.length)) x (some (.ref (S.length+1))) (some (tupI z.1.1)) (some (.int z.1.2)) (some (.t ((amI z.2).map nmD))) (some (.l ((clP o z).map pD)))) (S:=S++[.l (cs.map .int),.l us]) (S1:=S++[.l (cs.map .int),.l us]) (ds:=(clP o z).map pD) (clP o z) (λ_=>true) (λq=>.int q.1) (λρ=>∃y z,ρ=[y,z]) (qdf rfl) rfl ⟨_,_,rfl⟩ (by unfold PySem.sizeLine;lia) (by
    rintro q i ρ m ⟨y,z',rfl⟩;exact⟨_,rfl,⟨_,_,rfl⟩,rfl,λ_=>⟨rfl,rfl⟩⟩)
   rw[qA]at Z;have f2:=zY (g:=pD) (F:=G d) (fr:=[]) (nt:=2) (elt:=.v 1) (tg:=.t (.c (.v 0) (.c (.v 1) .n))) (it:=.seq (.v 9)) (ifs:=.nil) (ρ:=kE w L o (some (.ref S.length)) x (some (.ref (S.length+1))) (some (tupI z.1.1)) (some (.int z.1.2)) (some (.t ((amI z.2).map nmD))) (some (.l ((clP o z).map pD)))) (S:=S++[.l (cs.map .int),.l us]) (S1:=S++[.l (cs.map .int),.l us]) (ds:=(clP o z).map pD) (clP o z) (λ_=>true) (λq=>nmD (lw q.2 27720)) (λρ=>∃y z,ρ=[y,z]) (qdf rfl) rfl ⟨_,_,rfl⟩ (by unfold PySem.sizeLine;lia) (by
    rintro q i ρ m ⟨y,z',rfl⟩;exact⟨_,rfl,⟨_,_,rfl⟩,rfl,λ_=>⟨rfl,rfl⟩⟩)
   rw[qA]at f2;have g1:(clP o z).map (λq=>D.int q.1)=(cal o z.1.1).map .int:=by rw[<-qex j O I,wJ];rfl
   have g2:(clP o z).map (λq=>nmD (lw q.2 27720))=(amI ((clP o z).map (·.2))).map nmD:=by unfold amI;rw[wJ,wJ];rfl
   rw[g1]at Z;rw[g2]at f2;refine qap (qgR rfl (by simp only[isLst,s]) (qL (qf (qv (d:=tupI (cal o z.1.1)) (qf Z rfl) rfl) (qf rfl (qf (qv (d:=.t ((amI ((clP o z).map (·.2))).map nmD)) (qf f2 rfl) rfl) rfl))) (by simp[PySem.sizeLine])) (d:=.non) (S3:=S++[.l (cs.map .int),.l (us++[d3 (clZ o z)])]) ?_) yz;simp only[appD,s];rw[wR ⟨by unfold PySem.sizeLine;lia,qeB (clZ o z)⟩,vD _ _ 00,show S.length+1-S.length=1 by lia];rfl)
 have e1:ev (G d) (.binM .mul (.l false (.c (.k (.int 0)) .n)) (.blt .len (.c (.idx (.v 0) (.k (.int 0))) .n))) (kE w L o none none none none none none none) S=.ok (.ref S.length) (S++[.l ((List.replicate w.costs.length (0:Int)).map .int)]):=by
  refine qhe (d1:=.l [.int 0]) (S1:=S) (qcr rfl (by simp)) (qv (qf (qr rfl rfl rfl) rfl) (zE _ _)) ?_;rw[qcI rfl 00,xC]
 have H:ev (G d) (.blt .len (.c (.v 2) .n)) (kE w L o (some (.ref S.length)) none none none none none none) (S++[.l ((List.replicate w.costs.length (0:Int)).map .int)])=.ok (.int (w.costs.length:Nat)) (S++[.l ((List.replicate w.costs.length (0:Int)).map .int)]):=by
  rw[<-ol];exact qv rfl (qez o _)
 have hA:=qM (λz:Tie×List Int=>z.1.1) ((w.ties.zip L).map (clZ o));have a5:(clA o (w.ties.zip L)).length=w.ties.length:=by
  show(srtB _ _).length=_;rw[hA.length_eq,wF,r]
 have e5:ev (G d) (.blt (.sortq true) (.c (.v 5) .n)) (kE w L o (some (.ref S.length)) x (some (.ref (S.length+1))) J K M N) (S++[.l (cs.map .int),.l (((w.ties.zip L).map (clZ o)).map d3)])=.ok (.ref (S.length+2)) (S++[.l (cs.map .int),.l (((w.ties.zip L).map (clZ o)).map d3),.l ((clA o (w.ties.zip L)).map d3)]):=by
  refine qv rfl ?_;rw[qbJ (k:=1) (λz:Tie×List Int=>z.1.1) d3 (by simp only[lstOf,s]) (λz _=>qk7 z) (qk4 u j h) (by rw[wF,r];lia)];have p:refsLts 0 ((srtB (λz:Tie×List Int=>z.1.1) ((w.ties.zip L).map (clZ o))).map d3)=true:=qU λq i=>by
   obtain⟨z,_,rfl⟩:=wW.mp i;exact qeB z
  simp only[newL,v6,p];rw[wf];simp[clA]
 generalize hU:S++[SO.l (cs.map .int),.l (((w.ties.zip L).map (clZ o)).map d3),.l ((clA o (w.ties.zip L)).map d3)]=U at e5;have u0:U[S.length]?=some (.l (cs.map .int)):=by rw[<-hU,wI 00];simp
 have u2:U[S.length+2]?=some (.l ((clA o (w.ties.zip L)).map d3)):=by rw[<-hU,wI 00];simp
 have l1:=qav (g:=d3) (F:=G d) (fr:=[]) (nt:=1) (elt:=.slc (.v 0) .none (.some (.k (.int 2)))) (tg:=.v 0) (e:=.v 5) (ifs:=.nil) (ρ:=kE w L o (some (.ref S.length)) x (some (.ref (S.length+2))) J K M N) (S:=U) (S1:=U) (n:=S.length+2) (clA o (w.ties.zip L)) (λ_=>true) (λz=>tieD z.1) (λρ=>∃y,ρ=[y]) rfl u2 ⟨_,rfl⟩ (by unfold PySem.sizeLine;lia) (by
  rintro z O ρ m ⟨y,rfl⟩;exact⟨[some (d3 z)],rfl,⟨_,rfl⟩,rfl,λ_=>⟨rfl,zZ 0 z.1⟩⟩)
 rw[qA]at l1;have l2:=qav (g:=d3) (F:=G d) (fr:=[]) (nt:=1) (elt:=.idx (.v 0) (.k (.int 2))) (tg:=.v 0) (e:=.v 5) (ifs:=.nil) (ρ:=kE w L o (some (.ref S.length)) x (some (.ref (S.length+2))) J K M N) (S:=U) (S1:=U) (n:=S.length+2) (clA o (w.ties.zip L)) (λ_=>true) (λz=>.t ((amI z.2).map nmD)) (λρ=>∃y,ρ=[y]) rfl u2 ⟨_,rfl⟩ (by unfold PySem.sizeLine;lia) (by
  rintro z O ρ m ⟨y,rfl⟩;exact⟨[some (d3 z)],rfl,⟨_,rfl⟩,rfl,λ_=>⟨qr rfl rfl rfl,zy _⟩⟩)
 rw[qA]at l2;have m1:(clA o (w.ties.zip L)).map (λz=>tieD z.1)=(calT o w.ties).map tieD:=by rw[<-qbK u j h,wJ];rfl
 have m2:(clA o (w.ties.zip L)).map (λz=>D.t ((amI z.2).map nmD))=lyD (lyI ((clA o (w.ties.zip L)).map (·.2))):=by
  unfold lyD lyI;simp only[wJ];rfl
 rw[m1]at l1;rw[m2]at l2;rw[G_at (c:=c_33) rfl];refine qcp (S2:=[SO.l (cs.map .int),.l (((w.ties.zip L).map (clZ o)).map d3),.l ((clA o (w.ties.zip L)).map d3)]) rfl rfl ?_ rfl ?_
 .rw [hU]
  refine qI e1 (ρ1:=kE w L o (some (.ref S.length)) none none none none none none) rfl (qaq (ds:=(rI w.costs.length).map .int) (S1:=S++[.l ((List.replicate w.costs.length (0:Int)).map .int)]) (i_rng (qf H rfl) 00) ef ?_);have eL:ev (G d) (.l true .nil) (kE w L o (some (.ref S.length)) x none none none none none) (S++[.l (cs.map .int)])=.ok (.ref (S.length+1)) (S++[.l (cs.map .int),.l []]):=by
   have:=qdb (F:=G d) (ρ:=kE w L o (some (.ref S.length)) x none none none none none) (S:=S++[.l (cs.map .int)]) (S1:=S++[.l (cs.map .int)]) (es:=.nil) (l:=[]) rfl 02 rfl;rw[wV,wf]at this;exact this
  refine qI eL (ρ1:=kE w L o (some (.ref S.length)) x (some (.ref (S.length+1))) none none none none) rfl ?_;refine qaq (ds:=(w.ties.zip L).map λz:Tie×List Int=>.t [tieD z.1,.t ((amI z.2).map nmD)]) (S1:=S++[.l (cs.map .int),.l []]) (by rw[qbG rfl rfl,qaA,wJ];rfl) Y ?_;refine qI e5 (ρ1:=kE w L o (some (.ref S.length)) x (some (.ref (S.length+2))) J K M N) rfl (qC (qL (qf (qL (qf (qv (d:=tupI cs) rfl ?_) (qf (qv (d:=.t ((calT o w.ties).map tieD)) (qf l1 rfl) rfl) rfl)) (by simp[PySem.sizeLine])) (qf (qv (d:=.t (lyD (lyI ((clA o (w.ties.zip L)).map (·.2))))) (qf l2 rfl) rfl) rfl)) (by simp[PySem.sizeLine])));simp only[bltD,one,bTuple,seqOf,lstOf,u0,wg,ofO];rfl
 .have r1:=qcq S.length ⟨cs,calT o w.ties⟩
  have r2:refsLt S.length (.t (lyD (lyI ((clA o (w.ties.zip L)).map (·.2)))))=true:=qR _ (j0 _);show refsLts S.length [_,_]=true;simp only[refsLts,r1,r2,Bool.and_true]
def qhp(p:Am)(S:Sr):cmpD .ne (nmD p) (nmD p) S=some false:=by
 show some (!((p.1 == p.1)&&((p.2 == p.2)&&true)))=_;simp
def qdw(n:Nat):∀ps:List Am,eqL (eqD (n+2)) (ps.map nmD) (ps.map nmD)=some true
 |[]=>rfl
 |p::r=>by
  rw[wU,eqL,qdw n r];show(match some ((p.1 == p.1)&&((p.2 == p.2)&&true)),some true with|some x,some y=>some (x&&y)|_,_=>none)=_;simp
def qhq(ps:List Am)(S:Sr):cmpD .ne (.t (ps.map nmD)) (.t (ps.map nmD)) S=some false:=by
 show((eqL (eqD 19) (ps.map nmD) (ps.map nmD)).map (!·))=_;rw[qdw 17];rfl
def qk8(ps:List Am)(S:Sr):cmpD .eq (.t (ps.map nmD)) (.t (ps.map nmD)) S=some true:=qdw 17 ps
def qjr(b:Bool)(S:Sr):cmpD .ne (.bl b) (.bl b) S=some false:=by cases b <;> rfl
def qmx(b:Bool)(S:Sr):cmpD .eq (.bl b) (.bl b) S=some true:=by cases b <;> rfl
def qcP(q:Int×Int)(r:List (Int×Int))(i:Int):onI (q::r) i=(if q.1=i then q.2 else 0)+onI r i:=by
 unfold onI;by_cases e:q.1=i
 .rw [xQ (by simpa using e),wR e];simp
 .rw [xR (by simpa using e),wT e];simp
def qiX(i:Int):onI [] i=0:=rfl
def qiY(a b:List (Int×Int))(i:Int):onI (a++b) i=onI a i+onI b i:=by
 unfold onI;rw[List.filter_append,v5,x4]
def qcQ{b:Type}(f g:b->Int):∀l:List b,(l.map λx=>f x+g x).sum=(l.map f).sum+(l.map g).sum
 |[]=>by simp
 |a::r=>by simp only[wU,vO,qcQ f g r];lia
def qeC{x v:Int}:∀{l:List Int},l.Nodup->x∈l->(l.map λi=>if x=i then v else 0).sum=v
 |[],_,h=>by simp at h
 |a::r,nd,h=>by
  rw[wh]at nd;rw[wU,vO];by_cases e:x=a
  .rw [wR e]
   have:(r.map λi=>if x=i then v else 0).sum=0:=by
    have:∀{s:List Int},x∉s->(s.map λi=>if x=i then v else 0).sum=0:=by
     intro s;induction s with
     |nil=>intro _;rfl
     |cons b t d =>
      intro c;rw[wX,not_or]at c;rw[wU,vO,wT c.1,d c.2];rfl
    exact this (by rw[e];exact nd.1)
   rw[this];lia
  .rw [wT e,qeC nd.2 (by rcases wX.mp h with z|z;exact absurd z e;exact z)];lia
def qeD{m:Nat}:∀{qs:List (Int×Int)},(∀q∈qs,InR m q.1)->((rI m).map (onI qs)).sum=(qs.map (·.2)).sum
 |[],_=>by
  have:∀l:List Int,(l.map (onI [])).sum=0:=by
   intro l;induction l with
   |nil=>rfl
   |cons a r b=>rw[wU,vO,b];rfl
  exact this _
 |q::r,h=>by
  have e:(rI m).map (onI (q::r))=(rI m).map λi=>(if q.1=i then q.2 else 0)+onI r i:=wo λi _=>qcP q r i
  rw[e,qcQ,qeC (je m) (zT.mpr (h q wH)),wU,vO];have:=qeD (m:=m) (qs:=r) λy c=>h y (wL _ c)
  rw[<-this]
def qcR:∀{ts:List Tie} {L:07},LyZ ts L->((prs ts L).map (·.2)).sum=(ts.map (·.2)).sum*27720
 |[],L,_=>by simp[prs]
 |t::ts,[],h=>by have:=h.1;simp at this
 |t::ts,ys::L,h=>by
  have a:TyI t ys:=h.2 (t,ys) (by rw[wv];exact wH);have b:=qcR (ts:=ts) (L:=L) ⟨by have:=h.1;simpa using this,λz c=>h.2 z (by rw[wv];exact wL _ c)⟩;unfold prs at b ⊢;rw[wv,xK,v5,x4,b,wU,vO];show((t.1.zip ys).map (·.2)).sum+_=_;rw[qew a.len,a.sum];lia
def qk9{qs:List (Int×Int)}(h:∀q∈qs,0<=q.2)(i:Int):0<=onI qs i:=by
 unfold onI;have:∀{l:List Int},(∀x∈l,0<=x)->0<=l.sum:=by
  intro l;induction l with
  |nil=>intro _;simp
  |cons a r c =>
   intro h;rw[vO];have:=h a wH;have:=c λx b=>h x (wL _ b)
   lia
 refine this λx b=>?_
 obtain⟨q,d,rfl⟩:=wW.mp b;exact h q (uO.mp d).1
section
variable{w:Wb}(hw:WbOk w){L:List (List Int)}(h:LyZ w.ties L)
include hw h
theorem qiZ{q:Int×Int}(a:q∈prs w.ties L):0<=q.2:=by
 unfold prs at a;obtain⟨z,b,a⟩:=List.mem_flatMap.mp a;exact(h.2 z b).nn _ (wn a).2
theorem qhr:((rI w.costs.length).map (ldI w.ties L)).sum=(w.ties.map (·.2)).sum*27720:=by
 rw[<-qcR h];exact qeD λq a=>qdt hw a
theorem qhs:0<=(w.ties.map (·.2)).sum/\(w.ties.map (·.2)).sum<=30000000:=by
 have:∀{ts:List Tie},(∀t∈ts,1<=t.2/\t.2<=1000000)->0<=(ts.map (·.2)).sum/\(ts.map (·.2)).sum<=1000000*(ts.length:Int):=by
  intro ts;induction ts with
  |nil=>intro _;simp
  |cons t r d =>
   intro c;have j:=c t wH;have l:=d λx f=>c x (wL _ f)
   rw[wU,vO,wj];lia
 have a:=this (ts:=w.ties) λt i=>(hw.t2 t i).2.2
 have b:=hw.t1;lia
theorem qmy{x:Int}(c:InR w.costs.length x):0<=ldI w.ties L x/\ldI w.ties L x<=831600000000:=by
 have nn:∀y,0<=ldI w.ties L y:=λy=>qk9 (λq d=>qiZ hw h d) y
 refine⟨nn x,?_⟩;have a:=jl (l:=(rI w.costs.length).map (ldI w.ties L)) (λy f=>by obtain⟨z,_,rfl⟩:=wW.mp f;exact nn z) (y:=ldI w.ties L x) (wW.mpr ⟨x,zT.mpr c,rfl⟩);rw[qhr hw h]at a;have b:=qhs hw h;lia
theorem qjs{x B:Int}(f:InR w.costs.length x)(d:1<=B)(i:B<=2772000):NS (lw (ldI w.ties L x) B):=by
 have a:=qmy hw h f;have b:=qhc (t:=ldI w.ties L x) d;have c:=yB (t:=ldI w.ties L x) d;exact⟨by lia,(q9 d).pos,by lia⟩
end
noncomputable def deW(w:Wb)(f:Int):Wb:=⟨w.costs.map (·*f),w.ties⟩
noncomputable def thT(f:Int)(t:Tie):Tie:=(t.1,t.2*f)
noncomputable def thW(w:Wb)(f:Int):Wb:=⟨w.costs,w.ties.map (thT f)⟩
noncomputable def thL(f:Int)(L:07):List (List Int):=L.map (·.map (·*f))
section
variable{w:Wb}(hw:WbOk w)(hs:Sm w){f:Int}(hf:2<=f/\f<=9)
include hw hs hf
theorem qla:WbOk (deW w f):=by
 refine⟨by show 1<=(w.costs.map (·*f)).length;rw[wF];exact hw.c1,by show(w.costs.map (·*f)).length<=12;rw[wF];exact hw.c2,?_,hw.t1,?_,hw.t3⟩
 .intro c h
  obtain⟨x,d,rfl⟩:=wW.mp h;have a:=(hw.c3 x d).1;have b:=hs.1 x d;have:x=1\/x=2\/x=3\/x=4\/x=5:=by lia
  show 1<=x*f/\x*f<=100;rcases this with rfl|rfl|rfl|rfl|rfl <;> lia
 .intro t i
  show PlOk (w.costs.map (·*f)).length t.1/\_;rw[wF];exact hw.t2 t i
theorem qlb:WbOk (thW w f):=by
 refine⟨hw.c1,hw.c2,hw.c3,by show(w.ties.map (thT f)).length<=30;rw[wF];exact hw.t1,?_,?_⟩
 .intro t h
  obtain⟨s,d,rfl⟩:=wW.mp h;obtain⟨a,b,c⟩:=hw.t2 s d;have e:=hs.2 s d;refine⟨a,b,?_⟩;have:s.2=1\/s.2=2\/s.2=3\/s.2=4\/s.2=5\/s.2=6\/s.2=7\/s.2=8\/s.2=9:=by lia
  show 1<=s.2*f/\s.2*f<=1000000;rcases this with e|e|e|e|e|e|e|e|e <;> rw[e] <;> lia
 .show ((w.ties.map (thT f)).map (·.1)).Pairwise _
  rw[wJ];exact hw.t3
end
section
variable{w:Wb}(hw:WbOk w){f:Int}(hf:2<=f/\f<=9){L:List (List Int)}(h:LyZ w.ties L)
include hw hf h
theorem qlc:LyZ (thW w f).ties (thL f L):=by
 refine⟨by show(L.map _).length=(w.ties.map _).length;rw[wF,wF];exact h.1,?_⟩;intro z d;have d:z∈(w.ties.map (thT f)).zip (L.map (·.map (·*f))):=d;rw[uN]at d;obtain⟨y,i,rfl⟩:=wW.mp d;obtain⟨a,b,c⟩:=h.2 y i;refine⟨by show(y.2.map (·*f)).length=_;rw[wF];exact a,?_,?_⟩
 .show (y.2.map (·*f)).sum=y.1.2*f*27720
  rw[jn,b];grind
 .intro x j
  obtain⟨u,l,rfl⟩:=wW.mp j;exact Int.mul_nonneg (c u l) 00
theorem qi0:prs (thW w f).ties (thL f L)=(prs w.ties L).map λq=>(q.1,q.2*f):=by
 unfold prs;show((w.ties.map (thT f)).zip (L.map (·.map (·*f)))).flatMap _=_;rw[uN,List.flatMap_map,List.map_flatMap];congr 1;funext z;show z.1.1.zip (z.2.map (·*f))=_;rw[vn];rfl
theorem qdx(x:Int):ldI (thW w f).ties (thL f L) x=ldI w.ties L x*f:=by
 unfold ldI;rw[qi0 hw hf h];unfold onI;rw[List.filter_map,wJ,<-jn,wJ];rfl
theorem qld:lvB (thW w f) (thL f L)=lvB w L:=by
 unfold lvB;show((w.ties.map (thT f)).zip (L.map (·.map (·*f)))).all _=_;rw[uN,xD];rw[ww,we,we];have st:∀z:Tie×List Int,lowB (ldI (thW w f).ties (thL f L)) (λi=>cstI (thW w f) i) ((thT f z.1).1.zip (z.2.map (·*f)))=lowB (ldI w.ties L) (λi=>cstI w i) (z.1.1.zip z.2):=λz=>by
  rw[show(thT f z.1).1.zip (z.2.map (·*f))=(z.1.1.zip z.2).map λq=>(q.1,q.2*f) by rw[vn];rfl];unfold lowB;rw[ww];simp only[xD,we,vg,Function.comp,wm,vd,va];have m1:∀y:Int,y*f<=0 ↔ y<=0:=λy=>by
   constructor
   .intro z
    rcases xa 0 y with g|g
    .have:=ui g (show 0<f by lia);lia
    .exact g
   .intro z
    exact Int.mul_nonpos_of_nonpos_of_nonneg z 00
  have m2:∀a b:Int×Int,(ldI (thW w f).ties (thL f L) a.1*cstI (thW w f) b.1<ldI (thW w f).ties (thL f L) b.1*cstI (thW w f) a.1) ↔ (ldI w.ties L a.1*cstI w b.1<ldI w.ties L b.1*cstI w a.1):=λa b=>by
   rw[qdx hw hf h,qdx hw hf h];show ldI w.ties L a.1*f*cstI w b.1<ldI w.ties L b.1*f*cstI w a.1 ↔ _;generalize ldI w.ties L a.1=A;generalize ldI w.ties L b.1=B;generalize cstI w a.1=C;generalize cstI w b.1=E;rw[show A*f*E=(A*E)*f by grind,show B*f*C=(B*C)*f by grind];exact⟨λz=>uy z 00,λz=>ux z 00⟩
  constructor
  .intro z q c
   rcases z q c with y|y
   .exact .inl ((m1 _).mp y)
   .exact .inr λo d e=>y o d ((m2 o q).mpr e)
  .intro z q c
   rcases z q c with y|y
   .exact .inl ((m1 _).mpr y)
   .exact .inr λo d e=>y o d ((m2 o q).mp e)
 constructor
 .intro z y j;rw[<-st y];exact z y j
 .intro z y j
  exact(st y).trans (z y j)
theorem qle:lvB (deW w f) L=lvB w L:=by
 unfold lvB;show(w.ties.zip L).all _=_;rw[ww,we,we];have m:∀x,InR w.costs.length x->cstI (deW w f) x=cstI w x*f:=λx n=>by
  have j:x.toNat<w.costs.length:=by have:=n.1;have:=n.2;lia
  unfold cstI deW;dsimp only;rw[wK,w5,wD j,wK,wD j];rfl
 have st:∀z∈w.ties.zip L,lowB (ldI (deW w f).ties L) (λi=>cstI (deW w f) i) (z.1.1.zip z.2)=lowB (ldI w.ties L) (λi=>cstI w i) (z.1.1.zip z.2):=λz c=>by
  have p:∀q∈z.1.1.zip z.2,InR w.costs.length q.1:=λq d=>(hw.t2 _ (wn c).1).1.rng _ (wn d).1
  unfold lowB;rw[ww];simp only[we,vg,wm,vd,va];have m2:∀a∈z.1.1.zip z.2,∀b∈z.1.1.zip z.2,(ldI (deW w f).ties L a.1*cstI (deW w f) b.1<ldI (deW w f).ties L b.1*cstI (deW w f) a.1) ↔ (ldI w.ties L a.1*cstI w b.1<ldI w.ties L b.1*cstI w a.1):=λa ha b hb=>by
   rw[m _ (p a ha),m _ (p b hb)];show ldI w.ties L a.1*(cstI w b.1*f)<ldI w.ties L b.1*(cstI w a.1*f) ↔ _;generalize ldI w.ties L a.1=A;generalize ldI w.ties L b.1=B;generalize cstI w a.1=C;generalize cstI w b.1=E;rw[show A*(E*f)=(A*E)*f by grind,show B*(C*f)=(B*C)*f by grind];exact⟨λz=>uy z 00,λz=>ux z 00⟩
  constructor
  .intro y q d
   rcases y q d with g|g
   .exact .inl g
   .exact .inr λo l e=>g o l ((m2 o l q d).mpr e)
  .intro y q d
   rcases y q d with g|g
   .exact .inl g
   .exact .inr λo l e=>g o l ((m2 o l q d).mp e)
 constructor
 .intro y z c;rw[<-st z c];exact y z c
 .intro y z c;exact(st z c).trans (y z c)
theorem qlf:hgV (deW w f) L=(hgV w L).map λa=>byn a (1,f):=by
 unfold hgV;rw[wJ];show(List.range (w.costs.map (·*f)).length).map _=_;rw[wF];apply wo;intro i hi;have hi:=vY.mp hi;have b:cstI (deW w f) (i:Int)=cstI w i*f:=by
  unfold cstI deW;dsimp only;rw[wK,w5,show((i:Int)).toNat=i by lia,wD hi,wK,wD hi];rfl
 show lw (ldI w.ties L i) (27720*cstI (deW w f) i)=byn (lw (ldI w.ties L i) (27720*cstI w i)) (1,f);have c1:=j3 hw hi;rw[b];unfold byn;rw[qiC 00 00,Int.mul_assoc]
theorem qi1:ldV (thW w f) (thL f L)=(ldV w L).map λa=>byn a (f,1):=by
 unfold ldV;rw[wJ];apply wo;intro i hi;show lw (ldI (thW w f).ties (thL f L) i) 27720=byn (lw (ldI w.ties L i) 27720) (f,1);rw[qdx hw hf h];unfold byn;exact(qcA 02 00).symm
end
def qi2{d:Nat}{L:07}{f:Int}{S:Sr}(u:2<=f/\f<=9)(v:L.length<=100)(i:∀ys∈L,ys.length<=100):G (d+3) 34 [.t (lyD (lyI L)),.int f] S=.ok (.t (lyD (lyI (thL f L)))) S:=by
 rw[G_at (c:=c_34) rfl];have e:=zY (g:=λys:List Int=>.t ((amI ys).map nmD)) (F:=G (d+2)) (fr:=[1]) (nt:=1) (elt:=.blt .tuple (.c (.lc false [0] 1 (.call 31 (.c (.v 1) (.c (.t (.c (.v 0) (.c (.k (.int 1)) .n))) .n))) (.v 1) (.seq (.v 1)) .n) .n)) (tg:=.v 1) (it:=.seq (.v 0)) (ifs:=.nil) (ρ:=[some (.t (lyD (lyI L))),some (.int f)]) (S:=S) (S1:=S) (ds:=lyD (lyI L)) L (λ_=>true) (λys=>.t ((amI (ys.map (·*f))).map nmD)) (λρ=>∃y,ρ=[some (.int f),y]) rfl (by unfold lyD lyI;rw[wJ];rfl) ⟨_,rfl⟩ (by unfold PySem.sizeLine;lia) (by
  rintro ys a ρ m ⟨y,rfl⟩;have e:=zY (g:=λy:Int=>nmD (lw y 27720)) (F:=G (d+2)) (fr:=[0]) (nt:=1) (elt:=.call 31 (.c (.v 1) (.c (.t (.c (.v 0) (.c (.k (.int 1)) .n))) .n))) (tg:=.v 1) (it:=.seq (.v 1)) (ifs:=.nil) (ρ:=[some (.int f),some (.t ((amI ys).map nmD))]) (S:=S++[.l m]) (S1:=S++[.l m]) (ds:=(amI ys).map nmD) ys (λ_=>true) (λy=>nmD (lw (y*f) 27720)) (λρ=>∃y,ρ=[some (.int f),y]) rfl (by unfold amI;rw[wJ];rfl) ⟨_,rfl⟩ (by have:=i ys a;unfold PySem.sizeLine;lia) (by
   rintro y w ρ j ⟨x,rfl⟩;have hb:=yB (t:=y) (b:=27720) 02;have n:=(q9 (t:=y) (b:=27720) 02).pos;refine⟨[some (.int f),some (nmD (lw y 27720))],rfl,⟨_,rfl⟩,rfl,λ_=>⟨?_,rfl⟩⟩;have h:=e_by (d:=d) (p:=lw y 27720) (q:=(f,1)) (S:=S++[.l m]++[.l j]) n ⟨by show f.natAbs<_;lia,(show(1:Int)<=1 by decide),(show(1:Int)<2^64 by decide)⟩ (by show(lw y 27720).2*1<_;lia);have o:byn (lw y 27720) (f,1)=lw (y*f) 27720:=by
    unfold byn;exact qcA 02 00
   rw[o]at h;exact qj (qf rfl (qf (qL (l:=[.int f,.int 1]) rfl (by simp[PySem.sizeLine])) rfl)) h)
  rw[qA]at e;have r:ys.map (λy=>nmD (lw (y*f) 27720))=(amI (ys.map (·*f))).map nmD:=by unfold amI;simp only[wJ];rfl
  rw[r]at e;exact⟨[some (.int f),some (.t ((amI ys).map nmD))],rfl,⟨_,rfl⟩,rfl,λ_=>⟨qv (qf e rfl) rfl,zy _⟩⟩)
 rw[qA]at e;have s:L.map (λys=>D.t ((amI (ys.map (·*f))).map nmD))=lyD (lyI (thL f L)):=by unfold lyD lyI thL;simp only[wJ];rfl
 rw[s]at e;exact qF rfl (qC (qv (qf e rfl) rfl))
def qht{d n:Nat}{w:Wb}{v:Int}{ρ0:En}{S:Sr}(H:WbOk w)(hn:n<S.length)(I:0<=v)(J:ρ0[8]?=some (some (.ref S.length)))(K:ρ0[0]?=some (some (.ref n)))(r1:ρ0[1]?=some (some (webD w))):∃(o:List Int) (u:Int),o.Perm (rI w.costs.length)/\0<=u/\ev (G (d+1)) (.lc false [8,0] 1 (.popAt (.v 0) (.call 26 (.c (.v 1) (.c (.blt .len (.c (.v 0) .n)) .n)))) (.v 2) (.seq (.idx (.v 1) (.k (.int 0)))) .n) ρ0 (pk S n v++[.l ((rI w.costs.length).map .int)])=.ok (.l (o.map .int)) (pk S n u++[.l []]):=by
 have L:=H.c2;have l:ev (G (d+1)) (.v 1) ρ0 (pk S n v++[.l ((rI w.costs.length).map .int)])=.ok (webD w) (pk S n v++[.l ((rI w.costs.length).map .int)]):=by simp only[ev,varE,r1]
 have p:evI (G (d+1)) (.seq (.idx (.v 1) (.k (.int 0)))) ρ0 (pk S n v++[.l ((rI w.costs.length).map .int)])=.ok (w.costs.map .int) (pk S n v++[.l ((rI w.costs.length).map .int)]):=by
  have:ev (G (d+1)) (.idx (.v 1) (.k (.int 0))) ρ0 (pk S n v++[.l ((rI w.costs.length).map .int)])=.ok (tupI w.costs) (pk S n v++[.l ((rI w.costs.length).map .int)]):=qr l rfl rfl;simp only[evI,this,Res.bind,tupI]
 obtain⟨b,P,e,⟨a,ls,u,rfl,rfl,r,i⟩,B,s⟩:=qdd (g:=.int) (F:=G (d+1)) (fr:=[8,0]) (nt:=1) (elt:=.popAt (.v 0) (.call 26 (.c (.v 1) (.c (.blt .len (.c (.v 0) .n)) .n)))) (tg:=.v 2) (it:=.seq (.idx (.v 1) (.k (.int 0))))
  (ρ:=ρ0) (S:=pk S n v++[.l ((rI w.costs.length).map .int)]) (S1:=pk S n v++[.l ((rI w.costs.length).map .int)]) w.costs (λρ=>∃x,ρ=[some (.ref S.length),some (.ref n),x])
  (λb T=>∃a ls u,b=a.map .int/\T=pk S n u++[.l (ls.map .int)]/\0<=u/\(a++ls).Perm (rI w.costs.length))
  p rfl ⟨none,by simp[frE,J,K]⟩ 00 ⟨[],rI w.costs.length,_,rfl,rfl,I,.refl _⟩ (by
   rintro q Q ρ m T ⟨x,rfl⟩ ⟨a,ls,u,rfl,rfl,r,i⟩ U hm;have c:=i.length_eq;rw[wV,zG]at c;rw[wF]at hm;have M:0<ls.length:=by lia
   have f:=fm (v:=u) (m:=(ls.length:Int)) 00;have C:=zN (d:=d) (n:=n) (v:=u) (m:=ls.length) (S:=(S++[.l (ls.map .int)])++[.l (a.map .int)]) (by simp;lia) 00 00;rw[<-zk (by simp;lia),<-zk hn,<-zk (by simp;lia),<-zk hn]at C;obtain⟨y,E⟩:∃y,ls[(u.fmod ls.length).toNat]?=some y:=⟨_,wD 00⟩;refine⟨[some (.ref S.length),some (.ref n),some (.int q)],.int y,pk S n (u.fdiv ls.length)++[.l ((ls.eraseIdx (u.fmod ls.length).toNat).map .int)],rfl,⟨_,rfl⟩,?_,by simp[qo],rfl,a++[y],ls.eraseIdx (u.fmod ls.length).toNat,u.fdiv ls.length,by simp,rfl,vH r 00,?_⟩
   .have h:∀u,(pk S n u++[.l (ls.map .int)]++[.l (a.map .int)])[S.length]?=some (.l (ls.map .int)):=by
     intro u;rw[wf,wI (by rw[qo];lia),qo];simp
    have N:bltD .len [.ref S.length] (pk S n u++[.l (ls.map .int)]++[.l (a.map .int)])=.ok (.int ls.length) (pk S n u++[.l (ls.map .int)]++[.l (a.map .int)]):=by
     simp only[bltD,one,bLen,lenD,h,wg,wF,ofO];rfl
    have O:ev (G (d+1)) (.call 26 (.c (.v 1) (.c (.blt .len (.c (.v 0) .n)) .n))) [some (.ref S.length),some (.ref n),some (.int q)] (pk S n u++[.l (ls.map .int)]++[.l (a.map .int)])=.ok (.int (u.fmod ls.length)) (pk S n (u.fdiv ls.length)++[.l (ls.map .int)]++[.l (a.map .int)]) :=
     qj (qf rfl (qf (qv rfl N) rfl)) C
    have j:popD (pk S n (u.fdiv ls.length)++[.l (ls.map .int)]++[.l (a.map .int)]) (.ref S.length) (.int (u.fmod ls.length))=.ok (.int y) (pk S n (u.fdiv ls.length)++[.l ((ls.eraseIdx (u.fmod ls.length).toNat).map .int)]++[.l (a.map .int)]):=by
     unfold popD;simp only[h];rw[wR ⟨f.1,by lia⟩,w5,E];simp only[wg];rw[qde,wf,vD _ _ (by rw[qo];lia),qo];simp
    have hi:isLst (pk S n u++[.l (ls.map .int)]++[.l (a.map .int)]) (.ref S.length)=true:=by simp only[isLst,h]
    exact qjm rfl hi O j
   .rw [wf]
    exact((qbw E).append_left a).trans i)
 rw[wF]at s;have c:=i.length_eq;rw[wV,zG]at c;have A:ls=[]:=wt.mp 00;subst A;rw[vf]at i;exact⟨a,u,i,r,e⟩
def qmz{l:List Int}{S:Sr}:bltD .sum [.l (l.map .int)] S=.ok (.int l.sum) S:=by
 simp only[bltD,one,bSum,seqOf,lstOf,wY,qN,wg,ofO]
def v_by{F:Fs}{i k:Nat}{ρ:En}{S:Sr}{ps:List Am}{q:Am}{a b:CE}(hi:ρ[i]?=some (some (.t (ps.map nmD))))(o:ps.length<=100)(x:D)(f:ρ[k]?=some (some x))(d:∀y S,evs F (.cons a (.cons b .nil)) [some x,y] S=.ok [.int q.1,.int q.2] S)(c:Nat)(h:∀p∈ps,∀S,F c [nmD p,nmD q] S=.ok (nmD (byn p q)) S):
  ev F (.blt .tuple (.c (.lc false [k] 1 (.call c (.c (.v 1) (.c (.t (.cons a (.cons b .nil))) .n))) (.v 1) (.seq (.v i)) .n) .n)) ρ S=.ok (.t ((ps.map λp=>byn p q).map nmD)) S:=by
 have j:ev F (.v i) ρ S=.ok (.t (ps.map nmD)) S:=by simp only[ev,varE,hi]
 have e:=zY (g:=nmD) (F:=F) (fr:=[k]) (nt:=1) (elt:=.call c (.c (.v 1) (.c (.t (.cons a (.cons b .nil))) .n))) (tg:=.v 1) (it:=.seq (.v i)) (ifs:=.nil) (ρ:=ρ) (S:=S) (S1:=S) (ds:=ps.map nmD) ps (λ_=>true) (λp=>nmD (byn p q)) (λρ=>∃y,ρ=[some x,y]) (by simp only[evI,j,Res.bind]) rfl ⟨none,by simp[frE,f]⟩ (by unfold PySem.sizeLine;lia) (by
  rintro p l ρ m ⟨y,rfl⟩;exact⟨[some x,some (nmD p)],rfl,⟨_,rfl⟩,rfl,λ_=>⟨qj (qf rfl (qf (qL (d _ _) (by simp[PySem.sizeLine])) rfl)) (h p l _),rfl⟩⟩)
 rw[qA]at e;have n:ps.map (λp=>nmD (byn p q))=(ps.map λp=>byn p q).map nmD:=by rw[wJ];rfl
 rw[n]at e;exact qv (qf e rfl) rfl
noncomputable abbrev rE(n:Nat)(w:Wb)(L:07)(a3 a4 a5 a6 a7 a8 a9 a10 a11 a12 a13 a14 a15 a16 a17:Option D):En:=[some (.ref n),some (webD w),some (.t (lyD (lyI L))),a3,a4,a5,a6,a7,a8,a9,a10,a11,a12,a13,a14,a15,a16,a17]
def qhu(m:Nat)(f:Int->Am):((List.range m).map λi:Nat=>f i)=(rI m).map f:=by unfold rI;rw[wJ];rfl
def qlg{w:Wb}(d:WbOk w){L:07}{p:Am}(c:p∈hgV w L):1<=p.2/\p.2<=2772000:=by
 unfold hgV at c;obtain⟨i,hi,rfl⟩:=wW.mp c;have f:=j3 d (vY.mp hi);have a:=yB (t:=ldI w.ties L i) (b:=27720*cstI w i) 00;have b:=(q9 (t:=ldI w.ties L i) (b:=27720*cstI w i) 00).pos;lia
def qlh{w:Wb}{L:07}{p:Am}(c:p∈ldV w L):1<=p.2/\p.2<=2772000:=by
 unfold ldV at c;obtain⟨i,hi,rfl⟩:=wW.mp c;have a:=yB (t:=ldI w.ties L i) (b:=27720) 00;have b:=(q9 (t:=ldI w.ties L i) (b:=27720) 00).pos;lia
def qli(w:Wb)(L:07):(hgV w L).length=w.costs.length:=by simp[hgV]
def qhv(w:Wb)(L:07):(ldV w L).length=w.costs.length:=by simp[ldV]
set_option maxHeartbeats 4000000 in
def qi3{d n:Nat}{v:Int}{w:Wb}{L:07}{T:Sr}(r:WbOk w)(hs:Sm w)(ao:w.ties.length<=12)(h:LyZ w.ties L)(hn:n<T.length)(hv:0<=v):Ok (G (d+14) 35 [.ref n,webD w,.t (lyD (lyI L))] (pk T n v)) λy S'=>∃u,0<=u/\y=.bl true/\S'=pk T n u:=by
 rw[G_at (c:=c_35) rfl];refine jU (f:=c_35) rfl rfl ?_;have an:=r.c2;have A:w.ties.length<=16:=by lia
 have E1:evs (G (d+13)) (.c (.call 20 (.c (.v 1) (.c (.v 2) .n))) (.c (.call 21 (.c (.v 1) (.c (.v 2) .n))) (.c (.call 22 (.c (.v 1) (.c (.v 2) .n))) .n))) (rE n w L none none none none none none none none none none none none none none none) (pk T n v)=.ok [.t ((ldV w L).map nmD),.t ((hgV w L).map nmD),.bl (lvB w L)] (pk T n v) :=
  qf (qj rfl (yC (d:=d+2) r A h)) (qf (qj rfl (yh (d:=d+1) r A h)) (qf (qj rfl (yi r A h)) rfl))
 refine qW (Ok.of (qL E1 (by simp[PySem.sizeLine])) (Ok.of (a:=rE n w L (some (.t ((ldV w L).map nmD))) (some (.t ((hgV w L).map nmD))) (some (.bl (lvB w L))) none none none none none none none none none none none none) rfl ?_));refine qW (Ok.of (qL rfl (by simp[PySem.sizeLine])) (Ok.of (a:=rE n w L (some (.t ((ldV w L).map nmD))) (some (.t ((hgV w L).map nmD))) (some (.bl (lvB w L))) (some (nmD (0,1))) none none none none none none none none none none none) rfl ?_));have ae:(ldV w L).map nmD=(rI w.costs.length).map λx=>nmD (lw (ldI w.ties L x) 27720):=by
  unfold ldV;rw[qhu w.costs.length λx=>lw (ldI w.ties L x) 27720,wJ];rfl
 refine qcw (g:=λx:Int=>nmD (lw (ldI w.ties L x) 27720)) (λpre ρ U=>∃s,ρ=rE n w L (some (.t ((ldV w L).map nmD))) (some (.t ((hgV w L).map nmD))) (some (.bl (lvB w L))) (some (nmD (lw (pre.map (ldI w.ties L)).sum 27720))) s none none none none none none none none none none/\U=pk T n v) (rI w.costs.length) (Ok.of (a:=(ldV w L).map nmD) (S:=pk T n v) rfl ⟨ae,none,by rw[u5,List.sum_nil,qa5 02],rfl⟩) ?_ ?_
 .rintro pre x af ρ U H ⟨s,rfl,rfl⟩
  have C:InR w.costs.length x:=zT.mp (by rw[H];simp);refine Ok.of (a:=rE n w L (some (.t ((ldV w L).map nmD))) (some (.t ((hgV w L).map nmD))) (some (.bl (lvB w L))) (some (nmD (lw (pre.map (ldI w.ties L)).sum 27720))) (some (nmD (lw (ldI w.ties L x) 27720))) none none none none none none none none none none) rfl ?_;have p1:=(q9 (t:=(pre.map (ldI w.ties L)).sum) (b:=27720) 02).pos;have p2:=yB (t:=(pre.map (ldI w.ties L)).sum) (b:=27720) 02;have p3:=qjs r h C (B:=27720) 02 02;have p4:=yB (t:=ldI w.ties L x) (b:=27720) 02;have p5:(lw (pre.map (ldI w.ties L)).sum 27720).2*(lw (ldI w.ties L x) 27720).2<2^250:=by
   have:=uY p2 p4 (by have:=p3.b1;lia) 02;have:(27720:Int)*27720<2^250:=by decide
   lia
  have X:=qha (d:=d+11) (S:=pk T n v) p1 p3 p5;rw[qdq 02]at X;refine qW (Ok.of (qj rfl X) (Ok.of (a:=rE n w L (some (.t ((ldV w L).map nmD))) (some (.t ((hgV w L).map nmD))) (some (.bl (lvB w L))) (some (nmD (lw ((pre.map (ldI w.ties L)).sum+ldI w.ties L x) 27720))) (some (nmD (lw (ldI w.ties L x) 27720))) none none none none none none none none none none) rfl ?_));exact qau ⟨some (nmD (lw (ldI w.ties L x) 27720)),by rw[v5,x4,List.map_singleton,List.sum_singleton],rfl⟩
 rintro ρ U ⟨s,rfl,rfl⟩;rw[qhr r h,jk 02];have X:=zY (g:=tieD) (F:=G (d+13)) (fr:=[]) (nt:=2) (elt:=.v 1) (tg:=.t (.c (.v 0) (.c (.v 1) .n))) (it:=.seq (.idx (.v 1) (.k (.int 1)))) (ifs:=.nil) (ρ:=rE n w L (some (.t ((ldV w L).map nmD))) (some (.t ((hgV w L).map nmD))) (some (.bl (lvB w L))) (some (nmD ((w.ties.map (·.2)).sum,1))) s none none none none none none none none none none) (S:=pk T n v) (S1:=pk T n v) (ds:=w.ties.map tieD) w.ties (λ_=>true) (λt=>.int t.2) (λρ=>∃y z,ρ=[y,z]) rfl rfl ⟨_,_,rfl⟩ (by unfold PySem.sizeLine;lia) (by
  rintro t ht ρ m ⟨y,z,rfl⟩;exact⟨_,rfl,⟨_,_,rfl⟩,rfl,λ_=>⟨rfl,rfl⟩⟩)
 rw[qA]at X;have ag:w.ties.map (λt=>D.int t.2)=(w.ties.map (·.2)).map .int:=by rw[wJ];rfl
 rw[ag]at X;refine zO (t_of (qO rfl (qL (l:=[.int (w.ties.map (·.2)).sum,.int 1]) (qf (qv (qf X rfl) qmz) (qf rfl rfl)) (by simp[PySem.sizeLine])) (qhp ((w.ties.map (·.2)).sum,1) _))) ?_;generalize some (nmD ((w.ties.map (·.2)).sum,1))=a6;refine qW (Ok.of (qgQ (n:=w.costs.length) (qf (qv (qf (qr rfl rfl rfl) rfl) (zE _ _)) rfl) 00) (Ok.of (a:=rE n w L (some (.t ((ldV w L).map nmD))) (some (.t ((hgV w L).map nmD))) (some (.bl (lvB w L))) a6 s (some (.ref T.length)) none none none none none none none none none) (by rw[qo];rfl) ?_));obtain⟨o,u,E,hu,eo⟩:=qht (d:=d+12) (n:=n) (w:=w) (v:=v) (ρ0:=rE n w L (some (.t ((ldV w L).map nmD))) (some (.t ((hgV w L).map nmD))) (some (.bl (lvB w L))) a6 s (some (.ref T.length)) none none none none none none none none none) (S:=T) r hn hv rfl rfl rfl;have ol:=yL E;refine qW (Ok.of eo (Ok.of (a:=rE n w L (some (.t ((ldV w L).map nmD))) (some (.t ((hgV w L).map nmD))) (some (.bl (lvB w L))) a6 s (some (.ref T.length)) (some (.l (o.map .int))) none none none none none none none none) rfl ?_));obtain⟨cs,Y,I,ec⟩:=qho (d:=d+12) (S:=pk T n u++[.l []]) r h E;have Z:=qiB r E Y I;have O:=qk5 r E h;have J:(calT o w.ties).length<=16:=by
  have:=(jB r E).length_eq;rw[wF]at this;lia
 have K:∀x,InR w.costs.length x->ldI (calT o w.ties) ((clA o (w.ties.zip L)).map (·.2)) (nth o x)=ldI w.ties L x:=λx C=>qhn r E h C
 have P:=qk6 r E h I;generalize (clA o (w.ties.zip L)).map (·.2)=L' at ec O K P;generalize M:(⟨cs,calT o w.ties⟩:Wb)=w' at ec Z P;have O:LyZ w'.ties L':=by rw[<-M];exact O
 have J:w'.ties.length<=16:=by rw[<-M];exact J
 have K:∀x,InR w.costs.length x->ldI w'.ties L' (nth o x)=ldI w.ties L x:=by rw[<-M];exact K
 have ah:w'.costs.length=w.costs.length:=by rw[<-M];exact Y
 have I:∀x,InR w.costs.length x->cstI w' (nth o x)=cstI w x:=by rw[<-M];exact I
 refine qW (Ok.of (qj rfl ec) (Ok.of (a:=rE n w L (some (.t ((ldV w L).map nmD))) (some (.t ((hgV w L).map nmD))) (some (.bl (lvB w L))) a6 s (some (.ref T.length)) (some (.l (o.map .int))) (some (webD w')) (some (.t (lyD (lyI L')))) none none none none none none) rfl ?_));refine qW (Ok.of (qL (qf (qj rfl (yC (d:=d+2) Z J O)) (qf (qj rfl (yh (d:=d+1) Z J O)) rfl)) (by simp[PySem.sizeLine])) (Ok.of (a:=rE n w L (some (.t ((ldV w L).map nmD))) (some (.t ((hgV w L).map nmD))) (some (.bl (lvB w L))) a6 s (some (.ref T.length)) (some (.l (o.map .int))) (some (webD w')) (some (.t (lyD (lyI L')))) (some (.t ((ldV w' L').map nmD))) (some (.t ((hgV w' L').map nmD))) none none none none) rfl ?_));refine qcw (g:=.int) (λpre ρ U=>∃j,ρ=rE n w L (some (.t ((ldV w L).map nmD))) (some (.t ((hgV w L).map nmD))) (some (.bl (lvB w L))) a6 s (some (.ref T.length)) (some (.l (o.map .int))) (some (webD w')) (some (.t (lyD (lyI L')))) (some (.t ((ldV w' L').map nmD))) (some (.t ((hgV w' L').map nmD))) j none none none/\U=pk T n u++[.l []]) (rI w.costs.length) (Ok.of (i_rng (qf (by rw[<-ol];exact qv rfl (qez o _)) rfl) 00) ⟨rfl,none,rfl,rfl⟩) ?_ ?_
 .rintro pre x af ρ U H ⟨j,rfl,rfl⟩
  have C:InR w.costs.length x:=zT.mp (by rw[H];simp);refine Ok.of (a:=rE n w L (some (.t ((ldV w L).map nmD))) (some (.t ((hgV w L).map nmD))) (some (.bl (lvB w L))) a6 s (some (.ref T.length)) (some (.l (o.map .int))) (some (webD w')) (some (.t (lyD (lyI L')))) (some (.t ((ldV w' L').map nmD))) (some (.t ((hgV w' L').map nmD))) (some (.int x)) none none none) rfl ?_;have ho:InR w'.costs.length (nth o x):=by rw[ah];exact jW E C
  have i1:=qdu (w:=w') L' ho (pk T n u++[.l []]);have i2:=qbH (w:=w') L' ho (pk T n u++[.l []]);rw[K x C]at i1;rw[K x C,I x C]at i2;have i0:=qbM (l:=o) (S:=pk T n u++[.l []]) C.1 (by rw[ol];exact C.2);refine zO (t_or (x:=false) (y:=false) (t_of (qO (qr rfl (qr rfl rfl i0) i1) (qr rfl rfl (qdu L C _)) (qhp _ _))) (t_of (qO (qr rfl (qr rfl rfl i0) i2) (qr rfl rfl (qbH L C _)) (qhp _ _)))) ?_;exact qau ⟨_,rfl,rfl⟩
 rintro ρ U ⟨j,rfl,rfl⟩;have a0:=yi (d:=d) (S:=pk T n u++[.l []]) Z J O;rw[P]at a0;refine zO (t_or (x:=false) (y:=false) (t_of (qO (qj rfl a0) rfl (qjr _ _))) (t_of (qO (qj rfl (qbI (d:=d+4) Z O)) rfl rfl))) ?_;generalize some (D.t ((ldV w' L').map nmD))=a12;generalize some (D.t ((hgV w' L').map nmD))=a13;generalize some (D.t (lyD (lyI L')))=a11;generalize some (webD w')=a10;generalize some (D.l (o.map .int))=a9;have f8:=fm (v:=u) (m:=8) 02;have et:=jZ (d:=d+12) (n:=n) (v:=u) (m:=8) (S:=T) (T:=[.l []]) hn 02 02;have a1:0<=u.fdiv 8:=vH hu 02;generalize u.fdiv 8=u2 at et a1;have N:2<=2+u.fmod 8/\2+u.fmod 8<=9:=by lia
 refine qW (Ok.of (qD rfl (qj rfl et) badd) (Ok.of (a:=rE n w L (some (.t ((ldV w L).map nmD))) (some (.t ((hgV w L).map nmD))) (some (.bl (lvB w L))) a6 s (some (.ref T.length)) a9 a10 a11 a12 a13 j (some (.int (2+u.fmod 8))) none none) rfl ?_));generalize 2+u.fmod 8=f at N;have dw:=qla r hs N;have tw:=qlb r hs N;have tL:=qlc r N h;have ai:=qle r N h;have aj:=qlf r N h;have ak:=qld r N h;have al:=qi1 r N h;have a2:(thW w f).ties.length<=16:=by show(w.ties.map _).length<=16;rw[wF];exact A
 have Q:=zY (g:=.int) (F:=G (d+13)) (fr:=[15]) (nt:=1) (elt:=.bin .mul (.v 1) (.v 0)) (tg:=.v 1) (it:=.seq (.idx (.v 1) (.k (.int 0)))) (ifs:=.nil) (ρ:=rE n w L (some (.t ((ldV w L).map nmD))) (some (.t ((hgV w L).map nmD))) (some (.bl (lvB w L))) a6 s (some (.ref T.length)) a9 a10 a11 a12 a13 j (some (.int f)) none none) (S:=pk T n u2++[.l []]) (S1:=pk T n u2++[.l []]) (ds:=w.costs.map .int) w.costs (λ_=>true) (λx=>.int (x*f)) (λρ=>∃y,ρ=[some (.int f),y]) rfl rfl ⟨_,rfl⟩ (by unfold PySem.sizeLine;lia) (by
  rintro x C ρ m ⟨y,rfl⟩;exact⟨_,rfl,⟨_,rfl⟩,rfl,λ_=>⟨qD rfl rfl (bmul (zv 00)),rfl⟩⟩)
 rw[qA]at Q;have a3:w.costs.map (λx=>D.int (x*f))=(w.costs.map (·*f)).map .int:=by rw[wJ];rfl
 rw[a3]at Q;refine qW (Ok.of (qL (l:=[tupI (w.costs.map (·*f)),.t (w.ties.map tieD)]) (qf (qv (qf Q rfl) rfl) (qf (qr rfl rfl rfl) rfl)) (by simp[PySem.sizeLine])) (Ok.of (a:=rE n w L (some (.t ((ldV w L).map nmD))) (some (.t ((hgV w L).map nmD))) (some (.bl (lvB w L))) a6 s (some (.ref T.length)) a9 a10 a11 a12 a13 j (some (.int f)) (some (webD (deW w f))) none) rfl ?_));have a4:=v_by (F:=G (d+13)) (i:=4) (k:=15) (ρ:=rE n w L (some (.t ((ldV w L).map nmD))) (some (.t ((hgV w L).map nmD))) (some (.bl (lvB w L))) a6 s (some (.ref T.length)) a9 a10 a11 a12 a13 j (some (.int f)) (some (webD (deW w f))) none) (S:=pk T n u2++[.l []]) (ps:=hgV w L) (q:=(1,f)) (a:=.k (.int 1)) (b:=.v 0) rfl (by rw[qli];lia) (.int f) rfl (λ_ _=>rfl) 31 (λp E S=>by
  obtain⟨m1,m2⟩:=qlg r E;exact e_by (d:=d+11) m1 ⟨(show(1:Int).natAbs<2^64 by decide),(show 1<=f by lia),(show f<2^64 by lia)⟩ (by
   show p.2*f<2^250;have:=uY m2 N.2 00 02;have:(2772000:Int)*9<2^250:=by decide
   lia))
 rw[<-aj]at a4;refine zO (t_of (qO (qj rfl (yh (d:=d+1) dw (show(deW w f).ties.length<=16 from A) h)) a4 (qhq _ _))) ?_;have a5:=yi (d:=d) (S:=pk T n u2++[.l []]) (L:=L) dw (show(deW w f).ties.length<=16 from A) h;rw[ai]at a5;refine zO (t_of (qO (qj rfl a5) rfl (qjr _ _))) ?_;have W:=zY (g:=tieD) (F:=G (d+13)) (fr:=[15]) (nt:=2) (elt:=.t (.c (.v 1) (.c (.bin .mul (.v 2) (.v 0)) .n))) (tg:=.t (.c (.v 1) (.c (.v 2) .n))) (it:=.seq (.idx (.v 1) (.k (.int 1)))) (ifs:=.nil) (ρ:=rE n w L (some (.t ((ldV w L).map nmD))) (some (.t ((hgV w L).map nmD))) (some (.bl (lvB w L))) a6 s (some (.ref T.length)) a9 a10 a11 a12 a13 j (some (.int f)) (some (webD (deW w f))) none) (S:=pk T n u2++[.l []]) (S1:=pk T n u2++[.l []]) (ds:=w.ties.map tieD) w.ties (λ_=>true) (λt=>tieD (thT f t)) (λρ=>∃y z,ρ=[some (.int f),y,z]) rfl rfl ⟨_,_,rfl⟩ (by unfold PySem.sizeLine;lia) (by
  rintro t ht ρ m ⟨y,z,rfl⟩;exact⟨_,rfl,⟨_,_,rfl⟩,rfl,λ_=>⟨qL (qf rfl (qf (qD rfl rfl (bmul (zv 00))) rfl)) (by simp[PySem.sizeLine]),zZ _ _⟩⟩)
 rw[qA]at W;have a8:w.ties.map (λt=>tieD (thT f t))=(w.ties.map (thT f)).map tieD:=by rw[wJ];rfl
 rw[a8]at W;refine qW (Ok.of (qL (l:=[tupI w.costs,.t ((w.ties.map (thT f)).map tieD)]) (qf (qr rfl rfl rfl) (qf (qv (qf W rfl) rfl) rfl)) (by simp[PySem.sizeLine])) (Ok.of (a:=rE n w L (some (.t ((ldV w L).map nmD))) (some (.t ((hgV w L).map nmD))) (some (.bl (lvB w L))) a6 s (some (.ref T.length)) a9 a10 a11 a12 a13 j (some (.int f)) (some (webD (deW w f))) (some (webD (thW w f)))) rfl ?_));have aa:=v_by (F:=G (d+13)) (i:=3) (k:=15) (ρ:=rE n w L (some (.t ((ldV w L).map nmD))) (some (.t ((hgV w L).map nmD))) (some (.bl (lvB w L))) a6 s (some (.ref T.length)) a9 a10 a11 a12 a13 j (some (.int f)) (some (webD (deW w f))) (some (webD (thW w f)))) (S:=pk T n u2++[.l []]) (ps:=ldV w L) (q:=(f,1)) (a:=.v 0) (b:=.k (.int 1)) rfl (by rw[qhv];lia) (.int f) rfl (λ_ _=>rfl) 31 (λp E S=>by
  obtain⟨m1,m2⟩:=qlh E;exact e_by (d:=d+11) m1 ⟨(show f.natAbs<2^64 by lia),(show(1:Int)<=1 by decide),(show(1:Int)<2^64 by decide)⟩ (by
   show p.2*1<2^250;have:(2772000:Int)<2^250:=by decide
   lia))
 rw[<-al]at aa;have am:∀ys∈L,ys.length<=100:=λys hy=>by
  obtain⟨i,hi,e⟩:=vS hy;have ab:i<w.ties.length:=by have:=h.1;lia
  have hm:(w.ties[i],L[i])∈w.ties.zip L:=by
   apply wc (i:=i);rw[vu];exact⟨wD ab,wD hi⟩
  have a:=(h.2 _ hm).len;have b:=(r.t2 _ (uo ab)).2.1;rw[e]at a;dsimp only at a;lia
 have ac:evs (G (d+13)) (.c (.v 17) (.c (.call 34 (.c (.v 2) (.c (.v 15) .n))) .n)) (rE n w L (some (.t ((ldV w L).map nmD))) (some (.t ((hgV w L).map nmD))) (some (.bl (lvB w L))) a6 s (some (.ref T.length)) a9 a10 a11 a12 a13 j (some (.int f)) (some (webD (deW w f))) (some (webD (thW w f)))) (pk T n u2++[.l []])=.ok [webD (thW w f),.t (lyD (lyI (thL f L)))] (pk T n u2++[.l []]) :=
  qf rfl (qf (qj rfl (qi2 (d:=d+10) N (by have:=h.1;lia) am)) rfl)
 refine zO (t_of (qO (qj ac (yC (d:=d+2) tw a2 tL)) aa (qhq _ _))) ?_;have ad:=yi (d:=d) (S:=pk T n u2++[.l []]) tw a2 tL;rw[ak]at ad;refine qcv (Ok.of (qO (qj ac ad) rfl (qmx _ _)) ⟨by rw[qo,wV,qo];lia,rfl,u2,a1,rfl,?_⟩);have:(pk T n v).length=(pk T n u2).length:=by rw[qo,qo]
 rw[this,List.take_left'];rfl
def qlj{a:Type}{g:a->D}{F:Fs}{fr:List Nat}{nt:Nat}{elt:CE}{tg:CT}{it:CI}{ifs:CBs}{ρ:En}{S S1:Sr}{ds:List D}(xs:List a)(b:a->Bool)(v:a->D)(R:En->Prop)(c:evI F it ρ S=.ok ds S1)(hd:ds=xs.map g)(f:R (frE ρ fr nt))(h:xs.length<=PySem.sizeLine)(H:∀d∈xs,∀(ρ:En) (m:List D),R ρ->∃ρ1,asg F tg (g d) ρ (S1++[.l m])=.ok ρ1 (S1++[.l m])/\R ρ1/\tsts F ifs ρ1 (S1++[.l m])=.ok (b d) (S1++[.l m])/\(b d=true->ev F elt ρ1 (S1++[.l m])=.ok (v d) (S1++[.l m])/\refsLt 0 (v d)=true)):
  ev F (.lc true fr nt elt tg it ifs) ρ S=.ok (.ref S1.length) (S1++[.l ((xs.filter b).map v)]):=by
 obtain⟨i,e1⟩:=jb (n:=S1.length) (bind:=λd ρ S=>asg F tg d ρ S) (test:=λρ S=>tsts F ifs ρ S) (elt:=λρ S=>ev F elt ρ S) R rfl xs [] _ (by simpa using h) f (λd hd ρ m j=>H d hd ρ m j);simp only[ev,c,Res.bind,hd,e1,lcEnd];simp
noncomputable abbrev mE(n:Nat)(w:Wb)(L:07)(a3 a4 a5 a6 a7 a8:Option D):En:=[some (.ref n),some (webD w),some (.t (lyD (lyI L))),a3,a4,a5,a6,a7,a8]
noncomputable def d4(z:Tie×List Int):D:=.t [tieD z.1,.t ((amI z.2).map nmD)]
def qlk(z:Tie×List Int):keyK 2 (d4 z)=some z.1.1:=by
 show((intsOf (z.1.1.map .int)).map λm=>((2:Nat),m)).bind _=_;rw[qN];rfl
def qbN(z:Tie×List Int):refsLt 0 (d4 z)=true:=by
 show refsLts 0 [tieD z.1,.t ((amI z.2).map nmD)]=true;have a:=zZ 0 z.1;have b:refsLts 0 ((amI z.2).map nmD)=true:=zy _;simp only[refsLts,a,b,Bool.and_true,ut,refsLt]
def qi4(a:List Int)(ks:07):inD (tupI a) (ks.map tupI)=some (decide (a∈ks)):=by
 unfold inD;rw[wT (by show ¬((false&&_)=true);simp)];show(intsOf (a.map .int)).bind _=_;rw[qN,wY,yX];rfl
noncomputable def z0(p m:Int):Tie×List Int:=(([p],m),[m*27720])
noncomputable def usA(w:Wb)(L:07)(p m:Int):List (Tie×List Int):=srtB (λz:Tie×List Int=>z.1.1) (w.ties.zip L++[z0 p m])
section
variable{w:Wb}(hw:WbOk w){L:List (List Int)}(h:LyZ w.ties L){p m:Int}(hp:InR w.costs.length p)(hm:1<=m/\m<=9)(hn:[p]∉w.ties.map (·.1))(h12:w.ties.length<=12)
include hw h hp hm hn h12
theorem qll:(w.ties.zip L).map (λz:Tie×List Int=>z.1.1)=w.ties.map (·.1):=by
 have:(w.ties.zip L).map (·.1)=w.ties:=xV (by have:=h.1;lia)
 conv=>rhs;rw[<-this,wJ]
 rfl
theorem qjt:((w.ties.zip L++[z0 p m]).map λz:Tie×List Int=>z.1.1).Nodup:=by
 rw[v5,qll hw h hp hm hn h12];refine vX.mpr ⟨qa2 hw.t3,by simp,λa ha b hb e=>?_⟩;simp only[wU,u5,w6]at hb;subst hb;subst e;exact hn ha
theorem qhw{z:Tie×List Int}(d:z∈usA w L p m):PlOk w.costs.length z.1.1/\z.1.1.length<=4/\(1<=z.1.2/\z.1.2<=1000000)/\TyI z.1 z.2:=by
 have d:=(qM _ _).mem_iff.mp d;rcases w9.mp d with y|y
 .obtain ⟨a,b,c⟩:=hw.t2 _ (wn y).1
  exact⟨a,b,c,h.2 z y⟩
 .simp only[w6]at y
  subst y;refine⟨⟨by simp[z0],λx f=>?_,by simp[z0]⟩,by simp[z0],⟨hm.1,by show m<=1000000;lia⟩,⟨rfl,by simp[z0],λy i=>?_⟩⟩
  .simp only[z0,w6]at f
   subst f;exact hp
  .simp only[z0,w6]at i
   subst i;lia
theorem qhx:(usA w L p m).length=w.ties.length+1:=by
 unfold usA;rw[(qM _ _).length_eq,wV,wi,h.1];simp
theorem qlm:WbOk ⟨w.costs,(usA w L p m).map (·.1)⟩:=by
 refine⟨hw.c1,hw.c2,hw.c3,?_,?_,?_⟩
 .show ((usA w L p m).map (·.1)).length<=30
  rw[wF,qhx hw h hp hm hn h12];lia
 .intro t d
  obtain⟨z,f,rfl⟩:=wW.mp d;obtain⟨a,b,c,_⟩:=qhw hw h hp hm hn h12 f;exact⟨a,b,c⟩
 .show (((usA w L p m).map (·.1)).map (·.1)).Pairwise _
  have k:=yN (λz:Tie×List Int=>z.1.1) (w.ties.zip L++[z0 p m]);have r:=zH (qjt hw h hp hm hn h12);rw[<-k]at r;rw[wJ];exact r
theorem qmA:LyZ ((usA w L p m).map (·.1)) ((usA w L p m).map (·.2)):=by
 refine⟨by rw[wF,wF],λz a=>?_⟩;rw[yD]at a;exact(qhw hw h hp hm hn h12 a).2.2.2
theorem qmB(x:Int):ldI ((usA w L p m).map (·.1)) ((usA w L p m).map (·.2)) x=ldI w.ties L x+if p=x then m*27720 else 0:=by
 unfold ldI;rw[j4,yD,j4];have pm:(prz (usA w L p m)).Perm (prz (w.ties.zip L++[z0 p m])):=(qM _ _).flatMap_right _;rw[qcO pm];have e:prz (w.ties.zip L++[z0 p m])=prz (w.ties.zip L)++[(p,m*27720)]:=by
  unfold prz;rw[List.flatMap_append];rfl
 rw[e,qiY,qcP,qiX];simp
theorem qln:ldV ⟨w.costs,(usA w L p m).map (·.1)⟩ ((usA w L p m).map (·.2))=(ldV w L).set p.toNat (lw (ldI w.ties L p+m*27720) 27720):=by
 apply uT;intro i;unfold ldV;dsimp only;rw[xJ];by_cases hi:i<w.costs.length
 .rw [w5,uC hi,w5,uC hi,wF,List.length_range]
  simp only[wg];rw[qmB hw h hp hm hn h12];have b:=hp.1;by_cases e:p.toNat=i
  .have a:p=(i:Int):=by lia
   rw[wR a,wR e,wR 00,a]
  .have a:¬p=(i:Int):=by lia
   rw[wT a,wT e,Int.add_zero]
 .have c:=hp.2
  have b:=hp.1;rw[wT 00];rw[vp (by simp;lia),vp (by simp;lia)]
end
set_option maxHeartbeats 4000000 in
def qbO{d n:Nat}{v:Int}{w:Wb}{L:07}{T:Sr}(x:WbOk w)(j:w.ties.length<=12)(h:LyZ w.ties L)(hn:n<T.length)(hv:0<=v):Ok (G (d+14) 36 [.ref n,webD w,.t (lyD (lyI L))] (pk T n v)) λy S'=>∃u,0<=u/\y=.bl true/\S'=pk T n u:=by
 rw[G_at (c:=c_36) rfl];refine jU (f:=c_36) rfl rfl ?_;have aa:=x.c2;have ab:=x.c1;have P:w.ties.length<=16:=by lia
 have Q:(w.ties.zip L).length=w.ties.length:=by rw[wi,h.1];lia
 have f1:=fm (v:=v) (m:=(w.costs.length:Int)) 00;have W:=zN (d:=d+12) (n:=n) (v:=v) (m:=w.costs.length) (S:=T) hn 00 00;have Y:0<=v.fdiv w.costs.length:=vH hv 00;generalize v.fdiv (w.costs.length:Int)=u at W Y;have r:InR w.costs.length (v.fmod w.costs.length):=f1;generalize v.fmod (w.costs.length:Int)=p at W r;refine qW (Ok.of (qj (qf rfl (qf (qv (qf (qr rfl rfl rfl) rfl) (zE _ _)) rfl)) W) (Ok.of (a:=mE n w L (some (.int p)) none none none none none) rfl ?_));have Z:=zY (g:=tieD) (F:=G (d+13)) (fr:=[]) (nt:=2) (elt:=.v 0) (tg:=.t (.c (.v 0) (.c (.v 1) .n))) (it:=.seq (.idx (.v 1) (.k (.int 1)))) (ifs:=.nil) (ρ:=mE n w L (some (.int p)) none none none none none) (S:=pk T n u) (S1:=pk T n u) (ds:=w.ties.map tieD) w.ties (λ_=>true) (λt=>tupI t.1) (λρ=>∃y z,ρ=[y,z]) rfl rfl ⟨_,_,rfl⟩ (by unfold PySem.sizeLine;lia) (by
  rintro t ht ρ m ⟨y,z,rfl⟩;exact⟨_,rfl,⟨_,_,rfl⟩,rfl,λ_=>⟨rfl,zI 0 t.1⟩⟩)
 rw[qA]at Z;have a3:w.ties.map (λt=>tupI t.1)=(w.ties.map (·.1)).map tupI:=by rw[wJ];rfl
 rw[a3]at Z;have A:ev (G (d+13)) (.cmp .inn (.t (.c (.v 3) .n)) (.lc false [] 2 (.v 0) (.t (.c (.v 0) (.c (.v 1) .n))) (.seq (.idx (.v 1) (.k (.int 1)))) .n)) (mE n w L (some (.int p)) none none none none none) (pk T n u)=.ok (.bl (decide ([p]∈w.ties.map (·.1)))) (pk T n u):=qO (qL (l:=[.int p]) rfl (by simp[PySem.sizeLine])) Z (qi4 [p] _);have fin:∀(H:Int) (X:Sr),0<=H->(pk T n v).length<=(pk T n H++X).length/\refsLt (pk T n v).length (.bl true)=true/\∃u,0<=u/\(D.bl true)=.bl true/\(pk T n H++X).take (pk T n v).length=pk T n u:=λH X a4=>by
  refine⟨by rw[qo,wV,qo];lia,rfl,H,a4,rfl,?_⟩;have:(pk T n v).length=(pk T n H).length:=by rw[qo,qo]
  rw[this,List.take_left'];rfl
 by_cases i:[p]∈w.ties.map (·.1)
 .rw [wq i]at A
  refine qhf (t_of A) (qcv (Ok.of rfl ?_));have:=fin u [] Y;rw[vf]at this;exact this
 rw[wd i]at A;refine zO (t_of A) ?_;have f9:=fm (v:=u) (m:=9) 02;have I:=zN (d:=d+12) (n:=n) (v:=u) (m:=9) (S:=T) hn 02 02;have J:0<=u.fdiv 9:=vH Y 02;generalize u.fdiv 9=u2 at I J;have hm:1<=1+u.fmod 9/\1+u.fmod 9<=9:=by lia
 refine qW (Ok.of (qD rfl (qj rfl I) badd) (Ok.of (a:=mE n w L (some (.int p)) (some (.int (1+u.fmod 9))) none none none none) rfl ?_));generalize 1+u.fmod 9=m at hm;have TL:(pk T n u2).length=T.length:=qo _ _ _;have e5:=qlj (g:=d4) (F:=G (d+13)) (fr:=[]) (nt:=2) (elt:=.t (.c (.v 0) (.c (.v 1) .n))) (tg:=.t (.c (.v 0) (.c (.v 1) .n))) (it:=.zip (.idx (.v 1) (.k (.int 1))) (.v 2)) (ifs:=.nil) (ρ:=mE n w L (some (.int p)) (some (.int m)) none none none none) (S:=pk T n u2) (S1:=pk T n u2) (ds:=(w.ties.zip L).map d4) (w.ties.zip L) (λ_=>true) d4 (λρ=>∃y z,ρ=[y,z]) (by
   have a0:ev (G (d+13)) (.v 1) (mE n w L (some (.int p)) (some (.int m)) none none none none) (pk T n u2)=.ok (webD w) (pk T n u2):=rfl;have a1:ev (G (d+13)) (.idx (.v 1) (.k (.int 1))) (mE n w L (some (.int p)) (some (.int m)) none none none none) (pk T n u2)=.ok (.t (w.ties.map tieD)) (pk T n u2):=qr a0 rfl rfl;have a2:ev (G (d+13)) (.v 2) (mE n w L (some (.int p)) (some (.int m)) none none none none) (pk T n u2)=.ok (.t (lyD (lyI L))) (pk T n u2):=rfl;simp only[evI,a1,a2,Res.bind,walkF,lyD];rw[uN,wJ,qaA,wJ];rfl) rfl ⟨_,_,rfl⟩ (by unfold PySem.sizeLine;lia) (by
  rintro z hz ρ m ⟨y,z',rfl⟩;exact⟨[some (tieD z.1),some (.t ((amI z.2).map nmD))],rfl,⟨_,_,rfl⟩,rfl,λ_=>⟨qL rfl (by simp[PySem.sizeLine]),qbN z⟩⟩)
 rw[qA,TL]at e5;refine qW (Ok.of e5 (Ok.of (a:=mE n w L (some (.int p)) (some (.int m)) (some (.ref T.length)) none none none) rfl ?_));have E:∀(X:Sr) (o:SO),(pk T n u2++(o::X))[T.length]?=some o:=λX o=>by rw[wI (by rw[TL];lia),TL];simp
 have ez:d4 (z0 p m)=.t [.t [.t [.int p],.int m],.t [.t [.int m,.int 1]]]:=by
  show D.t [_,.t [nmD (lw (m*27720) 27720)]]=_;rw[jk 02];rfl
 refine qgX (qjn (Ok.of (a:=.ref T.length) (S:=pk T n u2++[.l ((w.ties.zip L).map d4)]) rfl ⟨T.length,(w.ties.zip L).map d4,rfl,E _ _,Ok.of (a:=d4 (z0 p m)) (S:=pk T n u2++[.l ((w.ties.zip L).map d4)]) ?_ ⟨E _ _,by rw[wF];lia,qbN _,?_⟩⟩))
 .rw [ez]
  exact qL (qf (qL (l:=[.t [.int p],.int m]) (qf (qL (l:=[.int p]) rfl (by simp[PySem.sizeLine])) rfl) (by simp[PySem.sizeLine])) (qf (qL (l:=[.t [.int m,.int 1]]) (qf (qL (l:=[.int m,.int 1]) rfl (by simp[PySem.sizeLine])) rfl) (by simp[PySem.sizeLine])) rfl)) (by simp[PySem.sizeLine])
 rw[vD _ _ (by rw[TL];lia),TL,Nat.sub_self,List.set_cons_zero];have a5:(w.ties.zip L).map d4++[d4 (z0 p m)]=(w.ties.zip L++[z0 p m]).map d4:=by simp
 rw[a5];have a6:=qhx x h r hm i j;have es:ev (G (d+13)) (.blt (.sortq true) (.c (.v 5) .n)) (mE n w L (some (.int p)) (some (.int m)) (some (.ref T.length)) none none none) (pk T n u2++[.l ((w.ties.zip L++[z0 p m]).map d4)])=.ok (.ref (T.length+1)) (pk T n u2++[.l ((w.ties.zip L++[z0 p m]).map d4),.l ((usA w L p m).map d4)]):=by
  refine qv rfl ?_;rw[qbJ (k:=2) (λz:Tie×List Int=>z.1.1) d4 (by simp only[lstOf,E]) (λz _=>qlk z) (qjt x h r hm i j) (by rw[wV,Q];simp;lia)];have hr:refsLts 0 ((srtB (λz:Tie×List Int=>z.1.1) (w.ties.zip L++[z0 p m])).map d4)=true:=qU λq hq=>by
   obtain⟨z,_,rfl⟩:=wW.mp hq;exact qbN z
  simp only[newL,v6,hr];rw[wf,wV,TL];rfl
 refine qW (Ok.of es (Ok.of (a:=mE n w L (some (.int p)) (some (.int m)) (some (.ref (T.length+1))) none none none) rfl ?_));have K:∀(X:Sr) (o o':SO),(pk T n u2++(o'::o::X))[T.length+1]?=some o:=λX o o'=>by rw[wI (by rw[TL];lia),TL];simp
 have l1:=qav (g:=d4) (F:=G (d+13)) (fr:=[]) (nt:=2) (elt:=.v 0) (tg:=.t (.c (.v 0) (.c (.v 1) .n))) (e:=.v 5) (ifs:=.nil) (ρ:=mE n w L (some (.int p)) (some (.int m)) (some (.ref (T.length+1))) none none none) (S:=pk T n u2++[.l ((w.ties.zip L++[z0 p m]).map d4),.l ((usA w L p m).map d4)]) (S1:=pk T n u2++[.l ((w.ties.zip L++[z0 p m]).map d4),.l ((usA w L p m).map d4)]) (n:=T.length+1) (usA w L p m) (λ_=>true) (λz=>tieD z.1) (λρ=>∃y z,ρ=[y,z]) rfl (K _ _ _) ⟨_,_,rfl⟩ (by unfold PySem.sizeLine;lia) (by
  rintro z hz ρ m ⟨y,z',rfl⟩;exact⟨[some (tieD z.1),some (.t ((amI z.2).map nmD))],rfl,⟨_,_,rfl⟩,rfl,λ_=>⟨rfl,zZ 0 z.1⟩⟩)
 rw[qA]at l1;have m1:(usA w L p m).map (λz=>tieD z.1)=((usA w L p m).map (·.1)).map tieD:=by rw[wJ];rfl
 rw[m1]at l1;refine qW (Ok.of (qL (l:=[tupI w.costs,.t (((usA w L p m).map (·.1)).map tieD)]) (qf (qr rfl rfl rfl) (qf (qv (qf l1 rfl) rfl) rfl)) (by simp[PySem.sizeLine])) (Ok.of (a:=mE n w L (some (.int p)) (some (.int m)) (some (.ref (T.length+1))) (some (webD ⟨w.costs,(usA w L p m).map (·.1)⟩)) none none) rfl ?_));have N:=qav (g:=d4) (F:=G (d+13)) (fr:=[]) (nt:=2) (elt:=.v 1) (tg:=.t (.c (.v 0) (.c (.v 1) .n))) (e:=.v 5) (ifs:=.nil) (ρ:=mE n w L (some (.int p)) (some (.int m)) (some (.ref (T.length+1))) (some (webD ⟨w.costs,(usA w L p m).map (·.1)⟩)) none none) (S:=pk T n u2++[.l ((w.ties.zip L++[z0 p m]).map d4),.l ((usA w L p m).map d4)]) (S1:=pk T n u2++[.l ((w.ties.zip L++[z0 p m]).map d4),.l ((usA w L p m).map d4)]) (n:=T.length+1) (usA w L p m) (λ_=>true) (λz=>.t ((amI z.2).map nmD)) (λρ=>∃y z,ρ=[y,z]) rfl (K _ _ _) ⟨_,_,rfl⟩ (by unfold PySem.sizeLine;lia) (by
  rintro z hz ρ m ⟨y,z',rfl⟩;exact⟨[some (tieD z.1),some (.t ((amI z.2).map nmD))],rfl,⟨_,_,rfl⟩,rfl,λ_=>⟨rfl,zy _⟩⟩)
 rw[qA]at N;have m2:(usA w L p m).map (λz=>D.t ((amI z.2).map nmD))=lyD (lyI ((usA w L p m).map (·.2))):=by unfold lyD lyI;simp only[wJ];rfl
 rw[m2]at N;generalize hU:pk T n u2++[SO.l ((w.ties.zip L++[z0 p m]).map d4),.l ((usA w L p m).map d4)]=U at N;have O:U.length=T.length+2:=by rw[<-hU,wV,TL];rfl
 have e7:=yC (d:=d+2) (S:=U) (qlm x h r hm i j) (by show((usA w L p m).map (·.1)).length<=16;rw[wF,a6];lia) (qmA x h r hm i j);rw[qln x h r hm i j]at e7;refine qW (Ok.of (qj (qf rfl (qf (qv (qf N rfl) rfl) rfl)) e7) (Ok.of (a:=mE n w L (some (.int p)) (some (.int m)) (some (.ref (T.length+1))) (some (webD ⟨w.costs,(usA w L p m).map (·.1)⟩)) (some (.t (((ldV w L).set p.toNat (lw (ldI w.ties L p+m*27720) 27720)).map nmD))) none) rfl ?_));have e8:bltD (.list true) [.t ((ldV w L).map nmD)] U=.ok (.ref (T.length+2)) (U++[.l ((ldV w L).map nmD)]):=by
  have hr:refsLts 0 ((ldV w L).map nmD)=true:=zy _;simp only[bltD,one,bList,walkD,seqOf,lstOf,newL,hr,v6,O]
 refine qW (Ok.of (qv (qf (qj rfl (yC (d:=d+2) x P h)) rfl) e8) (Ok.of (a:=mE n w L (some (.int p)) (some (.int m)) (some (.ref (T.length+1))) (some (webD ⟨w.costs,(usA w L p m).map (·.1)⟩)) (some (.t (((ldV w L).set p.toNat (lw (ldI w.ties L p+m*27720) 27720)).map nmD))) (some (.ref (T.length+2)))) rfl ?_));have M:(U++[SO.l ((ldV w L).map nmD)])[T.length+2]?=some (.l ((ldV w L).map nmD)):=by rw[wI 00,O];simp
 have a7:L2.ixN ((ldV w L).map nmD).length p=some p.toNat:=by
  rw[wF,qhv];exact qep r.1 r.2
 have e9:idxD (U++[SO.l ((ldV w L).map nmD)]) (.ref (T.length+2)) (.int p)=some (nmD (lw (ldI w.ties L p) 27720)):=by
  have i0:=qdu (w:=w) L r (U++[SO.l ((ldV w L).map nmD)]);simp only[idxD,seqOf,lstOf,M]at i0 ⊢;exact i0
 have a8:=qjs x h r (B:=27720) 02 02;have ac:=yB (t:=ldI w.ties L p) (b:=27720) 02;have em:=qha (d:=d+11) (p:=lw (ldI w.ties L p) 27720) (q:=(m,1)) (S:=U++[SO.l ((ldV w L).map nmD)]) a8.b1 ⟨by show m.natAbs<_;lia,(show(1:Int)<=1 by decide),(show(1:Int)<2^64 by decide)⟩ (by show(lw (ldI w.ties L p) 27720).2*1<2^250;have:(27720:Int)<2^250:=02;lia);have ea:adn (lw (ldI w.ties L p) 27720) (m,1)=lw (ldI w.ties L p+m*27720) 27720:=by
  rw[<-jk (m:=m) (s:=27720) 02];exact qdq 02
 rw[ea]at em;have C:=qbE (v:=nmD (lw (ldI w.ties L p+m*27720) 27720)) M a7 rfl;rw[vD _ _ 00,O,Nat.sub_self,List.set_cons_zero,<-x6]at C;refine qW (Ok.of (qj (qf (qr rfl rfl e9) (qf (qL (l:=[.int m,.int 1]) rfl (by simp[PySem.sizeLine])) rfl)) em) (Ok.of (qcG rfl rfl C) ?_));have a9:(U++[SO.l (((ldV w L).set p.toNat (lw (ldI w.ties L p+m*27720) 27720)).map nmD)])[T.length+2]?=some (.l (((ldV w L).set p.toNat (lw (ldI w.ties L p+m*27720) 27720)).map nmD)):=by rw[wI 00,O];simp
 refine qcv (Ok.of (qO rfl (qv (d:=.t (((ldV w L).set p.toNat (lw (ldI w.ties L p+m*27720) 27720)).map nmD)) rfl (by simp only[bltD,one,bTuple,seqOf,lstOf,a9,wg,ofO];rfl)) (qk8 _ _)) ?_);rw[<-hU,wf];exact fin u2 _ J
noncomputable abbrev lE(ns:List Int)(a b c d e:Option D):En:=[some (.l (ns.map .int)),a,b,c,d,e]
def ly12{w:Wb}{l:List (List Am)}(h:LyOk 12 w.ties l):∃L,LyZ w.ties L/\l=lyI L:=qhi h
set_option maxHeartbeats 4000000 in
def qlo{d:Nat}{ns:List Int}(p:ns.length<=63):Ok (G (d+15) 37 [.l (ns.map .int)] []) λy _=>y=.bl true:=by
 rw[G_at (c:=qd9) rfl];refine jU (f:=qd9) rfl rfl ?_;obtain⟨nn,a1,er⟩:=qmn (F:=G (d+14)) (ρ:=lE ns none none none none none) (S:=[]) (ns:=ns) (c:=16) rfl 02 02;refine qcw (g:=λ(k:Nat)=>D.int (0+2*k)) (λpre ρ U=>∃a b c d e,ρ=lE ns a b c d e) (List.range nn) (Ok.of er ⟨rfl,_,_,_,_,_,rfl⟩) ?_ ?_
 .rintro pre q B ρ U m ⟨a0,b0,C,r,s,rfl⟩
  have hq:q∈List.range nn:=by rw[m];simp
  have a2:=vY.mp hq;obtain⟨i,E⟩:∃i:Int,0+2*(q:Int)=i:=⟨_,rfl⟩;rw[E];refine Ok.of (a:=lE ns (some (.int i)) b0 C r s) rfl ?_;obtain⟨v,hv,ep⟩:=qg8 (d:=d+12) p (k:=i) (S:=U) 00 00;have o:pk (U++[.l [.int v]]) U.length v=U++[.l [.int v]]:=qee (by simp);obtain⟨w,u,H,a3,I,a6,J,K⟩:=qmp (d:=d+11) (n:=U.length) (v:=v) (mo:=7) (tn:=12) (S:=U++[.l [.int v]]) (by simp) hv 02 02 02 02;rw[o]at K;generalize pk (U++[.l [.int v]]) U.length u=U1 at K;refine qW (Ok.of (qj (qf (qj rfl ep) rfl) K) (Ok.of (a:=lE ns (some (.int i)) (some (webD w)) C r s) rfl ?_));obtain⟨v2,M,N⟩:=qg8 (d:=d+12) p (k:=i+1) (S:=U1) 00 00;refine qW (Ok.of (qj (qf rfl (qf (qD (S1:=U1) rfl rfl badd) rfl)) N) (Ok.of (a:=lE ns (some (.int i)) (some (webD w)) (some (.ref U1.length)) r s) rfl ?_));have j:pk (U1++[.l [.int v2]]) U1.length v2=U1++[.l [.int v2]]:=qee (by simp);have h:U1.length<(U1++[SO.l [.int v2]]).length:=by simp
  rw[<-j];generalize U1++[SO.l [.int v2]]=T at h ⊢;generalize U1.length=n at h ⊢;refine qcw (g:=.int) (λpre ρ U=>∃O A u,ρ=lE ns (some (.int i)) (some (webD w)) (some (.ref n)) O A/\U=pk T n u/\0<=u) (rI 2) (Ok.of (i_rng (n:=2) rfl 02) ⟨rfl,_,_,_,rfl,rfl,M⟩) ?_ ?_
  .rintro pre z B ρ U m ⟨O,A,u,rfl,rfl,J⟩
   refine Ok.of (a:=lE ns (some (.int i)) (some (webD w)) (some (.ref n)) (some (.int z)) A) rfl ?_;obtain⟨y,S1,ey,l,u1,hl,P,rfl,rfl⟩:=(qff (d:=d+12) (n:=n) (v:=u) (S:=T) H h J).ex;obtain⟨L,hL,rfl⟩:=ly12 hl;refine qW (Ok.of (qj rfl ey) (Ok.of (a:=lE ns (some (.int i)) (some (webD w)) (some (.ref n)) (some (.int z)) (some (.t (lyD (lyI L))))) rfl ?_));obtain⟨y,S1,Q,W,X,rfl,rfl⟩:=(qi3 (d:=d) (n:=n) (v:=u1) (T:=T) H I 00 hL h P).ex;obtain⟨y,S1,Y,u3,Z,rfl,rfl⟩:=(qbO (d:=d) (n:=n) (v:=W) (T:=T) H 00 hL h X).ex;have t1:tst (G (d+14)) (.not (.val (.call 35 (.c (.v 3) (.c (.v 2) (.c (.v 5) .n)))))) (lE ns (some (.int i)) (some (webD w)) (some (.ref n)) (some (.int z)) (some (.t (lyD (lyI L))))) (pk T n u1)=.ok false (pk T n W):=t_no (x:=true) (t_of (qj rfl Q));have t2:tst (G (d+14)) (.not (.val (.call 36 (.c (.v 3) (.c (.v 2) (.c (.v 5) .n)))))) (lE ns (some (.int i)) (some (webD w)) (some (.ref n)) (some (.int z)) (some (.t (lyD (lyI L))))) (pk T n W)=.ok false (pk T n u3):=t_no (x:=true) (t_of (qj rfl Y));refine zO (S1:=pk T n u3) (by rw[tst,t1,Res.bind_ok,wT (by simp),t2]) ?_;exact qau ⟨_,_,_,rfl,rfl,Z⟩
  .rintro ρ U ⟨O,A,u,rfl,rfl,J⟩
   exact qau ⟨_,_,_,_,_,rfl⟩
 .rintro ρ U ⟨a0,b0,C,r,s,rfl⟩
  exact qcv (Ok.of rfl ⟨by simp,rfl,rfl⟩)
def pure_law:∀ns:List Int,ns.length<=63->∃b,run prg NW 15 37 [.l (ns.map .int)] []=.ok (.bl true) b:=λns h=>by
 obtain⟨a,S,e,rfl⟩:=(qlo (d:=0) h).ex;exact⟨S,by rw[<-qg1];exact e⟩
end RP
section
namespace PySem.W.Fast
def tw1139117437982338037:Nat:=0
def tw13961221261597530207:Nat:=0
def tw13510422430646557712:Nat:=0
def tw6016136308642081631:Nat:=0
def tw11657086422160773351:Nat:=0
def tw11459968103190704567:Nat:=0
def tw16841491726919290969:Nat:=0
def tw17571287375876187182:Nat:=0
def tw6191514959572583145:Nat:=0
def tw10011057200877545076:Nat:=0
def tw10987644325222613347:Nat:=0
def tw4394292848452138569:Nat:=0
def tw3460361671646704987:Nat:=0
def tw10979836497461344591:Nat:=0
def tw13790554988806811061:Nat:=0
def tw8336427693960053202:Nat:=0
def tw7117340952271855225:Nat:=0
def tw7866443725484490697:Nat:=0
def tw886032070494612915:Nat:=0
def tw1670314498247026886:Nat:=0
def tw6456087515463229907:Nat:=0
def tw13920684558168848505:Nat:=0
def tw4666088574853849510:Nat:=0
def tw14437716024879330487:Nat:=0
def tw16982348188114992625:Nat:=0
def tw15330854347078160512:Nat:=0
def tw11103182465234763639:Nat:=0
def tw13262044182520234115:Nat:=0
def tw16263077544923423712:Nat:=0
def tw8038878154986964822:Nat:=0
def tw2135561549256251941:Nat:=0
def tw12628776740724108879:Nat:=0
def tw17773054568329986663:Nat:=0
def tw1146311738104854990:Nat:=0
def tw11134306616194690882:Nat:=0
def tw6456770692050434142:Nat:=0
def tw4601275299054839060:Nat:=0
def tw10420900807645421172:Nat:=0
def tw2167275052577570868:Nat:=0
def tw16123788450680110311:Nat:=0
def tw16704191471272346094:Nat:=0
def tw14000855269342126077:Nat:=0
def tw4475839493134246683:Nat:=0
def tw15217887484917288406:Nat:=0
def tw12489635261091118551:Nat:=0
def tw2148044036188095416:Nat:=0
def tw4288584459553979374:Nat:=0
def tw7371408001149444971:Nat:=0
def tw16905772740480998545:Nat:=0
def tw5849741019353086071:Nat:=0
def tw17243406573793852087:Nat:=0
def tw13186511300771371983:Nat:=0
def tw16940993814081265470:Nat:=0
def tw1462062734867771828:Nat:=0
def tw12557878906444144313:Nat:=0
def tw3439107346402511361:Nat:=0
def tw3912406272418969972:Nat:=0
def tw11170613930276288213:Nat:=0
def tw557634332520461827:Nat:=0
def tw6336375971484227600:Nat:=0
def tw16940865809555289934:Nat:=0
def tw13626753242162770542:Nat:=0
end PySem.W.Fast
noncomputable def PySem.W.Fast.tw6955317818673870017:PySem.Program:=PySem.Challenge.pw_weblayers_k12_whole_places_called_otherw
theorem PySem.W.Fast.te6955317818673870017:PySem.Challenge.pw_weblayers_k12_whole_places_called_otherw=PySem.W.Fast.tw6955317818673870017:=rfl
namespace RP
open PySem PySem.W PyProof.Rows R
noncomputable abbrev KOf2{K:PySem.W.Frag}{h:Heap}(_:K.In h):PySem.W.Frag:=K
end RP
open PySem PySem.W PyProof.Rows R
set_option maxRecDepth 100000 in
set_option maxHeartbeats 0 in
theorem PySem.Challenge.cw_weblayers_k12_whole_places_called_otherw_holds : PySem.Challenge.rw_weblayers_k12_whole_places_called_otherw.Holds := by
 w_on;o_law;k_head;(case hw=>w_witness2)
 k_fill
 refine R.qkm (l:=PySem.Challenge.rw_weblayers_k12_whole_places_called_otherw) (n:=63) (k:=45) (x:="_law_script") (g:=R.run RP.prg RP.NW 15 37) rfl (by decide) rfl ⟨rfl,by decide,by decide⟩ (λw h Y=>PySem.W.kIn_of Y) ?zp ?zc ?zF RP.pure_law
 case zp=>intro P;rfl
 case zc=>intro P;rfl
 case zF =>
  intro w mg fa h KX G hmg
  have p:RP.Pre (RP.KOf2 KX) mg:=by
   dsimp only[RP.KOf2]
   constructor
   case gb=>constructor <;> (refine' mg_none_of KX G ?a;case a=>k_is)
   case v0|v1|v2|v3|v4=>refine' qkv KX G ?a ?b;(case a=>k_is);(case b=>exact rfl)
   all_goals
    refine' qku KX G ?a ?l ?c ?d ?h ?t ?k ?b
    (case a|l|c|d=>k_is);(case h|t=>rfl);(case k=>k_is)
    (case b=>intro _ _ _ _ _ _ _ q;first|(obtain⟨_,rfl⟩:=len1 q;rfl)|(obtain⟨_,_,rfl⟩:=len2 q;rfl)|(obtain⟨_,_,_,rfl⟩:=len3 q;rfl))
  obtain⟨f,fd,c,t,hm,U,hb⟩:=p.u_37
  have e0:=hmg.symm.trans hm
  cases e0
  obtain⟨oc,od,kV,doc,pm,an,ct,osl,rfl,lk,hcd⟩:=U.ex
  exact⟨_,λs u=>.of_eq rfl,λbase kb _=>RP.o_law p kb (RP.qgM p kb 14) U⟩
end
