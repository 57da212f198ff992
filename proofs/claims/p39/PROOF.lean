import PyProof.Rows.All
import Wide.All
import OpenK.AllK
import Wide.FinOn
import Lean
import PyProof.EqAt
import PyProof.EqKinds
import PyProof.TupleCall
import PyProof.DictTruth
import PyProof.Conv_int_bool
import PyProof.SumAnyB
import PySem.Challenge.RW_weblayers_k39_places_of_no_web
set_option autoImplicit true
set_option relaxedAutoImplicit true
set_option Elab.async false
set_option linter.all false
set_option maxRecDepth 100000
set_option maxHeartbeats 4000000
set_option genSizeOf false
set_option genSizeOfSpec false
set_option hygiene false
local macro_rules
|`(00)=>`(by lia)
|`(01)=>`(by decide)
|`(02)=>`(by simp)
|`(03)=>`(List Int)
|`(04)=>`(by omega)
|`(05)=>`(model X.prog X.w)
|`(06)=>`(.k (.int 1))
|`(07)=>`(PySem.W.Frag)
|`(08)=>`(model prog w)
|`(09)=>`(.k (.int 0))
|`(000)=>`(Inv X pins σ H s)
|`(001)=>`(List (Addr×Obj))
|`(002)=>`(genCx X sc cl C code (xs++ts) fp (.GeneratorExp elt [⟨tg,iter,ifs,0⟩] sc d) it o s H)
|`(003)=>`(.GeneratorExp elt [⟨tg,iter,ifs,0⟩] sc pos)
|`(004)=>`(.forS (.v 5) (.rng (.c (.k (.int 6)) .n)) (.c (.set (.v 6) (.idx (.v 4) (.call 22 (.c (.v 1) (.c (.k (.int 11)) .n))))) (.c (.ifs (.val (.cmp .ne (.call 29 (.c (.k (.int 2)) (.c (.v 0) (.c (.v 6) .n)))) (.k (.str (PySem.Str.ofString "part"))))) (.c (.ret (.k (.bl false))) .n) .n) (.c (.set (.v 7) (.call 28 (.c (.v 1) (.c (.v 0) (.c (.k (.int 4)) .n))))) (.c (.set (.v 8) (.call 27 (.c (.v 7) .n))) (.c (.forS (.v 9) (.rng (.c (.k (.int 3)) .n)) (.c (.ifs (.and (.not (.val (.v 8))) (.val (.cmp .ne (.call 29 (.c (.v 9) (.c (.v 7) (.c (.idx (.l false (.c 09 (.c (.v 6) .n))) (.call 22 (.c (.v 1) (.c (.k (.int 2)) .n)))) .n)))) (.k (.str (PySem.Str.ofString "web")))))) (.c (.ret (.k (.bl false))) .n) .n) (.c (.ifs (.and (.val (.v 8)) (.val (.cmp .ne (.call 29 (.c (.v 9) (.c (.v 7) (.c 09 .n)))) (.k (.str (PySem.Str.ofString "told")))))) (.c (.ret (.k (.bl false))) .n) .n) .n))) .n))))))
|`(005)=>`(qbu (qG (qc 2)) (qe (qz 6 (qi a.h_15 (m2 b) (qb (qc 0) (qb (qc 2) qf)))) (qe (qz 7 (qi a.h_3 (m2 b) (qb (qgY [] [] ["places","heavy"] b p.gb rfl tab (zm (qc 6)) (λ_ _ _ _ _ _ _ _=>zM (qC (qp 0) (qC (qp 1) zL))) (λ_ _ _ _ _ _ _ _=>qZ) (λ_ _ _ _ _ _ _ _=>qc 1)) (qb (qeb [1] ["costs"] ["place"] b p.gb rfl tab (qc 2) (λ_ _ _ _ _ _ _ _=>qp 1) (λ_ _ _ _ _ _ _ _=>qZ) (λ_ _ _ _ _ _ _ _=>qw (qK b) (qc 0) (qc 1))) qf)))) (qe (z_if (qG (qi a.h_4 (m2 b) (qb (qc 5) (qb (qc 7) qf)))) (qe (qg2 4 5 (qb (yi p.gb (qb (qc 2) qf)) (qb (qc 7) qf))) qh) qh) (qe (qz 8 (qi a.h_17 (m2 b) (qb (qc 1) (qb (qc 6) (qb (qc 2) qf))))) (qe (yV (qjK (qc 3) (qc 8))) (qe (yV (qjO (qc 2) (qw b (qc 8) qg))) qh)))))))
section
open PySem PySem.Spec PyProof.Rows Spec
def w1:=@Nat.ne_of_gt
def wd:=@List.getElem?_set_self
def wh:=@PySem.W.kia_one
def wi:=@List.mem_append
def ws:=@List.length_nil
def vS:=@Heap.size_update
def vT:=@List.map_congr_left
def vU:=@wpAny_truthy_bool
def vV:=@Obj.isFreed_of_fields
def vW:=@List.getElem?_eq_none
def vX:=@wpAny_attempt
def vY:=@PyProof.Rows.callWith_type1
def vZ:=@Nat.lt_irrefl
def va:=@List.all_cons
def vb:=@wpAny_setState_of
def vc:=@of_decide_eq_true
def vd:=@beq_iff_eq
def ve:=@PySem.mem_of_lookup
def vf:=@Nat.lt_succ_of_lt
def vg:=@List.replicate_succ
def vh:=@List.getElem_of_mem
def vi:=@wpAny_standAt
def vk:=@wpAny_seqItems
def vl:=@wpAny_updateSeq
def vm:=@List.zip_cons_cons
def vn:=@wpAny_isInstance
def vo:=@if_true
def vq:=@List.lookup_cons
def vr:=@List.any_eq_true
def vt:=@List.mem_of_mem_take
def vu:=@List.mem_append_left
def vw:=@List.getElem?_replicate
def vz:=@F.slot_dict_keyiterator_next
def uA:=@List.mem_range
def uB:=@wpAny_rule
def uC:=@Int.toNat_natCast
def uD:=@F.plain_list_iadd
def uE:=@Bool.not_eq_true'
def uF:=@Array.getElem?_eq_none
def uG:=@if_false
def uH:=@Int.fmod_lt_of_pos
def uI:=@Calls.spliced_cons
def uJ:=@Bool.true_and
def uK:=@Bool.and_eq_false_iff
def uL:=@Bool.and_false
def uM:=@List.getElem?_set_ne
def uN:=@call_meets
def uO:=@List.nodup_append
def uP:=@List.append_nil
def uQ:=@List.getElem?_cons_zero
def uR:=@List.filterMap_cons
def uS:=@List.drop_succ_cons
def uT:=@List.any_cons
def uU:=@wpAny_typeNameOfWhole_keyiter
def uV:=@List.getElem_mem
def uW:=@wpAny_fieldsOf
def uX:=@Option.map_eq_some_iff
def uY:=@wpAny_setField_rec
def uZ:=@wpAny_passesOwn
def u0:=@Nat.le_succ
def u4:=@List.nodup_cons
def u5:=@List.forIn_cons
def u6:=@Bool.eq_iff_iff
def u7:=@List.flatten_cons
def u8:=@List.ext_getElem?
def u9:=@List.append_assoc
def ua:=@Calls.spliced_nil
def ub:=@PySem.F.excBase_ValueError
def uc:=@Int.fdiv_eq_ediv_of_nonneg
def ud:=@F.slot_tuple_iterator_next
def ue:=@List.pairwise_iff_getElem
def uf:=@List.drop_zero
def ug:=@List.drop_eq_getElem_cons
def uh:=@Nat.lt_succ_self
def ui:=@wpAny_setEntries_of
def uj:=@wpAny_of_eq
def uk:=@wpAny_typeOf
def ul:=@wpAny_typeNameOf_keyiter
def um:=@List.getElem?_take_of_lt
def uo:=@F.called_set
def uq:=@wpAny_ite_split
def ur:=@wpAny_Call_Name_kw
def ut:=@get?_update_seq
def uu:=@List.pairwise_singleton
def uv:=@List.mem_filter
def uw:=@List.find?_cons
def ux:=@PySem.F.sub_tuple_dict
def uy:=@PySem.F.sub_dict_tuple
def uz:=@List.drop_of_length_le
def xA:=@Obj.cls_mapFields
def xB:=@or_false
def xC:=@F.called_tuple
def xD:=@PyProof.Rows.callWith_builtin1
def xE:=@List.length_singleton
def xF:=@List.contains_iff_mem
def xG:=@F.plain_proto_collect
def xH:=@F.entry_proto_collect
def xI:=@wpAny_askSetting
def xJ:=@Nat.le_add_right
def xK:=@List.take_length
def xL:=@List.prefix_refl
def xM:=@List.eq_nil_of_length_eq_zero
def xN:=@Int.mul_le_mul_of_nonneg_left
def xO:=@F.plain_sum_loop
def xP:=@Array.toArray_toList
def xQ:=@Array.getElem_toList
def xR:=@typeIs_int
def xS:=@Nat.not_lt
def xT:=@wpAny_letGo
def xU:=@wpAny_execs_nil
def xV:=@List.map_append
def xW:=@List.foldl_cons
def xX:=@Array.getElem_setIfInBounds
def xY:=@wpAny_pyIter_tuple
def xZ:=@codeAny_mono
def x3:=@Nat.lt_of_lt_of_eq
def x4:=@Nat.le_of_lt
def x8:=@Nat.le_of_eq
def x9:=@wpAny_runValue
def xa:=@isSubtype_type
def xb:=@isSubtype_stop
def xc:=@Calls.call_function_entry
def xf:=@wpAny_dictEntries
def xg:=@fits_of_scanBound
def xh:=@bne_self_eq_false
def xj:=@PySem.F.args_tuple_add_2
def xk:=@List.length_erase_of_mem
def xl:=@F.plain_tuple_new
def xm:=@F.entry_list_iadd
def xn:=@Array.toList_push
def xo:=@wpAny_handled
def xp:=@PySem.F.entry_tuple_add
def xq:=@F.plain_set_update_loop
def xr:=@Bool.and_true
def xt:=@Option.getD_some
def xu:=@Option.bind_none
def xw:=@List.length_drop
def xx:=@List.getElem_inj
def xy:=@List.filter_cons
def xz:=@PySem.F.slot_tuple_add
def gA:=@wpAny_specialOf
def gB:=@codeAny_of_tree
def gC:=@List.map_nil
def gD:=@List.length_filter_le
def gE:=@List.all_map
def gF:=@F.slot_zip_next
def gG:=@F.slot_int_rmul
def gH:=@wpAny_updateSeq_pair
def gI:=@codeAny_call_builtin
def gJ:=@List.getElem_toArray
end
section
open PySem PySem.Spec PyProof.Rows Spec
def wA:=@wpAny_bind
def wB:=@Heap.get?_push_of_some
def wC:=@wpAny_pure
def wD:=@List.getElem?_eq_getElem
def wE:=@Heap.get?_push_size
def wF:=@Heap.lt_size
def wG:=@Nat.le_refl
def wH:=@List.length_map
def wI:=@List.size_toArray
def wJ:=@Heap.get?_update_other
def wK:=@Bool.and_eq_true
def wL:=@List.mem_cons_self
def wM:=@if_pos
def wN:=@if_neg
def wO:=@List.mem_cons_of_mem
def wP:=@List.getElem?_eq_some_iff
def wQ:=@List.mem_cons
def wR:=@wpAny_newObj_type
def wS:=@List.map_cons
def wT:=@Nat.ne_of_lt
def wU:=@List.getElem?_map
def wV:=@List.mem_append_right
def wW:=@List.getElem?_append_left
def wX:=@Nat.lt_of_lt_of_le
def wY:=@List.mem_singleton
def wZ:=@Bool.false_ne_true
def w4:=@decide_eq_true
def w5:=@Option.bind_some
def w6:=@decide_eq_true_eq
def w8:=@List.length_cons
def w9:=@Heap.get?_update_self
def wa:=@decide_eq_false
def wb:=@wpAny_callSpecial?_slot
def wc:=@Around.under_plainId
def we:=@wpAny_call_entry
def wf:=@Option.map_some
def wg:=@Array.length_toList
def wj:=@wpAny_holding
def wk:=@List.getElem?_append_right
def wm:=@List.length_append
def wn:=@decide_eq_false_iff_not
def wo:=@Array.getElem?_eq_getElem
def wp:=@Obj.data_mapFields
def wq:=@List.pairwise_cons
def wt:=@List.getD_eq_getElem?_getD
def wu:=@codeAny_builtin
def wv:=@wpAny_mono
def ww:=@Heap.size_push
def wx:=@Bool.false_and
def wy:=@List.all_eq_true
def wz:=@Bool.false_eq_true
def vA:=@beq_eq_false_iff_ne
def vB:=@Int.fmod_nonneg_of_pos
def vC:=@List.length_eq_zero_iff
def vD:=@List.mem_map
def vE:=@plainId_quiet
def vF:=@wpAny_field
def vG:=@Nat.le_trans
def vH:=@List.map_map
def vI:=@Array.getElem?_toList
def vJ:=@Int.fdiv_nonneg
def vK:=@wpAny_setField
def vL:=@List.mem_of_getElem?
def vM:=@sizeLine_eq
def vN:=@Nat.zero_le
def vO:=@List.not_mem_nil
def vP:=@List.length_take
def vQ:=@PyProof.Rows.slot_tuple_getitem
def vR:=@Array.getElem?_eq_some_iff
end
namespace L2
open PySem PySem.Spec PyProof.Rows
noncomputable abbrev Key:=Sum Int Str
noncomputable def keyIs:Key->Value->Bool
 | .inl k,v=>Value.isInt k v
 | .inr x,v=>Value.isStrOf x v
noncomputable def keyH(w:World):Key->Int
 | .inl k=>hashInt k
 | .inr x=>hashStr w x
def keyIs_shape:∀{k:Key} {v:Value},keyIs k v=true->(∃i t,k=Sum.inl i/\v=Value.int i t)\/(∃x t,k=Sum.inr x/\v=Value.str x t)
 | .inl i,v,h=>by
  obtain⟨t,e⟩:=Value.isInt_shape (k:=i) (v:=v) h;exact .inl ⟨i,t,rfl,e⟩
 | .inr x,v,h=>by
  obtain⟨t,e⟩:=Value.isStrOf_shape (x:=x) (v:=v) h;exact .inr ⟨x,t,rfl,e⟩
def qeM(i:Int)(t:Tok):keyIs (.inl i) (.int i t)=true:=by simp[keyIs,Value.isInt]
def qeN(x:Str)(t:Tok):keyIs (.inr x) (.str x t)=true:=by simp[keyIs,Value.isStrOf]
def qj0(a b:Int):decide ((Sum.inl a:Key)=Sum.inl b)=(a == b):=by
 by_cases e:a=b
 .subst e;simp
 .have h:¬(Sum.inl a:Key)=Sum.inl b:=λq=>e (Sum.inl.inj q)
  rw[wa h];exact(vA.mpr e).symm
def qj1(a b:Str):decide ((Sum.inr a:Key)=Sum.inr b)=decide (a=b):=by
 by_cases e:a=b
 .subst e;simp
 .have h:¬(Sum.inr a:Key)=Sum.inr b:=λq=>e (Sum.inr.inj q)
  rw[wa h,wa e]
def qj2(a:Int)(b:Str):decide ((Sum.inl a:Key)=Sum.inr b)=false:=wa (λq=>nomatch q)
def qj3(a:Str)(b:Int):decide ((Sum.inr a:Key)=Sum.inl b)=false:=wa (λq=>nomatch q)
noncomputable def mixKind(prog:Program)(w:World):PySem.KeyKind prog w Key where
 is:=keyIs
 hash:=keyH w
 inj:=λv a b ha d=>by
  rcases keyIs_shape ha with ⟨i,t,rfl,rfl⟩|⟨x,t,rfl,rfl⟩
  .rcases keyIs_shape d with ⟨j,u,rfl,e⟩|⟨y,u,rfl,e⟩
   .injection e with e1 _;rw[e1]
   .exact nomatch e
  .rcases keyIs_shape d with ⟨j,u,rfl,e⟩|⟨y,u,rfl,e⟩
   .exact nomatch e
   .injection e with e1 _;rw[e1]
 byValue:=λk v h=>by
  rcases keyIs_shape h with ⟨i,t,rfl,rfl⟩|⟨x,t,rfl,rfl⟩ <;> rfl
 pyHash:=λc h=>by
  rcases keyIs_shape c with ⟨i,t,rfl,rfl⟩|⟨x,t,rfl,rfl⟩
  .exact wpAny_pyHash_int h
  .exact wpAny_pyHash_str h
 eqBool:=λf c h=>by
  rcases keyIs_shape f with ⟨i,t,rfl,rfl⟩|⟨x,t,rfl,rfl⟩
  .rcases keyIs_shape c with ⟨j,u,rfl,rfl⟩|⟨y,u,rfl,rfl⟩
   .rw [qj0]at h;exact wpAny_eqBool_int h
   .rw [qj2]at h;exact SeqAt.EqAt.int_str i t y u _ _ _ _ h
  .rcases keyIs_shape c with ⟨j,u,rfl,rfl⟩|⟨y,u,rfl,rfl⟩
   .rw [qj3]at h;exact SeqAt.EqAt.str_int x t j u _ _ _ _ h
   .rw [qj1]at h;exact wpAny_eqBool_str h
 «strs»:=λk x t v h=>by
  rcases keyIs_shape h with ⟨i,u,rfl,e⟩|⟨y,u,rfl,e⟩
  .exact nomatch e
  .injection e with e1 _
   subst e1;cases v <;> rfl
def qbO(prog:Program)(w:World)(i:Int)(t:Tok):(mixKind prog w).is (.inl i) (.int i t)=true:=qeM i t
def qbP(prog:Program)(w:World)(x:Str)(t:Tok):(mixKind prog w).is (.inr x) (.str x t)=true:=qeN x t
inductive V where
 |non|bl (b:Bool)|int (i:Int)|str (x:Str)|byt (b:Array UInt8)|flt (b:UInt64)|ref (a:Addr)|ty (n:String)
 deriving DecidableEq
def RelV:V->Value->Prop
 | .non,u=>u=Value.none
 | .bl b,u=>u=Value.bool b
 | .int i,u=>∃t,u=Value.int i t
 | .str x,u=>∃t,u=Value.str x t
 | .byt b,u=>∃t,u=Value.bytes b t
 | .flt b,u=>∃t,u=Value.float b t
 | .ref a,u=>u=Value.ref a
 | .ty n,u=>u=Value.type n
noncomputable abbrev Vals:List V->List Value->Prop:=Paired RelV
def Vals.length(r:Vals xs us):xs.length=us.length:=Paired.length r
def Vals.get:∀{xs:List V} {us:List Value} {i:Nat} {x:V},Vals xs us->xs[i]?=some x->∃u,us[i]?=some u/\RelV x u
 |_,_,_,_,.nil,e=>by simp at e
 |_,_,0,_,.cons r _,e=>by simp at e;subst e;exact⟨_,rfl,r⟩
 |_,_,i+1,x,.cons _ t,e=>by
  obtain⟨u,a,b⟩:=Vals.get (i:=i) (x:=x) t (by simpa using e);exact⟨u,by simpa using a,b⟩
def Vals.set(r:RelV x u):∀{xs:List V} {us:List Value} (i:Nat),Vals xs us->Vals (xs.set i x) (us.set i u)
 |_,_,_,.nil=>.nil
 |_,_,0,.cons _ t=>.cons r t
 |_,_,i+1,.cons q t=>.cons q (Vals.set r i t)
def Vals.append:∀{xs ys:List V} {us a:List Value},Vals xs us->Vals ys a->Vals (xs++ys) (us++a)
 |_,_,_,_,.nil,s=>s
 |_,_,_,_,.cons r t,s=>.cons r (Vals.append t s)
def Vals.take:∀{xs:List V} {us:List Value} (n:Nat),Vals xs us->Vals (xs.take n) (us.take n)
 |_,_,0,_=>.nil
 |_,_,_+1,.nil=>.nil
 |_,_,n+1,.cons r t=>.cons r (Vals.take n t)
def Vals.drop:∀{xs:List V} {us:List Value} (n:Nat),Vals xs us->Vals (xs.drop n) (us.drop n)
 |_,_,0,r=>r
 |_,_,_+1,.nil=>.nil
 |_,_,n+1,.cons _ t=>Vals.drop n t
def RelO:Option V->Option Value->Prop
 |some v,some u=>RelV v u
 |none,none=>True
 |_,_=>False
noncomputable def KV{κ:Type}:List (κ×V)->List (κ×Value)->Prop:=Paired λ(p:κ×V) (q:κ×Value)=>p.1=q.1/\RelV p.2 q.2
noncomputable def kV:Key->V
 | .inl i=>.int i
 | .inr x=>.str x
inductive HO where
 |l (xs:List V)
 |t (xs:List V)
 |dK (kvs:List (Key×V))|dT (kvs:List (List Key×V))
 |set (S:Int->Bool) (n:Nat)
 |ins (C dx:Addr) (fs:List (Str×V))
 |own (x:Addr)
 |xd (fs:List (Str×V))
 |met (f x:Addr)
 |rng (lo hi:Int)
 |frz (o:Obj) (u:HO)
 |tbl (ps:Array Value)
 |ext (φ:Heap->Prop)
noncomputable abbrev Hp:=Addr->Option HO
noncomputable def upd(H:Hp)(a:Addr)(o:HO):Hp:=λb=>if b=a then some o else H b
def qA:upd H a o a=some o:=by unfold upd;rw[wM rfl]
def qk(h:b≠a):upd H a o b=H b:=by unfold upd;rw[wN h]
def qif:upd (upd H a o) a u=upd H a u:=by
 funext b;unfold upd;split <;> rfl
def qlU{H:Hp}{a b:Addr}{o u:HO}(h:H a=some o)(h':H b=some u)(d:o≠u):a≠b:=by
 intro e;subst e;rw[h]at h';exact d (Option.some.inj h')
def zw{H:Hp}{a b:Addr}{o:HO}(h:H a=some o)(h':H b=none):a≠b:=by
 intro e;subst e;rw[h]at h';cases h'
def yF(h:Heap)(a:Array Value):∀o,(h.push {cls:=.type "tuple",data:=.seq a}).get? h.objs.size=some o->o.dict=none:=λo q=>by
 rw[wE _ rfl]at q;cases q;rfl
section
variable(P:Program)(w:World)
def ObjOk(H:Hp)(h:Heap)(a:Addr):HO->Prop
 | .l xs=>xs.length<=sizeLine/\∃(b:List Value) (n:Nat),Vals xs b/\h.get? a=some {cls:=.type "list",data:=.seq b.toArray n}
 | .t xs=>xs.length<=sizeLine/\∃b:List Value,Vals xs b/\IsTup h a b.toArray/\∀o,h.get? a=some o->o.dict=none
 | .dK kvs=>kvs.length<=sizeLine/\(a == sysModules)=false/\∃vs,KV kvs vs/\h.DictOf (mixKind P w) a vs
 | .dT kvs=>kvs.length<=sizeLine/\(a == sysModules)=false/\∃xs:List (List Key×Addr×Value),
   Paired (λ(p:List Key×V) (q:List Key×Addr×Value)=>p.1=q.1/\H q.2.1=some (.t (p.1.map kV))/\RelV p.2 q.2.2) kvs xs /\
   ∃o es ep,h.get? a=some o/\o.ExactDict/\o.data=.dict es ep/\es.toList=xs.map (entryOfKey (tupleKind (mixKind P w)))/\(xs.map (·.1)).Nodup
 | .set S n=>h.SetOf (intKind P w) a S n
 | .ins C dx fs=>H dx=some (.own a)/\fs.length<=1000/\dx≠a/\h.get? a=some (PySem.W.instObj C dx) /\
   ∃mA,h.Ns1 dx mA/\(∀f,RelO (fs.lookup f) (mA f))/\PySem.Within mA (fs.map (·.1))
 | .own _=>∃o,h.get? a=some o
 | .xd fs=>∃mA,h.Ns1 a mA/\∀f,RelO (fs.lookup f) (mA f)
 | .rng lo hi=>∃t u v,h.get? a=some {cls:=.type "range",data:=.fields #[.int lo t,.int hi u,.int 1 v]}
 | .frz o u=>h.get? a=some o/\ObjOk H h a u
 | .tbl ps=>h.get? a=some {cls:=.none,data:=.fields ps}/\TriplesOk ps.toList
 | .met f x=>h.get? a=some (PySem.W.methodObj (.ref f) (.ref x))
 | .ext c=>c h/\(∃o,h.get? a=some o)/\∀d e:Heap,c d->(∀o,d.get? a=some o->e.get? a=some o)->c e
def HOk(H:Hp)(h:Heap):Prop:=∀a o,H a=some o->ObjOk P w H h a o
end
section
variable{P:Program}{w:World}{H H':Hp}{h h':Heap}{a:Addr}{o:HO}
theorem ObjOk.lt(x:ObjOk P w H h a o):a<h.objs.size:=by
 cases o with
 |l xs=>obtain⟨_,_,_,_,e⟩:=x;exact wF e
 |t xs=>obtain⟨_,_,_,p,_⟩:=x;exact p.lt
 |dK kvs=>obtain⟨_,_,_,_,o,_,_,e,_⟩:=x;exact wF e
 |dT kvs=>obtain⟨_,_,_,_,o,_,_,e,_⟩:=x;exact wF e
 |set S n=>obtain⟨o,_,_,_,e,_⟩:=x;exact wF e
 |ins C dx fs=>obtain⟨_,_,_,e,_⟩:=x;exact wF e
 |own y=>obtain⟨_,e⟩:=x;exact wF e
 |xd fs=>obtain⟨_,⟨_,_,_,e,_⟩,_⟩:=x;exact wF e
 |rng lo hi=>obtain⟨_,_,_,e⟩:=x;exact wF e
 |frz ob u=>obtain⟨e,_⟩:=x;exact wF e
 |tbl ps=>exact wF (show h.get? a=some _ from x.1)
 |met f y=>exact wF (show h.get? a=some _ from x)
 |ext b=>obtain⟨_,⟨_,e⟩,_⟩:=x;exact wF e
theorem Paired.mapP{e i:Type}{F G:e->i->Prop}:∀{c:List e} {d:List i},Paired F c d->(∀a b,F a b->G a b)->Paired G c d
 |_,_,.nil,_=>.nil
 |_,_,.cons r t,f=>.cons (f _ _ r) (Paired.mapP t f)
theorem ObjOk.stay(x:ObjOk P w H h a o)(k:∀b u,(b=a\/H b=some (.own a))->h.get? b=some u->h'.get? b=some u)(j:∀b,H b=some (.own a)->H' b=some (.own a))(l:∀b xs,H b=some (.t xs)->H' b=some (.t xs)):ObjOk P w H' h' a o:=by
 induction o with
 |l xs=>obtain⟨z,i,n,r,e⟩:=x;exact⟨z,i,n,r,k _ _ (.inl rfl) e⟩
 |t xs=>obtain⟨z,i,r,⟨ob,e,c⟩,nd⟩:=x;exact⟨z,i,r,⟨ob,k _ _ (.inl rfl) e,c⟩,λo q=>by rw[k _ _ (.inl rfl) e]at q;cases q;exact nd _ e⟩
 |dK kvs=>obtain⟨z,y,vs,r,ob,es,ep,e,c⟩:=x;exact⟨z,y,vs,r,ob,es,ep,k _ _ (.inl rfl) e,c⟩
 |dT kvs =>
  obtain⟨z,y,xs,r,ob,es,ep,e,c⟩:=x;exact⟨z,y,xs,Paired.mapP r λp q z=>⟨z.1,l _ _ z.2.1,z.2.2⟩,ob,es,ep,k _ _ (.inl rfl) e,c⟩
 |set S n=>obtain⟨ob,es,ep,t,e,c⟩:=x;exact⟨ob,es,ep,t,k _ _ (.inl rfl) e,c⟩
 |ins C dx fs =>
  obtain⟨d,z,ne,e,mA,⟨od,es,ep,m,c⟩,r⟩:=x;exact⟨j _ d,z,ne,k _ _ (.inl rfl) e,mA,⟨od,es,ep,k _ _ (.inr d) m,c⟩,r⟩
 |own y=>obtain⟨ob,e⟩:=x;exact⟨ob,k _ _ (.inl rfl) e⟩
 |xd fs=>obtain⟨mA,⟨od,es,ep,e,c⟩,r⟩:=x;exact⟨mA,⟨od,es,ep,k _ _ (.inl rfl) e,c⟩,r⟩
 |rng lo hi=>obtain⟨t,u,v,e⟩:=x;exact⟨t,u,v,k _ _ (.inl rfl) e⟩
 |frz ob u s=>obtain⟨e,q⟩:=x;exact⟨k _ _ (.inl rfl) e,s q⟩
 |tbl ps =>
  obtain⟨e,z⟩:=x;exact⟨k a _ (.inl rfl) e,z⟩
 |met f y =>
  have e:h.get? a=some (PySem.W.methodObj (.ref f) (.ref y)):=x;show h'.get? a=some (PySem.W.methodObj (.ref f) (.ref y));exact k a _ (.inl rfl) e
 |ext A=>obtain⟨p,⟨o,e⟩,st⟩:=x;exact⟨st _ _ p λo q=>k _ _ (.inl rfl) q,⟨o,k _ _ (.inl rfl) e⟩,st⟩
theorem HOk.lt(x:HOk P w H h)(e:H a=some o):a<h.objs.size:=(x a o e).lt
theorem HOk.fresh(x:HOk P w H h)(e:h.objs.size<=a):H a=none:=by
 cases q:H a with
 |none=>rfl
 |some u=>exact absurd (wX (x.lt q) e) (vZ _)
theorem HOk.kept(x:HOk P w H h)(k:∀b u,h.get? b=some u->h'.get? b=some u):HOk P w H h':=λa o e =>
 (x a o e).stay (λb u _ q=>k b u q) (λ_ q=>q) λ_ _ q=>q
theorem HOk.laid(x:HOk P w H h)(k:∀b u,h.get? b=some u->h'.get? b=some u)(f:h.objs.size<=a)(new:ObjOk P w (upd H a o) h' a o):HOk P w (upd H a o) h':=λb u e=>by
 have hn:=x.fresh f;by_cases d:b=a
 .subst d;rw[qA]at e;cases e;exact new
 .rw [qk d]at e
  exact(x b u e).stay (λc v _ q=>k c v q) (λc q=>by rw[qk (zw q hn)];exact q) λc xs q=>by rw[qk (zw q hn)];exact q
end
def Rd(H:Hp)(a:Addr)(u:HO):Prop:=H a=some u\/∃o,H a=some (.frz o u)
def Rd.ok(r:Rd H a u)(x:HOk P w H h):ObjOk P w H h a u:=by
 rcases r with r|⟨o,r⟩
 .exact x a u r
 .obtain ⟨_,q⟩:=x a _ r
  exact q
def Mut:Option HO->Prop
 |some (.l _)=>True
 |some (.dK _)=>True
 |some (.dT _)=>True
 |some (.set _ _)=>True
 |some (.ins _ _ _)=>True
 |some (.ext _)=>True
 |_=>False
section
variable{P:Program}{w:World}{H:Hp}{h h':Heap}{x e:Addr}{o':HO}
theorem HOk.write(ok:HOk P w H h)(i:Mut (H x))(n:e=x\/H e=some (.own x))(k:∀b u,b≠e->h.get? b=some u->h'.get? b=some u)(m:∃u,h'.get? e=some u)(new:ObjOk P w (upd H x o') h' x o'):HOk P w (upd H x o') h':=λb u q=>by
 have d:∀c y,H c=some (.own y)->c≠x:=λc y r z=>by subst z;rw[r]at i;exact i
 have f:∀c xs,H c=some (.t xs)->c≠x:=λc xs r z=>by subst z;rw[r]at i;exact i
 by_cases j:b=x
 .subst j;rw[qA]at q;cases q;exact new
 .rw [qk j]at q
  by_cases a:b=e
  .have o:H b=some (.own x):=by
    rcases n with z|z
    .exact absurd (a.trans z) j
    .rw [a];exact z
   rw[q]at o;cases o;obtain⟨v,p⟩:=m;exact⟨v,by rw[a];exact p⟩
  .refine (ok b u q).stay (λc v l r=>k c v ?_ r) (λc r=>by rw[qk (d c b r)];exact r) λc xs r=>by rw[qk (f c xs r)];exact r
   rcases l with rfl|l
   .exact a
   .rintro rfl
    rcases n with z|z
    .exact d c b l z
    .rw [l]at z;cases z;exact j rfl
end
structure Un (fs ex:List Addr) (H H':Hp) (h h':Heap):Prop where
 keep:∀b o,h.get? b=some o->H b=none->b∉fs->b∉ex->h'.get? b=some o
 slot:∀b o,h.get? b=some o->H b=none->b∈fs->b∉ex->∃sl,h'.get? b=some {o with slots:=sl}
 free:∀b o,h.get? b=some o->H b=none->b∉ex->H' b=none
 there:∀b o,h.get? b=some o->b∉ex->∃o',h'.get? b=some o'
 tups:∀b xs,H b=some (.t xs)->H' b=some (.t xs)
 frzs:∀b o u,H b=some (.frz o u)->H' b=some (.frz o u)
 tbls:∀b ps,H b=some (.tbl ps)->∃more,H' b=some (.tbl (ps++more))
section
variable{fs fs' ex ex':List Addr}{H H1 H2:Hp}{h h1 h2 h':Heap}{a x e:Addr}{o:HO}
theorem Un.any(u:Un fs ex H H1 h h1)(q:h.get? b=some ob)(n:H b=none)(hx:b∉ex):∃sl,h1.get? b=some {ob with slots:=sl}:=by
 by_cases c:b∈fs
 .exact u.slot b ob q n c hx
 .exact ⟨ob.slots,u.keep b ob q n c hx⟩
theorem Un.kept(k:∀b u,h.get? b=some u->h'.get? b=some u):Un fs ex H H h h' :=
 ⟨λb ob q _ _ _=>k b ob q,λb ob q _ _ _=>⟨ob.slots,k b ob q⟩,λ_ _ _ n _=>n,λb ob q _=>⟨ob,k b ob q⟩,λ_ _ q=>q,λ_ _ _ q=>q,λ_ ps q=>⟨#[],by rw[q];simp⟩⟩
theorem Un.refl:Un fs ex H H h h:=Un.kept λ_ _ q=>q
theorem Un.laid(k:∀b u,h.get? b=some u->h'.get? b=some u)(c:h.objs.size<=a)(hn:H a=none):Un fs ex H (upd H a o) h h' where
 keep:=λb u q _ _ _=>k b u q
 slot:=λb u q _ _ _=>⟨u.slots,k b u q⟩
 free:=λb u q n _=>by rw[qk (wT (wX (wF q) c))];exact n
 there:=λb u q _=>⟨u,k b u q⟩
 tups:=λb xs q=>by rw[qk (zw q hn)];exact q
 frzs:=λb u xs q=>by rw[qk (zw q hn)];exact q
 tbls:=λb ps q=>⟨#[],by rw[qk (zw q hn),q];simp⟩
theorem Un.write(d:Mut (H x))(j:e=x\/H e=some (.own x))(k:∀b u,b≠e->h.get? b=some u->h'.get? b=some u)(f:∃u,h'.get? e=some u):Un fs ex H (upd H x o) h h':=by
 have hx:∀b,H b=none->b≠x:=λb n z=>by subst z;rw[n]at d;exact d
 have i:∀b,H b=none->b≠e:=λb n z=>by
  subst z;rcases j with r|r
  .exact hx b n r
  .rw [n]at r;cases r
 have hm:∀b u,H b=some u->¬Mut (some u)->b≠x:=λb u q nm z=>by subst z;rw[q]at d;exact nm d
 refine⟨λb u q n _ _=>k b u (i b n) q,λb u q n _ _=>⟨u.slots,k b u (i b n) q⟩,λb u q n _=>by rw[qk (hx b n)];exact n,λb u q _=>?_,
  λb xs q=>by rw[qk (hm b _ q λz=>z)];exact q,λb u xs q=>by rw[qk (hm b _ q λz=>z)];exact q,λb ps q=>⟨#[],by rw[qk (hm b _ q λz=>z),q];simp⟩⟩
 by_cases c:b=e
 .subst c;exact f
 .exact ⟨u,k b u c q⟩
end
structure GK (g g':Array GenState):Prop where
 bare:AllBare g'
 sz:g.size<=g'.size
 old:∀i,i<g.size->g'[i]?=g[i]?
def GK.refl(b:AllBare g):GK g g:=⟨b,wG _,λ_ _=>rfl⟩
def GK.self(x:GK g g'):GK g' g':=GK.refl x.bare
def GK.trans(a:GK g c)(b:GK c d):GK g d:=⟨b.bare,vG a.sz b.sz,λi hi=>(b.old i (wX hi a.sz)).trans (a.old i hi)⟩
noncomputable def sameName(vs:Array Value):Bool:=match(vs[0]?:Option Value),(vs[1]?:Option Value)with
 |some (.str a _),some (.str b _)=>a == b
 |_,_=>false
noncomputable def codeTab(K:07)(c T:Addr):Bool:=match K.lookup c with
 |some ⟨cls,_,.fields vs,_⟩=>(cls == .type "code"&&sameName vs)&&(match(vs.getD 11 Value.none:Value),(vs[11]?:Option Value),(vs.getD 18 Value.none:Value),(vs.getD 7 Value.none:Value),(vs.getD 9 Value.none:Value),(vs.getD 10 Value.none:Value)with
  | .ref a,some (.ref b),.str _ _,.int _ _,.bool _,.int _ _=>a == T&&b == T&&c != T
  |_,_,_,_,_,_=>false)
 |_=>false
noncomputable def trk(h:Heap)(H:Hp):List Addr:=(List.range h.objs.size).filter λa=>(H a).isSome
noncomputable def hidT(h:Heap)(H:Hp):Heap:=PySem.W.hideAll h (trk h H)
def qeO(h:Heap)(H:Hp):(hidT h H).objs.size=h.objs.size:=PySem.W.hideAll_size _ _
def qfA{h:Heap}(e:h.get? b=some o)(n:H b=none):(hidT h H).get? b=some o :=
 PySem.W.hideAll_get _ e λhm=>by
  have q:(H b).isSome=true:=(uv.mp hm).2;rw[n]at q;simp at q
def qig(e:(hidT h H).get? b=some o):h.get? b=some o/\H b=none:=by
 have e':h.get? b=some o:=PySem.W.of_hideAll (trk h H) e;refine⟨e',?_⟩;cases q:H b with
 |none=>rfl
 |some x =>
  have hm:b∈trk h H:=uv.mpr ⟨uA.mpr (wF e'),by simp[q]⟩;have z:(hidT h H).get? b=none:=PySem.W.hideAll_none (trk h H) hm;rw[z]at e;cases e
noncomputable def allNews(g h:Heap)(L:Addr):List (Addr×Obj):=(List.range h.objs.size).filterMap λa=>if a=L\/(g.get? a).isSome=true then none else(h.get? a).map λo=>(a,o)
noncomputable def rest(g h:Heap)(L d:Addr):List (Addr×Obj):=(allNews g h L).filter λp=>decide (p.1≠d)
structure Mod (K:07) (mg:Str->Option Value) (base:Heap):Prop where
 kin:K.In base
 glob:base.Ns mainGlobals mg
 blt:∃mb,base.Ns builtinsNs mb/\∀x:Str,x≠"__name__"->mb x=bootBuiltins x
 nolimit:base.NoLimit
 bmod:∃bm ob,mg "__builtins__"=some (.ref bm)/\bm≠builtinsNs/\base.get? bm=some ob/\ob.cls=.type "module"/\ob.dict=some builtinsNs/\ob.data=.plain
structure Cx where
 prog:Program
 w:World
 K:PySem.W.Frag
 mg:Str->Option Value
 base:Heap
 A:Around
 N:List Str
 s₀:Shared
 H₀:Hp
 env:Env
 outer:List Env
 stack:List Env
 ex:List Addr
 fn:Str->Bool
 calm:Bool
 pn:List (Addr×Obj)
 xe:Value->Shared->Prop
noncomputable def frs(l:List Env):List Addr:=l.filterMap (·.frame)
noncomputable abbrev Cx.fs(X:Cx):List Addr:=frs X.outer
def Vis(sc:Scope)(x:Str):Prop:=sc.names.lookup x=some .local\/sc.names.lookup x=some .cell\/sc.names.lookup x=some .free
def Loc(sc:Scope)(x:Str):Prop:=sc.names.lookup x=some .local\/sc.names.lookup x=some .cell
noncomputable def Look(env:Env)(h:Heap)(m:Str->Option Value)(x:Str)(u:Value):Prop :=
 (env.kindOf x=some .local/\m x=some u)\/((env.kindOf x=some .cell\/env.kindOf x=some .free)/\∃c,env.cells.lookup x=some c/\h.IsCell c (some u))
structure Cx.Ok (X:Cx):Prop where
 mod:Mod X.K X.mg X.base
 kind:X.env.scope.kind=.function
 glob:X.env.globals=mainGlobals
 blt:X.env.builtins=builtinsNs
 above:X.s₀.heap.objs.size<=X.env.locals
 inj:∀x y c,X.env.cells.lookup x=some c->X.env.cells.lookup y=some c->x=y
 has:∀x,(X.env.kindOf x=some .cell\/X.env.kindOf x=some .free)->∃c,X.env.cells.lookup x=some c
 cab:∀x c,X.fn x=true->X.env.cells.lookup x=some c->X.s₀.heap.objs.size<=c
 hd:X.calm=true->X.A.handled=none
 frames:X.A.frames=some X.stack
 stk:X.stack=X.outer\/(X.stack=X.env::X.outer/\X.env.frame=some X.env.locals)
 exf:∀b∈X.ex,b≠X.env.locals/\∀x c,X.env.cells.lookup x=some c->c≠b
 bs:∀b o,X.base.get? b=some o->X.s₀.heap.get? b=some o/\X.H₀ b=none
 bsz:X.base.objs.size<=X.s₀.heap.objs.size
 noex:∀b o,X.base.get? b=some o->b∉X.ex
 exfs:∀b∈X.ex,b∉X.fs
 funs:X.s₀.heap.FunFrames X.base X.outer
 frf:∀b∈X.fs,X.H₀ b=none
 tab:∀c T,codeTab X.K c T=true->∃ps,X.H₀ T=some (.tbl ps)
structure Inv (X:Cx) (pins:001) (σ:List (Option V)) (H:Hp) (s:Shared):Prop where
 ok:X.Ok
 os:s.os=X.s₀.os
 bare:GK X.s₀.gens s.gens
 base:Un X.fs X.ex X.H₀ H X.s₀.heap s.heap
 loc:∃m,s.heap.Ns X.env.locals m/\∀(i:Nat) (x:Str) (v:V),X.N[i]?=some x->σ[i]?=some (some v)->Vis X.env.scope x->∃u,RelV v u/\Look X.env s.heap m x u
 cell:∀x c,X.env.cells.lookup x=some c->∃v,s.heap.IsCell c v
 free:H X.env.locals=none
 freeC:∀x c,X.env.cells.lookup x=some c->H c=none
 pin:∀p∈X.pn++pins,s.heap.get? p.1=some p.2/\H p.1=none/\p.1≠X.env.locals/\p.1∉X.fs/\∀v,p.2.data≠.cell v
 hok:HOk X.prog X.w H s.heap
 len:σ.length=X.N.length
section
variable{X:Cx}{pins:List (Addr×Obj)}{σ:List (Option V)}{H H':Hp}{s:Shared}{h':Heap}
theorem Cx.Ok.nofr(ok:X.Ok)(e:X.base.get? b=some o):b∉X.fs:=λa=>by
 have:=(ok.funs.mem a).1;rw[e]at this;cases this
theorem Inv.bs(I:000):∀b o,X.base.get? b=some o->s.heap.get? b=some o/\H b=none:=λb o e =>
 ⟨I.base.keep b o (I.ok.bs b o e).1 (I.ok.bs b o e).2 (I.ok.nofr e) (I.ok.noex b o e),I.base.free b o (I.ok.bs b o e).1 (I.ok.bs b o e).2 (I.ok.noex b o e)⟩
theorem Inv.bk(I:000):∀b o,X.base.get? b=some o->s.heap.get? b=some o:=λb o e=>(I.bs b o e).1
theorem Inv.mod(I:000):Mod X.K X.mg X.base:=I.ok.mod
theorem Inv.kIn(I:000):X.K.In s.heap:=I.ok.mod.kin.keeps I.bk
theorem Inv.nolimit(I:000):s.heap.NoLimit:=I.ok.mod.nolimit.keeps I.bk
theorem Inv.lt(I:000):X.env.locals<s.heap.objs.size:=let ⟨_,hn,_⟩:=I.loc;hn.lt
theorem Inv.sz(I:000):X.s₀.heap.objs.size<=s.heap.objs.size:=vG I.ok.above (x4 I.lt)
theorem Inv.nofs(I:000)(h:s.heap.objs.size<=a):a∉X.fs:=λb=>by
 obtain⟨_,o,c,_⟩:=I.ok.funs.mem b;exact absurd (wX (wF c) (vG I.sz h)) (vZ _)
theorem Inv.cne(I:000):∀x c,X.env.cells.lookup x=some c->c≠X.env.locals:=λx c e z=>by
 obtain⟨v,o,d,hd⟩:=I.cell x c e;obtain⟨m,⟨o',es,ep,a,b,_⟩,_⟩:=I.loc;rw[z,a]at d;cases d;rw[b]at hd;cases hd
theorem Inv.funs(I:000):s.heap.FunFrames X.base X.outer:=by
 have all:∀(l:List Env),(∀b∈frs l,b∈X.fs)->X.s₀.heap.FunFrames X.base l->s.heap.FunFrames X.base l:=by
  intro l;induction l with
  |nil=>intro _ _;trivial
  |cons env r h =>
   intro f i;obtain⟨j,⟨L,o,a,hn,m,hd⟩,n⟩:=i;have c:L∈X.fs:=f L (by unfold frs;rw[uR,a];exact wL);obtain⟨sl,e⟩:=I.base.slot L o m (I.ok.frf L c) c λz=>I.ok.exfs L z c
   exact⟨j,⟨L,_,a,hn,e,hd⟩,h (λb d=>f b (by unfold frs;rw[uR,a];exact wO _ d)) n⟩
 exact all X.outer (λ_ d=>d) I.ok.funs
theorem Inv.stack(I:000):s.heap.FunFrames X.base X.stack:=by
 rcases I.ok.stk with e|⟨e,hf⟩
 .rw [e];exact I.funs
 .rw [e]
  obtain⟨m,hn,_⟩:=I.loc;refine .cons (by rw[I.ok.kind];decide) hf hn ?_ I.funs;exact Heap.get?_none_of_le (vG I.ok.bsz I.ok.above)
theorem Inv.stkSub(I:000):∀b∈frs X.stack,b∈X.env.locals::X.fs:=λb a=>by
 rcases I.ok.stk with e|⟨e,hf⟩
 .rw [e]at a;exact wO _ a
 .rw [e]at a
  unfold frs at a;rw[uR,hf]at a;exact a
theorem Inv.stkFree(I:000):∀b∈frs X.stack,H b=none:=λb a=>by
 rcases wQ.mp (I.stkSub b a)with e|a
 .rw [e];exact I.free
 .obtain ⟨_,o,c,_⟩:=I.ok.funs.mem a
  exact I.base.free b o c (I.ok.frf b a) λz=>I.ok.exfs b z a
theorem Inv.step{t':Nat}{d':Drawn}{ch:List Addr}(I:000)(a:∀b∈ch,(b∈X.ex\/X.s₀.heap.objs.size<=b)/\b≠X.env.locals/\(∀x c,X.env.cells.lookup x=some c->c≠b)/\∀p∈X.pn++pins,p.1≠b)(keep:∀b o,b≠X.env.locals->b∉X.fs->b∉ch->s.heap.get? b=some o->H b=none->h'.get? b=some o)(slot:∀b o,b≠X.env.locals->b∈X.fs->b∉ch->s.heap.get? b=some o->H b=none->∃sl,h'.get? b=some {o with slots:=sl})(free:∀b o,b∉ch->s.heap.get? b=some o->H b=none->H' b=none)(there:∀b o,b∉ch->s.heap.get? b=some o->∃o',h'.get? b=some o')(tups:∀b xs,H b=some (.t xs)->H' b=some (.t xs))(frzs:∀b o u,H b=some (.frz o u)->H' b=some (.frz o u))(tbls:∀b ps,H b=some (.tbl ps)->∃more,H' b=some (.tbl (ps++more)))(ns:∀m,s.heap.Ns X.env.locals m->h'.Ns X.env.locals m)(hok:HOk X.prog X.w H' h')(L:GK s.gens g'):
  Inv X pins σ H' {s with heap:=h',gens:=g',drawn:=d',toks:=t' }:=by
 have B:∀b o,X.s₀.heap.get? b=some o->b≠X.env.locals:=λb o e=>wT (wX (wF e) I.ok.above)
 have j:∀b o,X.s₀.heap.get? b=some o->b∉X.ex->b∉ch:=λb o e hx y=>by
  rcases(a b y).1 with z|z
  .exact hx z
  .exact absurd (wX (wF e) z) (vZ _)
 have f:∀x c,X.env.cells.lookup x=some c->∀v,s.heap.IsCell c v->h'.IsCell c v:=λx c e v ⟨o,A,hd⟩=>by
  have h:c∉ch:=λz=>(a c z).2.2.1 x c e rfl
  by_cases F:c∈X.fs
  .obtain ⟨sl,q⟩:=slot c o (I.cne x c e) F h A (I.freeC x c e)
   exact⟨_,q,hd⟩
  .exact ⟨o,keep c o (I.cne x c e) F h A (I.freeC x c e),hd⟩
 refine⟨I.ok,I.os,I.bare.trans L,⟨λb o e n y hx=>?_,λb o e n y hx=>?_,λb o e n hx=>?_,λb o e hx=>?_,λb xs e=>tups b xs (I.base.tups b xs e),λb o xs e=>frzs b o xs (I.base.frzs b o xs e),λb ps e=>?_⟩,?_,λx c e=>?_,?_,λx c e=>?_,λp J=>?_,hok,I.len⟩
 .exact keep b o (B b o e) y (j b o e hx) (I.base.keep b o e n y hx) (I.base.free b o e n hx)
 .obtain ⟨sl,e1⟩:=I.base.slot b o e n y hx
  obtain⟨E,C⟩:=slot b _ (B b o e) y (j b o e hx) e1 (I.base.free b o e n hx);exact⟨E,C⟩
 .obtain ⟨o',e1⟩:=I.base.there b o e hx
  exact free b o' (j b o e hx) e1 (I.base.free b o e n hx)
 .obtain ⟨o',e1⟩:=I.base.there b o e hx
  exact there b o' (j b o e hx) e1
 .obtain ⟨m1,e1⟩:=I.base.tbls b ps e
  obtain⟨m2,C⟩:=tbls b _ e1;exact⟨m1++m2,by rw[C,Array.append_assoc]⟩
 .obtain ⟨m,hn,M⟩:=I.loc
  refine⟨m,ns m hn,λi x v e1 C N=>?_⟩;obtain⟨u,r,l⟩:=M i x v e1 C N;refine⟨u,r,?_⟩;rcases l with l|⟨k,c,e,z⟩
  .exact .inl l
  .exact .inr ⟨k,c,e,f x c e _ z⟩
 .obtain ⟨v,z⟩:=I.cell x c e
  exact⟨v,f x c e v z⟩
 .obtain ⟨m,⟨o,_,_,A,_⟩,_⟩:=I.loc
  exact free _ o (λz=>(a _ z).2.1 rfl) A I.free
 .obtain ⟨v,o,A,hd⟩:=I.cell x c e
  exact free c o (λz=>(a c z).2.2.1 x c e rfl) A (I.freeC x c e)
 .obtain ⟨e,n,ne,K,d⟩:=I.pin p J
  have h:p.1∉ch:=λz=>(a p.1 z).2.2.2 p J rfl
  exact⟨keep p.1 p.2 ne K h e n,free p.1 p.2 h e n,ne,K,d⟩
theorem Inv.un{t':Nat}(I:000)(u:Un X.fs [] H H' s.heap h')(hok:HOk X.prog X.w H' h'):Inv X pins σ H' {s with heap:=h',toks:=t' }:=by
 obtain⟨m,⟨o,es,ep,f,r⟩,_⟩:=id I.loc;obtain⟨sl,h⟩:=u.any f I.free 02;exact I.step (g':=s.gens) (d':=s.drawn) (ch:=[]) (λ_ z=>nomatch z) (λb o _ c _ e n=>u.keep b o e n c 02) (λb o _ c _ e n=>u.slot b o e n c 02) (λb o _ e n=>u.free b o e n 02) (λb o _ e=>u.there b o e 02) u.tups u.frzs u.tbls (λj hm=>by
  obtain⟨o',es',d,a,i⟩:=hm;rw[f]at a;cases a;exact⟨_,es',d,h,i⟩) hok I.bare.self
theorem Inv.call{t':Nat}{d':Drawn}(I:000)(u:Un (frs X.stack) ch H H' s.heap h')(hok:HOk X.prog X.w H' h')(l:GK s.gens g')(d:∀b∈ch,(b∈X.ex\/X.s₀.heap.objs.size<=b)/\b≠X.env.locals/\(∀x c,X.env.cells.lookup x=some c->c≠b)/\∀p∈X.pn++pins,p.1≠b):
  Inv X pins σ H' {s with heap:=h',gens:=g',drawn:=d',toks:=t' }:=by
 obtain⟨m,⟨o,es,ep,j,r⟩,_⟩:=id I.loc;obtain⟨sl,h⟩:=u.any j I.free λz=>(d _ z).2.1 rfl
 exact I.step (ch:=ch) d (λb o h q a e n=>u.keep b o e n (λz=>(wQ.mp (I.stkSub b z)).elim h q) a) (λb o _ _ a e n=>u.any e n a) (λb o a e n=>u.free b o e n a) (λb o a e=>u.there b o e a) u.tups u.frzs u.tbls (λy hm=>by
  obtain⟨o',es',i,f,v⟩:=hm;rw[j]at f;cases f;exact⟨_,es',i,h,v⟩) hok l
theorem Inv.turned{t':Nat}(I:000)(k:∀b o,b≠it->s.heap.get? b=some o->h'.get? b=some o)(hn:H it=none)(f:it≠X.env.locals)(h:it∈X.ex\/X.s₀.heap.objs.size<=it)(i:∀x c,X.env.cells.lookup x=some c->c≠it)(j:∀p∈X.pn++pins,p.1≠it):Inv X pins σ H {s with heap:=h',toks:=t' }:=by
 have d:∀b u,H b=some u->b≠it:=λb u e z=>by rw[z,hn]at e;cases e
 refine I.step (g':=s.gens) (d':=s.drawn) (ch:=[it]) (λb l=>?_) (λb o _ _ a e _=>k b o (λz=>a (by simp[z])) e) (λb o _ _ a e _=>⟨o.slots,k b o (λz=>a (by simp[z])) e⟩) (λ_ _ _ _ n=>n)
  (λb o a e=>⟨o,k b o (λz=>a (by simp[z])) e⟩) (λ_ _ e=>e) (λ_ _ _ e=>e) (λb ps e=>⟨#[],by rw[e];simp⟩) (λm hm=>?_) (λb u e=>?_) I.bare.self
 .have e:b=it:=by simpa using l
  subst e;exact⟨h,f,i,j⟩
 .obtain ⟨o,es,ep,w,r⟩:=hm
  exact⟨o,es,ep,k _ o (Ne.symm f) w,r⟩
 .refine (I.hok b u e).stay (λc v a q=>k c v ?_ q) (λ_ q=>q) λ_ _ q=>q
  rcases a with z|z
  .rw [z];exact d b u e
  .exact d c _ z
theorem Inv.tok(I:000)(t:Nat):Inv X pins σ H {s with toks:=t}:=I.un (h':=s.heap) (t':=t) Un.refl I.hok
theorem Inv.kept{t':Nat}(I:000)(k:∀b u,s.heap.get? b=some u->h'.get? b=some u):Inv X pins σ H {s with heap:=h',toks:=t' }:=I.un (Un.kept k) (I.hok.kept k)
theorem Inv.laid{t':Nat}(I:000)(k:∀b u,s.heap.get? b=some u->h'.get? b=some u)(c:s.heap.objs.size<=a)(new:ObjOk X.prog X.w (upd H a o) h' a o):
  Inv X pins σ (upd H a o) {s with heap:=h',toks:=t' }:=I.un (Un.laid k c (I.hok.fresh c)) (I.hok.laid k c new)
theorem Inv.write{t':Nat}(I:000)(c:Mut (H x))(d:e=x\/H e=some (.own x))(k:∀b u,b≠e->s.heap.get? b=some u->h'.get? b=some u)(a:∃u,h'.get? e=some u)(new:ObjOk X.prog X.w (upd H x o) h' x o):Inv X pins σ (upd H x o) {s with heap:=h',toks:=t' }:=I.un (Un.write c d k a) (I.hok.write c d k a new)
theorem Inv.pins_of{a:001}(I:000)(h:∀p∈a,s.heap.get? p.1=some p.2/\H p.1=none/\p.1≠X.env.locals/\p.1∉X.fs/\∀v,p.2.data≠.cell v):Inv X a σ H s :=
 ⟨I.ok,I.os,I.bare,I.base,I.loc,I.cell,I.free,I.freeC,λp b=>(wi.mp b).elim (λz=>I.pin p (vu _ z)) (h p),I.hok,I.len⟩
theorem jR{N:List Str}(c:N.Nodup){i j:Nat}(a:N[i]?=some x)(b:N[j]?=some x):i=j:=by
 obtain⟨e,e1⟩:=wP.mp a;obtain⟨f,d⟩:=wP.mp b;exact(xx c).mp (e1.trans d.symm)
theorem jo{i:Nat}(I:000)(hN:X.N.Nodup)(hi:X.N[i]?=some x)(hx:Loc X.env.scope x)(r:RelV v u)(h:∀s',Inv X pins (σ.set i (some v)) H s'->(∃a,Heap.SameBut a s.heap s'.heap/\(a=X.env.locals\/X.env.cells.lookup x=some a))->Q () s')(hf:X.fn x=true\/X.env.scope.names.lookup x=some .local:=by first|exact .inl rfl|exact .inr rfl|assumption):wpAny M A (storeName X.env x u) Q E s:=by
 obtain⟨m,hn,hl⟩:=id I.loc;have S:(X.env.scope.kind == .class || (X.env.scope.kind == .module&&X.env.locals != X.env.globals))=false:=by rw[I.ok.kind];rfl
 have J:i<σ.length:=by rw[I.len];exact(wP.mp hi).1
 have cne:=I.cne;have l:∀{a:Addr} {h':Heap},(∃o,s.heap.get? a=some o/\H a=none)->Heap.SameBut a s.heap h'->HOk X.prog X.w H h':=λ{a h'} ha f b ob e=>by
  obtain⟨_,_,C⟩:=ha;refine(I.hok b ob e).stay (λc w' B q=>(f.2 c ?_).trans q) (λ_ q=>q) λ_ _ q=>q
  rintro rfl;rcases B with rfl|B
  .rw [C]at e;cases e
  .rw [C]at B;cases B
 rcases hx with K|K
 .refine wpAny_storeName_local K hn (λh' a0 f=>?_) S
  obtain⟨oL,_,_,a1,_⟩:=id hn;refine h _ ⟨I.ok,I.os,I.bare,⟨λb o e n L hx=>?_,λb o e n L hx=>?_,I.base.free,λb o e hx=>?_,I.base.tups,I.base.frzs,I.base.tbls⟩,⟨_,a0,λj y v' e1 F e3=>?_⟩,λy c e=>?_,I.free,I.freeC,λp hp=>?_,l ⟨oL,a1,I.free⟩ f,by simpa using I.len⟩ ⟨_,f,.inl rfl⟩
  .exact (f.2 b (wT (wX (wF e) I.ok.above))).trans (I.base.keep b o e n L hx)
  .obtain ⟨sl,e1⟩:=I.base.slot b o e n L hx
   exact⟨sl,(f.2 b (wT (wX (wF e) I.ok.above))).trans e1⟩
  .obtain ⟨o',e1⟩:=I.base.there b o e hx
   exact⟨o',(f.2 b (wT (wX (wF e) I.ok.above))).trans e1⟩
  .by_cases O:j=i
   .subst O
    rw[hi]at e1;cases e1;rw[wd J]at F;cases F;exact⟨u,r,.inl ⟨K,by simp⟩⟩
   .rw [uM (Ne.symm O)]at F
    obtain⟨u',r',q⟩:=hl j y v' e1 F e3;refine⟨u',r',?_⟩;rcases q with ⟨k,e⟩|⟨k,c,e,z⟩
    .refine .inl ⟨k,?_⟩
     have:y≠x:=λe=>O (jR hN e1 (e ▸ hi))
     simp[this,e]
    .exact .inr ⟨k,c,e,z.sameBut f (cne y c e)⟩
  .obtain ⟨w',z⟩:=I.cell y c e
   exact⟨w',z.sameBut f (cne y c e)⟩
  .obtain ⟨e,n,ne,nf,d⟩:=I.pin p hp
   exact⟨(f.2 p.1 ne).trans e,n,ne,nf,d⟩
 .have P:X.fn x=true:=by
   rcases hf with z|z
   .exact z
   .rw [z]at K;cases K
  obtain⟨c,B⟩:=I.ok.has x (.inl K);obtain⟨w',z⟩:=I.cell x c B;refine wpAny_storeName_cell I.ok.kind K B z (λh' U f=>?_);obtain⟨oc,W,Y⟩:=id z;refine h {s with heap:=h' } ⟨I.ok,I.os,I.bare,⟨λb o e n L hx=>?_,λb o e n L hx=>?_,I.base.free,λb o e hx=>?_,I.base.tups,I.base.frzs,I.base.tbls⟩,⟨m,hn.sameBut f (Ne.symm (cne x c B)),λj y v' e1 F e3=>?_⟩,λy c' e=>?_,I.free,I.freeC,λp hp=>?_,l ⟨oc,W,I.freeC x c B⟩ f,by simpa using I.len⟩ ⟨c,f,.inr B⟩
  .exact (f.2 b (wT (wX (wF e) (I.ok.cab x c P B)))).trans (I.base.keep b o e n L hx)
  .obtain ⟨sl,e1⟩:=I.base.slot b o e n L hx
   exact⟨sl,(f.2 b (wT (wX (wF e) (I.ok.cab x c P B)))).trans e1⟩
  .obtain ⟨o',e1⟩:=I.base.there b o e hx
   exact⟨o',(f.2 b (wT (wX (wF e) (I.ok.cab x c P B)))).trans e1⟩
  .by_cases O:j=i
   .subst O
    rw[hi]at e1;cases e1;rw[wd J]at F;cases F;exact⟨u,r,.inr ⟨.inl K,c,B,U⟩⟩
   .rw [uM (Ne.symm O)]at F
    obtain⟨u',r',q⟩:=hl j y v' e1 F e3;refine⟨u',r',?_⟩;rcases q with q|⟨k,c',e,z'⟩
    .exact .inl q
    .refine .inr ⟨k,c',e,z'.sameBut f ?_⟩
     rintro rfl;exact O (jR hN e1 (I.ok.inj _ _ _ e B ▸ hi))
  .by_cases Z:c'=c
   .subst Z;exact⟨_,U⟩
   .obtain ⟨w2,z2⟩:=I.cell y c' e
    exact⟨w2,z2.sameBut f Z⟩
  .obtain ⟨e,n,ne,nf,d⟩:=I.pin p hp
   refine⟨(f.2 p.1 ?_).trans e,n,ne,nf,d⟩;intro q;rw[q,W]at e;have q':oc=p.2:=Option.some.inj e;exact d w' (by rw[<-q'];exact Y)
theorem yo{i:Nat}(I:000)(a:X.N.Nodup)(hi:X.N[i]?=some x)(hx:Loc X.env.scope x)(r:RelV v u)(h:∀s',Inv X pins (σ.set i (some v)) H s'->Q () s')(b:X.fn x=true\/X.env.scope.names.lookup x=some .local:=by first|exact .inl rfl|exact .inr rfl|assumption):wpAny M A (storeName X.env x u) Q E s :=
 jo I a hi hx r (λs' c _=>h s' c) b
theorem Inv.call'{s':Shared}(I:000)(d:s'.os=s.os)(u:Un (frs X.stack) ch H H' s.heap s'.heap)(hok:HOk X.prog X.w H' s'.heap)(f:GK s.gens s'.gens)(a:∀b∈ch,(b∈X.ex\/X.s₀.heap.objs.size<=b)/\b≠X.env.locals/\(∀x c,X.env.cells.lookup x=some c->c≠b)/\∀p∈X.pn++pins,p.1≠b):Inv X pins σ H' s':=by
 obtain⟨h',g',d',t',o'⟩:=s';have e:o'=s.os:=d;subst e;exact I.call (g':=g') (t':=t') (d':=d') u hok f a
end
noncomputable abbrev XK:=Value->Option Addr->Hp->Prop
noncomputable abbrev St:=List (Option V)
noncomputable abbrev VK:=V->Hp->Prop
noncomputable abbrev TE:=St->Hp->VK->Prop
noncomputable abbrev TT:=St->Hp->(Bool->Hp->Prop)->Prop
noncomputable abbrev TA:=St->Hp->(List V->Hp->Prop)->Prop
structure Ends where
 nx:St->Hp->Prop
 rt:VK
 bk:St->Hp->Prop:=λ_ _=>False
 ct:St->Hp->Prop:=λ_ _=>False
noncomputable abbrev TS:=Ends->St->Hp->Prop
def EP(X:Cx)(pins:001)(a:St)(Q:VK)(u:Value)(s':Shared):Prop:=∃v H',Inv X pins a H' s'/\RelV v u/\Q v H'
def TP(X:Cx)(pins:001)(a:St)(Q:Bool->Hp->Prop)(b:Bool)(s':Shared):Prop:=∃H',Inv X pins a H' s'/\Q b H'
def AP(X:Cx)(pins:001)(a:St)(Q:List V->Hp->Prop)(us:List Value)(s':Shared):Prop:=∃vs H',Inv X pins a H' s'/\Vals vs us/\Q vs H'
noncomputable def SP(X:Cx)(pins:001)(D:Ends)(f:Flow)(s':Shared):Prop :=
 match f with
 | .next=>∃a H',Inv X pins a H' s'/\D.nx a H'
 | .brk=>∃a H',Inv X pins a H' s'/\D.bk a H'
 | .cont=>∃a H',Inv X pins a H' s'/\D.ct a H'
 | .ret u=>∃v a H',Inv X pins a H' s'/\RelV v u/\D.rt v H'
noncomputable def PE(X:Cx)(e:Expr)(t:TE):Prop :=
 ∀(pins:001) (s:Shared) (a:St) (H:Hp) (Q:VK),Inv X pins a H s->t a H Q->wpAny 05 X.A (eval e X.env) (EP X pins a Q) X.xe s
noncomputable def PT(X:Cx)(e:Expr)(t:TT):Prop :=
 ∀(pins:001) (s:Shared) (a:St) (H:Hp) (Q:Bool->Hp->Prop),Inv X pins a H s->t a H Q->wpAny 05 X.A (isTrue e X.env (eval e X.env)) (TP X pins a Q) X.xe s
noncomputable def PW(X:Cx)(e:Expr)(t:TT):Prop :=
 ∀(a:Sem Value) (pins:001) (s:Shared) (b:St) (H:Hp) (Q:Bool->Hp->Prop),Inv X pins b H s->t b H Q->wpAny 05 X.A (isTrue e X.env a) (TP X pins b Q) X.xe s
def PW.pt(h:PW X e t):PT X e t:=h _
noncomputable def PA(X:Cx)(es:List Expr)(t:TA):Prop :=
 ∀(pos:Pos) (pins:001) (s:Shared) (a:St) (H:Hp) (Q:List V->Hp->Prop),Inv X pins a H s->t a H Q->wpAny 05 X.A (spliced (backTo pos (starEach es X.env))) (AP X pins a Q) X.xe s
noncomputable def PS(X:Cx)(st:Stmt)(t:TS):Prop :=
 ∀(pins:001) (s:Shared) (a:St) (H:Hp) (D:Ends),Inv X pins a H s->t D a H->wpAny 05 X.A (exec st X.env) (SP X pins D) X.xe s
noncomputable def PSs(X:Cx)(st:List Stmt)(t:TS):Prop :=
 ∀(pins:001) (s:Shared) (a:St) (H:Hp) (D:Ends),Inv X pins a H s->t D a H->wpAny 05 X.A (execs st X.env) (SP X pins D) X.xe s
def thn(h:wpAny M A t Q E s)(c:∀a s,Q a s->Q' a s):wpAny M A t Q' E s:=wv h c λ_ _ x=>x
section
variable{X:Cx}
theorem bin{a b:Expr}{j l:TE}(ha:PE X a j)(n:PE X b l){pins:001}{s:Shared}{c:St}{H:Hp}{R:V->V->Hp->Prop}(I:Inv X pins c H s)(h:j c H λx i=>l c i λy H2=>R x y H2){m:Type}{Q:m->Shared->Prop}{f:Value->Value->Sem m}(o:∀v u s2 x y H2,Inv X pins c H2 s2->RelV x v->RelV y u->R x y H2->wpAny 05 X.A (f v u) Q X.xe s2):
  wpAny 05 X.A (eval a X.env) (λv d=>wpAny 05 X.A (eval b X.env) (λu e=>wpAny 05 X.A (f v u) Q X.xe e) X.xe d) X.xe s:=by
 refine thn (ha pins s c H _ I h) λv s1 ⟨x,i,p,q,q1⟩=>?_
 refine thn (n pins s1 c i _ p q1) λu s2 ⟨y,H2,r,z,q2⟩=>?_
 exact o v u s2 x y H2 r q z q2
noncomputable def tVar(i:Nat):TE:=λa H Q=>∃v,a[i]?=some (some v)/\Q v H
noncomputable def tC(v:V):TE:=λ_ H Q=>Q v H
abbrev _root_.sE(X:Cx)(e:Expr)(es:List Expr):Prop:=starEach (e::es) X.env=(false,eval e X.env)::starEach es X.env
abbrev _root_.bT(X:Cx)(es:List Expr)(pos:Pos):Prop:=(backTo pos (starEach es X.env)).any (·.1)=false
abbrev _root_.dB(x:Str):Prop:=(x == ("__debug__":Str))=false
theorem qfB{i:Nat}(d:X.N[i]?=some x)(f:Vis X.env.scope x)(hd:dB x:=by decide)(b:(x == ("__classdict__":Str))=false:=by decide):PE X (.Name x pos) (tVar i):=by
 intro pins s j H Q I h;obtain⟨v,e,h⟩:=h;obtain⟨m,hn,n⟩:=I.loc;obtain⟨u,r,l⟩:=n i x v d e f;have fin:EP X pins j Q u s:=⟨v,H,I,r,h⟩;rcases l with ⟨a,hm⟩|⟨a,c,hc,hcell⟩
 .exact wpAny_Name (wpAny_loadName_local I.ok.kind a hn hm fin) hd
 .rcases a with a|a
  .exact wpAny_Name (wpAny_loadName_cell I.ok.kind a hc hcell fin) hd
  .exact wpAny_Name (wpAny_loadName_free I.ok.kind a hc hcell fin b) hd
theorem qfC{i j pos}:PE X (.Constant (.int i) j pos) (tC (.int i)):=λ_ _ _ H _ I h=>wpAny_Constant_int ⟨.int i,H,I.tok _,⟨_,rfl⟩,h⟩
theorem qlV{b j pos}:PE X (.Constant (.bool b) j pos) (tC (.bl b)):=λ_ _ _ H _ I h=>Constant_bool ⟨.bl b,H,I,rfl,h⟩
theorem qj4{j pos}:PE X (.Constant .none j pos) (tC .non):=λ_ _ _ H _ I h=>Constant_none ⟨.non,H,I,rfl,h⟩
theorem qj5{x j pos}:PE X (.Constant (.str x) j pos) (tC (.str x)):=λ_ _ _ H _ I h=>Calls.Constant_str ⟨.str x,H,I.tok _,⟨_,rfl⟩,h⟩
def Gl(X:Cx)(x:Str):Prop:=X.env.kindOf x=some .globalImplicit
theorem yY(I:Inv X pins a H s)(b:Gl X x)(hm:X.mg x=some u)(h:Q u s)(hd:dB x:=by decide):wpAny 05 X.A (eval (.Name x pos) X.env) Q E s :=
 Calls.Name_function_global I.ok.kind b (Calls.loadGlobal_global (by rw[I.ok.glob];exact I.mod.glob.keeps I.bk) hm h) hd
theorem zT(I:Inv X pins a H s)(b:Gl X x)(hm:X.mg x=none)(c:bootBuiltins x=some u)(h:Q u s)(hn:x≠"__name__":=by decide)(hd:dB x:=by decide):wpAny 05 X.A (eval (.Name x pos) X.env) Q E s:=by
 obtain⟨mb,d,e⟩:=I.mod.blt;exact Calls.Name_function_global I.ok.kind b (Calls.loadGlobal_builtin (by rw[I.ok.glob];exact I.mod.glob.keeps I.bk) hm (by rw[I.ok.blt];exact d.keeps I.bk) ((e x hn).trans c) h) hd
theorem qa5(a:Gl X x)(hm:X.mg x=some u)(r:RelV v u)(hd:dB x:=by decide):PE X (.Name x pos) (tC v) :=
 λ_ _ _ H _ I h=>yY I a hm ⟨v,H,I,r,h⟩ hd
theorem qdz(a:Gl X x)(hm:X.mg x=none)(b:bootBuiltins x=some u)(r:RelV v u)(hn:x≠"__name__":=by decide)(hd:dB x:=by decide):PE X (.Name x pos) (tC v) :=
 λ_ _ _ H _ I h=>zT I a hm b ⟨v,H,I,r,h⟩ hn hd
variable{a b:Expr}{ta tb:TE}{pos:Pos}
variable{tA tB':TT}{rest:List Expr}
noncomputable def tAnd(t u:TT):TT:=λd H Q=>t d H λc e=>if c=true then u d e Q else Q false e
noncomputable def tOr(t u:TT):TT:=λd H Q=>t d H λc e=>if c=true then Q true e else u d e Q
noncomputable def tNot(t:TT):TT:=λd H Q=>t d H λc e=>Q (!c) e
theorem qih(ha:PT X a tA):PW X (.BoolOp .And [a] pos) tA:=by
 intro f pins s d H Q I h;refine isTrue_and (thn (ha pins s d H Q I h) λc s1 e=>?_);cases c with
 |true=>exact isTrue_and_nil e
 |false=>exact e
theorem qj6(ha:PT X a tA):PW X (.BoolOp .Or [a] pos) tA:=by
 intro f pins s d H Q I h;refine isTrue_or (thn (ha pins s d H Q I h) λc s1 e=>?_);cases c with
 |false=>exact isTrue_or_nil e
 |true=>exact e
theorem qj7(ha:PT X a tA)(i:PW X (.BoolOp .And (b::rest) pos) tB'):PW X (.BoolOp .And (a::b::rest) pos) (tAnd tA tB'):=by
 intro j pins s d H Q I h;refine isTrue_and (thn (ha pins s d H _ I h) λc s1 ⟨e,f,q1⟩=>?_);cases c with
 |true=>exact i j pins s1 d e Q f q1
 |false=>exact⟨e,f,q1⟩
theorem qlW(ha:PT X a tA)(i:PW X (.BoolOp .Or (b::rest) pos) tB'):PW X (.BoolOp .Or (a::b::rest) pos) (tOr tA tB'):=by
 intro j pins s d H Q I h;refine isTrue_or (thn (ha pins s d H _ I h) λc s1 ⟨e,f,q1⟩=>?_);cases c with
 |true=>exact⟨e,f,q1⟩
 |false=>exact i j pins s1 d e Q f q1
theorem qj8(ha:PT X a tA):PT X (.UnaryOp .Not a pos) (tNot tA):=by
 intro pins s d H Q I h;exact isTrue_not (ha pins s d H (λc e=>Q (!c) e) I h)
noncomputable def tAndV(ta tb:TE):TE:=λd H Q=>ta d H λx e=>∃c,x=.bl c/\if c=true then tb d e Q else Q (.bl false) e
noncomputable def tOrV(ta tb:TE):TE:=λd H Q=>ta d H λx e=>∃c,x=.bl c/\if c=true then Q (.bl true) e else tb d e Q
noncomputable def tNotV(ta:TE):TE:=λd H Q=>ta d H λx e=>∃c,x=.bl c/\Q (.bl (!c)) e
theorem qfD{op}(h:PE X a t):PE X (.BoolOp op [a] pos) t:=λpins s c H Q I d=>BoolOp_one (h pins s c H Q I d)
theorem qj9(ha:PE X a ta)(i:PE X (.BoolOp .And (b::rest) pos) tb):PE X (.BoolOp .And (a::b::rest) pos) (tAndV ta tb):=by
 intro pins s d H Q I h;refine BoolOp_and (thn (ha pins s d H _ I h) λv s1 ⟨x,e,f,j,q1⟩=>?_);obtain⟨c,rfl,q1⟩:=q1;cases j;refine vU ?_;cases c with
 |true=>exact i pins s1 d e Q f q1
 |false=>exact⟨.bl false,e,f,rfl,q1⟩
theorem qlX(ha:PE X a ta)(i:PE X (.BoolOp .Or (b::rest) pos) tb):PE X (.BoolOp .Or (a::b::rest) pos) (tOrV ta tb):=by
 intro pins s d H Q I h;refine BoolOp_or (thn (ha pins s d H _ I h) λv s1 ⟨x,e,f,j,q1⟩=>?_);obtain⟨c,rfl,q1⟩:=q1;cases j;refine vU ?_;cases c with
 |false=>exact i pins s1 d e Q f q1
 |true=>exact⟨.bl true,e,f,rfl,q1⟩
theorem qka(ha:PE X a ta):PE X (.UnaryOp .Not a pos) (tNotV ta):=by
 intro pins s d H Q I h;refine UnaryOp_ (thn (ha pins s d H _ I h) λv s1 ⟨x,e,f,i,q1⟩=>?_);obtain⟨c,rfl,q1⟩:=q1;cases i;exact not_of (vU ⟨.bl (!c),e,f,rfl,q1⟩)
end
noncomputable def SqL(K:07)(H:Hp)(a:Addr)(xs:List V):Prop :=
 Rd H a (.l xs) \/
  ∃(o:Obj) (b:Array Value) (n:Nat),K.lookup a=some o/\o.cls=.type "list"/\o.dict=none/\o.data=.seq b n/\b.size<=sizeLine/\Vals xs b.toList
noncomputable def SqT(K:07)(H:Hp)(a:Addr)(xs:List V):Prop :=
 Rd H a (.t xs) \/
  ∃(o:Obj) (b:Array Value) (n:Nat),K.lookup a=some o/\o.cls=.type "tuple"/\o.data=.seq b n/\b.size<=sizeLine/\Vals xs b.toList
noncomputable def absV:Value->Option V
 | .none=>some .non
 | .bool b=>some (.bl b)
 | .int i _=>some (.int i)
 | .str x _=>some (.str x)
 | .bytes b _=>some (.byt b)
 | .float b _=>some (.flt b)
 | .ref a=>some (.ref a)
 | .type n=>some (.ty n)
 |_=>none
def RelV.abs(r:RelV x u):absV u=some x:=by
 cases x with
 |non=>cases r;rfl
 |bl _=>cases r;rfl
 |int _=>obtain⟨t,rfl⟩:=r;rfl
 |str _=>obtain⟨t,rfl⟩:=r;rfl
 |byt _=>obtain⟨t,rfl⟩:=r;rfl
 |flt _=>obtain⟨t,rfl⟩:=r;rfl
 |ref _=>cases r;rfl
 |ty _=>cases r;rfl
def RelV.inj(r:RelV x u)(q:RelV y u):x=y:=Option.some.inj (r.abs.symm.trans q.abs)
def Vals.inj:∀{xs ys:List V} {us:List Value},Vals xs us->Vals ys us->xs=ys
 |_,_,_,.nil,.nil=>rfl
 |_,_,_,.cons r t,.cons r' t'=>by rw[r.inj r',Vals.inj t t']
section
variable{X:Cx}{pins:List (Addr×Obj)}{σ:St}{H:Hp}{s:Shared}{a:Addr}{xs ys:List V}
theorem Inv.list(I:000)(h:SqL X.K H a xs):∃b:List Value,Vals xs b/\PlainL s.heap a b.toArray/\xs.length<=sizeLine:=by
 rcases h with h|⟨o,b,n,hk,hc,hd,hs,hz,r⟩
 .obtain ⟨z,b,n,r,e⟩:=h.ok I.hok
  exact⟨b,r,⟨_,n,e,rfl,rfl,rfl⟩,z⟩
 .refine ⟨b.toList,r,⟨o,n,I.kIn a o hk,hc,hd,by simpa using hs⟩,?_⟩
  have e:=r.length;simp only[wg]at e;lia
theorem Inv.tuple(I:000)(h:SqT X.K H a xs):∃b:List Value,Vals xs b/\IsTup s.heap a b.toArray/\xs.length<=sizeLine:=by
 rcases h with h|⟨o,b,n,hk,hc,hs,hz,r⟩
 .obtain ⟨z,b,r,p,_⟩:=h.ok I.hok
  exact⟨b,r,p,z⟩
 .refine ⟨b.toList,r,⟨o,I.kIn a o hk,hc,n,by simpa using hs⟩,?_⟩
  have e:=r.length;simp only[wg]at e;lia
theorem Inv.list_inj(I:000)(h:SqL X.K H a xs)(h':SqL X.K H a ys):xs=ys:=by
 obtain⟨b,r,⟨o,n,e,_,_,d⟩,_⟩:=I.list h;obtain⟨its',c,⟨o',f,e',_,_,d'⟩,_⟩:=I.list h';rw[e]at e';cases e';rw[d]at d';injection d' with d1 _;have:b=its':=by simpa using congrArg Array.toList d1
 subst this;exact r.inj c
theorem Inv.tuple_inj(I:000)(h:SqT X.K H a xs)(h':SqT X.K H a ys):xs=ys:=by
 obtain⟨b,r,⟨o,e,_,n,d⟩,_⟩:=I.tuple h;obtain⟨its',c,⟨o',e',_,f,d'⟩,_⟩:=I.tuple h';rw[e]at e';cases e';rw[d]at d';injection d' with d1 _;have:b=its':=by simpa using congrArg Array.toList d1
 subst this;exact r.inj c
end
noncomputable abbrev Cx.wish(X:Cx)(E:Value->Shared->Prop):Cx:={X with xe:=E}
noncomputable abbrev Cx.nox(X:Cx):Cx:=X.wish λ_ _=>False
def Cx.Ok.wish{X:Cx}(ok:X.Ok)(E:Value->Shared->Prop):(X.wish E).Ok :=
 ⟨ok.mod,ok.kind,ok.glob,ok.blt,ok.above,ok.inj,ok.has,ok.cab,ok.hd,ok.frames,ok.stk,ok.exf,ok.bs,ok.bsz,ok.noex,ok.exfs,ok.funs,ok.frf,ok.tab⟩
def Cx.Ok.unwish{X:Cx}(ok:(X.wish E).Ok):X.Ok :=
 ⟨ok.mod,ok.kind,ok.glob,ok.blt,ok.above,ok.inj,ok.has,ok.cab,ok.hd,ok.frames,ok.stk,ok.exf,ok.bs,ok.bsz,ok.noex,ok.exfs,ok.funs,ok.frf,ok.tab⟩
section
variable{X:Cx}{pins:List (Addr×Obj)}{σ:St}{H:Hp}{s:Shared}{E:Value->Shared->Prop}
theorem Inv.wish(I:000)(E:Value->Shared->Prop):Inv (X.wish E) pins σ H s:=⟨I.ok.wish E,I.os,I.bare,I.base,I.loc,I.cell,I.free,I.freeC,I.pin,I.hok,I.len⟩
theorem Inv.unwish(I:Inv (X.wish E) pins σ H s):Inv X pins σ H s:=⟨I.ok.unwish,I.os,I.bare,I.base,I.loc,I.cell,I.free,I.freeC,I.pin,I.hok,I.len⟩
theorem SP.unwish(h:SP (X.wish E) pins D f s'):SP X pins D f s':=by
 cases f with
 |next=>obtain⟨a,H',I,q⟩:=h;exact⟨a,H',I.unwish,q⟩
 |brk=>obtain⟨a,H',I,q⟩:=h;exact⟨a,H',I.unwish,q⟩
 |cont=>obtain⟨a,H',I,q⟩:=h;exact⟨a,H',I.unwish,q⟩
 |ret u=>obtain⟨v,a,H',I,r,q⟩:=h;exact⟨v,a,H',I.unwish,r,q⟩
theorem PT.nox(h:PT X.nox e t):PT X e t:=λpins s σ H Q I a =>
 wv (h pins s σ H Q (I.wish _) a) (λ_ _ ⟨H',b,q⟩=>⟨H',b.unwish,q⟩) λ_ _ z=>False.elim z
theorem PSs.nox{st:List Stmt}{t:TS}(h:PSs X.nox st t):PSs X st t:=λpins s σ H D I a =>
 wv (h pins s σ H D (I.wish _) a) (λ_ _ q=>q.unwish) λ_ _ z=>False.elim z
end
section
variable{X:Cx}{st:Stmt}{rest:List Stmt}{t u:TS}{e:Expr}{te:TE}{pos:Pos}
noncomputable def tNext:TS:=λD a H=>D.nx a H
noncomputable def tSeq(t u:TS):TS:=λD a H=>t {D with nx:=u D} a H
theorem qdA:PSs X [] tNext:=λ_ _ a H _ I h=>xU ⟨a,H,I,h⟩
theorem qbQ(b:PS X st t)(c:PSs X rest u):PSs X (st::rest) (tSeq t u):=by
 intro pins s d H D I h;refine wpAny_execs_cons (thn (b pins s d H {D with nx:=u D} I h) λf s1 q=>?_);cases f with
 |next =>
  obtain⟨a,H',i,q⟩:=q;exact c pins s1 a H' D i q
 |ret v=>exact q
 |brk=>exact q
 |cont=>exact q
theorem Inv.quiet(I:Inv X pins a H s):interactive X.env=false:=by simp[interactive,I.ok.kind]
noncomputable def tDrop(te:TE):TS:=λD a H=>te a H λ_ b=>D.nx a b
theorem qdB(b:PE X e te)(c:swapsWith e none pos.line X.env=pure false:=by rfl):PS X (.Expr e pos) (tDrop te):=by
 intro pins s a H D I h;exact wpAny_Expr_any (thn (b pins s a H _ I h) λv s1 ⟨x,d,f,i,q1⟩=>⟨a,d,f,q1⟩) I.quiet c
noncomputable def tRet(te:TE):TS:=λD a H=>te a H D.rt
theorem qkb(b:PE X e te):PS X (.Return (some e) pos) (tRet te):=by
 intro pins s a H D I h;exact wpAny_Return_some (thn (b pins s a H _ I h) λv s1 ⟨x,c,d,f,q1⟩=>⟨x,a,c,d,f,q1⟩)
noncomputable def tIfS(c:TT)(t u:TS):TS:=λD a H=>c a H λb d=>if b=true then t D a d else u D a d
theorem qjz(l:PT X c tc)(ha:PSs X a t)(m:PSs X b u):PS X (.If c a b pos) (tIfS tc t u):=by
 intro pins s f H D I h;refine wpAny_If (thn (l pins s f H _ I h) λd s1 ⟨i,j,q1⟩=>?_);cases d with
 |true=>exact ha pins s1 f i D j q1
 |false=>exact m pins s1 f i D j q1
noncomputable def tNever:TS:=λ_ _ _=>False
theorem qfE:PS X st tNever:=λ_ _ _ _ _ _ h=>h.elim
end
noncomputable abbrev TG:=V->St->Hp->(St->Hp->Prop)->Prop
noncomputable abbrev TGs:=List V->St->Hp->(St->Hp->Prop)->Prop
noncomputable def PG(X:Cx)(a:Expr)(t:TG):Prop :=
 ∀(pins:001) (s:Shared) (c:St) (H:Hp) (v:V) (u:Value) (Q:St->Hp->Prop),Inv X pins c H s->RelV v u->t v c H Q ->
  wpAny 05 X.A (assign a X.env u) (λ_ s'=>∃b H',Inv X pins b H' s'/\Q b H') X.xe s
noncomputable def PGs(X:Cx)(ts:List Expr)(t:TGs):Prop :=
 ∀(pins:001) (s:Shared) (b:St) (H:Hp) (vs:List V) (us:List Value) (Q:St->Hp->Prop),Inv X pins b H s->Vals vs us->t vs b H Q ->
  wpAny 05 X.A (assignInOrder ((assignEach ts X.env).map (·.2)) us) (λ_ s'=>∃a H',Inv X pins a H' s'/\Q a H') X.xe s
noncomputable abbrev TSet:=V->V->V->Hp->(Hp->Prop)->Prop
noncomputable def PSet(X:Cx)(t:TSet):Prop :=
 ∀(pins:001) (s:Shared) (a:St) (H:Hp) (o i v:V) (b c u:Value) (Q:Hp->Prop),Inv X pins a H s->RelV o b->RelV i c->RelV v u->t o i v H Q ->
  wpAny 05 X.A (setItem b c u) (λ_ s'=>∃H',Inv X pins a H' s'/\Q H') X.xe s
noncomputable abbrev TIp:=V->V->Hp->VK->Prop
noncomputable def PIp(X:Cx)(op:Operator)(t:TIp):Prop :=
 ∀(pins:001) (s:Shared) (a:St) (H:Hp) (x y:V) (v u:Value) (Q:VK),Inv X pins a H s->RelV x v->RelV y u->t x y H Q ->
  wpAny 05 X.A (inplaceOp op v u) (EP X pins a Q) X.xe s
section
variable{X:Cx}{pos:Pos}
noncomputable def gName(i:Nat):TG:=λv a H Q=>Q (a.set i (some v)) H
theorem qdC{i:Nat}(a:X.N.Nodup)(hi:X.N[i]?=some x)(hx:Loc X.env.scope x)(b:X.fn x=true\/X.env.scope.names.lookup x=some .local:=by first|exact .inl rfl|exact .inr rfl|assumption):PG X (.Name x pos) (gName i):=by
 intro pins s d H v u Q I r h;exact wpAny_assign_Name (yo I a hi hx r (λs' c=>⟨_,H,c,h⟩) b)
noncomputable def gNil:TGs:=λvs a H Q=>vs=[]/\Q a H
noncomputable def gCons(t:TG)(u:TGs):TGs:=λvs b H Q=>∃v r,vs=v::r/\t v b H λa H'=>u r a H' Q
theorem qii:PGs X [] gNil:=by
 intro pins s a H vs us Q I r h;obtain⟨e,h⟩:=h;subst e;cases r;exact assignInOrder_nil ⟨a,H,I,h⟩
theorem qfF(b:PG X e t)(c:PGs X es u)(d:(assignEach (e::es) X.env).map (·.2)=assign e X.env::(assignEach es X.env).map (·.2):=by rfl):PGs X (e::es) (gCons t u):=by
 intro pins s f H vs us Q I r h;obtain⟨v,m,e1,h⟩:=h;subst e1;cases r with
 |cons r i =>
  rw[d];refine assignInOrder_cons (thn (b pins s f H _ _ _ I r h) λ_ s1 ⟨a,j,l,q1⟩=>?_);exact c pins s1 a j _ _ Q l i q1
noncomputable def gTup(K:07)(n:Nat)(t:TGs):TG:=λv b H Q=>∃a xs,v=.ref a/\SqT K H a xs/\xs.length=n/\t xs b H Q
theorem qkc{k:Nat}{n:Nat}(j:X.calm=true)(h:PGs X es t)(hn:(assignEach es X.env).length=n:=by rfl)(c:(assignEach es X.env).findIdx? (·.1)=none:=by rfl):PG X (.Tuple es k pos) (gTup X.K n t):=by
 intro pins s f H v u Q I r d;obtain⟨a,xs,e1,l,m,d⟩:=d;subst e1;cases r;obtain⟨p,i,q,hz⟩:=I.tuple l;refine assign_Tuple_tuple (I.ok.hd j) q (by simp[hn,<-m,i.length]) c λh' hx=>?_
 have w:Inv X pins f H {s with heap:=h' }:=I.kept (t':=s.toks) λb o e=>hx b o (wT (wF e)) e
 exact h pins _ f H xs _ Q w (by simpa using i) d
noncomputable def gSub(b ti:TE)(t:TSet):TG:=λv a H Q=>b a H λo c=>ti a c λi H2=>t o i v H2 λH3=>Q a H3
theorem qkd{o i:Expr}{d ti:TE}{t:TSet}(e:PE X o d)(hi:PE X i ti)(f:PSet X t)(ha:∀v,assign (.Subscript o i pos) X.env v=(do
   let a <-holding [v] (eval o X.env)
   let b <-holding [v,a] (eval i X.env)
   standAt pos
   holding [v,a,b] (setItem a b v)
   release [v,a,b] []):=by intro _;rfl):PG X (.Subscript o i pos) (gSub d ti t):=by
 intro pins s c H v u Q I r h;rw[ha];refine wA (wj (thn (e pins s c H _ I h) λa s1 ⟨x,j,l,m,q1⟩=>?_));refine wA (wj (thn (hi pins s1 c j _ l q1) λb s2 ⟨y,H2,n,p,q2⟩=>?_));refine wA (vi (wA (wj (thn (f pins s2 c H2 x y v a b u _ n m p r q2) λ_ z ⟨H3,q,w⟩=>?_))));exact wpAny_release ⟨c,H3,q,w⟩
noncomputable def tAsg(b:TE)(g:TG):TS:=λD a H=>b a H λx c=>g x a c D.nx
theorem qfG(c:PE X e a)(d:PG X tg g)(f:swapsWithSole [tg] e pos.line X.env=pure false:=by rfl)(i:swappedStores [tg] e X.env=pure none:=by rfl)(j:(assignEach [tg] X.env).map (·.2)=[assign tg X.env]:=by rfl):PS X (.Assign [tg] e pos) (tAsg a g):=by
 intro pins s b H D I h;refine wpAny_Assign_stores (thn (c pins s b H _ I h) λv s1 ⟨x,l,m,n,q1⟩=>?_) f i;rw[j];exact thn (d pins s1 b l x v _ m n q1) λ_ s2 q=>q
theorem qfH{i:Nat}(c:X.N.Nodup)(hi:X.N[i]?=some x)(hx:Loc X.env.scope x)(d:PE X e b)(f:swapsWith e (some (.Name x a)) pos.line X.env=pure false:=by rfl)(j:X.fn x=true\/X.env.scope.names.lookup x=some .local:=by first|exact .inl rfl|exact .inr rfl|assumption):
  PS X (.Assign [.Name x a] e pos) (tAsg b (gName i)):=by
 intro pins s l H D I h;refine wpAny_Assign_Name (thn (d pins s l H _ I h) λv s1 ⟨y,m,n,o,q1⟩=>?_) f;exact yo n c hi hx o (λs2 p=>⟨_,m,p,q1⟩) j
noncomputable def tPar(i j:Nat)(b:TA):TS:=λD a H=>b a H λvs c=>∃v w,vs=[v,w]/\D.nx ((a.set i (some v)).set j (some w)) c
theorem qke{i j:Nat}{kt k2 pt2}(J:X.calm=true)(z:X.N.Nodup)(hi:X.N[i]?=some x)(K:X.N[j]?=some y)(m:i≠j)(hx:X.env.scope.names.lookup x=some .local)(B:X.env.scope.names.lookup y=some .local)(ha:PA X [a,b] u)(L:swappedStores [.Tuple [.Name x f,.Name y l] kt pt] (.Tuple [a,b] k2 pt2) X.env=pure (some [x,y]))(M:swapsWithSole [.Tuple [.Name x f,.Name y l] kt pt] (.Tuple [a,b] k2 pt2) pos.line X.env=pure false:=by rfl):
  PS X (.Assign [.Tuple [.Name x f,.Name y l] kt pt] (.Tuple [a,b] k2 pt2) pos) (tPar i j u):=by
 intro pins s C H D I h;rw[exec_Assign_arm];refine wA (vi ?_);rw[M];refine wA (wC ?_);rw[wN 01];refine wA (Tuple_ (thn (ha _ pins s C H _ I h) λus s1 ⟨vs,E,O,P,q1⟩=>?_));obtain⟨v,w,e1,q1⟩:=q1;subst e1;obtain⟨c,d,rfl,Q,n⟩:∃c d,us=[c,d]/\RelV v c/\RelV w d:=by
  cases P with
  |cons p q =>
   cases q with
   |cons S U =>
    cases U;exact⟨_,_,rfl,p,S⟩
 refine wR ?_ (by show 2<=sizeLine;decide);have W:Inv X pins C E {s1 with heap:=s1.heap.push {cls:=.type "tuple",data:=.seq [c,d].toArray}}:=O.kept (t':=s1.toks) λb o e=>wB _ e
 rw[L];refine wA (wC ?_);show wpAny 05 X.A (do rule "assign.swapped-stores";let items <-unpackItems (.ref s1.heap.objs.size) 2 none;assignInOrder [λv=>bindName X.env y v,λv=>bindName X.env x v] items.reverse;pure Flow.next) _ _ _;refine wA (uB (wA (unpackItems_tuple (items:=#[c,d]) (I.ok.hd J) (IsTup.new s1.heap _) λh' r=>?_)));have Y:=W.kept (h':=h') (t':=s1.toks) λb o e=>r b o (wT (wF e)) e
 show wpAny _ _ (assignInOrder [λv=>bindName X.env y v,λv=>bindName X.env x v] [d,c] >>= λ_=>pure Flow.next) _ _ _;refine wA (assignInOrder_cons (wpAny_bindName (yo Y z K (.inl B) n (λs2 Z=>?_) (.inr B))));refine assignInOrder_cons (wpAny_bindName (yo Z z hi (.inl hx) Q (λs3 F=>assignInOrder_nil (wC ?_)) (.inr hx)));rw[List.set_comm _ _ (Ne.symm m)]at F;exact⟨_,E,F,q1⟩
noncomputable def tAugS(e ti f:TE)(a:V->V->Hp->VK->Prop)(d:TIp)(b:TSet):TS:=λD c H=>e c H λo h=>ti c h λi H2=>a o i H2 λx H3=>f c H3 λy j=>d x y j λz l=>b o i z l λm=>D.nx c m
noncomputable def PGet(X:Cx)(t:V->V->Hp->VK->Prop):Prop :=
 ∀(pins:001) (s:Shared) (a:St) (H:Hp) (o i:V) (b c:Value) (Q:VK),Inv X pins a H s->RelV o b->RelV i c->t o i H Q ->
  wpAny 05 X.A (getItem b c) (EP X pins a Q) X.xe s
theorem qij(w:PE X o m)(hi:PE X i ti)(x:PGet X a)(y:PE X e n)(z:PIp X op j)(A:PSet X b)(ha:∀c d new,augStore i c d new=(do holding [new,c,d] (setItem c d new);release [new,c,d] [];pure .next):=by intros;rfl):PS X (.AugAssign (.Subscript o i l) op e pos) (tAugS m ti n a j b):=by
 intro pins s f H D I h;refine wpAny_AugAssign_SubscriptAny (thn (w pins s f H _ I h) λc s1 ⟨p,B,C,q,q1⟩=>?_) ha;refine thn (hi pins s1 f B _ C q1) λd s2 ⟨r,H2,E,u,q2⟩=>?_
 refine thn (x pins s2 f H2 p r c d _ E q u q2) λold F ⟨J,H3,K,L,M⟩=>?_
 refine thn (y pins F f H3 _ K M) λv N ⟨O,P,Q,S,U⟩=>?_
 refine thn (z pins N f P J O old v _ Q L S U) λnew W ⟨x5,Y,Z,r5,q5⟩=>?_
 exact thn (A pins W f Y p r x5 c d new _ Z q u r5 q5) λ_ s6 ⟨H6,I6,q6⟩=>⟨f,H6,I6,q6⟩
noncomputable def ipI(f:Int->Int->Int):TIp:=λx y H Q=>∃i j,x=.int i/\y=.int j/\Q (.int (f i j)) H
theorem qkf:PIp X .Add (ipI λi j=>i+j):=by
 intro pins s d H x y v u Q I a b h;obtain⟨i,j,e1,c,q⟩:=h;subst e1;subst c;obtain⟨t,rfl⟩:=a;obtain⟨t',rfl⟩:=b;exact iadd_int ⟨.int _,H,I.tok _,⟨_,rfl⟩,q⟩
end
section
variable{X:Cx}{pos:Pos}
noncomputable def tWhile(c:TT)(h:TS):TS:=λD a H=>∃W:Nat->St->Hp->Prop,(∃m,W m a H)/\∀m a H,W m a H ->
 c a H λb e=>if b=true then ∃N:St->Hp->Prop,(∀d H',N d H'->∃f,f<m/\W f d H')/\h {D with nx:=N,ct:=N,bk:=D.nx} a e else D.nx a e
theorem qfI(q:PassesOwn 05 X.A X.env X.xe)(y:PT X c tc)(z:PSs X body p):PS X (.While c body [] pos) (tWhile tc p):=by
 intro pins s B H D I h;obtain⟨W,⟨C,E⟩,turn⟩:=h;refine wpAny_While (codeAny_whileLoop (λn s'=>∃e H',Inv X pins e H' s'/\W n e H') ?_ C ⟨B,H,I,E⟩);rintro n s1 ⟨d,r,F,J⟩;refine uZ q (thn (y pins s1 d r _ F (turn n d r J)) λb s2 ⟨H2,u,q2⟩=>?_);cases b with
 |true =>
  obtain⟨N,x,q2⟩:=q2;rw[wM rfl];refine uZ q (thn (z pins s2 d H2 _ u q2) λf K i=>?_);cases f with
  |next =>
   obtain⟨a,H3,j,l⟩:=i;obtain⟨m,hm,o⟩:=x a H3 l;exact⟨m,hm,a,H3,j,o⟩
  |cont =>
   obtain⟨a,H3,j,l⟩:=i;obtain⟨m,hm,o⟩:=x a H3 l;exact⟨m,hm,a,H3,j,o⟩
  |brk=>exact i
  |ret v=>exact i
 |false =>
  rw[wN wZ];exact xU ⟨d,H2,u,q2⟩
end
structure It where
 go:Nat->Hp->Prop
 yld:Nat->Hp->V->Hp->Prop
 stop:Nat->Hp->Prop
noncomputable def FpOk(X:Cx)(pins:001)(H:Hp)(b:Addr):Prop :=
 H b=none/\b≠X.env.locals/\b∉X.fs/\(b∈X.ex\/X.s₀.heap.objs.size<=b)/\(∀x c,X.env.cells.lookup x=some c->c≠b)/\∀p∈X.pn++pins,p.1≠b
def Inv.fpOk(I:Inv X pins d H s)(a:s.heap.objs.size<=b)(hn:H' b=none):FpOk X pins H' b:=by
 refine⟨hn,w1 (wX I.lt a),I.nofs a,.inr (vG I.sz a),λx c e z=>?_,λp f z=>?_⟩
 .obtain ⟨v,q⟩:=I.cell x c e
  exact absurd (wX q.lt (by rw[z];exact a)) (vZ _)
 .exact absurd (wX (wF (I.pin p f).1) (by rw[z];exact a)) (vZ _)
structure Turn (P:Program) (w:World) (K:07) (tg:Expr) (J:It) (fp:List Addr) (it:Addr) (tn:Nat->Heap->Prop):Prop where
 mem:it∈fp
 obj:∀i h,tn i h->∀b∈fp,∃o,h.get? b=some o/\∀v,o.data≠.cell v
 keep:∀i h h',tn i h->(∀b∈fp,∀o,h.get? b=some o->h'.get? b=some o)->tn i h'
 item:∀(X:Cx),X.prog=P->X.w=w->X.K=K->X.calm=true->∀(i:Nat) (pins:001) (s:Shared) (σ:St) (H:Hp) (E:Value->Shared->Prop),Inv X pins σ H s->(∀b∈fp,FpOk X pins H b)->tn i s.heap->J.go i H ->
  wpAny (model P w) X.A (pyNext (.ref it)) (λr s1=>∃u,r=some u /\
   wpAny (model P w) X.A (letOwnedTupleGo tg (.ref it) u) (λ_ s2=>∃x H',Inv X pins σ H' s2/\RelV x u/\J.yld i H x H'/\tn (i+1) s2.heap/\∀b∈fp,H' b=none) E s1) E s
 done:∀(X:Cx),X.prog=P->X.w=w->X.K=K->X.calm=true->∀(i:Nat) (pins:001) (s:Shared) (σ:St) (H:Hp) (E:Value->Shared->Prop),Inv X pins σ H s->(∀b∈fp,FpOk X pins H b)->tn i s.heap->J.stop i H ->
  wpAny (model P w) X.A (pyNext (.ref it)) (λr s1=>r=none/\Inv X pins σ H s1) E s
 self:∀(A:Around) (i:Nat) (s:Shared) (Q:Value->Shared->Prop) (E:Value->Shared->Prop),tn i s.heap->Q (.ref it) s->wpAny (model P w) A (pyIter (.ref it)) Q E s
noncomputable abbrev TI:=St->Hp->(It->Hp->Prop)->Prop
noncomputable def PIE(X:Cx)(pins:001)(c:St)(tg:Expr)(R:It->Hp->Prop)(a:Value)(s2:Shared):Prop :=
 ∃(it:Addr) (fp:List Addr) (tn:Nat->Heap->Prop) (J:It) (H':Hp),a=.ref it/\Inv X pins c H' s2/\Turn X.prog X.w X.K tg J fp it tn/\tn 0 s2.heap/\(∀b∈fp,FpOk X pins H' b)/\R J H'
noncomputable def PI(X:Cx)(tg iter:Expr)(b:TI):Prop :=
 ∀(pins:001) (s:Shared) (a:St) (H:Hp) (R:It->Hp->Prop),Inv X pins a H s->b a H R ->
  wpAny 05 X.A (eval iter X.env) (λv s1=>wpAny 05 X.A (pyIter v) (PIE X pins a tg R) X.xe s1) X.xe s
def qfJ{s:Shared}(b:s.heap.get? it=some o)(c:o.cls=.type n)(hd:o.data=.fields vs)(hn:["enumerate","zip","dict_itemiterator","dict_reverseitemiterator","odict_iterator","itertools.zip_longest","itertools.pairwise"].contains n=false)(a:Q () s):wpAny M A (letOwnedTupleGo tg (.ref it) u) Q E s:=by
 unfold letOwnedTupleGo;cases tg <;> first
  |exact wC a
  | (cases u <;> first
    |exact wC a
    | (refine wA (wpAny_load b ?_)
       rw[c,hd];show wpAny M A (if(["enumerate","zip","dict_itemiterator","dict_reverseitemiterator","odict_iterator","itertools.zip_longest","itertools.pairwise"].contains n&&vs[0]? == some (rawInt _))=true then _ else _) Q E s;rw[wN (by intro h;rw[hn,wx]at h;cases h)];exact wC a))
noncomputable def Itl(K:07)(a:Addr):It :=
 ⟨λi H=>∃xs x,SqL K H a xs/\xs[i]?=some x,λi H x H'=>H'=H/\∀xs,SqL K H a xs->xs[i]?=some x,λi H=>∃xs,SqL K H a xs/\xs.length<=i⟩
noncomputable def Itt(K:07)(a:Addr):It :=
 ⟨λi H=>∃xs x,SqT K H a xs/\xs[i]?=some x,λi H x H'=>H'=H/\∀xs,SqT K H a xs->xs[i]?=some x,λi H=>∃xs,SqT K H a xs/\xs.length<=i⟩
def qeP{P:Program}{w:World}{K:07}{tg:Expr}(a it:Addr):Turn P w K tg (Itl K a) [it] it (λi h=>h.IsListIter it a i) where
 mem:=by simp
 obj:=λi h st b f=>by
  have e:b=it:=by simpa using f
  subst e;obtain⟨o,e,c,d⟩:=st;exact⟨o,e,λv z=>by rw[d]at z;cases z⟩
 keep:=λi h h' st k=>st.at λo e=>k it 02 o e
 item:=by
  intro X n q r N i pins s O H E I l st y;subst n q r;obtain⟨xs,x,m,hx⟩:=y;obtain⟨A,B,p,hz⟩:=I.list m;obtain⟨u,Q,S⟩:=B.get hx;obtain⟨C,F,U,J,L,M⟩:=l it 02;refine wpAny_pyNext_list_item st p.isList (x:=u) (by simpa using Q) λh' j Y=>?_
  have Z:Inv X pins O H {s with heap:=h' }:=I.turned (t':=s.toks) (λb o f e=>(Y.2 b f).trans e) C F J L M;obtain⟨o,e,c,d⟩:=id j;exact⟨u,rfl,qfJ (s:={s with heap:=h' }) e c d 01 ⟨x,H,Z,S,⟨rfl,λys hy=>by rw[I.list_inj hy m];exact hx⟩,j,λb f=>(l b f).1⟩⟩
 done:=by
  intro X n q r N i pins s O H E I l st y;subst n q r;obtain⟨xs,m,hx⟩:=y;obtain⟨A,B,p,hz⟩:=I.list m;obtain⟨C,F,U,J,L,M⟩:=l it 02;have hl:=B.length;exact wpAny_pyNext_list_end (I.ok.hd N) st p.isList (by simp;lia) λh' eb=>⟨rfl,I.turned (t':=s.toks) (λb o f e=>eb b o f e) C F J L M⟩
 self:=λ_ _ _ _ _ st h=>wpAny_pyIter_listiter st h
def qcQ{P:Program}{w:World}{K:07}{tg:Expr}(a it:Addr):Turn P w K tg (Itt K a) [it] it (λi h=>h.IsTupleIter it a i) where
 mem:=by simp
 obj:=λi h st b f=>by
  have e:b=it:=by simpa using f
  subst e;obtain⟨o,e,c,d⟩:=st;exact⟨o,e,λv z=>by rw[d]at z;cases z⟩
 keep:=λi h h' st k=>st.at λo e=>k it 02 o e
 item:=by
  intro X q r y N i pins s O H E I m st A;subst q r y;obtain⟨xs,x,n,hx⟩:=A;obtain⟨j,B,p,hz⟩:=I.tuple n;obtain⟨u,Q,S⟩:=B.get hx;obtain⟨C,F,U,J,L,M⟩:=m it 02;refine wpAny_pyNext_tuple_item st (show s.heap.IsTuple a j.toArray from p) (x:=u) (by simpa using Q) λh' l Y=>?_
  have Z:Inv X pins O H {s with heap:=h' }:=I.turned (t':=s.toks) (λb o f e=>(Y.2 b f).trans e) C F J L M;obtain⟨o,e,c,d⟩:=id l;exact⟨u,rfl,qfJ (s:={s with heap:=h' }) e c d 01 ⟨x,H,Z,S,⟨rfl,λys hy=>by rw[I.tuple_inj hy n];exact hx⟩,l,λb f=>(m b f).1⟩⟩
 done:=by
  intro X q r y N i pins s O H E I m st A;subst q r y;obtain⟨xs,n,hx⟩:=A;obtain⟨j,B,p,hz⟩:=I.tuple n;obtain⟨C,F,U,J,L,M⟩:=m it 02;have hl:=B.length;exact wpAny_pyNext_tuple_end (I.ok.hd N) st (show s.heap.IsTuple a j.toArray from p) (by simp;lia) λh' eb=>⟨rfl,I.turned (t':=s.toks) (λb o f e=>eb b o f e) C F J L M⟩
 self:=λ_ _ _ _ _ st h=>wpAny_pyIter_tupleiter st h
section
variable{X:Cx}{tg:Expr}
noncomputable def tFor(e:TI)(g:TG)(f:TS):TS:=λD a H=>e a H λJ h=>∃W:Nat->Nat->St->Hp->Prop,(∃m,W 0 m a h)/\∀i m a H,W i m a H ->
 (J.stop i H/\D.nx a H)\/(J.go i H/\∃N:St->Hp->Prop,(∀b H',N b H'->∃d,d<m/\W (i+1) d b H')/\∀x H',J.yld i H x H'->g x a H' λc H2=>f {D with nx:=N,ct:=N,bk:=D.nx} c H2)
noncomputable def pinsAt(fp:List Addr)(h:Heap):List (Addr×Obj):=fp.filterMap λb=>(h.get? b).map λo=>(b,o)
theorem zf{h:Heap}(a:b∈fp)(e:h.get? b=some o):(b,o)∈pinsAt fp h:=List.mem_filterMap.mpr ⟨b,a,by rw[e];rfl⟩
theorem qeQ(a:p∈pinsAt fp h):p.1∈fp/\h.get? p.1=some p.2:=by
 obtain⟨b,c,e⟩:=List.mem_filterMap.mp a;cases q:h.get? b with
 |none=>rw[q]at e;cases e
 |some o =>
  rw[q]at e;have e':(b,o)=p:=Option.some.inj e;subst e';exact⟨c,q⟩
theorem Inv.pinned{fp:List Addr}(I:Inv X pins a H s)(f:∀b∈fp,FpOk X pins H b)(h:∀b∈fp,∃o,s.heap.get? b=some o/\∀v,o.data≠.cell v):Inv X (pins++pinsAt fp s.heap) a H s :=
 I.pins_of λp i=>(wi.mp i).elim (λz=>I.pin p (wV _ z)) λz=>by
  obtain⟨c,e⟩:=qeQ z;obtain⟨j,l,m,_⟩:=f p.1 c;obtain⟨o,e',d⟩:=h p.1 c;rw[e]at e';cases e';exact⟨e,j,l,m,d⟩
theorem Inv.unpinned(I:Inv X (pins++pl) a H s):Inv X pins a H s:=I.pins_of λp b=>I.pin p (wV _ (vu _ b))
theorem qkg(E:PassesOwn 05 X.A X.env X.xe)(hc:X.calm=true)(hi:PI X tg iter Y)(hg:PG X tg g)(c:PSs X body Z)(hs:∀x,foldedSetIterable iter X.env x=pure x:=by intro _;rfl):PS X (.For tg iter body [] pos) (tFor Y g Z):=by
 intro pins s σ H D I h;refine wpAny_For (thn (hi pins s σ H _ I h) λv s1 h1=>thn h1 λa0 s2 h2=>?_) hs;obtain⟨it,fp,tn,J,H2,e,I2,T,M,f2,W,⟨m0,w0⟩,turn⟩:=h2;subst e;have j:∀{H':Hp},(∀b∈fp,H' b=none)->∀b∈fp,FpOk X pins H' b:=λhn b c=>⟨hn b c,(f2 b c).2⟩
 refine codeAny_forLoop_any (λn s'=>∃i l H',Inv X pins l H' s'/\tn i s'.heap/\(∀b∈fp,H' b=none)/\W i n l H') ?_ m0 ⟨0,σ,H2,I2,M,λb c=>(f2 b c).1,w0⟩;rintro n s3 ⟨i,p,H3,I3,F,K,w3⟩;rcases turn i n p H3 w3 with ⟨stop,qn⟩|⟨go,N,hN,step⟩
 .refine uZ E (thn (T.done X rfl rfl rfl hc i pins s3 p H3 X.xe I3 (j K) F stop) λr s4 ⟨O,I4⟩=>?_)
  subst O;exact xU ⟨p,H3,I4,qn⟩
 .refine uZ E (thn (T.item X rfl rfl rfl hc i pins s3 p H3 X.xe I3 (j K) F go) λr s4 ⟨u,O,h4⟩=>?_)
  subst O;refine uZ E (thn h4 λ_ s5 ⟨x,H5,I5,r5,y5,C,P⟩=>?_);have Q:=I5.pinned (j P) (T.obj _ _ C);refine uZ E (thn (hg _ s5 p H5 x u _ Q r5 (step x H5 y5)) λ_ s6 ⟨S,H6,I6,q6⟩=>?_);refine uZ E (thn (c _ s6 S H6 _ I6 q6) λf U B=>?_);have q:∀{a:St} {y:Hp},Inv X (pins++pinsAt fp s5.heap) a y U->N a y->∃m,m<n/\∃i l H',Inv X pins l H' U/\tn i U.heap/\(∀b∈fp,H' b=none)/\W i m l H':=λ{a y} z L=>by
   obtain⟨m',hm,w7⟩:=hN a y L;refine⟨m',hm,i+1,a,y,z.unpinned,T.keep _ _ _ C λb c o e=>(z.pin (b,o) (wV _ (wV _ (zf c e)))).1,λb c=>?_,w7⟩;obtain⟨o,e,d⟩:=T.obj _ _ C b c;exact(z.pin (b,o) (wV _ (wV _ (zf c e)))).2.1
  cases f with
  |next=>obtain⟨a,y,z,L⟩:=B;exact q z L
  |cont=>obtain⟨a,y,z,L⟩:=B;exact q z L
  |brk=>obtain⟨a,y,z,B⟩:=B;exact⟨a,y,z.unpinned,B⟩
  |ret v=>obtain⟨x7,a,y,z,r7,B⟩:=B;exact⟨x7,a,y,z.unpinned,r7,B⟩
end
noncomputable abbrev R2:=V->V->Hp->VK->Prop
noncomputable def OpR(X:Cx)(f:Value->Value->Sem Value)(r:R2):Prop :=
 ∀(pins:001) (s:Shared) (a:St) (H:Hp) (x y:V) (v u:Value) (Q:VK),Inv X pins a H s->RelV x v->RelV y u->r x y H Q ->
  wpAny 05 X.A (f v u) (EP X pins a Q) X.xe s
noncomputable def UnR(X:Cx)(f:Value->Sem Value)(r:V->Hp->VK->Prop):Prop :=
 ∀(pins:001) (s:Shared) (a:St) (H:Hp) (x:V) (v:Value) (Q:VK),Inv X pins a H s->RelV x v->r x H Q ->
  wpAny 05 X.A (f v) (EP X pins a Q) X.xe s
noncomputable def CallR(X:Cx)(f:Value)(r:List V->Hp->VK->Prop):Prop :=
 ∀(pins:001) (s:Shared) (a:St) (H:Hp) (xs:List V) (us:List Value) (Q:VK),Inv X pins a H s->Vals xs us->r xs H Q ->
  wpAny 05 X.A (call f us) (EP X pins a Q) X.xe s
noncomputable def TruR(X:Cx)(r:V->Hp->(Bool->Hp->Prop)->Prop):Prop :=
 ∀(pins:001) (s:Shared) (a:St) (H:Hp) (x:V) (v:Value) (Q:Bool->Hp->Prop),Inv X pins a H s->RelV x v->r x H Q ->
  wpAny 05 X.A (truthy v) (TP X pins a Q) X.xe s
noncomputable def tOp(r:R2)(b c:TE):TE:=λa H Q=>b a H λx d=>c a d λy H2=>r x y H2 Q
noncomputable def tUn(r:V->Hp->VK->Prop)(a:TE):TE:=λb H Q=>a b H λx c=>r x c Q
noncomputable def rI(C:Int->Int->Prop)(g:Int->Int->V):R2:=λx y H Q=>∃i j,x=.int i/\y=.int j/\C i j/\Q (g i j) H
noncomputable def rI0(g:Int->Int->V):R2:=λx y H Q=>∃i j,x=.int i/\y=.int j/\Q (g i j) H
def rU(g:Int->V):V->Hp->VK->Prop:=λx H Q=>∃i,x=.int i/\Q (g i) H
section
variable{X:Cx}{a b c:Expr}{ta tb tc:TE}{pos:Pos}
theorem binT(ha:PE X a ta)(l:PE X b tb){pins:001}{s:Shared}{d:St}{H:Hp}{R:V->V->Hp->Prop}(I:Inv X pins d H s)(h:ta d H λx j=>tb d j λy H2=>R x y H2){Q:Value->Shared->Prop}{f:Value->Value->Sem Value}(m:∀v u s2 x y H2,Inv X pins d H2 s2->RelV x v->RelV y u->R x y H2->wpAny 05 X.A (f v u) Q X.xe s2):
  wpAny 05 X.A (eval a X.env) (λv e=>wpAny 05 X.A (eval b X.env) (λu i=>wpAny 05 X.A (f v u) Q X.xe i) X.xe e) X.xe s:=by
 refine thn (ha pins s d H _ I h) λv s1 ⟨x,j,n,o,q1⟩=>?_
 refine thn (l pins s1 d j _ n q1) λu s2 ⟨y,H2,p,q,q2⟩=>?_
 exact m v u s2 x y H2 p o q q2
theorem qlY(d:OpR X (binaryOp op) r)(ha:PE X a ta)(e:PE X b tb):PE X (.BinOp a op b pos) (tOp r ta tb):=by
 intro pins s f H Q I h;exact wpAny_BinOp (binT ha e I h λv u s2 x y H2 i rx j q=>d pins s2 f H2 x y v u Q i rx j q)
theorem qlZ(e:UnR X (unaryOp op) r)(ha:PE X a ta):PE X (.UnaryOp op a pos) (tUn r ta):=by
 intro pins s d H Q I h;exact UnaryOp_ (thn (ha pins s d H _ I h) λv s1 ⟨x,f,i,j,q1⟩=>e pins s1 d f x v Q i j q1)
theorem opB0{f:Value->Value->Sem Value}{g:Int->Int->Bool}(d:∀(i j:Int) (t u:Tok) (s:Shared) (Q:Value->Shared->Prop) (E:Value->Shared->Prop),Q (.bool (g i j)) s->wpAny 05 X.A (f (.int i t) (.int j u)) Q E s):
  OpR X f (rI0 λi j=>.bl (g i j)):=by
 intro pins s l H x y v u Q I rx e h;obtain⟨i,j,rfl,rfl,q⟩:=h;obtain⟨t,rfl⟩:=rx;obtain⟨t',rfl⟩:=e;exact d i j t t' s _ _ ⟨.bl (g i j),H,I,rfl,q⟩
theorem unI{f:Value->Sem Value}{g:Int->Int}(d:∀(i:Int) (t:Tok) (s:Shared) (Q:Value->Shared->Prop) (E:Value->Shared->Prop),Q (.int (g i) s.toks) {s with toks:=s.toks+1}->wpAny 05 X.A (f (.int i t)) Q E s):
  UnR X f (rU λi=>.int (g i)):=by
 intro pins s e H x v Q I rx h;obtain⟨i,rfl,q⟩:=h;obtain⟨t,rfl⟩:=rx;exact d i t s _ _ ⟨.int (g i),H,I.tok _,⟨_,rfl⟩,q⟩
theorem qki:UnR X (unaryOp .USub) (rU λi=>.int (-i)):=unI λ_ _ _ _ _ q=>neg_int q
end
section
variable{X:Cx}{a b c:Expr}{ta tb tc:TE}{pos:Pos}
theorem ql0:OpR X (compareOp .Lt) (rI0 λi j=>.bl (decide (i<j))):=opB0 λ_ _ _ _ _ _ _ q=>lt_int q
theorem ql1:OpR X (compareOp .LtE) (rI0 λi j=>.bl (decide (i<=j))):=opB0 λ_ _ _ _ _ _ _ q=>le_int q
theorem ql2:OpR X (compareOp .Gt) (rI0 λi j=>.bl (decide (j<i))):=opB0 λ_ _ _ _ _ _ _ q=>gt_int q
theorem qil(d:OpR X (compareOp op) r)(ha:PE X a ta)(e:PE X b tb)(hm:behindInMarks op b=false):PE X (.Compare a [op] [b] pos) (tOp r ta tb):=by
 intro pins s f H Q I h;exact wpAny_Compare1 (binT ha e I h λv u s2 x y H2 i rx j q=>d pins s2 f H2 x y v u Q i rx j q) hm
noncomputable def tTest(t:TE):TT:=λd H Q=>t d H λx H'=>∃k,x=.bl k/\Q k H'
theorem qim(f:OpR X (compareOp op) r)(ha:PE X a ta)(i:PE X b tb)(hm:behindInMarks op b=false):PT X (.Compare a [op] [b] pos) (tTest (tOp r ta tb)):=by
 intro pins s d H Q I h;refine wpAny_isTrue_Compare1 (thn (ha pins s d H _ I h) λv s1 ⟨x,j,l,m,q1⟩=>thn (i pins s1 d j _ l q1) λu s2 ⟨y,H2,n,o,q2⟩ =>
  thn (f pins s2 d H2 x y v u _ n m o q2) λc A ⟨z,H3,p,q,k,e,w⟩=>?_) hm
 subst e;cases q;exact vU ⟨H3,p,w⟩
noncomputable def tChain(r e:R2)(ta tb tc:TE):TE:=λd H Q=>ta d H λx f=>tb d f λy H2=>r x y H2 λz H3=>∃k,z=.bl k /\
 (if k=true then tc d H3 λh i=>e y h i Q else Q (.bl false) H3)
theorem qfL(p:OpR X (compareOp op) r)(j:OpR X (compareOp f) l)(ha:PE X a ta)(q:PE X b tb)(w:PE X c tc)(hm:lastMarks [op,f] [b,c]=false:=by with_unfolding_all rfl):PE X (.Compare a [op,f] [b,c] pos) (tChain r l ta tb tc):=by
 intro pins s i H Q I h;refine Compare_chain (thn (ha pins s i H _ I h) λv s1 ⟨x,A,B,C,q1⟩=>chain_link (thn (q pins s1 i A _ B q1) λu s2 ⟨y,H2,E,m,q2⟩ =>
  thn (p pins s2 i H2 x y v u _ E C m q2) λd F ⟨z,H3,n,J,k,e,o⟩=>?_)) hm
 subst e;cases J;refine vU ?_;cases k with
 |false=>exact ite_ff ⟨.bl false,H3,n,rfl,o⟩
 |true=>exact ite_tt (chain_last (thn (w pins F i H3 _ n o) λK L ⟨M,N,O,P,S⟩=>j pins L i N y M u K Q O m P S))
theorem qfM(p:OpR X (compareOp op) r)(j:OpR X (compareOp f) l)(ha:PE X a ta)(q:PE X b tb)(w:PE X c tc)(hm:lastMarks [op,f] [b,c]=false:=by with_unfolding_all rfl):PT X (.Compare a [op,f] [b,c] pos) (tTest (tChain r l ta tb tc)):=by
 intro pins s i H Q I h;refine isTrue_chain (thn (ha pins s i H _ I h) λv s1 ⟨x,A,B,C,q1⟩=>test_link (thn (q pins s1 i A _ B q1) λu s2 ⟨y,H2,E,m,q2⟩ =>
  thn (p pins s2 i H2 x y v u _ E C m q2) λd F ⟨z,H3,n,J,k,e,o⟩=>?_)) hm
 subst e;cases J;refine vU ?_;cases k with
 |false =>
  obtain⟨k',e',K⟩:=o;cases e';exact ite_ff ⟨H3,n,K⟩
 |true =>
  refine ite_tt (test_last (thn (w pins F i H3 _ n o) λL M ⟨N,O,P,S,U⟩=>thn (j pins M i O y N u L _ P m S U) λd' s5 ⟨z2,W,Y,Z,k2,e2,q5⟩=>?_));subst e2;cases Z;exact vU ⟨W,Y,q5⟩
noncomputable def TruV(K:07)(x:V)(H:Hp)(k:Bool):Prop :=
 match x with
 | .non=>k=false
 | .bl b=>k=b
 | .int i=>k=(i != 0)
 | .str y=>y.length<=sizeLine/\k=((y.length:Int) != 0)
 | .byt y=>y.size<=sizeLine/\k=((y.size:Int) != 0)
 | .ref p=>(∃xs,SqL K H p xs/\k=!xs.isEmpty)\/(∃xs,SqT K H p xs/\k=!xs.isEmpty)\/∃kvs,H p=some (.dK kvs)/\k=!kvs.isEmpty
 |_=>False
theorem qcS(r:KV kvs vs):(!vs.isEmpty)=!kvs.isEmpty:=by
 cases r <;> rfl
theorem jS(r:Vals xs d):(!d.toArray.isEmpty)=!xs.isEmpty:=by
 cases r <;> simp
theorem line63:(sizeLine:Nat)<2^63:=by rw[vM];decide
theorem qkk:TruR X (λx H Q=>∃k,TruV X.K x H k/\Q k H):=by
 intro pins s n H x v Q I rx h;obtain⟨k,e,q⟩:=h;have o:=line63;have u:sizeLine=16777216:=vM;cases x with
 |non =>
  cases rx;have e':k=false:=e;subst e';exact truthy_none ⟨H,I,q⟩
 |bl b =>
  cases rx;have e':k=b:=e;subst e';exact vU ⟨H,I,q⟩
 |int i =>
  obtain⟨t,rfl⟩:=rx;have e':k=(i != 0):=e;subst e';exact PySem.P.truthy_int ⟨H,I,q⟩
 |str y =>
  obtain⟨t,rfl⟩:=rx;obtain⟨j,e'⟩:y.length<=sizeLine/\k=((y.length:Int) != 0):=e;subst e';exact PySem.P.truthy_str 00 ⟨H,I.tok _,q⟩
 |byt y =>
  obtain⟨t,rfl⟩:=rx;obtain⟨j,e'⟩:y.size<=sizeLine/\k=((y.size:Int) != 0):=e;subst e';exact PySem.W.truthy_bytes 00 ⟨H,I.tok _,q⟩
 |ref p =>
  cases rx;have e':(∃xs,SqL X.K H p xs/\k=!xs.isEmpty)\/(∃xs,SqT X.K H p xs/\k=!xs.isEmpty)\/∃kvs,H p=some (.dK kvs)/\k=!kvs.isEmpty:=e;rcases e' with ⟨xs,hx,e'⟩|⟨xs,hx,e'⟩|⟨kvs,hx,e'⟩
  .subst e'
   obtain⟨f,r,pl,hz⟩:=I.list hx;have d:=r.length;exact wpAny_truthy_list pl.isList (by simp only[wI];lia) ⟨H,I.tok _,by rw[jS r];exact q⟩
  .subst e'
   obtain⟨f,r,pl,hz⟩:=I.tuple hx;have d:=r.length;exact truthy_tuple pl (by simp only[wI];lia) ⟨H,I.tok _,by rw[jS r];exact q⟩
  .subst e'
   obtain⟨hz,l,vs,r,m⟩:kvs.length<=sizeLine/\(p == sysModules)=false/\∃vs,KV kvs vs/\s.heap.DictOf (mixKind X.prog X.w) p vs:=I.hok p _ hx;have d:kvs.length=vs.length:=Paired.length r;exact wpAny_truthy_dict l m 00 ⟨H,I.tok _,by rw[qcS r];exact q⟩
 |_=>exact(show False from e).elim
theorem qfN(ha:PE X a ta)(f:∀d,isTrue a X.env d=(do let v <-d;standAt a.pos;holding [v] (truthy v))):
  PT X a (λe H Q=>ta e H λx H'=>∃k,TruV X.K x H' k/\Q k H'):=by
 intro pins s e H Q I h;exact isTrue_plain (thn (ha pins s e H _ I h) λv s1 ⟨x,i,j,l,q1⟩=>qkk pins s1 e i x v Q j l q1) (f _)
theorem qcT:OpR X (binaryOp .Add) (λx y H Q=>∃i j,x=.str i/\y=.str j/\i.length+j.length<=sizeLine/\Q (.str (i++j)) H):=by
 intro pins s e H x y v u Q I rx d h;obtain⟨i,j,rfl,rfl,hz,q⟩:=h;obtain⟨t,rfl⟩:=rx;obtain⟨t',rfl⟩:=d;exact add_str (λt' tk=>⟨.str (i++j),H,I.tok _,⟨_,rfl⟩,q⟩) hz
theorem vals1(r:Vals [x] us):∃u,us=[u]/\RelV x u:=by
 cases r with
 |cons d e=>cases e;exact⟨_,rfl,d⟩
theorem vals2(r:Vals [x,y] us):∃u d,us=[u,d]/\RelV x u/\RelV y d:=by
 cases r with
 |cons e f =>
  cases f with
  |cons h i=>cases i;exact⟨_,_,rfl,e,h⟩
theorem qfO:CallR X (.builtin "abs") (λxs H Q=>∃i,xs=[.int i]/\Q (.int (if i<0 then -i else i)) H):=by
 intro pins s d H xs us Q I r h;obtain⟨i,rfl,q⟩:=h;obtain⟨u,rfl,t,rfl⟩:=vals1 r;exact call_abs_int λu tk=>⟨.int (if i<0 then -i else i),H,I.tok _,⟨_,rfl⟩,q⟩
theorem qeR(e:X.calm=true):CallR X (.builtin "max") (λxs H Q=>∃i j,xs=[.int i,.int j]/\Q (.int (if j>i then j else i)) H):=by
 intro pins s f H xs us Q I r h;obtain⟨i,j,rfl,q⟩:=h;obtain⟨u,l,rfl,⟨t,rfl⟩,⟨t',rfl⟩⟩:=vals2 r;refine max_two_ints (I.ok.hd e) λh' tk k=>⟨_,H,I.kept k,?_,q⟩
 by_cases d:j>i
 .rw [wM d,wM d];exact⟨_,rfl⟩
 .rw [wN d,wN d];exact⟨_,rfl⟩
theorem qeS(e:X.calm=true):CallR X (.builtin "min") (λxs H Q=>∃i j,xs=[.int i,.int j]/\Q (.int (if j<i then j else i)) H):=by
 intro pins s f H xs us Q I r h;obtain⟨i,j,rfl,q⟩:=h;obtain⟨u,l,rfl,⟨t,rfl⟩,⟨t',rfl⟩⟩:=vals2 r;refine min_two_ints (I.ok.hd e) λh' tk k=>⟨_,H,I.kept k,?_,q⟩
 by_cases d:j<i
 .rw [wM d,wM d];exact⟨_,rfl⟩
 .rw [wN d,wN d];exact⟨_,rfl⟩
noncomputable def LenV(K:07)(x:V)(H:Hp)(n:Nat):Prop :=
 match x with
 | .str y=>y.length<=sizeLine/\n=y.length
 | .byt y=>y.size<=sizeLine/\n=y.size
 | .ref p=>(∃xs,SqL K H p xs/\n=xs.length)\/∃xs,SqT K H p xs/\n=xs.length
 |_=>False
theorem qfP:CallR X (.builtin "len") (λxs H Q=>∃x n,xs=[x]/\LenV X.K x H n/\Q (.int n) H):=by
 intro pins s l H xs us Q I r h;obtain⟨x,n,rfl,e,q⟩:=h;obtain⟨u,rfl,rx⟩:=vals1 r;have m:=line63;have o:sizeLine=16777216:=vM;cases x with
 |str y =>
  obtain⟨t,rfl⟩:=rx;obtain⟨j,e'⟩:y.length<=sizeLine/\n=y.length:=e;subst e';exact len_str 00 ⟨.int _,H,I.tok _,⟨_,rfl⟩,q⟩
 |byt y =>
  obtain⟨t,rfl⟩:=rx;obtain⟨j,e'⟩:y.size<=sizeLine/\n=y.size:=e;subst e';exact PySem.W.len_bytes 00 ⟨.int _,H,I.tok _,⟨_,rfl⟩,q⟩
 |ref p =>
  cases rx;have e':(∃xs,SqL X.K H p xs/\n=xs.length)\/∃xs,SqT X.K H p xs/\n=xs.length:=e;rcases e' with ⟨xs,hx,e'⟩|⟨xs,hx,e'⟩
  .subst e'
   obtain⟨f,i,pl,hz⟩:=I.list hx;have d:=i.length;exact Calls.call_len_list pl.isList (by simp only[wI];lia) ⟨.int xs.length,H,I.tok _,⟨_,by simp only[wI];rw[d]⟩,q⟩
  .subst e'
   obtain⟨f,i,pl,hz⟩:=I.tuple hx;have d:=i.length;exact len_tuple pl (by simp only[wI];lia) ⟨.int xs.length,H,I.tok _,⟨_,by simp only[wI];rw[d]⟩,q⟩
 |_=>exact(show False from e).elim
end
structure ObjM (h:Heap) (x dx C:Addr) (mA:Str->Option Value):Prop where
 obj:h.get? x=some (PySem.W.instObj C dx)
 ns:h.Ns1 dx mA
 ne:dx≠x
def qeT{h:Heap}(n:h.Ns1 dx mA):∃od,h.get? dx=some od/\∀name,PySem.W.lookIn name od=some (mA name):=by
 obtain⟨o,es,ep,c,hd,d,_,hm⟩:=n;refine⟨o,c,λname=>?_⟩;have e:=hm name;unfold nsFind findBy at e;rw[<-Array.find?_toList]at e;unfold PySem.W.lookIn;rw[hd];dsimp only;split
 .rename_i y q
  rw[q]at e;exact congrArg some e
 .rename_i q
  rw[q]at e;have a:es.toList.any (·.refKey)=false:=by
   rw[List.any_eq_false];intro y f;obtain⟨z,t,b⟩:=d y (Array.mem_toList_iff.mp f);simp[DictEntry.refKey,b]
  have i:¬es.toList.any (·.refKey)=true:=by rw[a];exact wZ
  rw[wN i];exact congrArg some e
def ObjM.look(I:ObjM h x dx C mA):∃od,PySem.W.InstAt h x (PySem.W.instObj C dx) C (some od)/\∀name,PySem.W.lookIn name od=some (mA name) :=
 let ⟨od,a,b⟩:=qeT I.ns
 ⟨od,⟨I.obj,rfl,rfl,a⟩,b⟩
def RelO.some_of(r:RelO (some v) o):∃u,o=some u/\RelV v u:=by
 cases o with
 |none=>exact(show False from r).elim
 |some u=>exact⟨u,rfl,r⟩
section
variable{P:Program}{w:World}{H H':Hp}{h h':Heap}{a C dx:Addr}{fs fs':List (Str×V)}
theorem qin(hok:HOk P w H h)(e:H a=some (.ins C dx fs)):∃mA,ObjM h a dx C mA/\(∀f,RelO (fs.lookup f) (mA f))/\PySem.Within mA (fs.map (·.1))/\fs.length<=1000/\H dx=some (.own a):=by
 obtain⟨d,z,ne,ob,mA,n,r,q⟩:=(show ObjOk P w H h a (.ins C dx fs)from hok a _ e);exact⟨mA,⟨ob,n,ne⟩,r,q,z,d⟩
end
structure Cls (K:07) (C:Addr):Prop where
 pg:PySem.W.plainGet K C Str.empty=true
 hd:PySem.W.hasDictIn K C=true
 po:PySem.W.plainOver K C=true
 sa:PySem.W.findIn K (.ref C) "__setattr__"=some (some (.builtin "object.__setattr__"))
def Cls.get{K:07}{C:Addr}(c:Cls K C)(f:Str):PySem.W.plainGet K C f=true:=c.pg
section
variable{X:Cx}{pins:List (Addr×Obj)}{σ:St}{H:Hp}{s:Shared}{A:Around}{E:Value->Shared->Prop}{Q:Value->Shared->Prop}{c:Value}{b:Bool}
inductive TyOf (K:07) (H:Hp):V->Value->Prop where
 |non:TyOf K H .non (.type "NoneType")
 |bl (x:Bool):TyOf K H (.bl x) (.type "bool")
 |int (i:Int):TyOf K H (.int i) (.type "int")
 |str (x:Str):TyOf K H (.str x) (.type "str")
 |flt (x:UInt64):TyOf K H (.flt x) (.type "float")
 |l {a:Addr} {xs:List V} (e:H a=some (.l xs)):TyOf K H (.ref a) (.type "list")
 |frz {a:Addr} {o:Obj} {xs:List V} (e:H a=some (.frz o (.l xs))):TyOf K H (.ref a) (.type "list")
 |t {a:Addr} {xs:List V} (e:H a=some (.t xs)):TyOf K H (.ref a) (.type "tuple")
 |dK {a:Addr} {kvs:List (Key×V)} (e:H a=some (.dK kvs)):TyOf K H (.ref a) (.type "dict")
 |dT {a:Addr} {kvs:List (List Key×V)} (e:H a=some (.dT kvs)):TyOf K H (.ref a) (.type "dict")
 |ins {a C dx:Addr} {fs:List (Str×V)} (e:H a=some (.ins C dx fs)) (cl:Cls K C) (ha:PySem.W.findIn K (.ref C) "__class__"=some (some (.builtin "object.__class__")))
   (hn:PySem.W.specialIn K (.builtin "object.__class__") "__get__"=some (some (.builtin "getset_descriptor.__get__"))) (htk:PySem.W.takesIn K (.builtin "object.__class__")=some true)
   (hm:PySem.W.mroIn K C (.type "object")=some true):TyOf K H (.ref a) (.ref C)
theorem qeU(I:000)(rx:RelV x u)(ty:TyOf X.K H x t)(e:PySem.W.kitOne X.K t c=some b)(h:∀tk,Q (.bool b) {s with toks:=tk}):
  wpAny 05 A (call (.builtin "isinstance") [u,c]) Q E s:=by
 cases ty with
 |non=>cases (show u=Value.none from rx);exact wh PySem.W.kitx_none I.kIn True.intro e (λz=>nomatch z) h
 |bl y=>cases (show u=Value.bool y from rx);exact wh PySem.W.kitx_bool I.kIn True.intro e (λz=>nomatch z) h
 |int i=>obtain⟨t,q⟩:=(show ∃t,u=Value.int i t from rx);cases q;exact wh PySem.W.kitx_int I.kIn True.intro e (λz=>nomatch z) h
 |str y=>obtain⟨t,q⟩:=(show ∃t,u=Value.str y t from rx);cases q;exact wh PySem.W.kitx_str I.kIn True.intro e (λz=>nomatch z) h
 |flt y=>obtain⟨t,q⟩:=(show ∃t,u=Value.float y t from rx);cases q;exact wh PySem.W.kitx_float I.kIn True.intro e (λz=>nomatch z) h
 | @l a xs d =>
  cases (show u=Value.ref a from rx);obtain⟨_,_,n,_,f⟩:=(show ObjOk X.prog X.w H s.heap a (.l xs)from I.hok a _ d);exact wh PySem.W.kitx_list I.kIn ⟨_,f,rfl⟩ e (λz=>nomatch z) h
 | @frz a ob xs d =>
  cases (show u=Value.ref a from rx);obtain⟨_,_,_,n,_,f⟩:=(show ObjOk X.prog X.w H s.heap a (.frz ob (.l xs))from I.hok a _ d);exact wh PySem.W.kitx_list I.kIn ⟨_,f,rfl⟩ e (λz=>nomatch z) h
 | @t a xs d =>
  cases (show u=Value.ref a from rx);obtain⟨_,_,_,p,_⟩:=(show ObjOk X.prog X.w H s.heap a (.t xs)from I.hok a _ d);obtain⟨o,f,j,_⟩:=p;exact wh PySem.W.kitx_tuple I.kIn ⟨o,f,j⟩ e (λz=>nomatch z) h
 | @dK a kvs d =>
  cases (show u=Value.ref a from rx);obtain⟨_,_,vs,_,p⟩:=(show ObjOk X.prog X.w H s.heap a (.dK kvs)from I.hok a _ d);obtain⟨o,es,ep,f,j,_⟩:=p;exact wh PySem.W.kitx_dict I.kIn ⟨o,f,j.1⟩ e (λz=>nomatch z) h
 | @dT a kvs d =>
  cases (show u=Value.ref a from rx);obtain⟨_,_,xs,_,o,es,ep,f,j,_⟩:=(show ObjOk X.prog X.w H s.heap a (.dT kvs)from I.hok a _ d);exact wh PySem.W.kitx_dict I.kIn ⟨o,f,j.1⟩ e (λz=>nomatch z) h
 | @ins a C dx fs d cl ha hn htk hm =>
  cases (show u=Value.ref a from rx);obtain⟨mA,O,_⟩:=qin I.hok d;obtain⟨od,J,_⟩:=O.look;exact wh (PySem.W.kitx_own (cl.get _) cl.hd ha hn htk hm) I.kIn J e (λz=>nomatch z) h
end
structure Room (k:Nat) (A:Around):Prop where
 hd:A.handled=none
 dp:A.depth+3*k+5<recursionLimit
 un:A.units+16*k+200<cLine
def Room.mono{j k:Nat}(r:Room k A)(h:j<=k):Room j A:=⟨r.hd,by have:=r.dp;lia,by have:=r.un;lia⟩
def Room.deeper{k:Nat}(r:Room (k+1) A)(env:Env):Room k (A.deeper env) :=
 ⟨r.hd,by have:=r.dp;show A.depth+1+3*k+5<_;lia,by have:=r.un;show A.units+3+16*k+200<_;lia⟩
def Room.depth{k:Nat}(r:Room k A):A.depth<recursionLimit:=by have:=r.dp;lia
def Room.units{k:Nat}(r:Room k A):A.units+64<cLine:=by have:=r.un;lia
noncomputable def tNil:TA:=λ_ H Q=>Q [] H
noncomputable def tCons(b:TE)(tr:TA):TA:=λa H Q=>b a H λx c=>tr a c λxs H2=>Q (x::xs) H2
section
variable{X:Cx}{e:Expr}{es:List Expr}{te:TE}{t:TA}{pos:Pos}
theorem jp:PA X [] tNil:=λ_ _ _ _ H Q I h=>ua ⟨[],H,I,.nil,h⟩
theorem zB(ha:PE X e te)(b:PA X es t)(c:sE X e es:=by rfl):PA X (e::es) (tCons te t):=by
 intro pos pins s a H Q I h;rw[c];show wpAny _ _ (spliced ((false,eval e X.env)::backTo pos (starEach es X.env))) _ _ s;refine uI (thn (ha pins s a H _ I h) λu s1 ⟨x,d,f,i,q1⟩=>?_);exact thn (b pos pins s1 a d _ f q1) λus s2 ⟨xs,H2,j,l,q2⟩=>⟨x::xs,H2,j,.cons i l,q2⟩
noncomputable def tTup(t:TA):TE:=λb H Q=>t b H λxs a=>xs.length<=sizeLine/\∀p,a p=none->Q (.ref p) (upd a p (.t xs))
noncomputable def tLst(t:TA):TE:=λb H Q=>t b H λxs a=>xs.length<=sizeLine/\∀p,a p=none->Q (.ref p) (upd a p (.l xs))
theorem qfQ{x1}(h:PA X es t):PE X (.Tuple es x1 pos) (tTup t):=by
 intro pins s d H Q I f;refine wpAny_Tuple_spliced (thn (h pos pins s d H _ I f) λus s1 ⟨xs,a,c,r,z,q⟩=>⟨by rw[<-r.length];exact z,?_⟩);have i:a s1.heap.objs.size=none:=c.hok.fresh (wG _);refine⟨.ref s1.heap.objs.size,upd a s1.heap.objs.size (.t xs),c.laid (t':=s1.toks) (λb u e=>wB _ e) (wG _) ?_,rfl,q _ i⟩;exact⟨z,us,r,⟨_,wE _ rfl,rfl,_,rfl⟩,yF _ _⟩
theorem qkl(h:PA X es t):PE X (.List es pos) (tLst t):=by
 intro pins s d H Q I f;refine wpAny_List_spliced (thn (h pos pins s d H _ I f) λus s1 ⟨xs,a,c,r,z,q⟩=>⟨by rw[<-r.length];exact z,?_⟩);have i:a s1.heap.objs.size=none:=c.hok.fresh (wG _);refine⟨.ref s1.heap.objs.size,upd a s1.heap.objs.size (.l xs),c.laid (t':=s1.toks) (λb u e=>wB _ e) (wG _) ?_,rfl,q _ i⟩;exact⟨z,us,0,r,wE _ rfl⟩
end
noncomputable abbrev Sp:=List V->Hp->VK->XK->Prop
noncomputable abbrev CXT:=List Env->Hp->Shared->XK->Value->Shared->Prop
structure Env0 (P:Program) (w:World) (K:07) (mg:Str->Option Value) (base:Heap) (A:Around) (outer:List Env) (s:Shared) (H:Hp):Prop where
 frames:A.frames=some outer
 mod:Mod K mg base
 bs:∀b o,base.get? b=some o->s.heap.get? b=some o/\H b=none
 bsz:base.objs.size<=s.heap.objs.size
 funs:s.heap.FunFrames base outer
 frf:∀b∈frs outer,H b=none
 hok:HOk P w H s.heap
 bare:AllBare s.gens
 tab:∀c T,codeTab K c T=true->∃ps,H T=some (.tbl ps)
noncomputable def CE(outer:List Env)(P:Program)(w:World)(H:Hp)(s:Shared)(Q:VK)(u:Value)(s':Shared):Prop :=
 ∃v H',s'.os=s.os/\GK s.gens s'.gens/\Un (frs outer) [] H H' s.heap s'.heap/\HOk P w H' s'.heap/\RelV v u/\Q v H'
noncomputable def CR(CX:CXT)(outer:List Env)(P:Program)(w:World)(H:Hp)(s:Shared)(Q:VK)(E:XK)(r:Result)(s':Shared):Prop :=
 match r with
 | .ok (.ret u)=>CE outer P w H s Q u s'
 | .ok _=>False
 | .error e=>CX outer H s E e s'
structure FnOk (P:Program) (w:World) (K:07) (mg:Str->Option Value) (base:Heap) (CX:CXT) (k:Nat) (f:Addr) (fd:FuncData) (ps:List Str) (sp:Sp):Prop where
 len:∀vs H Q E,sp vs H Q E->vs.length=ps.length
 run:∀(A:Around) (outer:List Env) (s:Shared) (H:Hp) (args:Args) (us:List Value) (vs:List V) (Q:VK) (E:XK),Room k A->Env0 P w K mg base A outer s H->BindsTo s fd args (ps.zip us)->Vals vs us->sp vs H Q E ->
  codeAny (model P w) A (.call (.ref f) args) (CR CX outer P w H s Q E) s
section
variable{X:Cx}{pins:List (Addr×Obj)}{σ:St}{H:Hp}{s s':Shared}
theorem Inv.env0(I:000):Env0 X.prog X.w X.K X.mg X.base X.A X.stack s H :=
 ⟨I.ok.frames,I.ok.mod,I.bs,vG I.ok.bsz I.sz,I.stack,I.stkFree,I.hok,I.bare.bare,λc T z=>let ⟨ps,e⟩:=I.ok.tab c T z;let ⟨m,e'⟩:=I.base.tbls _ _ e;⟨_,e'⟩⟩
theorem Inv.after(I:000)(h:CE X.stack X.prog X.w H s Q u s'):EP X pins σ Q u s':=by
 obtain⟨v,H',os,bare,un,hok,r,q⟩:=h;obtain⟨c,g,d,t,a⟩:=s';obtain rfl:a=s.os:=os;exact⟨v,H',I.call (h':=c) (g':=g) (d':=d) (t':=t) (ch:=[]) un hok bare (λb z=>absurd z 02),r,q⟩
end
noncomputable def tCall(sp:Sp)(dvs:List V)(E:XK)(t:TA):TE:=λa H Q=>t a H λvs b=>sp (vs++dvs) b Q E
noncomputable def Binds(K:07)(fd:FuncData)(ps:List Str)(ds:List Value):Prop :=
 ∀(s:Shared) (us:List Value),K.In s.heap->(us++ds).length=ps.length->BindsTo s fd ⟨us,[]⟩ (ps.zip (us++ds))
def Binds.all{K:07}{fd:FuncData}{ps:List Str}(h:∀us:List Value,us.length=ps.length->bindArgs fd ⟨us,[]⟩=pure (ps.zip us)):Binds K fd ps []:=λs us _ a=>by
 rw[uP]at a ⊢;exact .of_eq (h us a)
def Passes(CX:CXT)(X:Cx)(E:XK):Prop:=∀(pins:001) (a:St) (H:Hp) (s:Shared) (e:Value) (s':Shared),Inv X pins a H s->CX X.stack H s E e s'->X.xe e s'
section
variable{X:Cx}{CX:CXT}{k:Nat}{f C:Addr}{fd:FuncData}{ps:List Str}{sp:Sp}{dvs:List V}{ds:List Value}{E:XK}{x m:Str}{p pos apos:Pos}{e o:Expr}{es:List Expr}{ta:TE}{t:TA}
theorem qkm(F:FnOk X.prog X.w X.K X.mg X.base CX k f fd ps sp)(d:Room k X.A)(i:Binds X.K fd ps ds)(hd:Vals dvs ds)(hx:Passes CX X E)(I:Inv X pins b H s)(r:Vals vs us)(h:sp (vs++dvs) H Q E):wpAny 05 X.A (call (.ref f) us) (EP X pins b Q) X.xe s:=by
 have c:Vals (vs++dvs) (us++ds):=r.append hd;have j:(us++ds).length=ps.length:=by rw[<-c.length];exact F.len _ _ _ _ h
 refine wpAny_call (xZ (F.run X.A X.stack s H ⟨us,[]⟩ (us++ds) (vs++dvs) Q E d I.env0 (i s us I.kIn j) c h) λr s' a=>?_);cases r with
 |error e=>exact hx pins b H s e s' I a
 |ok l =>
  cases l with
  |ret u=>exact I.after a
  |next=>exact False.elim a
  |brk=>exact False.elim a
  |cont=>exact False.elim a
theorem qdD(F:FnOk X.prog X.w X.K X.mg X.base CX k f fd ps sp)(d:Room k X.A)(i:Gl X x)(hm:X.mg x=some (.ref f))(j:PySem.W.keepIn X.K (.ref f)=true)(l:Binds X.K fd ps ds)(hd:Vals dvs ds)(hx:Passes CX X E)(ha:PA X (e::es) t)(a:dB x:=by decide)(n:sE X e es:=by rfl)(b:bT X es pos:=by rfl):
  PE X (.Call (.Name x p) (e::es) [] pos) (tCall sp dvs E t):=by
 intro pins s u H Q I h;refine ur (yY I i hm ?_ a);refine PySem.W.callWith_K (h₀:=X.base) I.ok.mod.kin j (thn (ha pos pins s u H _ I h) λus s1 ⟨vs,v,c,r,q⟩=>⟨c.kIn,?_⟩) n b;exact qkm F d l hd hx c r q
end
structure FnScope (N P:List Str) (sc:Scope):Prop where
 kind:sc.kind=.function
 co:sc.isCoroutine=false
 gen:sc.isGenerator=false
 nd:N.Nodup
 pre:N.take P.length=P
 par:∀x∈P,sc.names.lookup x=some .local\/sc.names.lookup x=some .cell
 nofree:∀y∈sc.names,y.2≠.free
def qaG{kindOf:Str->Option NameKind}{x:Str}:∀{a:List (Str×Value)} {m:Str->Option Value},(∀v,(x,v)∉a)->bindL kindOf a m x=m x
 |[],_,_=>rfl
 | (n,v)::r,m,h=>by
  unfold bindL;rw[qaG λw b=>h w (wO _ b)];split
  .have:x≠n:=by rintro rfl;exact h v wL
   simp[this]
  .rfl
def qaH{kindOf:Str->Option NameKind}{x:Str}:∀{a:List (Str×Value)} {m:Str->Option Value},(∀v,(x,v)∉a)->bindC kindOf a m x=m x
 |[],_,_=>rfl
 | (n,v)::r,m,h=>by
  unfold bindC;rw[qaH λw b=>h w (wO _ b)];split
  .rfl
  .have:x≠n:=by rintro rfl;exact h v wL
   simp[this]
def qaI{kindOf:Str->Option NameKind}{x:Str}{v:Value}:∀{P:List Str} {vs:List Value} {i:Nat} {m:Str->Option Value},P.Nodup->P[i]?=some x->vs[i]?=some v->kindOf x=some .local ->
  bindL kindOf (P.zip vs) m x=some v
 |[],_,_,_,_,h,_,_=>by simp at h
 |_::_,[],_,_,_,_,h,_=>by simp at h
 |p::P,w::vs,0,m,nd,h1,h2,hk=>by
  simp at h1 h2;subst h1;subst h2;show bindL kindOf ((p,w)::P.zip vs) m p=_;unfold bindL;rw[qaG λv a=>(u4.mp nd).1 (List.of_mem_zip a).1,wM hk];simp
 |p::P,w::vs,i+1,m,nd,h1,h2,hk=>by
  show bindL kindOf ((p,w)::P.zip vs) m x=_;unfold bindL;exact qaI (i:=i) (u4.mp nd).2 (by simpa using h1) (by simpa using h2) hk
def qaJ{kindOf:Str->Option NameKind}{x:Str}{v:Value}:∀{P:List Str} {vs:List Value} {i:Nat} {m:Str->Option Value},P.Nodup->P[i]?=some x->vs[i]?=some v->kindOf x≠some .local ->
  bindC kindOf (P.zip vs) m x=some v
 |[],_,_,_,_,h,_,_=>by simp at h
 |_::_,[],_,_,_,_,h,_=>by simp at h
 |p::P,w::vs,0,m,nd,h1,h2,hk=>by
  simp at h1 h2;subst h1;subst h2;show bindC kindOf ((p,w)::P.zip vs) m p=_;unfold bindC;rw[qaH λv a=>(u4.mp nd).1 (List.of_mem_zip a).1,wN hk];simp
 |p::P,w::vs,i+1,m,nd,h1,h2,hk=>by
  show bindC kindOf ((p,w)::P.zip vs) m x=_;unfold bindC;exact qaJ (i:=i) (u4.mp nd).2 (by simpa using h1) (by simpa using h2) hk
noncomputable def start(N:List Str)(vs:List V):St:=vs.map some++List.replicate (N.length-vs.length) none
noncomputable def cxOf(CX:CXT)(P:Program)(w:World)(K:07)(mg:Str->Option Value)(base:Heap)(N:List Str)(a:Str)(scope:Scope)(f:Addr)(b:Value)(A:Around)(outer:List Env)(s:Shared)(H:Hp)(E:XK):Cx where
 prog:=P
 w:=w
 K:=K
 mg:=mg
 base:=base
 A:=A.deeper (envOfC a scope s.heap.objs.size f b)
 N:=N
 s₀:=s
 H₀:=H
 env:=envOfC a scope s.heap.objs.size f b
 outer:=outer
 stack:=envOfC a scope s.heap.objs.size f b::outer
 ex:=[]
 calm:=true
 fn:=λ_=>true
 pn:=[]
 xe:=λe s'=>wpAny (model P w) (A.deeper (envOfC a scope s.heap.objs.size f b)) (leaving (envOfC a scope s.heap.objs.size f b) e) (λ_ s''=>CX outer H s E e s'') (λe' s''=>CX outer H s E e' s'') s'
def qbR{sc:Scope}{n:Nat}(h:sc.names.lookup x=some .cell):∃c,(cellsFrom n sc.names []).lookup x=some c:=by
 have q:=PySem.W.cellsFrom_some sc.names n [] (.inl h);exact Option.isSome_iff_exists.mp q
def qeV{CX:CXT}{P:Program}{w:World}{K:07}{mg:Str->Option Value}{base:Heap}{N ps:List Str}{d:Str}{scope:Scope}{f:Addr}{F:Value}{A:Around}{outer:List Env}{s s1:Shared}{H:Hp}{E:XK}{us:List Value}{vs:List V}(S:FnScope N ps scope)(hd:A.handled=none)(l:Env0 P w K mg base A outer s H)(Q:vs.length=ps.length)(r:Vals vs us)(x:InCallC s s.heap.objs.size (bindL (envOfC d scope s.heap.objs.size f F).kindOf (ps.zip us) λ_=>none) (cellsFrom (s.heap.objs.size+1) scope.names []) (bindC (envOfC d scope s.heap.objs.size f F).kindOf (ps.zip us) λ_=>none) s1):
  Inv (cxOf CX P w K mg base N d scope f F A outer s H E) [] (start N vs) H s1:=by
 have M:ps.length<=N.length:=by have:=congrArg List.length S.pre;rw[vP]at this;lia
 obtain⟨I,tk,rfl,J⟩:=x.done;have m:∀b:Addr,b∉(cxOf CX P w K mg base N d scope f F A outer s H E).ex:=λb z=>absurd (show b∈([]:List Addr)from z) 02
 refine⟨⟨l.mod,S.kind,rfl,rfl,wG _,λy z c I j=>?_,λy o=>?_,λy c _ h=>?_,λ_=>hd,Around.frames_deeper l.frames,.inr ⟨rfl,rfl⟩,λb z=>absurd z (m b),l.bs,l.bsz,λb _ _=>m b,λb z=>absurd z (m b),l.funs,l.frf,l.tab⟩,
  rfl,GK.refl l.bare,Un.kept J,⟨_,x.toInCall.ns,λi y v I j U=>?_⟩,λy c h=>⟨_,x.cell y c h⟩,l.hok.fresh (wG _),λy c h=>?_,λp B=>absurd (show p∈([]:List (Addr×Obj))from B) 02,l.hok.kept J,?_⟩
 .exact name_of_addr x.apart (ve I) (ve j)
 .have o:scope.names.lookup y=some .cell\/scope.names.lookup y=some .free:=o
  rcases o with o|o
  .exact qbR o
  .exact absurd rfl (S.nofree _ (ve o))
 .exact x4 (x.above y c (ve h))
 .have hi:i<vs.length:=by
   unfold start at j;by_cases hi:i<vs.length
   .exact hi
   .rw [wk (by simpa using hi)]at j
    rw[vw]at j;split at j <;> cases j
  have ha:vs[i]?=some v:=by
   unfold start at j;rw[wW (by simpa using hi),wU]at j;cases e:vs[i]? with
   |none=>rw[e]at j;cases j
   |some a=>rw[e]at j;cases j;rfl
  obtain⟨u,L,O⟩:=r.get ha;have B:ps[i]?=some y:=by
   rw[<-S.pre,um 00];exact I
  have C:ps.Nodup:=by rw[<-S.pre];exact S.nd.sublist (List.take_sublist _ _)
  refine⟨u,O,?_⟩;rcases S.par y (vL B)with k|k
  .exact .inl ⟨k,qaI C B L k⟩
  .obtain ⟨c,e⟩:=qbR (n:=s.heap.objs.size+1) k
   refine .inr ⟨.inl k,c,e,?_⟩;have q:=x.cell y c e;rw[qaJ C B L (by show scope.names.lookup y≠_;rw[k];decide)]at q;exact q
 .exact l.hok.fresh (x4 (x.above y c (ve h)))
 .unfold start
  show _=N.length;rw[wm,wH,List.length_replicate];lia
def qjA{CX:CXT}{P:Program}{w:World}{K:07}{mg:Str->Option Value}{base:Heap}{k:Nat}{f:Addr}{name a:Str}{d:Arguments}{body:List Stmt}{scope:Scope}{L kV doc pm c ct oc:Value}{an od:Option Addr}{osl:Array (Option Value)}{N ps:List Str}{sp:Sp}(O:K.lookup f=some ⟨oc,od,.func (PySem.W.fnOf name a d body scope L kV doc pm an c ct),osl⟩)(z:PySem.W.codeIn K c a=true)(S:FnScope N ps scope)(len:∀vs H Q E,sp vs H Q E->vs.length=ps.length)(i:∀(A:Around) (outer:List Env) (s:Shared) (H:Hp) (vs:List V) (Q:VK) (E:XK),Room k (A.deeper (envOfC a scope s.heap.objs.size f c))->sp vs H Q E ->
   ∃t,PSs (cxOf CX P w K mg base N a scope f c A outer s H E) body t/\t {nx:=λ_ H'=>Q .non H',rt:=Q} (start N vs) H):
  FnOk P w K mg base CX (k+1) f (PySem.W.fnOf name a d body scope L kV doc pm an c ct) ps sp:=by
 refine⟨len,λA outer s H args us vs Q E B m U r p=>?_⟩;have X:=len _ _ _ _ p;have M:K.In s.heap:=m.mod.kin.keeps λb o e=>(m.bs b o e).1
 have C:s.heap.NoLimit:=m.mod.nolimit.keeps λb o e=>(m.bs b o e).1
 have j:∀y∈ps.zip us,scope.names.lookup y.1=some .local\/(scope.names.lookup y.1=some .cell/\((cellsFrom (s.heap.objs.size+1) scope.names []).lookup y.1).isSome=true):=λ⟨n,v⟩ Y=>by
  rcases S.par n (List.of_mem_zip Y).1 with q|q
  .exact .inl q
  .exact .inr ⟨q,PySem.W.cellsFrom_some _ _ _ (.inl q)⟩
 refine codeAny_call_function B.depth (M _ _ O) rfl S.co S.gen rfl (PySem.W.codeRec_of M z) (U _ _ _ _ ?_);refine wpAny_newFunctionEnv_cells S.kind j λenv Z s1 x=>?_
 subst Z;refine⟨C.keeps x.toInCall.keep,codeAny_func ?_⟩;obtain⟨t,ht,hq⟩:=i A outer s H vs Q E (B.deeper _) p;have I:Inv (cxOf CX P w K mg base N a scope f c A outer s H E) [] (start N vs) H s1:=qeV S B.hd m X r x;refine wv (ht [] s1 (start N vs) H _ I hq) (λfl s' l=>?_) λe s' l=>l
 have fin:∀{h:St} {H':Hp} {v:V} {u:Value},Inv (cxOf CX P w K mg base N a scope f c A outer s H E) [] h H' s'->RelV v u->Q v H'->CE outer P w H s Q u s' :=
  λ{h H' v u} J F q=>⟨v,H',J.os,J.bare,J.base,J.hok,F,q⟩
 cases fl with
 |ret u =>
  obtain⟨v,h,H',J,F,q⟩:=l;exact fin J F q
 |next =>
  obtain⟨h,H',J,q⟩:=l;exact fin (v:=V.non) (u:=Value.none) J rfl q
 |brk =>
  obtain⟨_,_,_,q⟩:=l;exact False.elim q
 |cont =>
  obtain⟨_,_,_,q⟩:=l;exact False.elim q
section
variable{X:Cx}{x:Str}{p pos:Pos}{e:Expr}{es:List Expr}{t:TA}{id T:String}{r:List V->Hp->VK->Prop}
noncomputable def tCB(r:List V->Hp->VK->Prop)(t:TA):TE:=λa H Q=>t a H λvs b=>r vs b Q
theorem yZ(d:CallR X (.builtin id) r)(f:Gl X x)(hm:X.mg x=none)(i:bootBuiltins x=some (.builtin id))(ha:PA X (e::es) t)(hn:x≠"__name__":=by decide)(a:dB x:=by decide)(j:sE X e es:=by rfl)(b:bT X es pos:=by rfl):PE X (.Call (.Name x p) (e::es) [] pos) (tCB r t):=by
 intro pins s c H Q I h;refine ur (zT I f hm i ?_ hn a);exact xD (thn (ha pos pins s c H _ I h) λus s1 ⟨vs,l,m,n,q1⟩=>d pins s1 c l vs us Q m n q1) j b
theorem qeW(d:CallR X (.type T) r)(f:Gl X x)(hm:X.mg x=none)(i:bootBuiltins x=some (.type T))(ha:PA X (e::es) t)(hn:x≠"__name__":=by decide)(a:dB x:=by decide)(j:sE X e es:=by rfl)(b:bT X es pos:=by rfl):PE X (.Call (.Name x p) (e::es) [] pos) (tCB r t):=by
 intro pins s c H Q I h;refine ur (zT I f hm i ?_ hn a);exact vY (thn (ha pos pins s c H _ I h) λus s1 ⟨vs,l,m,n,q1⟩=>d pins s1 c l vs us Q m n q1) j b
end
end L2
namespace HT
open PySem PyProof.Rows
noncomputable def lexLt:List Int->List Int->Bool
 |[],[]=>false
 |[],_::_=>true
 |_::_,[]=>false
 |x::xs,y::ys=>if x=y then lexLt xs ys else decide (x<y)
def qX(x y:Int)(xs ys:03):lexLt (x::xs) (y::ys)=if x=y then lexLt xs ys else decide (x<y):=rfl
def zU:lexLt [] []=false:=rfl
def zH(y:Int)(ys:03):lexLt [] (y::ys)=true:=rfl
def qY(x:Int)(xs:03):lexLt (x::xs) []=false:=rfl
def qbS(A:Around)(s:Shared)(a:Int)(t:Tok)(c:Int)(u:Tok):∃e,SeqAt.EqAt A s (.int a t) (.int c u) e/\(e=true ↔ a=c) :=
 ⟨(a == c),SeqAt.EqAt.int_int a t c u,by simp⟩
def qfR(A:Around)(s:Shared)(a:Int)(t:Tok)(c:Int)(u:Tok)(prog:Program)(w:World)(E:Value->Shared->Prop)(Q:Value->Shared->Prop)(h:Q (.bool (decide (a<c))) s):
  wpAny 08 A (richCompare .Lt (.int a t) (.int c u)) Q E s :=
 (PyProof.Rows.lt_int h:wpAny 08 A (compareOp .Lt (.int a t) (.int c u)) Q E s)
section
open PySem.SeqAt
open PySem.AutoSeq1 (wpAny_loadPart')
open PySem.MeetsSeq PySem.MeetsSeq2 PySem.MeetsSeq3
def qax(l b:Addr)(items f:Array Value)(n O:Nat)(dd I:Option Addr)(sl J:Array (Option Value))(ns E:03)(hi:IntsAre items.toList ns)(M:IntsAre f.toList E):
  Meets (Builtin.«tuple.__lt__» ⟨[.ref l,.ref b],[]⟩)
   (λ_ R s=>s.heap.get? l=some {cls:=.type "tuple",dict:=dd,data:=.seq items n,slots:=sl}/\s.heap.get? b=some {cls:=.type "tuple",dict:=I,data:=.seq f O,slots:=J} /\
    R (.ok (.ret (.bool (lexLt ns E)))) s) :=
 .of_wp λprog w A R s h=>by
  obtain⟨F,g,d,tk,os⟩:=s;obtain⟨P,Q,h⟩:=h;have X:=AutoSeq1.sub_tuple_tuple;have Y:items.size=ns.length:=by rw[<-hi.length];simp
  have Z:f.size=E.length:=by rw[<-M.length];simp
  wp_walk using wpAny_loadPart' P,wpAny_loadPart' Q,wpAny_forIn_list _ (λrest b s'=>b.1=none/\s'=⟨F,g,d,tk,os⟩/\∃(vs H:List Value) (j m:03),rest=vs.zip H /\
   IntsAre vs j/\IntsAre H m/\j.length+f.size=m.length+items.size/\R (.ok (.ret (.bool (lexLt j m)))) ⟨F,g,d,tk,os⟩) _
  case turn =>
   rintro⟨y,x⟩ rest b s' ⟨v,rfl,vs,H,j,m,hz,z,o,i,p⟩;cases z with
   |nil=>rw[List.zip_nil_left]at hz;cases hz
   |cons a t B =>
    cases o with
    |nil=>rw[List.zip_nil_right]at hz;cases hz
    |cons c u C =>
     rw[vm]at hz;injection hz with K hrest;injection K with S hx;subst S hx;rw[qX]at p;simp only[w8]at i;obtain⟨e,U,r⟩:=qbS A.in1 ⟨F,g,d,tk,os⟩ a t c u;refine wA (U prog w _ _ ?_);cases e with
     |true =>
      rw[wM (r.mp rfl)]at p;wp_walk;exact⟨rfl,rfl,_,_,_,_,hrest,B,C,by lia,p⟩
     |false =>
      rw[wN (λq=>absurd (r.mpr q) wZ)]at p;have L:=qfR A.in1 ⟨F,g,d,tk,os⟩ a t c u prog w;wp_walk using L;exact⟨_,rfl,by simpa using p⟩
  case fin =>
   rintro⟨b1,b2⟩ s' ⟨v,rfl,vs,H,j,m,hz,z,o,i,p⟩;simp only at v;subst v;have N:lexLt j m=decide (items.size<f.size):=by
    cases z with
    |nil =>
     cases o with
     |nil =>
      simp only[ws]at i;rw[zU];exact(wa 00).symm
     |cons c u W =>
      simp only[ws,w8]at i;rw[zH];exact(w4 00).symm
    |cons a t N =>
     cases o with
     |nil =>
      simp only[ws,w8]at i;rw[qY];exact(wa 00).symm
     |cons c u W =>
      rw[vm]at hz;cases hz
   rw[N]at p;wp_walk;exact⟨_,rfl,by simpa[Builtin.Tuple.tupleCompareSizes]using p⟩
  case h =>
   exact⟨rfl,rfl,items.toList,f.toList,ns,E,rfl,hi,M,by lia,h⟩
end
section
variable{prog:Program}{w:World}{A:Around}{E:Value->Shared->Prop}{s:Shared}
theorem qcU(r:IsTup s.heap l items)(u:IsTup s.heap b a)(hi:IntsAre items.toList ns)(v:IntsAre a.toList c)(y:A.units<cLine)(h:Q (.bool (lexLt ns c)) s):wpAny 08 A (compareOp .Lt (.ref l) (.ref b)) Q E s:=by
 obtain⟨⟨cls,dd,data,sl⟩,o,p,n,hd⟩:=id r;obtain⟨⟨q,i,j,m⟩,d,e,z,f⟩:=id u;simp only at p hd e f;subst p hd e f;exact richCompare_meets_room (op:=.Lt) ⟨_,o,rfl⟩ ⟨_,d,rfl⟩ PySem.F.slot_tuple_lt PySem.F.entry_tuple_lt (PySem.F.args_tuple_lt_2 _ _) (qax l b items a n z dd i sl m ns c hi v)
  ⟨o,d,show Value.bool (lexLt ns c)≠Value.notImplemented/\Q (.bool (lexLt ns c)) s from⟨(λx=>nomatch x),h⟩⟩ y
theorem qio{vs a:List Value}(u:IsTup s.heap t vs.toArray)(v:IsTup s.heap b a.toArray)(o:vs≠[])(x:a=[]->Q (.ref t) s)(y:a≠[]->Q (.ref s.heap.objs.size) {s with heap:=s.heap.push {cls:=.type "tuple",data:=.seq (vs++a).toArray}})(hsz:vs.length+a.length<=sizeLine):wpAny 08 A (binaryOp .Add (.ref t) (.ref b)) Q E s:=by
 obtain⟨⟨cls,dd,data,sl⟩,j,p,n,hd⟩:=id u;obtain⟨⟨q,d,m,f⟩,c,h,r,i⟩:=id v;simp only at p hd h i;subst p hd h i;have e:vs.toArray++a.toArray=(vs++a).toArray:=by simp
 by_cases l:a=[]
 .exact concat_meets ⟨_,j,rfl⟩ ⟨_,c,rfl⟩ noFill_tuple_add seq_tuple_add xz xp (xj _ _)
   (tuple_addW1 t b vs.toArray a.toArray n r dd d sl f (by simpa using o) (by simp[l])) ⟨j,c,x l⟩
 .refine concat_meets ⟨_,j,rfl⟩ ⟨_,c,rfl⟩ noFill_tuple_add seq_tuple_add xz xp (xj _ _)
   (tuple_addW2 t b vs.toArray a.toArray n r dd d sl f (by simpa using o) (by simpa using l) (by rw[wI,wI];exact hsz)) ⟨j,c,?_⟩
  rw[e];exact y l
noncomputable def sIx(n d:Nat):Option Int->Nat
 |none=>d
 |some v=>if v<0 then(v+(n:Int)).toNat else min v.toNat n
theorem qkn(n d:Nat)(hd:d<=n)(o:Option Int):sIx n d o<=n:=by
 cases o with
 |none=>exact hd
 |some v =>
  show(if v<0 then(v+(n:Int)).toNat else min v.toNat n)<=n;by_cases a:v<0
  .rw [wM a];lia
  .rw [wN a];exact Nat.min_le_right _ _
theorem qdE(v:Int)(n d:Nat):(if v<0 then max (v+(n:Int)) 0 else min v (n:Int))=((sIx n d (some v):Nat):Int):=by
 show(if v<0 then max (v+(n:Int)) 0 else min v (n:Int))=(((if v<0 then(v+(n:Int)).toNat else min v.toNat n):Nat):Int);by_cases a:v<0
 .simp only[wM a];lia
 .simp only[wN a];lia
theorem qcV(lo hi:Option Int)(n:Nat):Builtin.Slice.sliceAdjust lo hi 1 (n:Int)=(((sIx n 0 lo:Nat):Int),((sIx n n hi:Nat):Int)):=by
 have a:¬((1:Int)<0):=by lia
 unfold Builtin.Slice.sliceAdjust;simp only[a,uG];refine Prod.ext ?_ ?_
 .cases lo with
  |none=>rfl
  |some v=>exact qdE v n 0
 .cases hi with
  |none=>rfl
  |some v=>exact qdE v n n
theorem qcW(i j:Nat):Builtin.Slice.slicePlaces (i:Int) (j:Int) 1=j-i:=by
 unfold Builtin.Slice.slicePlaces;have a:(1:Int)>0:=by lia
 simp only[a,vo,Int.ediv_one];split <;> lia
theorem jT(p:IsPart v o)(h:Q o s):wpAny 08 A (Builtin.Slice.slicePartIndex v) Q E s:=by
 cases p with
 |none=>exact slicePart_none h
 |int i t=>exact slicePart_int h
theorem zX{sl:Addr}{c d:Value}{lo hi:Option Int}{n:Nat}{Q:Int×Int×Nat->Shared->Prop}(e:s.heap.IsSliceOf sl c d .none)(pl:IsPart c lo)(f:IsPart d hi)(h:Q (((sIx n 0 lo:Nat):Int),1,sIx n n hi-sIx n 0 lo) s):wpAny 08 A (Builtin.Slice.sliceApplied (.ref sl) (pure (n:Int))) Q E s:=by
 obtain⟨os,a,i,b⟩:=id e;unfold Builtin.Slice.sliceApplied Builtin.Slice.sliceFields;refine wA (wA (vF a b (x:=c) rfl (wA (vF a b (x:=d) rfl (wA (vF a b (x:=.none) rfl (wC ?_)))))));refine wA (slicePart_none ?_);show wpAny _ _ (if((1:Int) == 0)=true then _ else _) _ _ s;rw[wN 01];refine wA (jT pl (wA (jT f (wA (wC ?_)))));show wpAny _ _ (match Builtin.Slice.sliceAdjust lo hi 1 (n:Int)with|(lo,hi)=>pure (lo,(1:Int),Builtin.Slice.slicePlaces lo hi 1)) _ _ s;rw[qcV lo hi n];show wpAny _ _ (pure (((sIx n 0 lo:Nat):Int),(1:Int),Builtin.Slice.slicePlaces ((sIx n 0 lo:Nat):Int) ((sIx n n hi:Nat):Int) 1)) _ _ s;rw[qcW];exact wC h
theorem qfS(xs:Array Value)(i k:Nat):((List.range k).filterMap λ(m:Nat)=>xs[((i:Int)+(m:Int)*1).toNat]?).toArray=((xs.toList.drop i).take k).toArray:=by
 have e:(λ(m:Nat)=>xs[((i:Int)+(m:Int)*1).toNat]?)=λm=>xs[i+m]?:=by
  funext m;have:((i:Int)+(m:Int)*1).toNat=i+m:=by lia
  rw[this]
 rw[e];have:=pick_run xs i k;rw[List.filterMap_map]at this;have a:((λx=>xs[x]?)∘λx=>i+x)=λm=>xs[i+m]?:=rfl
 rw[a]at this;rw[this]
theorem y4{t sl:Addr}{items:Array Value}{i j:Value}{lo hi:Option Int}{Q:Value->Shared->Prop}(b:IsTup s.heap t items)(l:s.heap.IsSliceOf sl i j .none)(pl:IsPart i lo)(n:IsPart j hi)(o:¬(sIx items.size 0 lo=0/\sIx items.size items.size hi=items.size))(h:Q (.ref s.heap.objs.size) {s with heap:=s.heap.push {cls:=.type "tuple",data:=.seq ((items.toList.drop (sIx items.size 0 lo)).take (sIx items.size items.size hi-sIx items.size 0 lo)).toArray}})(hsz:items.size<=sizeLine):wpAny 08 A (getItem (.ref t) (.ref sl)) Q E s:=by
 have a:sizeOk (.seq ((items.toList.drop (sIx items.size 0 lo)).take (sIx items.size items.size hi-sIx items.size 0 lo)).toArray):=by
  show((items.toList.drop (sIx items.size 0 lo)).take (sIx items.size items.size hi-sIx items.size 0 lo)).toArray.size<=sizeLine;rw[wI,vP,xw,wg];lia
 have r:sIx items.size items.size hi<=items.size:=qkn _ _ (wG _) hi;obtain⟨os,c,d,p⟩:=id l;have e:s.TypeIs (.ref sl) "slice":=⟨os,c,d⟩;unfold getItem
 try with_reducible refine wj ?_
 first|refine wA (wC ?_)|skip
 refine wA (wpAny_sequenceKey b.typeIs 01 ?_);refine wA (wb (name:=Str.ofString "__getitem__") b.typeIs vQ
  (we vQ b.typeIs entry_tuple_getitem ?_ (args_tuple_getitem _ _)))
 show wpAny _ _ (Builtin.Tuple.tupleItemsOf (.ref t) >>= _) _ _ s;refine wA (tupleItemsOf_ b ?_);refine wA (uk e ?_);rw[wM 01];refine wA (zX l pl n ?_);have f:¬((((sIx items.size 0 lo:Nat):Int) == 0&&(1:Int) == 1&&(sIx items.size items.size hi-sIx items.size 0 lo) == items.size)=true):=by
  intro q;rw[wK,wK]at q;have q1:((sIx items.size 0 lo:Nat):Int)=0:=eq_of_beq q.1.1;have q2:sIx items.size items.size hi-sIx items.size 0 lo=items.size:=eq_of_beq q.2;exact o ⟨by lia,by lia⟩
 show wpAny _ _ (if(((sIx items.size 0 lo:Nat):Int) == 0&&(1:Int) == 1&&(sIx items.size items.size hi-sIx items.size 0 lo) == items.size)=true then _ else _) _ _ s;rw[wN f,qfS]
 first
  |exact wA (m:=Builtin.Tuple.tupleExact _) (wR (wC ⟨_,rfl,wC h⟩) a)
  |exact wA (m:=Builtin.Tuple.tupleExact _) (wR (wA (wC (wC ⟨_,rfl,wC h⟩))) a)
  |exact wA (wA (m:=Builtin.Tuple.tupleExact _) (wR (wC (wC ⟨_,rfl,wC h⟩)) a))
  |exact wA (wA (m:=Builtin.Tuple.tupleExact _) (wR (wC ⟨_,rfl,wC h⟩) a))
end
end HT
namespace L2
open PySem PySem.Spec PyProof.Rows
noncomputable abbrev TO:=St->Hp->(Option Int->Hp->Prop)->Prop
noncomputable def PO(X:Cx)(e:Option Expr)(t:TO):Prop :=
 ∀(pins:001) (s:Shared) (a:St) (H:Hp) (Q:Option Int->Hp->Prop),Inv X pins a H s->t a H Q ->
  wpAny 05 X.A (evalPart e X.env) (λu s'=>∃o H',Inv X pins a H' s'/\IsPart u o/\Q o H') X.xe s
noncomputable def tNoPart:TO:=λ_ H Q=>Q none H
noncomputable def tPart(t:TE):TO:=λa H Q=>t a H λx b=>∃i,x=.int i/\Q (some i) b
def zg{ns:03}:∀{us:List Value},Vals (ns.map V.int) us->IntsAre us ns:=by
 induction ns with
 |nil=>intro us r;rw[gC]at r;cases r;exact .nil
 |cons n ns a =>
  intro us r;rw[wS]at r;cases r with
  |cons b c =>
   obtain⟨t,e⟩:=b;subst e;exact .cons n t (a c)
section
variable{X:Cx}{e:Expr}{te:TE}{lo hi:Option Expr}{tl th:TO}{pos p2:Pos}
theorem qip:PO X none tNoPart:=by
 intro pins s a H Q I h;rw[evalPart_none];exact wC ⟨none,H,I,.none,h⟩
theorem qiq(h:PE X e te):PO X (some e) (tPart te):=by
 intro pins s a H Q I b;rw[evalPart_some];refine thn (h pins s a H _ I b) λu s1 ⟨x,c,d,f,q1⟩=>?_
 obtain⟨i,rfl,q⟩:=q1;obtain⟨t,rfl⟩:=f;exact⟨some i,c,d,.int i t,q⟩
noncomputable def SlR(X:Cx)(r:V->Option Int->Option Int->Hp->VK->Prop):Prop :=
 ∀(pins:001) (s:Shared) (a:St) (H:Hp) (x:V) (v b c:Value) (lo hi:Option Int) (sl:Addr) (Q:VK),Inv X pins a H s->RelV x v->s.heap.IsSliceOf sl b c .none->IsPart b lo->IsPart c hi->r x lo hi H Q ->
  ∃T id,typeLookup (.type T) "__getitem__"=pure (some (.builtin id))/\s.TypeIs v T/\wpAny 05 X.A (getItem v (.ref sl)) (EP X pins a Q) X.xe s
theorem SlR.or(h:SlR X r)(h':SlR X a):SlR X (λx lo hi H Q=>r x lo hi H Q\/a x lo hi H Q):=by
 intro pins s b H x v c d lo hi sl Q I rx f pl i q;rcases q with q|q
 .exact h pins s b H x v c d lo hi sl Q I rx f pl i q
 .exact h' pins s b H x v c d lo hi sl Q I rx f pl i q
noncomputable def tSl(r:V->Option Int->Option Int->Hp->VK->Prop)(te:TE)(tl th:TO):TE:=λa H Q=>te a H λx b=>tl a b λl H2=>th a H2 λu H3=>r x l u H3 Q
theorem qfT(i:SlR X r)(j:PE X e te)(m:PO X lo tl)(n:PO X hi th):PE X (.Subscript e (.Slice lo hi none p2) pos) (tSl r te tl th):=by
 intro pins s c H Q I h;refine Subscript_ (thn (j pins s c H _ I h) λv s1 ⟨x,o,p,y,q1⟩=>?_);refine wpAny_Slice (thn (m pins s1 c o _ p q1) λd s2 ⟨l,H2,z,pl,q2⟩=>thn (n pins s2 c H2 _ z q2) λf a ⟨u,H3,B,C,E⟩=>?_);rw[evalPart_none];refine wC ?_;have F:Inv X pins c H3 {a with heap:=a.heap.push {cls:=.type "slice",data:=.fields #[d,f,.none]}}:=B.kept (t':=a.toks) λb ob q=>wB _ q
 obtain⟨T,id,J,K,L⟩:=i pins {a with heap:=a.heap.push {cls:=.type "slice",data:=.fields #[d,f,.none]}} c H3 x v d f l u a.heap.objs.size Q F y (Heap.IsSliceOf.new ..) pl C E;show wpAny 05 X.A (subscriptTail e (.Slice lo hi none p2) v (.ref a.heap.objs.size)) (EP X pins c Q) X.xe {a with heap:=a.heap.push {cls:=.type "slice",data:=.fields #[d,f,.none]}};exact tail_any (ops:=[.ref a.heap.objs.size,v]) K J L (by with_unfolding_all rfl)
noncomputable def cutV(xs:List V)(lo hi:Option Int):List V:=(xs.drop (HT.sIx xs.length 0 lo)).take (HT.sIx xs.length xs.length hi-HT.sIx xs.length 0 lo)
theorem jD(xs:List V)(lo hi:Option Int):(cutV xs lo hi).length<=xs.length:=by
 unfold cutV;rw[vP,xw];lia
def rSlT(K:07):V->Option Int->Option Int->Hp->VK->Prop:=λx lo hi H Q=>∃a xs,x=.ref a/\SqT K H a xs /\
 ¬(HT.sIx xs.length 0 lo=0/\HT.sIx xs.length xs.length hi=xs.length)/\∀p,H p=none->Q (.ref p) (upd H p (.t (cutV xs lo hi)))
theorem qko:SlR X (rSlT X.K):=by
 intro pins s m H x v n p lo hi sl Q I rx i pl j h;obtain⟨a,xs,rfl,hx,l,q⟩:=h;cases rx;obtain⟨d,r,f,hz⟩:=I.tuple hx;have c:d.toArray.size=xs.length:=by rw[wI];exact r.length.symm
 refine⟨"tuple",_,vQ.lookup,f.typeIs,?_⟩;refine HT.y4 f i pl j (by rw[c];exact l) ?_ (by rw[c];exact hz);rw[c];refine⟨.ref s.heap.objs.size,_,I.laid (t':=s.toks) (o:=.t (cutV xs lo hi)) (λb ob q=>wB _ q) (wG _) ?_,rfl,q _ (I.hok.fresh (wG _))⟩;exact⟨vG (jD xs lo hi) hz,_,(r.drop (HT.sIx xs.length 0 lo)).take (HT.sIx xs.length xs.length hi-HT.sIx xs.length 0 lo),IsTup.new _ _,yF _ _⟩
noncomputable def rLtT(K:07):R2:=λx y H Q=>∃a b ns c,x=.ref a/\y=.ref b/\SqT K H a (ns.map V.int)/\SqT K H b (c.map V.int)/\Q (.bl (HT.lexLt ns c)) H
theorem qkp(i:X.A.units<cLine):OpR X (compareOp .Lt) (rLtT X.K):=by
 intro pins s p H x y v u Q I rx j h;obtain⟨a,b,ns,f,rfl,rfl,ha,l,q⟩:=h;cases rx;cases j;obtain⟨d,m,n,_⟩:=I.tuple ha;obtain⟨c,o,p2,_⟩:=I.tuple l;have i1:IntsAre d.toArray.toList ns:=zg m;have i2:IntsAre c.toArray.toList f:=zg o;exact HT.qcU n p2 i1 i2 i ⟨.bl (HT.lexLt ns f),H,I,rfl,q⟩
noncomputable def rCatT(K:07):R2:=λx y H Q=>∃a b xs ys,x=.ref a/\y=.ref b/\SqT K H a xs/\SqT K H b ys/\xs≠[]/\xs.length+ys.length<=sizeLine /\
 (ys=[]->Q (.ref a) H)/\(ys≠[]->∀p,H p=none->Q (.ref p) (upd H p (.t (xs++ys))))
theorem Vals.nil_iff(r:Vals xs us):us=[] ↔ xs=[]:=by
 cases r with
 |nil=>simp
 |cons _ _=>simp
theorem qir:OpR X (binaryOp .Add) (rCatT X.K):=by
 intro pins s n H x y v u Q I rx i h;obtain⟨a,b,xs,ys,rfl,rfl,ha,j,hx,hz,q1,q2⟩:=h;cases rx;cases i;obtain⟨l,d,m,_⟩:=I.tuple ha;obtain⟨f,c,p2,_⟩:=I.tuple j;refine HT.qio m p2 (λz=>hx (d.nil_iff.mp z)) (λz=>⟨.ref a,H,I,rfl,q1 (c.nil_iff.mp z)⟩) (λz=>?_) (by rw[<-d.length,<-c.length];exact hz);refine⟨.ref s.heap.objs.size,_,I.laid (t':=s.toks) (o:=.t (xs++ys)) (λb ob q=>wB _ q) (wG _) ?_,rfl,q2 (λw=>z (c.nil_iff.mpr w)) _ (I.hok.fresh (wG _))⟩;exact⟨by rw[wm];exact hz,_,d.append c,IsTup.new _ _,yF _ _⟩
end
noncomputable def ixN(n:Nat)(i:Int):Option Nat:=if 0<=i then(if i<n then some i.toNat else none)else if -(n:Int)<=i then some (i+n).toNat else none
noncomputable def atI{a:Type}(xs:List a)(i:Int):Option a:=(ixN xs.length i).bind λj=>xs[j]?
def qdF{n:Nat}{i:Int}{j:Nat}(h:ixN n i=some j):seqIndex? i n=some j/\j<n/\-(n:Int)<=i/\i<n:=by
 unfold ixN at h;by_cases b:0<=i
 .rw [wM b]at h
  by_cases a:i<n
  .rw [wM a]at h
   have e:i.toNat=j:=Option.some.inj h;exact⟨by rw[seqIndex_of b a,e],by lia,by lia,a⟩
  .rw [wN a]at h;cases h
 .rw [wN b]at h
  by_cases a:-(n:Int)<=i
  .rw [wM a]at h
   have e:(i+n).toNat=j:=Option.some.inj h;exact⟨by rw[seqIndex_neg 00 a,e],by lia,a,by lia⟩
  .rw [wN a]at h;cases h
def qdG{i:Int}(h:atI xs i=some v):∃j,seqIndex? i xs.length=some j/\xs[j]?=some v/\j<xs.length/\-(xs.length:Int)<=i/\i<xs.length:=by
 unfold atI at h;cases e:ixN xs.length i with
 |none=>rw[e]at h;cases h
 |some j =>
  rw[e]at h;obtain⟨b,c,d,f⟩:=qdF e;exact⟨j,b,h,c,d,f⟩
def PlainIx(b:Expr):Prop:=∀o i,subscripted b false o i=operate [o,i] (getItem o i)
noncomputable def IxR(X:Cx)(r:R2):Prop :=
 ∀(b a:Expr) (pins:001) (s:Shared) (c:St) (H:Hp) (x y:V) (v u:Value) (Q:VK),Inv X pins c H s->RelV x v->RelV y u->r x y H Q ->
  subscripted a false v u=operate [v,u] (getItem v u)->wpAny 05 X.A (subscriptTail b a v u) (EP X pins c Q) X.xe s
noncomputable def MtR(X:Cx)(id:String)(r:V->List V->Hp->VK->Prop):Prop :=
 ∀(pins:001) (s:Shared) (a:St) (H:Hp) (x:V) (xs:List V) (v:Value) (us:List Value) (Q:VK),Inv X pins a H s->RelV x v->Vals xs us->r x xs H Q ->
  wpAny 05 X.A (call (.builtin id) (v::us)) (EP X pins a Q) X.xe s
section
variable{X:Cx}{a b:Expr}{ta tb:TE}{pos:Pos}
theorem IxR.or(h:IxR X r)(h':IxR X e):IxR X (λx y H Q=>r x y H Q\/e x y H Q):=by
 intro c d pins s f H x y v u Q I rx i q j;rcases q with q|q
 .exact h c d pins s f H x y v u Q I rx i q j
 .exact h' c d pins s f H x y v u Q I rx i q j
theorem qfU(c:IxR X r)(ha:PE X a ta)(d:PE X b tb)(e:PlainIx b):PE X (.Subscript a b pos) (tOp r ta tb):=by
 intro pins s f H Q I h;exact Subscript_ (binT ha d I h λv u s2 x y H2 i rx j q=>c a b pins s2 f H2 x y v u Q i rx j q (e _ _))
noncomputable def rIxL(K:07):R2:=λx y H Q=>∃p xs i v,x=.ref p/\y=.int i/\SqL K H p xs/\atI xs i=some v/\Q v H
noncomputable def rIxT(K:07):R2:=λx y H Q=>∃p xs i v,x=.ref p/\y=.int i/\SqT K H p xs/\atI xs i=some v/\Q v H
theorem qdH:IxR X (rIxL X.K):=by
 intro d e pins s n H x y v u Q I rx C h o;obtain⟨p,xs,i,z,rfl,rfl,E,F,q⟩:=h;cases rx;obtain⟨t,rfl⟩:=C;obtain⟨f,r,pl,hz⟩:=I.list E;obtain⟨j,c,J,O,L,M⟩:=qdG F;obtain⟨w,A,l⟩:=r.get J;have N:=r.length;have hn:=line63;have fin:EP X pins n Q w s:=⟨z,H,I,l,q⟩;by_cases B:0<=i
 .have m:i.toNat=j:=by
   rw[seqIndex_of B M]at c;exact Option.some.inj c
  exact item_listR pl.isList B 00 (by rw[m];simpa using A) fin o
 .have m:(i+(f.toArray.size:Int)).toNat=j:=by
   rw[seqIndex_neg 00 L]at c;rw[wI,<-N];exact Option.some.inj c
  exact subscriptTail_builtinR (x:=w) pl.isList.typeIs slot_list_getitem.lookup
   (wpAny_getItem_list_neg (Q:=λr s'=>r=w/\EP X pins n Q r s') pl.isList 00 (by rw[wI] <;> lia) 00 (by rw[m];simpa using A) ⟨rfl,fin⟩) o
theorem qfV:IxR X (rIxT X.K):=by
 intro c d pins s f H x y v u Q I rx l h m;obtain⟨p,xs,i,z,rfl,rfl,n,o,q⟩:=h;cases rx;obtain⟨t,rfl⟩:=l;obtain⟨A,r,pl,hz⟩:=I.tuple n;obtain⟨j,B,C,J,L,M⟩:=qdG o;obtain⟨w,E,e⟩:=r.get C;have F:=r.length;have hn:=line63;have fin:EP X pins f Q w s:=⟨z,H,I,e,q⟩;exact subscriptTail_builtinR (x:=w) pl.typeIs slot_tuple_getitem.lookup
  (getItem_tuple (j:=j) (Q:=λr s'=>r=w/\EP X pins f Q r s') pl 00 00 (by rw[wI,<-F];exact B) (by simpa using E) ⟨rfl,fin⟩) m
theorem qcX(c:List Value)(n j:Nat)(u:Value):Obj.mapSeq (·.setIfInBounds j u) {cls:=.type "list",data:=.seq c.toArray n}={cls:=.type "list",data:=.seq (c.set j u).toArray n}:=by
 simp[Obj.mapSeq]
theorem Inv.lst(I:Inv X pins d H s)(h:H p=some (.l xs)):
  ∃(c:List Value) (n:Nat),Vals xs c/\s.heap.get? p=some {cls:=.type "list",data:=.seq c.toArray n}/\xs.length<=sizeLine:=by
 obtain⟨z,c,n,r,e⟩:=I.hok p _ h;exact⟨c,n,r,e,z⟩
theorem Inv.lstUpd{c its':List Value}{n d:Nat}(I:Inv X pins i H s)(h:H p=some (.l xs))(l:s.heap.get? p=some {cls:=.type "list",data:=.seq c.toArray n})(j:f {cls:=.type "list",data:=.seq c.toArray n}={cls:=.type "list",data:=.seq its'.toArray d})(r:Vals ys its')(hz:ys.length<=sizeLine)(t:Nat):
  Inv X pins i (upd H p (.l ys)) {s with heap:=s.heap.update p f,toks:=t}:=by
 have e:(s.heap.update p f).get? p=some {cls:=.type "list",data:=.seq its'.toArray d}:=by
  rw[w9 f l (by rw[j] <;> rfl),j]
 refine I.write (x:=p) (e:=p) (by rw[h];trivial) (.inl rfl) (λb u m q=>(wJ _ _ (Ne.symm m)).trans q) ⟨_,e⟩ ?_;exact⟨hz,its',d,r,e⟩
noncomputable def rSetL:V->V->V->Hp->(Hp->Prop)->Prop:=λo i v H Q=>∃p xs k j,o=.ref p/\i=.int k/\H p=some (.l xs)/\ixN xs.length k=some j/\Q (upd H p (.l (xs.set j v)))
theorem qfW:PSet X rSetL:=by
 intro pins s A H o i v F J u Q I B ri C h;obtain⟨p,xs,k,j,rfl,rfl,m,E,q⟩:=h;cases B;obtain⟨t,rfl⟩:=ri;obtain⟨c,n,r,e,hz⟩:=I.lst m;obtain⟨d,K,w,x⟩:=qdF E;have f:=r.length;have hn:=line63;have y:Inv X pins A (upd H p (.l (xs.set j v))) {s with heap:=s.heap.update p (Obj.mapSeq (·.setIfInBounds j u))} :=
  I.lstUpd m e (qcX c n j u) (r.set C j) (by rw[List.length_set];exact hz) s.toks
 by_cases z:0<=k
 .have l:k.toNat=j:=by
   rw[seqIndex_of z x]at d;exact Option.some.inj d
  exact PySem.W.ki_setAt e z 00 (by rw[wI,<-f];exact x) (by rw[l];exact⟨_,y,q⟩)
 .have l:(k+(c.toArray.size:Int)).toNat=j:=by
   rw[seqIndex_neg 00 w]at d;rw[wI,<-f];exact Option.some.inj d
  exact PySem.W.ki_setBack e 00 (by rw[wI,<-f];exact w) 00 (by rw[l];exact⟨_,y,q⟩)
theorem qa6(lo hi:Option Int)(n:Nat):(sliceBounds lo hi none n).1=((HT.sIx n 0 lo:Nat):Int)/\(sliceBounds lo hi none n).2.1=((HT.sIx n n hi:Nat):Int)/\(sliceBounds lo hi none n).2.2=1:=by
 refine⟨?_,?_,rfl⟩
 .cases lo with
  |none=>simp[sliceBounds,HT.sIx]
  |some i =>
   simp only[sliceBounds,HT.sIx,Option.getD_none,show(1:Int)>0 by decide,vo];by_cases h:i<0
   .simp only[h,vo] <;> lia
   .simp only[h,uG] <;> lia
 .cases hi with
  |none=>simp[sliceBounds,HT.sIx]
  |some i =>
   simp only[sliceBounds,HT.sIx,Option.getD_none,show(1:Int)>0 by decide,vo];by_cases h:i<0
   .simp only[h,vo] <;> lia
   .simp only[h,uG] <;> lia
theorem qay(c:List Value)(lo hi:Option Int):slicePick c.toArray lo hi none=((c.drop (HT.sIx c.length 0 lo)).take (HT.sIx c.length c.length hi-HT.sIx c.length 0 lo)).toArray:=by
 obtain⟨d,e,f⟩:=qa6 lo hi c.toArray.size;unfold slicePick;rw[d,e,f];simp only[sliceRange_one,pick_run,wI] <;> rfl
def rSlL(K:07):V->Option Int->Option Int->Hp->VK->Prop:=λx lo hi H Q=>∃a xs,x=.ref a/\SqL K H a xs/\∀p,H p=none->Q (.ref p) (upd H p (.l (cutV xs lo hi)))
theorem qis:SlR X (rSlL X.K):=by
 intro pins s j H x v l m lo hi sl Q I rx e pl f h;obtain⟨a,xs,rfl,hx,q⟩:=h;cases rx;obtain⟨i,r,d,hz⟩:=I.list hx;have c:=r.length;refine⟨"list",_,slot_list_getitem.lookup,d.isList.typeIs,?_⟩;refine wpAny_getItem_list_slice d.isList e pl f .none 02 ?_ (by rw[wI] <;> lia);rw[qay,<-c];refine⟨.ref s.heap.objs.size,_,I.laid (t':=s.toks) (o:=.l (cutV xs lo hi)) (λb ob q=>wB _ q) (wG _) ?_,rfl,q _ (I.hok.fresh (wG _))⟩;exact⟨vG (jD xs lo hi) hz,_,0,(r.drop (HT.sIx xs.length 0 lo)).take (HT.sIx xs.length xs.length hi-HT.sIx xs.length 0 lo),wE _ rfl⟩
noncomputable def flatV:V->Bool
 | .non=>true
 | .bl _=>true
 | .int _=>true
 | .str _=>true
 |_=>false
noncomputable def eqV:V->V->Bool
 | .non,.non=>true
 | .bl a,.bl b=>a == b
 | .bl a,.int b=>(if a then 1 else 0) == b
 | .int a,.bl b=>a == (if b then 1 else 0)
 | .int a,.int b=>a == b
 | .str a,.str b=>a == b
 |_,_=>false
theorem qkq(c:RelV y u)(rx:RelV x v)(e:flatV y=true)(d:flatV x=true):SeqAt.EqAt A s u v (eqV y x):=by
 cases y with
 |non =>
  cases c;cases x with
  |non=>cases rx;exact SeqAt.EqAt.same _
  |bl b=>cases rx;exact SeqAt.EqAt.none_bool b
  |int b=>obtain⟨t,rfl⟩:=rx;exact SeqAt.EqAt.none_int b t
  |str b=>obtain⟨t,rfl⟩:=rx;exact SeqAt.EqAt.none_str b t
  |_=>exact absurd (show false=true from d) wZ
 |bl a =>
  cases c;cases x with
  |non=>cases rx;exact SeqAt.EqAt.bool_none a
  |bl b=>cases rx;exact SeqAt.EqAt.bool_bool a b
  |int b=>obtain⟨t,rfl⟩:=rx;exact SeqAt.EqAt.bool_int a b t
  |str b=>obtain⟨t,rfl⟩:=rx;exact SeqAt.EqAt.bool_str a b t
  |_=>exact absurd (show false=true from d) wZ
 |int a =>
  obtain⟨t',rfl⟩:=c;cases x with
  |non=>cases rx;exact SeqAt.EqAt.int_none a t'
  |bl b=>cases rx;exact SeqAt.EqAt.int_bool a t' b
  |int b=>obtain⟨t,rfl⟩:=rx;exact SeqAt.EqAt.int_int a t' b t
  |str b=>obtain⟨t,rfl⟩:=rx;exact SeqAt.EqAt.int_str a t' b t
  |_=>exact absurd (show false=true from d) wZ
 |str a =>
  obtain⟨t',rfl⟩:=c;cases x with
  |non=>cases rx;exact SeqAt.EqAt.str_none a t'
  |bl b=>cases rx;exact SeqAt.EqAt.str_bool a t' b
  |int b=>obtain⟨t,rfl⟩:=rx;exact SeqAt.EqAt.str_int a t' b t
  |str b=>obtain⟨t,rfl⟩:=rx;exact SeqAt.EqAt.str_str a t' b t
  |_=>exact absurd (show false=true from d) wZ
 |_=>exact absurd (show false=true from e) wZ
noncomputable def eqU(x:V)(u:Value):Bool:=match u with
 | .none=>eqV .non x
 | .bool b=>eqV (.bl b) x
 | .int i _=>eqV (.int i) x
 | .str z _=>eqV (.str z) x
 |_=>false
theorem qfX(r:RelV y u)(f:flatV y=true):eqU x u=eqV y x:=by
 cases y with
 |non=>cases r;rfl
 |bl b=>cases r;rfl
 |int i=>obtain⟨t,rfl⟩:=r;rfl
 |str z=>obtain⟨t,rfl⟩:=r;rfl
 |_=>exact absurd (show false=true from f) wZ
theorem y6:∀{xs:List V} {us:List Value},Vals xs us->xs.all flatV=true->us.any (eqU x)=xs.any λy=>eqV y x
 |_,_,.nil,_=>rfl
 |y::xs,u::us,.cons r t,f=>by
  rw[va,wK]at f;rw[uT,uT,qfX r f.1,y6 t f.2]
theorem yp(rx:RelV x v)(d:flatV x=true):∀{xs:List V} {us:List Value},Vals xs us->xs.all flatV=true->∀u∈us,SeqAt.EqAt A s u v (eqU x u)
 |_,_,.nil,_=>λu c=>by cases c
 |y::xs,u::us,.cons r t,f=>λe c=>by
  rw[va,wK]at f;rcases wQ.mp c with rfl|c
  .rw [qfX r f.1];exact qkq r rx f.1 d
  .exact yp rx d t f.2 e c
noncomputable def inV(x:V)(xs:List V):Bool:=xs.any λy=>eqV y x
noncomputable def rIn(K:07)(c:Bool):R2:=λx y H Q=>∃p xs,y=.ref p/\(SqL K H p xs\/SqT K H p xs)/\flatV x=true/\xs.all flatV=true/\Q (.bl (if c then !inV x xs else inV x xs)) H
theorem qeX:OpR X (compareOp .In) (rIn X.K false):=by
 intro pins s j H x y v u Q I rx i h;obtain⟨p,xs,rfl,d,f,fs,q⟩:=h;cases i;rcases d with d|d
 .obtain ⟨c,r,pl,hz⟩:=I.list d
  refine SeqAt.in_listAt (eqU x) pl.isList (λw e=>yp rx f r fs w (by simpa using e)) ⟨.bl _,H,I,rfl,?_⟩;rw[show c.toArray.any (eqU x)=c.any (eqU x) by simp,y6 r fs];exact q
 .obtain ⟨c,r,pl,hz⟩:=I.tuple d
  refine SeqAt.in_tupleAt (eqU x) pl (λw e=>yp rx f r fs w (by simpa using e)) ⟨.bl _,H,I,rfl,?_⟩;rw[show c.toArray.any (eqU x)=c.any (eqU x) by simp,y6 r fs];exact q
theorem CallR.or(h:CallR X f r)(h':CallR X f c):CallR X f (λxs H Q=>r xs H Q\/c xs H Q):=by
 intro pins s d H xs us Q I e q;rcases q with q|q
 .exact h pins s d H xs us Q I e q
 .exact h' pins s d H xs us Q I e q
theorem qa8:CallR X (.type "list") (λxs H Q=>∃p ys,xs=[.ref p]/\(SqL X.K H p ys\/SqT X.K H p ys)/\∀l,H l=none->Q (.ref l) (upd H l (.l ys))):=by
 intro pins s x H xs us Q I r h;obtain⟨p,ys,rfl,i,q⟩:=h;obtain⟨u,rfl,rx⟩:=vals1 r;cases rx;have fin:∀(c:List Value),Vals ys c->ys.length<=sizeLine->∀(h':Heap) (d:Nat),(∀b o',s.heap.get? b=some o'->h'.get? b=some o') ->
   h'.get? s.heap.objs.size=some {cls:=.type "list",dict:=none,data:=.seq c.toArray d,slots:=#[]}->EP X pins x Q (.ref s.heap.objs.size) {s with heap:=h' }:=λc f hz h' d kp e =>
  ⟨.ref s.heap.objs.size,_,I.laid (t':=s.toks) kp (wG _) (show ObjOk X.prog X.w _ h' _ (.l ys)from⟨hz,c,d,f,e⟩),rfl,q _ (I.hok.fresh (wG _))⟩
 rcases i with i|i
 .obtain ⟨c,f,pl,hz⟩:=I.list i
  have j:=f.length;obtain⟨o,m,v,n,hd⟩:=pl.isList;exact call_list_seq p (.inl rfl) m v hd (λh' d kp e=>fin c f hz h' d kp e) (by simp only[wI] <;> lia)
 .obtain ⟨c,f,pl,hz⟩:=I.tuple i
  have j:=f.length;obtain⟨o,m,v,n,hd⟩:=pl;exact call_list_seq p (.inr rfl) m v hd (λh' d kp e=>fin c f hz h' d kp e) (by simp only[wI] <;> lia)
theorem qaz:CallR X (.type "tuple") (λxs H Q=>∃p ys,xs=[.ref p]/\((SqL X.K H p ys/\∀l,H l=none->Q (.ref l) (upd H l (.t ys)))\/(SqT X.K H p ys/\Q (.ref p) H))):=by
 intro pins s i H xs us Q I r h;obtain⟨p,ys,rfl,h⟩:=h;obtain⟨u,rfl,rx⟩:=vals1 r;cases rx;rcases h with ⟨d,q⟩|⟨d,q⟩
 .obtain ⟨c,f,pl,hz⟩:=I.list d
  have j:=f.length;refine call_tuple_list pl.isList (λh' kp=>?_) (by simp only[wI] <;> lia);have m:Inv X pins i H {s with heap:=h' }:=I.kept (t':=s.toks) kp;have n:Inv X pins i (upd H h'.objs.size (.t ys)) {s with heap:=h'.push {cls:=.type "tuple",data:=.seq c.toArray}} :=
   m.laid (t':=s.toks) (λb o e=>wB _ e) (wG _) (show ObjOk X.prog X.w _ _ _ (.t ys)from⟨hz,c,f,IsTup.new _ _,yF _ _⟩)
  exact⟨.ref h'.objs.size,_,n,rfl,q _ (m.hok.fresh (wG _))⟩
 .obtain ⟨c,f,pl,hz⟩:=I.tuple d
  exact call_tuple_same pl ⟨.ref p,H,I,rfl,q⟩
def tyV(K:07)(T:String)(x:V)(H:Hp):Prop:=match x with
 | .str _=>T="str"
 | .int _=>T="int"
 | .ref p=>(T="list"/\∃xs,SqL K H p xs)\/(T="tuple"/\∃o,K.lookup p=some o/\o.cls=.type "tuple"/\o.dict=none) \/
   (T="dict"/\((∃kvs,H p=some (.dK kvs))\/∃kvs,H p=some (.dT kvs)))\/(T="set"/\∃S n,H p=some (.set S n))
 |_=>False
theorem qkr(I:Inv X pins h H s)(r:RelV x v)(ty:tyV X.K T x H):
  s.TypeIs v T/\∀a,v=.ref a->∃ob,s.heap.get? a=some ob/\ob.dict=none:=by
 cases x with
 |str z =>
  obtain⟨t,rfl⟩:=r;cases (show T="str" from ty);exact⟨typeIs_str s z t,λ_ e=>nomatch e⟩
 |int i =>
  obtain⟨t,rfl⟩:=r;cases (show T="int" from ty);exact⟨xR s i t,λ_ e=>nomatch e⟩
 |ref p =>
  cases r;rcases ty with ⟨rfl,xs,j⟩|⟨rfl,o,d,hc,hd⟩|⟨rfl,d⟩|⟨rfl,S,n,d⟩
  .obtain ⟨l,_,pl,_⟩:=I.list j
   refine⟨pl.isList.typeIs,λa e=>?_⟩;cases e;obtain⟨o,n,e,c,hd,_⟩:=pl;exact⟨o,e,hd⟩
  .refine ⟨⟨o,I.kIn p o d,hc⟩,λa e=>?_⟩
   cases e;exact⟨o,I.kIn _ o d,hd⟩
  .have z:∃o,s.heap.get? p=some o/\o.ExactDict:=by
    rcases d with ⟨kvs,d⟩|⟨kvs,d⟩
    .obtain ⟨_,_,_,_,o,_,_,e,ex,_⟩:=I.hok p _ d
     exact⟨o,e,ex⟩
    .obtain ⟨_,_,_,_,o,_,_,e,ex,_⟩:=I.hok p _ d
     exact⟨o,e,ex⟩
   obtain⟨o,e,ex⟩:=z;refine⟨⟨o,e,ex.1⟩,λa f=>?_⟩;cases f;exact⟨o,e,ex.2.1⟩
  .obtain ⟨o,_,_,_,e,ex,_⟩:=I.hok p _ d
   refine⟨⟨o,e,ex.1⟩,λa f=>?_⟩;cases f;exact⟨o,e,ex.2.1⟩
 |_=>exact False.elim ty
noncomputable def tBM(K:07)(T:String)(r:V->List V->Hp->VK->Prop)(e:TE)(t:TA):TE:=λc H Q=>e c H λx d=>tyV K T x d/\t c d λxs H2=>r x xs H2 Q
variable{o e:Expr}{es:List Expr}{to:TE}{t:TA}{name:Str}{apos cpos:Pos}{T id:String}{r:V->List V->Hp->VK->Prop}
theorem ql4(q:PlainAttrs T)(slot:Slot T name id)(j:typeOf (.builtin id)=pure (.type "method_descriptor"))(hm:MtR X id r)(u:PE X o to)(ha:PA X (e::es) t)(d:attributeBase o name X.env (eval o X.env)=eval o X.env:=by rfl)(i:((backTo cpos (starEach (e::es) X.env)).all (λx=>!x.1)&&(backToKw cpos (keywordEach [] X.env)).all (λx=>x.1.isSome)
   && decide ((e::es).length+([]:List Keyword).length+(if([]:List Keyword).isEmpty then 0 else 1)<30))=true:=by rfl)(f:(apos.endLine == cpos.line)=true:=by rfl)(w:starEach (e::es) X.env=(false,eval e X.env)::starEach es X.env:=by rfl)(c:(backTo cpos (starEach es X.env)).any (·.1)=false:=by rfl):
  PE X (.Call (.Attribute o name apos) (e::es) [] cpos) (tBM X.K T r to t):=by
 intro pins s l H Q I h;refine wpAny_Call_method_late d i f rfl (thn (u pins s l H _ I h) λv s1 ⟨x,y,m,n,ty,q1⟩=>?_);obtain⟨z,A⟩:=qkr m n ty;refine⟨T,id,q,slot,j,z,A,?_⟩;have p:=ha cpos pins s1 l y _ m q1;rw[w]at p ⊢;refine Calls.callWith_builtin (by show(false || (backTo cpos (starEach es X.env)).any (·.1))=false;rw[c] <;> rfl) (Calls.evalArgs_plain ?_);exact thn p λus s2 ⟨vs,H2,B,C,q2⟩=>hm pins s2 l H2 x vs v us Q B n C q2
end
noncomputable def MtM(X:Cx)(id:String)(r:V->List V->Hp->VK->Prop):Prop :=
 ∀(pins:001) (s:Shared) (a:St) (H:Hp) (x:V) (xs:List V) (v:Value) (us:List Value) (Q:VK),Inv X pins a H s->RelV x v->Vals xs us->r x xs H Q ->
  wpAny 05 X.A (call (.builtin id) (v::us)) (EP X pins a Q) X.xe s
def Vals.one:∀{x:V} {us:List Value},Vals [x] us->∃u,us=[u]/\RelV x u
 |_,_,.cons r .nil=>⟨_,rfl,r⟩
def Vals.eraseIdx:∀{xs:List V} {us:List Value} (i:Nat),Vals xs us->Vals (xs.eraseIdx i) (us.eraseIdx i)
 |_,_,_,.nil=>.nil
 |_,_,0,.cons _ t=>t
 |_,_,i+1,.cons r t=>.cons r (Vals.eraseIdx i t)
def Vals.rep(h:Vals xs us):∀k:Nat,Vals (List.replicate k xs).flatten (List.replicate k us).flatten
 |0=>.nil
 |k+1=>by
  rw[vg,vg,u7,u7];exact Vals.append h (Vals.rep h k)
def qaK{a:Type}:∀(l:List a) (i:Nat),(l.eraseIdx i).length<=l.length
 |[],_=>wG _
 |_::_,0=>u0 _
 |_::r,i+1=>Nat.succ_le_succ (qaK r i)
def jq(a:List Value):∀(k:Nat) (b:List Value),
  List.foldl (λc d=>c++d) b.toArray (List.replicate k a.toArray)=(b++(List.replicate k a).flatten).toArray
 |0,b=>by simp
 |k+1,b=>by
  have e:b.toArray++a.toArray=(b++a).toArray:=by simp
  have f:(b++a)++(List.replicate k a).flatten=b++(List.replicate (k+1) a).flatten:=by
   rw[vg,u7,u9]
  rw[<-f,<-jq a k (b++a),<-e,vg,xW]
section
variable{X:Cx}{pins:List (Addr×Obj)}{σ:St}{H:Hp}{s:Shared}{l b:Addr}{xs ys zs:List V}
theorem Inv.lset{a its':List Value}{n:Nat}{t':Nat}(I:000)(c:H l=some (.l xs))(e:s.heap.get? l=some {cls:=.type "list",data:=.seq a.toArray n})(d:f a.toArray=its'.toArray)(h:Vals ys its')(hz:ys.length<=sizeLine):
  Inv X pins σ (upd H l (.l ys)) {s with heap:=s.heap.update l (Obj.mapSeq f),toks:=t' }:=by
 have q:=PySem.IsL.update e f;rw[d]at q;refine I.write (x:=l) (e:=l) (by rw[c];exact trivial) (.inl rfl) (λm u i j=>(wJ s.heap (Obj.mapSeq f) (Ne.symm i)).trans j) ⟨_,q⟩ ?_;exact⟨hz,its',_,h,q⟩
theorem Inv.lnew{t':Nat}(I:000)(c:Vals ys a)(hz:ys.length<=sizeLine):
  Inv X pins σ (upd H s.heap.objs.size (.l ys)) {s with heap:=s.heap.push {cls:=.type "list",data:=.seq a.toArray},toks:=t' } :=
 I.laid (λ_ _ q=>wB _ q) (wG _) ⟨hz,a,0,c,wE _ rfl⟩
theorem Inv.fresh(I:000):H s.heap.objs.size=none:=I.hok.fresh (wG _)
theorem Inv.lstM(I:000)(c:H l=some (.l xs)):xs.length<=sizeLine/\∃(a:List Value) (n:Nat),Vals xs a/\xs.length=a.length/\s.heap.get? l=some {cls:=.type "list",data:=.seq a.toArray n}:=by
 obtain⟨z,a,n,r,e⟩:=I.hok l _ c;exact⟨z,a,n,r,r.length,e⟩
theorem notLongL{n:Nat}(h:n<=sizeLine):Builtin.List.listTooLong n=false:=by
 unfold Builtin.List.listTooLong;exact wa 00
end
section
variable{X:Cx}
def rAppend:V->List V->Hp->VK->Prop:=λx vs H Q=>∃l xs y,x=.ref l/\vs=[y]/\H l=some (.l xs)/\xs.length<sizeLine/\Q .non (upd H l (.l (xs++[y])))
theorem qaL:MtM X "list.append" rAppend:=by
 intro pins s f H x vs v us Q I rx c h;obtain⟨l,xs,y,rfl,rfl,b,hz,q⟩:=h;cases rx;obtain⟨u,rfl,d⟩:=c.one;obtain⟨z,a,n,r,i,e⟩:=I.lstM b;refine uN F.slot_list_append ⟨_,e,rfl⟩ F.entry_list_append (F.args_list_append_2 _ _) (PySem.list_append l a.toArray n u (by rw[wI];lia)) ⟨e,?_⟩;refine⟨.non,_,I.lset (its':=a++[u]) b e 02 (r.append (.cons d .nil)) ?_,rfl,q⟩;rw[wm,xE];lia
def rPopAt:V->List V->Hp->VK->Prop:=λx vs H Q=>∃l xs i k y,x=.ref l/\vs=[.int i]/\H l=some (.l xs)/\-(2^63)<=i/\i<2^63/\seqIndex? i xs.length=some k/\xs[k]?=some y/\Q y (upd H l (.l (xs.eraseIdx k)))
theorem qfY:MtM X "list.pop" rPopAt:=by
 intro pins s C H x vs v us Q I rx d h;obtain⟨l,xs,i,k,y,rfl,rfl,c,f,j,m,o,q⟩:=h;cases rx;obtain⟨u,rfl,p⟩:=d.one;obtain⟨t,rfl⟩:=p;obtain⟨z,a,n,r,A,e⟩:=I.lstM c;obtain⟨w,B,b⟩:=r.get o;refine uN F.slot_list_pop ⟨_,e,rfl⟩ F.entry_list_pop (F.args_list_pop_2 _ _)
  (MeetsSeq.list_pop_at l a.toArray n i t k w (fitsIndex_both f j) (by rw[wI,<-A];exact m) (by rw[<-vI];exact B) (by rw[wI];lia)) ⟨e,?_⟩
 refine⟨y,_,I.lset (its':=a.eraseIdx k) c e ?_ (r.eraseIdx k) ?_,b,q⟩
 .show a.toArray.eraseIdxIfInBounds k=(a.eraseIdx k).toArray
  rw[List.eraseIdxIfInBounds_toArray]
 .have:=qaK xs k
  lia
theorem qa9{a:Type}(xs:List a)(k:Nat):(List.replicate k xs).flatten.length=k*xs.length:=by
 induction k with
 |zero=>simp
 |succ k b=>rw[vg,u7,wm,b,Nat.succ_mul,Nat.add_comm]
end
section
variable{prog:Program}{w:World}{A:Around}{E:Value->Shared->Prop}{s:Shared}
set_option maxRecDepth 100000 in
end
section
variable{κ:Type}[DecidableEq κ]
noncomputable def valV(kvs:List (κ×V))(k:κ):Option V:=(kvs.find? λa=>decide (a.1=k)).map (·.2)
noncomputable def putK(kvs:List (κ×V))(k:κ)(v:V):List (κ×V) :=
 if(kvs.any λa=>decide (a.1=k))=true then kvs.map (λa=>if a.1=k then(a.1,v)else a)else kvs++[(k,v)]
theorem y7{p:κ×V}(e:p.1=k):valV (p::r) k=some p.2:=by simp[valV,uw,e]
theorem y8{p:κ×V}(e:¬p.1=k):valV (p::r) k=valV r k:=by simp[valV,uw,e]
theorem qbT(k:κ):∀kvs:List (κ×V),(kvs.any λa=>decide (a.1=k))=(valV kvs k).isSome
 |[]=>rfl
 |p::r=>by
  rw[uT];by_cases e:p.1=k
  .simp only[y7 e,w4 e,Bool.true_or,Option.isSome_some]
  .rw [y8 e,wa e,Bool.false_or];exact qbT k r
theorem zO(kvs:List (κ×V))(k:κ)(v:V):(putK kvs k v).length<=kvs.length+1:=by
 unfold putK;split
 .rw [wH];lia
 .rw [wm,w8,ws];lia
theorem RelO.isSome_eq(r:RelO o u):o.isSome=u.isSome:=by
 cases o with
 |none=>cases u with
  |none=>rfl
  |some _=>exact(show False from r).elim
 |some _=>cases u with
  |none=>exact(show False from r).elim
  |some _=>rfl
theorem KV.val(r:KV kvs vs)(k:κ):RelO (valV kvs k) (valueAt vs k):=by
 unfold KV at r;induction r with
 |nil=>exact True.intro
 | @cons p q ps a h t d =>
  obtain⟨c,f⟩:=h;by_cases e:p.1=k
  .have e':q.1=k:=c.symm.trans e
   have b:valueAt (q::a) k=some q.2:=by simp[valueAt,uw,e']
   rw[y7 e,b];exact f
  .have e':¬q.1=k:=λz=>e (c.trans z)
   have b:valueAt (q::a) k=valueAt a k:=by simp[valueAt,uw,e']
   rw[y8 e,b];exact d
theorem KV.any(r:KV kvs vs)(k:κ):(kvs.any λa=>decide (a.1=k))=vs.any λa=>decide (a.1=k):=by
 unfold KV at r;induction r with
 |nil=>rfl
 |cons h t b=>rw[uT,uT,b,h.1]
theorem KV.repl(r:KV kvs vs)(k:κ)(c:RelV y u):
  KV (kvs.map λa=>if a.1=k then(a.1,y)else a) (vs.map λa=>if a.1=k then(a.1,u)else a):=by
 unfold KV at r ⊢;induction r with
 |nil=>exact .nil
 | @cons p q ps i h t d =>
  rw[wS,wS];refine .cons ?_ d;obtain⟨b,f⟩:=h;by_cases e:p.1=k
  .rw [wM e,wM (b.symm.trans e)];exact⟨b,c⟩
  .rw [wN e,wN (λz=>e (b.trans z))];exact⟨b,f⟩
theorem KV.put(r:KV kvs vs)(k:κ)(a:RelV y u):KV (putK kvs k y) (stored vs k u):=by
 unfold putK stored;rw[r.any k];by_cases e:(vs.any λb=>decide (b.1=k))=true
 .rw [wM e,wM e];exact r.repl k a
 .rw [wN e,wN e];exact Paired.snoc r ⟨rfl,a⟩
theorem KV.length(r:KV kvs vs):kvs.length=vs.length:=Paired.length r
end
def qdI(r:RelV (kV k) u):(mixKind P w).is k u=true:=by
 cases k with
 |inl i=>obtain⟨t,e⟩:=(show ∃t,u=Value.int i t from r);subst e;exact qbO P w i t
 |inr x=>obtain⟨t,e⟩:=(show ∃t,u=Value.str x t from r);subst e;exact qbP P w x t
def qaM:∀{ks:List Key} {us:List Value},Vals (ks.map kV) us->ItemsAre (mixKind P w) ks us
 |[],_,r=>by rw[gC]at r;cases r;exact .nil
 |k::ks,_,r=>by
  rw[wS]at r;cases r with
  |cons h t=>exact .cons (qdI h) (qaM t)
noncomputable abbrev KT(H:Hp):List (List Key×V)->List (List Key×Addr×Value)->Prop:=Paired λp q=>p.1=q.1/\H q.2.1=some (.t (p.1.map kV))/\RelV p.2 q.2.2
def KT.val(r:KT H kvs xs)(k:List Key):RelO (valV kvs k) ((atKey xs k).map (·.2)):=by
 induction r with
 |nil=>exact True.intro
 | @cons p q ps a h t d =>
  obtain⟨c,_,f⟩:=h;by_cases e:p.1=k
  .have e':q.1=k:=c.symm.trans e
   have b:atKey (q::a) k=some q.2:=by simp[atKey,uw,e']
   rw[y7 e,b];exact f
  .have e':¬q.1=k:=λz=>e (c.trans z)
   have b:atKey (q::a) k=atKey a k:=by simp[atKey,uw,e']
   rw[y8 e,b];exact d
def KT.repl(r:KT H kvs xs)(k:List Key)(d:RelV y u):
  KT H (kvs.map λb=>if b.1=k then(b.1,y)else b) (xs.map (putAt k u)):=by
 induction r with
 |nil=>exact .nil
 | @cons p q ps j h t f =>
  rw[wS,wS];refine .cons ?_ f;obtain⟨a,c,i⟩:=h;unfold putAt;by_cases e:p.1=k
  .rw [wM e,wM (a.symm.trans e)];exact⟨a,c,d⟩
  .rw [wN e,wN (λz=>e (a.trans z))];exact⟨a,c,i⟩
def KT.put(r:KT H kvs xs)(k:List Key)(c:H b=some (.t (k.map kV)))(a:RelV y u):
  KT H (putK kvs k y) (storedH xs k b u):=by
 have e:(kvs.any λd=>decide (d.1=k))=(atKey xs k).isSome:=by
  rw[qbT,(r.val k).isSome_eq,Option.isSome_map]
 unfold putK storedH;rw[e];by_cases q:(atKey xs k).isSome=true
 .rw [wM q,wM q];exact r.repl k a
 .rw [wN q,wN q];exact Paired.snoc r ⟨rfl,c,a⟩
def KT.keeps(r:KT H kvs xs)(a:∀b ys,H b=some (.t ys)->H' b=some (.t ys)):KT H' kvs xs :=
 Paired.mapP r λ_ _ z=>⟨z.1,a _ _ z.2.1,z.2.2⟩
section
variable{P:Program}{w:World}{H:Hp}{h:Heap}{a:Addr}
theorem qjB(ok:HOk P w H h)(e:Rd H a u):ObjOk P w H h a u:=e.ok ok
theorem qdJ(ok:HOk P w H h)(e:Rd H a (.dK kvs)):kvs.length<=sizeLine/\(a == sysModules)=false/\∃vs,KV kvs vs/\h.DictOf (mixKind P w) a vs :=
 show ObjOk P w H h a (.dK kvs)from qjB ok e
theorem qjC(ok:HOk P w H h)(e:H a=some (.dK kvs)):kvs.length<=sizeLine/\(a == sysModules)=false/\∃vs,KV kvs vs/\h.DictOf (mixKind P w) a vs:=qdJ ok (.inl e)
theorem qcY{ks:List Key}(ok:HOk P w H h)(e:H a=some (.t (ks.map kV))):(tupleKind (mixKind P w)).is h ks a:=by
 obtain⟨_,b,r,⟨o,c,d,n,f⟩,_⟩:=(show ObjOk P w H h a (.t (ks.map kV))from ok a _ e);exact⟨o,b.toArray,n,c,d,f,by simpa using qaM r⟩
theorem qdK(ok:HOk P w H h)(e:Rd H a (.dT kvs)):kvs.length<=sizeLine/\(a == sysModules)=false /\
  ∃xs,KT H kvs xs/\h.DictOfH (tupleKind (mixKind P w)) a xs:=by
 obtain⟨z,y,xs,r,o,es,ep,c,d,f,i,j⟩:=(show ObjOk P w H h a (.dT kvs)from qjB ok e);refine⟨z,y,xs,r,o,es,ep,c,d,f,i,λx hx=>?_,j⟩;have all:∀{l:List (List Key×V)} {m:List (List Key×Addr×Value)},KT H l m->∀x∈m,(tupleKind (mixKind P w)).is h x.1 x.2.1:=by
  intro l m q;induction q with
  |nil=>intro x hx;exact nomatch hx
  | @cons p q ps s b t n =>
   intro x hx;rcases wQ.mp hx with e|hx
   .subst e
    exact qcY ok (by rw[<-b.1];exact b.2.1)
   .exact n x hx
 exact all r x hx
theorem ql5(ok:HOk P w H h)(e:H a=some (.dT kvs)):kvs.length<=sizeLine/\(a == sysModules)=false /\
  ∃xs,KT H kvs xs/\h.DictOfH (tupleKind (mixKind P w)) a xs:=qdK ok (.inl e)
end
noncomputable def DGet(H:Hp)(a:Addr)(y:V)(r:Option V):Prop :=
 (∃kvs k,Rd H a (.dK kvs)/\y=kV k/\r=valV kvs k)\/∃kvs k b,Rd H a (.dT kvs)/\y=.ref b/\H b=some (.t (k.map kV))/\r=valV kvs k
noncomputable def DPut(H:Hp)(a:Addr)(y v:V)(H':Hp):Prop :=
 (∃kvs k,H a=some (.dK kvs)/\y=kV k/\kvs.length<sizeLine/\H'=upd H a (.dK (putK kvs k v))) \/
 ∃kvs k b,H a=some (.dT kvs)/\y=.ref b/\H b=some (.t (k.map kV))/\kvs.length<sizeLine/\H'=upd H a (.dT (putK kvs k v))
def DGet.k{H:Hp}{a:Addr}{kvs:List (Key×V)}{k:Key}(e:H a=some (.dK kvs)):DGet H a (kV k) (valV kvs k):=.inl ⟨kvs,k,.inl e,rfl,rfl⟩
def DGet.t{k:List Key}(e:H a=some (.dT kvs))(c:H b=some (.t (k.map kV))):DGet H a (.ref b) (valV kvs k):=.inr ⟨kvs,k,b,.inl e,rfl,c,rfl⟩
def DPut.k{H:Hp}{a:Addr}{kvs:List (Key×V)}{k:Key}{v:V}(e:H a=some (.dK kvs))(b:kvs.length<sizeLine):DPut H a (kV k) v (upd H a (.dK (putK kvs k v))):=.inl ⟨kvs,k,e,rfl,b,rfl⟩
def DPut.t{k:List Key}{v:V}(e:H a=some (.dT kvs))(c:H b=some (.t (k.map kV)))(d:kvs.length<sizeLine):
  DPut H a (.ref b) v (upd H a (.dT (putK kvs k v))):=.inr ⟨kvs,k,b,e,rfl,c,d,rfl⟩
section
variable{X:Cx}{pins:List (Addr×Obj)}{σ:St}{H:Hp}{s:Shared}{a:Addr}{y v:V}{u r:Value}{o:Option V}{A:Around}{E:Value->Shared->Prop}
theorem Inv.big(I:000):sysModules<s.heap.objs.size:=by
 have h:mainGlobals<s.heap.objs.size:=(I.mod.glob.keeps I.bk).lt;exact Nat.lt_trans 01 h
theorem qaN(q:A.units+1<cLine)(I:000)(g:DGet H a y (some v))(n:RelV y u)(h:∀f s',Inv X pins σ H s'->RelV v f->Q f s'):
  wpAny 05 A (getItem (.ref a) u) Q E s:=by
 rcases g with ⟨kvs,k,e,i,l⟩|⟨kvs,k,b,e,i,eb,l⟩
 .subst i
  obtain⟨z,hd,vs,c,dd⟩:=qdJ I.hok e;obtain⟨f,j,d⟩:=RelO.some_of (v:=v) (o:=valueAt vs k) (by rw[l];exact c.val k);exact wpAny_getItem_of (qdI n) dd.mapOf j (h f _ (I.tok _) d)
 .subst i
  cases (show u=Value.ref b from n);obtain⟨z,hd,xs,c,dd⟩:=qdK I.hok e;obtain⟨f,j,d⟩:=RelO.some_of (v:=v) (o:=(atKey xs k).map (·.2)) (by rw[l];exact c.val k);obtain⟨p,x,m⟩:=uX.mp j;refine wpAny_getItem_heap (tupleKind_room_in1 q) (qcY I.hok eb) dd x ?_;rw[m];exact h f _ (I.tok _) d
theorem qba{t':Nat}(I:000)(c:Mut (H a))(d:Heap.SameBut a s.heap h')(f:∃q,h'.get? a=some q)(new:ObjOk X.prog X.w (upd H a ob) h' a ob):
  Inv X pins σ (upd H a ob) {s with heap:=h',toks:=t' } :=
 I.write (x:=a) (e:=a) c (.inl rfl) (λb q h z=>(d.2 b h).trans z) f new
theorem qfZ{H':Hp}{h':Heap}{kvs:List (Key×V)}(z:kvs.length<=sizeLine)(hd:(a == sysModules)=false)(b:KV kvs vs)(dd:h'.DictOf (mixKind P w) a vs):
  ObjOk P w H' h' a (.dK kvs):=⟨z,hd,vs,b,dd⟩
theorem qeY(F:A.units+1<cLine)(I:000)(g:DPut H a y v H')(x:RelV y u)(B:RelV v r)(h:∀s',Inv X pins σ H' s'->Q () s'):
  wpAny 05 A (setItem (.ref a) u r) Q E s:=by
 rcases g with ⟨kvs,k,e,j,l,m⟩|⟨kvs,k,b,e,j,eb,l,m⟩
 .subst j m
  obtain⟨z,hd,vs,d,dd⟩:=qjC I.hok e;have hz:vs.length<=sizeLine:=by rw[<-d.length];exact z
  have n:(putK kvs k v).length<=sizeLine:=by have:=zO kvs k v;lia
  refine wpAny_setItem_pairs (hsz:=hz) (qdI x) dd λh' f p=>h _ ?_
  have J:∃q,h'.get? a=some q:=let ⟨q,_,_,i,_⟩:=f;⟨q,i⟩;exact qba I (by rw[e];exact True.intro) p J (qfZ n hd (d.put k B) f)
 .subst j m
  cases (show u=Value.ref b from x);obtain⟨z,hd,xs,d,dd⟩:=ql5 I.hok e;have hz:xs.length<=sizeLine:=by rw[<-Paired.length d];exact z
  have n:(putK kvs k v).length<=sizeLine:=by have:=zO kvs k v;lia
  refine wpAny_setItem_heap (hsz:=hz) (tupleKind_room_in1 F) (qcY I.hok eb) dd λh' f p=>h _ ?_
  obtain⟨q,es,ep,i,K,L,M,_,N⟩:=f;refine qba I (by rw[e];exact True.intro) p ⟨q,i⟩ ⟨n,hd,_,(d.put k eb B).keeps λc ys C=>?_,q,es,ep,i,K,L,M,N⟩;rw[qk (qlU C e (λz=>nomatch z))];exact C
end
def qbU(I:Inv X pins c H s)(g:DGet H a y o):s.TypeIs (.ref a) "dict":=by
 rcases g with ⟨kvs,k,e,_,_⟩|⟨kvs,k,b,e,_,_,_⟩
 .obtain ⟨_,_,vs,_,dd⟩:=qdJ I.hok e
  exact dd.typeIs
 .obtain ⟨_,_,xs,_,dd⟩:=qdK I.hok e
  exact dd.typeIs
def qbV(h:Heap)(a:sysModules<h.objs.size):ObjOk P w H (h.push {cls:=.type "dict",data:=.dict #[]}) h.objs.size (.dK []) :=
 ⟨vN _,vA.mpr (Ne.symm (wT a)),[],.nil,Heap.DictOf.new h⟩
def qf0(h:Heap)(a:sysModules<h.objs.size):ObjOk P w H (h.push {cls:=.type "dict",data:=.dict #[]}) h.objs.size (.dT []) :=
 ⟨vN _,vA.mpr (Ne.symm (wT a)),[],.nil,_,#[],0,wE _ rfl,⟨rfl,rfl,rfl⟩,rfl,rfl,List.nodup_nil⟩
noncomputable def tDNewK:TE:=λ_ H Q=>∀p,H p=none->Q (.ref p) (upd H p (.dK []))
noncomputable def tDNewT:TE:=λ_ H Q=>∀p,H p=none->Q (.ref p) (upd H p (.dT []))
section
variable{X:Cx}{pos:Pos}
theorem qbW:PE X (.Dict [] [] pos) tDNewK:=λpins s b H Q I h =>
 wpAny_Dict_empty ⟨.ref s.heap.objs.size,_,I.laid (a:=s.heap.objs.size) (o:=.dK []) (t':=s.toks) (λ_ _ q=>wB _ q) (wG _) (qbV s.heap I.big),rfl,h _ (I.hok.fresh (wG _))⟩
theorem qf1:PE X (.Dict [] [] pos) tDNewT:=λpins s b H Q I h =>
 wpAny_Dict_empty ⟨.ref s.heap.objs.size,_,I.laid (a:=s.heap.objs.size) (o:=.dT []) (t':=s.toks) (λ_ _ q=>wB _ q) (wG _) (qf0 s.heap I.big),rfl,h _ (I.hok.fresh (wG _))⟩
end
def IsD(H:Hp)(a:Addr):Prop:=(∃kvs,Rd H a (.dK kvs))\/∃kvs,Rd H a (.dT kvs)
def qks(I:Inv X pins h H s)(d:IsD H a):
  s.TypeIs (.ref a) "dict"/\(∀b,Value.ref a=.ref b->∃ob,s.heap.get? b=some ob/\ob.dict=none)/\(a == sysModules)=false:=by
 rcases d with ⟨kvs,e⟩|⟨kvs,e⟩
 .obtain ⟨_,hd,vs,_,dd⟩:=qdJ I.hok e
  refine⟨dd.typeIs,λb q=>?_,hd⟩;cases q;obtain⟨ob,_,_,c,f,_⟩:=dd;exact⟨ob,c,f.2.1⟩
 .obtain ⟨_,hd,xs,_,dd⟩:=qdK I.hok e
  refine⟨dd.typeIs,λb q=>?_,hd⟩;cases q;obtain⟨ob,_,_,c,f,_⟩:=dd;exact⟨ob,c,f.2.1⟩
end L2
namespace Att
open PySem PySem.W PySem.Calls PyProof.Rows
def jK:∀(ns:03) (vs:List Value),WellAll P h vs (ns.map WData.int)->IntsAre vs ns:=by
 intro ns;induction ns with
 |nil =>
  intro vs w;rw[gC]at w;cases w;exact .nil
 |cons n ns c =>
  intro vs w;rw[wS]at w;cases w with
  |cons a b =>
   cases a;exact .cons _ _ (c _ b)
def qeZ{l:OpenLaw}{n:Nat}(hn:l.most=some n)(c:l.row.toRowW.claim.pre args=true)(m:WellAll P h b args):
  ∃a vs ns,b=[Value.ref a]/\args=[WData.list (ns.map WData.int)]/\h.get? a=some {cls:=.type "list",data:=.seq vs.toArray}/\IntsAre vs ns/\ns.length<=n:=by
 have o:WShape.hasAll [] args [.list .int]=true:=(pre_splitW c).1;have p:l.pre.holds [] {args:=args}=true:=(pre_splitW c).2;obtain⟨d,r,rfl,s,u⟩:=hasAllW_cons o;obtain rfl:=hasAllW_nil u;obtain⟨xs,rfl,v⟩:=hasW_list s;obtain⟨ns,rfl⟩:=items_int v;have e:ns.length<=n:=by
  unfold OpenLaw.pre at p;have i:(WTm.not (.lt (.lit (.int (n:Int))) (.len (.arg 0)))).holds [] {args:=[.list (ns.map .int)]}=true:=by
   have i:=(holds_andW p).1;rw[hn]at i;exact i
  have j:=condW_of i (w_not (w_lt w_lit (w_len_list (w_arg rfl))));rw[wH]at j;refine Nat.le_of_not_lt λq=>?_
  have w:(n:Int)<((ns.length:Nat):Int):=by omega
  first
   | (rw[w4 w]at j;exact absurd j 01)
   | (simp at j;omega)
 cases m with
 |cons x y =>
  cases y;cases x with
  |list z f=>exact⟨_,_,ns,rfl,rfl,z,jK ns _ f,e⟩
def qe0(l:OpenLaw)(args:List WData):l.row.toRowW.claim.post args (.bool true) args=true :=
 postW_of (r:=l.row.toRowW) (X:=(true == true))
  (show WShape.has [] (.bool true) .bool=true by first|rfl|decide|simp[WShape.has,WShape.arms,WShape.armsAll])
  (show(WTm.eq .res (.lit (.bool true))).value [] {args:=args,res:=some (.bool true),after:=args}=some (.bool (true == true))from w_eq_bool (w_res rfl) w_lit) rfl
def attach_call{l:OpenLaw}{n:Nat}{q:Program}{c:List Str}{XP:(Str->Option Value)->Heap->Prop}{y:World->Heap->Prop}{d:DefRec}(hn:l.most=some n)(s:d.params.defaults=[])(call:∀(w:World) (s₀ b:Shared) (mg mb:Str->Option Value) (h:Addr) (o:Obj) (pm p doc:Value) (a:Addr) (vs:List Value) (ns:03),
   Ground q c [] XP w s₀ mg mb b.heap->y w b.heap ->
   b.heap.get? h=some o->o.data=.func (docDef d.name d.params d.body d.scope pm p doc)->b.heap.CodeRec p d.name->mg d.name=some (.ref h) ->
   b.heap.get? a=some {cls:=.type "list",data:=.seq vs.toArray}->IntsAre vs ns->ns.length<=n->b.gens=#[] ->
   codeAny (model l.prog w) callerA (.call (.ref h) ⟨[.ref a],[]⟩) (λr s'=>r=.ok (.ret (.bool true))/\OldK b.heap s'.heap/\s'.os=b.os/\AllBare s'.gens) b):
  WalkO q c XP y l.row.toRowW d [] (λf vs=>PySem.call f vs):=by
 intro w s₀ b mg mb G Y h o pm p doc C kV E hd u z v F args A N i B H x I;obtain rfl:C=.none:=Dflts.none z s;obtain rfl:kV=.none:=Dflts.noKw z;obtain⟨a,vs,ns,rfl,rfl,j,e,m⟩:=qeZ hn i x;refine enter_call (xZ (call w s₀ b mg mb h o pm p doc a vs ns G Y E (fd_plain hd) u v j e m F) λr s' J=>?_);obtain⟨rfl,K,L,M⟩:=J;exact⟨.inl ⟨.bool true,.bool true,[],rfl,λ_=>rfl,.bool true,qe0 l _,λ_=>⟨List.Pairwise.nil,λ_ hm=>(nomatch hm)⟩⟩,K,L,M⟩
end Att
namespace L2
open PySem PySem.Spec PyProof.Rows
def vals_ints:∀{vs:List Value} {ns:03},IntsAre vs ns->Vals (ns.map V.int) vs
 |_,_,.nil=>.nil
 |_,_,.cons n t h=>.cons ⟨t,rfl⟩ (vals_ints h)
noncomputable def defArgs(s:Stmt):Arguments:=match s with
 | .FunctionDef _ a _ _ _ _ _ _ _ _=>a
 |_=>{posonlyargs:=[],args:=[],vararg:=none,kwonlyargs:=[],kw_defaults:=[],kwarg:=none,defaults:=[]}
noncomputable def defBody(s:Stmt):List Stmt:=match s with
 | .FunctionDef _ _ b _ _ _ _ _ _ _=>b
 |_=>[]
noncomputable def defScope(s:Stmt):Scope:=match s with
 | .FunctionDef _ _ _ _ _ _ sc _ _ _=>sc
 |_=>{kind:=.function,names:=[],isGenerator:=false,isCoroutine:=false}
noncomputable abbrev CX0:CXT:=λ_ _ _ _ _ _=>False
noncomputable abbrev E0:XK:=λ_ _ _=>False
def pass0:Passes CX0 X E0:=λ_ _ _ _ _ _ _ h=>h.elim
def qdL{k:Nat}(a:Room k A):A.units+1<cLine:=Nat.lt_of_le_of_lt (Nat.add_le_add_left (by decide:1<=64) _) a.units
end L2
namespace HT
open PySem PySem.Spec PyProof.Rows
section
variable{prog:Program}{w:World}{A:Around}{E:Value->Shared->Prop}{s:Shared}
theorem qaA(a:IsTup s.heap t items)(h:Q true s):wpAny 08 A (Builtin.Tuple.tupleIsExact (.ref t)) Q E s:=by
 unfold Builtin.Tuple.tupleIsExact;refine wA (uk a.typeIs ?_);exact wC h
theorem yQ{t sl:Addr}{items:Array Value}{f i:Value}{lo hi:Option Int}{Q:Value->Shared->Prop}(a:IsTup s.heap t items)(j:s.heap.IsSliceOf sl f i .none)(pl:IsPart f lo)(m:IsPart i hi)(l:sIx items.size 0 lo=0/\sIx items.size items.size hi=items.size)(h:Q (.ref t) s):wpAny 08 A (getItem (.ref t) (.ref sl)) Q E s:=by
 obtain⟨os,c,d,n⟩:=id j;have e:s.TypeIs (.ref sl) "slice":=⟨os,c,d⟩;unfold getItem
 try with_reducible refine wj ?_
 first|refine wA (wC ?_)|skip
 refine wA (wpAny_sequenceKey a.typeIs 01 ?_);refine wA (wb (name:=Str.ofString "__getitem__") a.typeIs vQ
  (we vQ a.typeIs entry_tuple_getitem ?_ (args_tuple_getitem _ _)))
 show wpAny _ _ (Builtin.Tuple.tupleItemsOf (.ref t) >>= _) _ _ s;refine wA (tupleItemsOf_ a ?_);refine wA (uk e ?_);rw[wM 01];refine wA (zX j pl m ?_);have b:(((sIx items.size 0 lo:Nat):Int) == 0&&(1:Int) == 1&&(sIx items.size items.size hi-sIx items.size 0 lo) == items.size)=true:=by
  rw[l.1,l.2];simp
 show wpAny _ _ (if(((sIx items.size 0 lo:Nat):Int) == 0&&(1:Int) == 1&&(sIx items.size items.size hi-sIx items.size 0 lo) == items.size)=true then _ else _) _ _ s;rw[wM b];refine wA (qaA a ?_);rw[wM rfl];refine wA (uB ?_);exact wA (wC (wC ⟨_,rfl,wC h⟩))
end
def jr:fillsNumberSlot (.type "tuple") "mul"=pure false :=
 PySem.fillsNumberSlot_seq (id:="tuple.__mul__") (r:=some (.builtin "tuple.__rmul__")) F.slot_tuple_mul.lookup (by decide +kernel) F.slot_tuple_rmul.lookup (by decide +kernel)
def qbb:seqRepeat? (.type "tuple")=pure (some (.builtin "tuple.__mul__")):=by
 unfold seqRepeat?;rw[PySem.seqSlot_of (T:="tuple") (name:="__mul__") (id:="tuple.__mul__") F.slot_tuple_mul.lookup (by decide +kernel),PySem.seqSlot_of (T:="tuple") (name:="__rmul__") (id:="tuple.__rmul__") F.slot_tuple_rmul.lookup (by decide +kernel)];rfl
section
variable{prog:Program}{w:World}{A:Around}{E:Value->Shared->Prop}{s:Shared}
theorem qf2{a:Int}(b:IsTup s.heap l items)(h:Q (.done (.ret Value.notImplemented)) s):wpAny 08 A (Builtin.«int.__rmul__» ⟨[.int a t,.ref l],[]⟩) Q E s:=by
 obtain⟨o,f,e,n,hd⟩:=b;obtain⟨i,g,d,tk,os⟩:=s;obtain⟨c,dd,j,sl⟩:=o;cases e;cases hd;wp_walk;exact h
theorem qit{k:Int}{t:Tok}(j:IsTup s.heap l items)(C:-(2^63)<=k)(F:k<2^63)(hz:items.size*k.toNat<=sizeLine)(p:(items=#[]\/k=1)->Q (.done (.ret (.ref l))) s)(hn:(¬(items=#[]\/k=1))->Q (.done (.ret (.ref s.heap.objs.size))) {s with heap:=s.heap.push {cls:=.type "tuple",data:=.seq ((List.replicate k.toNat items.toList).flatten).toArray}}):
  wpAny 08 A (Builtin.«tuple.__mul__» ⟨[.ref l,.int k t],[]⟩) Q E s:=by
 obtain⟨o,H,r,n,hd⟩:=j;obtain⟨I,g,d,tk,os⟩:=s;obtain⟨c,dd,J,sl⟩:=o;cases r;cases hd;have b:(decide (k < -(2^63)) || decide (k>=2^63))=false:=by simp;lia
 by_cases z:items=#[]\/k=1
 .have f:(items.isEmpty || k == 1)=true:=by
   rcases z with z|z
   .rw [z];rfl
   .rw [z];simp
  wp_walk;rw[wN (by rw[b];exact wZ)];wp_walk;exact p z
 .have f:(items.isEmpty || k == 1)=false:=by
   simp only[Bool.or_eq_false_iff,vA];exact⟨by rw[<-Bool.not_eq_true];intro q;exact z (.inl (by simpa using q)),λq=>z (.inr q)⟩
  wp_walk;rw[wN (by rw[b];exact wZ)];wp_walk;have ne:items.isEmpty=false:=(Bool.or_eq_false_iff.mp f).1;by_cases k0:k<=0
  .have a:(decide (k<=0) || items.isEmpty)=true:=by rw[w4 k0];rfl
   rw[wM a];wp_walk;have e:k.toNat=0:=by lia
   have:=hn z;rw[e]at this;exact this
  .have a:(decide (k<=0) || items.isEmpty)=false:=by rw[wa k0,ne];rfl
   rw[wN (by rw[a];exact wZ)];have h:(items.size:Int)*k=((items.size*k.toNat:Nat):Int):=by
    rw[Int.natCast_mul];congr 1;lia
   have u:¬((items.size:Int)*k>(2^63-1) / 8):=by
    rw[h];have:((sizeLine:Nat):Int)<=(2^63-1) / 8:=by decide
    lia
   have v:Builtin.Tuple.tupleTooMany ((items.size:Int)*k)=false:=by
    unfold Builtin.Tuple.tupleTooMany;rw[h,wa];lia
   have x:List.foldl (λy B=>y++B) #[] (List.replicate k.toNat items)=(List.replicate k.toNat items.toList).flatten.toArray:=by
    have:=L2.jq items.toList k.toNat [];rw[List.nil_append]at this;simpa using this
   rw[wN u];wp_walk;rw[x];rw[wN (by rw[v];exact wZ)];have i:sizeOk (.seq (List.replicate k.toNat items.toList).flatten.toArray):=by
    show(List.replicate k.toNat items.toList).flatten.toArray.size<=sizeLine;rw[wI,L2.qa9,wg,Nat.mul_comm];exact hz
   show wpAny _ _ (Builtin.Tuple.tupleExact _ >>= _) _ _ _
   first
    |exact wA (m:=Builtin.Tuple.tupleExact _) (wR (wC (hn z)) i)
    |exact wA (m:=Builtin.Tuple.tupleExact _) (wR (hn z) i)
end
end HT
namespace L2
open PySem PySem.Spec PyProof.Rows
section
variable{X:Cx}
def rSlW(K:07):V->Option Int->Option Int->Hp->VK->Prop:=λx lo hi H Q=>∃a xs,x=.ref a/\SqT K H a xs /\
 (HT.sIx xs.length 0 lo=0/\HT.sIx xs.length xs.length hi=xs.length)/\Q x H
theorem qiu:SlR X (rSlW X.K):=by
 intro pins s j H x v l m lo hi sl Q I rx e pl f h;obtain⟨a,xs,rfl,hx,i,q⟩:=h;cases rx;obtain⟨c,r,d,hz⟩:=I.tuple hx;have b:c.toArray.size=xs.length:=by rw[wI];exact r.length.symm
 refine⟨"tuple",_,vQ.lookup,d.typeIs,?_⟩;exact HT.yQ d e pl f (by rw[b];exact i) ⟨.ref a,H,I,rfl,q⟩
noncomputable def rRepT(K:07):R2:=λx y H Q=>∃a k xs,x=.ref a/\y=.int k/\SqT K H a xs/\-(2^63)<=k/\k<2^63/\xs.length*k.toNat<=sizeLine /\
 ((xs=[]\/k=1)->Q x H)/\((¬(xs=[]\/k=1))->∀p,H p=none->Q (.ref p) (upd H p (.t (List.replicate k.toNat xs).flatten)))
theorem qiv:OpR X (binaryOp .Mult) (rRepT X.K):=by
 intro pins s n H x y v u Q I rx i h;obtain⟨a,k,xs,rfl,rfl,hx,j,l,hz,q1,q2⟩:=h;cases rx;obtain⟨t,rfl⟩:=i;obtain⟨d,r,f,m⟩:=I.tuple hx;have c:d.length=xs.length:=r.length.symm;have e:(d.toArray=#[]\/k=1) ↔ (xs=[]\/k=1):=by
  constructor
  .rintro (z|z)
   .left
    have:d=[]:=by simpa using z
    rw[this]at c;exact vC.mp (by simpa using c.symm)
   .exact .inr z
  .rintro (z|z)
   .left
    rw[z]at c;have:d=[]:=vC.mp (by simpa using c);rw[this]
   .exact .inr z
 refine wpAny_binaryOp_repeat_ref (T:="tuple") (U:="int") 01 f.typeIs (λs'=>xR s' k t) HT.jr F.fills_int_mul gG HT.qbb F.slot_int_index.lookup ?_;refine we gG (xR s k t) F.entry_int_rmul (HT.qf2 f ⟨_,rfl,rfl,f.typeIs,?_⟩) (F.args_int_rmul_2 _ _);refine we F.slot_tuple_mul f.typeIs F.entry_tuple_mul (HT.qit f j l (by rw[wI,c];exact hz) (λz=>⟨_,rfl,.ref a,H,I,rfl,q1 (e.mp z)⟩) λz=>⟨_,rfl,?_⟩) (F.args_tuple_mul_2 _ _);refine⟨.ref s.heap.objs.size,_,I.laid (t':=s.toks) (o:=.t (List.replicate k.toNat xs).flatten) (λb ob q=>wB _ q) (wG _) ?_,rfl,q2 (λy=>z (e.mpr y)) _ (I.hok.fresh (wG _))⟩;exact⟨by rw[qa9,Nat.mul_comm];exact hz,_,r.rep k.toNat,IsTup.new _ _,yF _ _⟩
end
end L2
namespace HT
open PySem PyProof.Rows
section
open PySem.SeqAt
open PySem.AutoSeq1 (wpAny_loadPart')
open PySem.MeetsSeq PySem.MeetsSeq2 PySem.MeetsSeq3
end
end HT
namespace HT
open PySem PyProof.Rows
section
variable{prog:Program}{w:World}{A:Around}{E:Value->Shared->Prop}{s:Shared}
def Many(h:Heap)(d:Addr)(n:Nat):Prop:=∃o es ep,h.get? d=some o/\o.data=.dict es ep/\es.size=n
theorem qc0{n:Nat}(hd:(d == sysModules)=false):
  MeetsIn prog w (Builtin.«dict.__len__» ⟨[.ref d],[]⟩) (λ_ R s=>Many s.heap d n/\R (.ok (.ret (.int n s.toks))) {s with toks:=s.toks+1}):=by
 refine .of_wp λA R s b=>?_
 obtain⟨⟨o,es,ep,c,a,rfl⟩,h⟩:=b;have size:∀{A:Around} {E:Value->Shared->Prop},wpAny 08 A (dictSize d) (λk s'=>k=es.size/\s'=s) E s:=by
  intro A E;unfold dictSize;exact wA (xf c a (wC ⟨rfl,rfl⟩))
 refine wA (m:=dictSize d) (wv size (λk s' ks=>?_) λ_ _ z=>z);obtain⟨e1,e⟩:=ks;subst e1 e;exact wA (wpAny_pendingCount_other hd (wpAny_ret_mkInt h))
theorem qe1{n:Nat}(hd:(d == sysModules)=false)(hm:Many s.heap d n)(b:s.TypeIs (.ref d) "dict")(c:(n:Int)<2^63)(h:Q (.int n (s.toks+1)) {s with toks:=s.toks+1+1}):wpAny 08 A (call (.builtin "len") [.ref d]) Q E s:=by
 have low:¬((n:Nat):Int)<0:=by lia
 have a:¬((n:Nat):Int)>=2^63:=by lia
 have slot:∀{A:Around} {Q:Value->Shared->Prop},Q (.int n s.toks) {s with toks:=s.toks+1}->wpAny 08 A (call (.builtin "dict.__len__") [.ref d]) Q E s:=λq =>
  call_meetsIn F.slot_dict_len b F.entry_dict_len (F.args_dict_len_1 _) (qc0 (n:=n) hd) ⟨hm,q⟩
 refine xc kind_len plain_len entry_len (args_len1 _) ?_;unfold Builtin.«len»;refine wA (m:=oneArg "len" _) (wC (wA (wb (name:=Str.ofString "__len__") b F.slot_dict_len (slot ?_))));refine wA (wj (wC (wA (xT ?_))));show wpAny _ _ (if((n:Nat):Int)<0 then _ else if((n:Nat):Int)>=2^63 then _ else _) _ _ _;rw[wN low,wN a];exact wA (wpAny_mkInt (wC ⟨_,rfl,h⟩))
end
end HT
namespace L2
open PySem PySem.Spec PyProof.Rows
section
variable{X:Cx}
theorem qe2:CallR X (.builtin "len") (λxs H Q=>∃a kvs,xs=[V.ref a]/\H a=some (.dT kvs)/\Q (.int kvs.length) H):=by
 intro pins s j H xs us Q I r h;obtain⟨a,kvs,rfl,ha,q⟩:=h;obtain⟨u,rfl,d⟩:=vals1 r;cases d;obtain⟨z,y,ys,c,o,es,ep,e,l,f,i,m⟩:=(show ObjOk X.prog X.w H s.heap a (.dT kvs)from I.hok a _ ha);have hn:es.size=kvs.length:=by
  have e1:=congrArg List.length i;rw[wH,wg]at e1;rw[e1,c.length]
 have b:((kvs.length:Nat):Int)<2^63:=by rw[vM]at z;lia
 exact HT.qe1 y ⟨o,es,ep,e,f,hn⟩ (qks I (.inr ⟨kvs,.inl ha⟩)).1 b ⟨.int kvs.length,H,I.tok _,⟨_,rfl⟩,q⟩
theorem qe3:CallR X (.type "int") (λxs H Q=>∃b,xs=[.bl b]/\Q (.int (if b then 1 else 0)) H):=by
 intro pins s c H xs us Q I r h;obtain⟨b,rfl,q⟩:=h;obtain⟨u,rfl,a⟩:=vals1 r;cases a;exact call_int_bool ⟨.int _,H,I.tok _,⟨_,rfl⟩,q⟩
end
end L2
namespace R
open PySem PySem.Spec L2 SeqAt
open PyProof.Rows hiding St
section
variable{A:Around}{s:Shared}{l b:Addr}{es:Array DictEntry}{n n2:Nat}{items:Array Value}{dd dd2:Option Addr}{sl sl2:Array (Option Value)}
noncomputable abbrev isDt(h:Heap)(l:Addr):Prop:=∃dd es n sl,h.get? l=some {cls:=.type "dict",dict:=dd,data:=.dict es n,slots:=sl}
theorem dq1:Meets (Builtin.«dict.__eq__» ⟨[.ref l,.ref b],[]⟩) (λ_ R s=>s.heap.get? l=some {cls:=.type "dict",dict:=dd,data:=.dict es n,slots:=sl}/\s.heap.get? b=some {cls:=.type "tuple",dict:=dd2,data:=.seq items n2,slots:=sl2}/\R (.ok (.ret .notImplemented)) s) :=
 .of_wp λprog w A R s h=>by
  obtain⟨e,g,d,tk,os⟩:=s;obtain⟨a,c,h⟩:=h;have f:=ux;wp_walk using wpAny_loadPart' a,wpAny_loadPart' c;exact⟨_,rfl,h⟩
theorem dq2:Meets (Builtin.«tuple.__eq__» ⟨[.ref b,.ref l],[]⟩) (λ_ R s=>s.heap.get? l=some {cls:=.type "dict",dict:=dd,data:=.dict es n,slots:=sl}/\s.heap.get? b=some {cls:=.type "tuple",dict:=dd2,data:=.seq items n2,slots:=sl2}/\R (.ok (.ret .notImplemented)) s) :=
 .of_wp λprog w A R s h=>by
  obtain⟨e,g,d,tk,os⟩:=s;obtain⟨a,c,h⟩:=h;have f:=uy;wp_walk using wpAny_loadPart' a,wpAny_loadPart' c;exact⟨_,rfl,h⟩
theorem dq3:Meets (Builtin.«dict.__ne__» ⟨[.ref l,.ref b],[]⟩) (λ_ R s=>s.heap.get? l=some {cls:=.type "dict",dict:=dd,data:=.dict es n,slots:=sl}/\s.heap.get? b=some {cls:=.type "tuple",dict:=dd2,data:=.seq items n2,slots:=sl2}/\R (.ok (.ret .notImplemented)) s) :=
 .of_wp λprog w A R s h=>by
  obtain⟨e,g,d,tk,os⟩:=s;obtain⟨a,c,h⟩:=h;have f:=ux;wp_walk using wpAny_loadPart' a,wpAny_loadPart' c;exact⟨_,rfl,h⟩
theorem dq4:Meets (Builtin.«tuple.__ne__» ⟨[.ref b,.ref l],[]⟩) (λ_ R s=>s.heap.get? l=some {cls:=.type "dict",dict:=dd,data:=.dict es n,slots:=sl}/\s.heap.get? b=some {cls:=.type "tuple",dict:=dd2,data:=.seq items n2,slots:=sl2}/\R (.ok (.ret .notImplemented)) s) :=
 .of_wp λprog w A R s h=>by
  obtain⟨e,g,d,tk,os⟩:=s;obtain⟨a,c,h⟩:=h;have f:=uy;wp_walk using wpAny_loadPart' a,wpAny_loadPart' c;exact⟨_,rfl,h⟩
variable(hl:isDt s.heap l)(hb:s.heap.IsTuple b items)(hu:A.units<cLine)
include hl hb
theorem qaO:l≠b:=λe=>by
 obtain⟨dd,es,n,sl,h⟩:=hl;obtain⟨o,a,c,_⟩:=hb;subst e;rw[h]at a;cases a;exact absurd (show Value.type "dict"=Value.type "tuple" from c) 01
include hu
theorem qjD:RcAt A s (.ref l) (.ref b) false:=λprog w E Q h=>by
 have i:=qaO hl hb;obtain⟨dd,es,n,sl,c⟩:=hl;obtain⟨⟨m,dd2,j,sl2⟩,a,d,n2,e⟩:=id hb;simp only at d e;subst d e;exact(rc_eq_decline_or (k:=false) ⟨_,c,rfl⟩ ⟨_,a,rfl⟩ 01 ux PySem.F.slot_dict_eq PySem.F.slot_tuple_eq_refl
  (λ_ f=>uN PySem.F.slot_dict_eq ⟨_,c,rfl⟩ PySem.F.entry_dict_eq (PySem.F.args_dict_eq_2 _ _) dq1 ⟨c,a,f⟩)
  (λ_ f=>uN PySem.F.slot_tuple_eq_refl ⟨_,a,rfl⟩ PySem.F.entry_tuple_eq (PySem.F.args_tuple_eq_2 _ _) dq2 ⟨c,a,f⟩)
  (λ_ f=>wpAny_isSame_ref_other i c a 02 f) (.inr hu) h)
theorem qjE:RcAt A s (.ref b) (.ref l) false:=λprog w E Q h=>by
 have i:=(qaO hl hb).symm;obtain⟨dd,es,n,sl,c⟩:=hl;obtain⟨⟨m,dd2,j,sl2⟩,a,d,n2,e⟩:=id hb;simp only at d e;subst d e;exact(rc_eq_decline_or (k:=false) ⟨_,a,rfl⟩ ⟨_,c,rfl⟩ 01 uy PySem.F.slot_tuple_eq PySem.F.slot_dict_eq_refl
  (λ_ f=>uN PySem.F.slot_tuple_eq ⟨_,a,rfl⟩ PySem.F.entry_tuple_eq (PySem.F.args_tuple_eq_2 _ _) dq2 ⟨c,a,f⟩)
  (λ_ f=>uN PySem.F.slot_dict_eq_refl ⟨_,c,rfl⟩ PySem.F.entry_dict_eq (PySem.F.args_dict_eq_2 _ _) dq1 ⟨c,a,f⟩)
  (λ_ f=>wpAny_isSame_ref_other' i a c 02 f) (.inr hu) h)
theorem ql6:RcNeAt A s (.ref l) (.ref b) true:=λprog w E Q h=>by
 have i:=qaO hl hb;obtain⟨dd,es,n,sl,c⟩:=hl;obtain⟨⟨m,dd2,j,sl2⟩,a,d,n2,e⟩:=id hb;simp only at d e;subst d e;exact(rc_ne_decline_or (k:=false) ⟨_,c,rfl⟩ ⟨_,a,rfl⟩ 01 ux PySem.F.slot_dict_ne PySem.F.slot_tuple_ne_refl
  (λ_ f=>uN PySem.F.slot_dict_ne ⟨_,c,rfl⟩ PySem.F.entry_dict_ne (PySem.F.args_dict_ne_2 _ _) dq3 ⟨c,a,f⟩)
  (λ_ f=>uN PySem.F.slot_tuple_ne_refl ⟨_,a,rfl⟩ PySem.F.entry_tuple_ne (PySem.F.args_tuple_ne_2 _ _) dq4 ⟨c,a,f⟩)
  (λ_ f=>wpAny_isSame_ref_other i c a 02 f) (.inr hu) h)
theorem ql7:RcNeAt A s (.ref b) (.ref l) true:=λprog w E Q h=>by
 have i:=(qaO hl hb).symm;obtain⟨dd,es,n,sl,c⟩:=hl;obtain⟨⟨m,dd2,j,sl2⟩,a,d,n2,e⟩:=id hb;simp only at d e;subst d e;exact(rc_ne_decline_or (k:=false) ⟨_,a,rfl⟩ ⟨_,c,rfl⟩ 01 uy PySem.F.slot_tuple_ne PySem.F.slot_dict_ne_refl
  (λ_ f=>uN PySem.F.slot_tuple_ne ⟨_,a,rfl⟩ PySem.F.entry_tuple_ne (PySem.F.args_tuple_ne_2 _ _) dq4 ⟨c,a,f⟩)
  (λ_ f=>uN PySem.F.slot_dict_ne_refl ⟨_,c,rfl⟩ PySem.F.entry_dict_ne (PySem.F.args_dict_ne_2 _ _) dq3 ⟨c,a,f⟩)
  (λ_ f=>wpAny_isSame_ref_other' i a c 02 f) (.inr hu) h)
end
end R
namespace R
open PySem PySem.Spec L2
open PyProof.Rows hiding St
namespace SN
def Good(t:SetTable):Prop:=t.plain=true->t.place.toList.Pairwise (· < ·)/\t.dummies=#[]
def jU{xs:Array Nat}{j:Nat}(h:xs.toList.Pairwise (· < ·)):∀(f lo hi:Nat),hi<=xs.size->lo<=hi->hi-lo<=f->(∀i,i<lo->xs.getD i j<j)->(∀i,hi<=i->i<xs.size->j<=xs.getD i j) ->
  SetTable.below.go xs j f lo hi<=xs.size/\(∀i,i<SetTable.below.go xs j f lo hi->xs.getD i j<j)/\∀i,SetTable.below.go xs j f lo hi<=i->i<xs.size->j<=xs.getD i j
 |0,lo,hi,h1,h2,h3,h4,h5=>by
  have e:lo=hi:=by omega
  subst e;unfold SetTable.below.go;exact⟨h1,h4,h5⟩
 |f+1,lo,hi,h1,h2,h3,h4,h5=>by
  unfold SetTable.below.go;by_cases o:lo<hi
  .rw [wM o]
   dsimp only;have c:lo<=(lo+hi) / 2:=by omega
   have l:(lo+hi) / 2<hi:=by omega
   generalize (lo+hi) / 2=m at c l ⊢;have mono:∀a b,a<=b->b<xs.size->xs.getD a j<=xs.getD b j:=λa b n p=>by
    have ha:a<xs.size:=by omega
    rw[show xs.getD a j=xs[a] by simp[Array.getD,ha],show xs.getD b j=xs[b] by simp[Array.getD,p]];rcases Nat.lt_or_eq_of_le n with q|q
    .have:=(ue.mp h) a b (by simpa using ha) (by simpa using p) q
     simpa using x4 this
    .subst q;exact wG _
   by_cases q:xs.getD m j<j
   .rw [wM q]
    exact jU h f (m+1) hi h1 04 04 (λi d=>Nat.lt_of_le_of_lt (mono i m 04 04) q) h5
   .rw [wN q]
    exact jU h f lo m 04 c 04 h4 (λi d r=>vG 04 (mono m i d r))
  .rw [wN o]
   have e:lo=hi:=by omega
   subst e;exact⟨h1,h4,h5⟩
def qbX{xs:Array Nat}(j:Nat)(h:xs.toList.Pairwise (· < ·)):SetTable.below xs j<=xs.size/\(∀i,i<SetTable.below xs j->xs.getD i j<j)/\∀i,SetTable.below xs j<=i->i<xs.size->j<=xs.getD i j:=by
 unfold SetTable.below;exact jU h xs.size 0 xs.size (wG _) (vN _) 04 (λi hi=>absurd hi (Nat.not_lt_zero _)) (λi b a=>absurd a 04)
def zC{xs:Array Nat}{i j:Nat}(h:i<xs.size):xs.getD i j=xs[i]:=by simp[Array.getD,h]
def qe4{xs:Array Nat}{j:Nat}(h:xs.toList.Pairwise (· < ·))(n:xs[SetTable.below xs j]?≠some j):(SetTable.insertAt xs (SetTable.below xs j) j).toList.Pairwise (· < ·):=by
 obtain⟨b1,b2,f⟩:=qbX j h;generalize SetTable.below xs j=p at b1 b2 f n ⊢;rw[SetTable.toList_insertAt,List.pairwise_append];have gt:∀i,p<=i->(hi:i<xs.size)->j<xs[i]:=λi l hi=>by
  have m:=f p (wG _) 04;rw[zC 04]at m;have o:xs[p]≠j:=λe=>n (by rw[wo 04,e])
  rcases Nat.lt_or_eq_of_le l with q|q
  .have:=(ue.mp h) p i (by simp;omega) (by simpa using hi) q
   simp only[xQ]at this;omega
  .subst q;omega
 refine⟨h.sublist (List.take_sublist _ _),wq.mpr ⟨λx hx=>?_,h.sublist (List.drop_sublist _ _)⟩,λa ha b c=>?_⟩
 .obtain ⟨i,hi,e⟩:=vh hx
  simp only[xw,wg]at hi;rw[List.getElem_drop,xQ]at e;rw[<-e];exact gt (p+i) 04 04
 .have d:a<j:=by
   obtain⟨i,hi,e⟩:=vh ha;simp only[vP,wg]at hi;rw[List.getElem_take,xQ]at e;have:=b2 i 04;rw[zC 04,e]at this;exact this
  rcases wQ.mp c with rfl|c
  .exact d
  .obtain ⟨i,hi,e⟩:=vh c
   simp only[xw,wg]at hi;rw[List.getElem_drop,xQ]at e;have:=gt (p+i) 04 04;omega
def qdM(j:Nat):SetTable.has #[] j=false:=by unfold SetTable.has;simp
def qbY{t:SetTable}{h:Int}(hd:t.dummies=#[]):∀(f:Nat) (p:SetTable.Probe),p.dummy=none->∀j d,SetTable.probe.go t (λ_=>h+1) h f p=some (.empty j d)->d=none/\t.slot j=.empty
 |0,p,_,j,d,e=>by unfold SetTable.probe.go at e;exact nomatch e
 |f+1,p,hp,j,d,e=>by
  have nd:t.slot p.j≠.dummy:=by
   unfold SetTable.slot;dsimp only;rw[hd,qdM];split <;> simp
  have a:∀q:SetTable.Probe,(t.advance q).dummy=q.dummy:=λq=>by
   unfold SetTable.advance;split <;> rfl
  unfold SetTable.probe.go at e;cases z:t.slot p.j with
  |empty =>
   rw[z]at e;dsimp only at e;cases e;exact⟨hp,z⟩
  |dummy=>exact absurd z nd
  |live i =>
   rw[z]at e;have b:((h+1:Int) == h)=false:=by rw[vA];omega
   simp only[b,wz,uG]at e;exact qbY hd f _ ((a p).trans hp) j d e
def qc1{t:SetTable}{j:Nat}(h:t.slot j=.empty):t.place[SetTable.below t.place j]?≠some j:=λe=>by
 unfold SetTable.slot at h;dsimp only at h;rw[e]at h;simp at h
def qe5{t:SetTable}{h:Int}{j:Nat}(hd:t.dummies=#[])(e:t.freeSlot h=some (j,b)):t.place[SetTable.below t.place j]?≠some j:=by
 unfold SetTable.freeSlot SetTable.probe at e;split at e
 .rename_i c d z
  obtain⟨rfl,a⟩:=qbY hd _ _ rfl _ _ z;cases e;exact qc1 a
 .exact nomatch e
def qf6{h:Int}{j:Nat}(g:Good t)(e:t.freeSlot h=some (j,b)):Good (t.put j).1:=λd=>by
 have a:t.plain=true:=d;obtain⟨f,c⟩:=g a;refine⟨qe4 f (qe5 c e),?_⟩;show(if SetTable.has t.dummies j then _ else t.dummies)=#[];rw[c,qdM];rfl
def zD(t:SetTable)(n:Nat):Good (t.standIn n):=λa=>nomatch a
def jV{n:Nat}(g:Good t):Good (t.orStandIn n):=by
 unfold SetTable.orStandIn;split
 .exact g
 .exact zD _ _
def qaC{t:SetTable}{n:Nat}:(t.orStandIn n).led=t.led:=by
 unfold SetTable.orStandIn;split <;> rfl
def qbZ{h:Int}(g:Good t):Good (layNew t es h x).2.1/\(layNew t es h x).2.1.led=t.led:=by
 unfold layNew;split
 .rename_i slot a z
  exact⟨jV (qf6 g z),qaC⟩
 .exact ⟨zD _ _,rfl⟩
def qe6{c d f:Nat}{led plain:Bool}{i:Array Int}{t:SetTable}{o:Array Nat}(e:SetTable.laid c d f led plain i=some (t,o)):Good t/\t.led=led:=by
 unfold SetTable.laid at e;cases z:SetTable.layClean c i with
 |none=>rw[z]at e;exact nomatch e
 |some l =>
  rw[z]at e;simp only[Option.bind_eq_bind,w5,Option.pure_def,Option.some.injEq,Prod.mk.injEq]at e;obtain⟨rfl,_⟩:=e;refine⟨λ_=>⟨?_,rfl⟩,rfl⟩;show(((List.range (c+1)).filterMap λj=>(l.getD j none).map (j,·)).map (·.1)).Pairwise (· < ·);rw[List.pairwise_map,List.pairwise_filterMap];refine List.Pairwise.imp ?_ List.pairwise_lt_range;intro a b h x hx y m;obtain⟨u,_,rfl⟩:=uX.mp hx;obtain⟨v,_,rfl⟩:=uX.mp m;exact h
def qc2{n:Nat}:Good (relayAll t es n).2.1/\(relayAll t es n).2.1.led=t.led:=by
 unfold relayAll;split
 .rename_i t' a z
  dsimp only;split
  .exact qe6 z
  .exact ⟨zD _ _,rfl⟩
 .exact ⟨zD _ _,rfl⟩
noncomputable def setO(es:Array (Int×Value))(ep:Nat)(t:SetTable):Obj:={cls:=.type "set",dict:=none,data:=.set es ep t}
structure SetD (led:Bool) (ks:03) (es:Array (Int×Value)) (t:SetTable):Prop where
 hash:∀e∈es.toList,∃k tk,e.2=.int k tk/\e.1=hashInt k
 nums:∃ns,IntsAre (es.toList.map (·.2)) ns/\ns.Perm ks
 few:es.size<scanBound
 fits:t.fits es.size=true
 led:t.led=led
 good:Good t
def SetL(h:Heap)(a:Addr)(led:Bool)(ks:03):Prop:=∃es ep t,h.get? a=some (setO es ep t)/\SetD led ks es t
section
variable{prog:Program}{w:World}{A:Around}{E:Value->Shared->Prop}{s:Shared}
theorem SetL.at{h h':Heap}(x:SetL h a led ks)(e:∀o,h.get? a=some o->h'.get? a=some o):SetL h' a led ks :=
 let ⟨es,ep,t,b,d⟩:=x;⟨es,ep,t,e _ b,d⟩
theorem SetD.elems{led:Bool}{ks:03}{es:Array (Int×Value)}{t:SetTable}(d:SetD led ks es t):ElemsOf (intKind prog w) es.toList:=λe a=>by
 obtain⟨k,tk,e1,b⟩:=d.hash e a;rw[e1];exact⟨⟨k,intKind_is _ _ _ _,b⟩,rfl⟩
theorem SetD.len{led:Bool}{ks:03}{es:Array (Int×Value)}{t:SetTable}(d:SetD led ks es t):es.size=ks.length:=by
 obtain⟨ns,a,b⟩:=d.nums;have:=a.length;rw[wH,wg]at this;rw[this,b.length_eq]
theorem qaP{k n:Int}:(Value.int n t).isInt k=true ↔ k=n:=by simp only[Value.isInt,vd];exact eq_comm
theorem qbc(d:SetD led ks es t)(k:Int):(∃e∈es.toList,(intKind prog w).is k e.2=true) ↔ k∈ks:=by
 obtain⟨ns,f,i⟩:=d.nums;rw[<-i.mem_iff];have:∀{vs:List Value} {ns:03},IntsAre vs ns->((∃v∈vs,(intKind prog w).is k v=true) ↔ k∈ns):=λ{vs ns} h=>by
  induction h with
  |nil=>simp
  |cons n t r j =>
   rw[wQ,<-j];constructor
   .rintro ⟨v,b,a⟩
    rcases wQ.mp b with rfl|b
    .exact .inl ((qaP (t:=t)).mp a)
    .exact .inr ⟨v,b,a⟩
   .rintro (e|⟨v,b,a⟩)
    .exact ⟨_,wL,(qaP (t:=t)).mpr e⟩
    .exact ⟨v,wO _ b,a⟩
 rw[<-this f];constructor
 .rintro ⟨e,c,a⟩;exact⟨e.2,List.mem_map_of_mem c,a⟩
 .rintro ⟨v,b,a⟩;obtain⟨e,c,rfl⟩:=vD.mp b;exact⟨e,c,a⟩
theorem ye{vs a:List Value}(p:a.Perm vs):∀{ns:03},IntsAre vs ns->∃b,IntsAre a b/\b.Perm ns:=by
 induction p with
 |nil=>intro ns h;cases h;exact⟨_,.nil,.refl _⟩
 |cons x q i =>
  intro ns h;cases h with
  |cons n t r=>obtain⟨m,c,d⟩:=i r;exact⟨_,.cons n t c,d.cons _⟩
 |swap x y l =>
  intro ns h;cases h with
  |cons n t r =>
   cases r with
   |cons m u j=>exact⟨_,.cons _ _ (.cons _ _ j),.swap _ _ _⟩
 |trans p q e f =>
  intro ns h;obtain⟨m,c,d⟩:=f h;obtain⟨o,v,z⟩:=e c;exact⟨o,v,z.trans d⟩
theorem y9:∀{vs:List Value} {ns:03} {k:Int} {tk:Tok},IntsAre vs ns->IntsAre (vs++[.int k tk]) (ns++[k])
 |_,_,k,tk,.nil=>.cons k tk .nil
 |_,_,_,_,.cons n t r=>.cons n t (y9 r)
theorem SetD.perm{led:Bool}{ks:03}{es es':Array (Int×Value)}{t t':SetTable}(d:SetD led ks es t)(p:es'.toList.Perm es.toList)(a:t'.fits es'.size=true)(b:t'.led=t.led)(c:Good t'):SetD led ks es' t' where
 hash:=λe f=>d.hash e (p.mem_iff.mp f)
 nums:=by
  obtain⟨ns,h,i⟩:=d.nums;obtain⟨m,j,l⟩:=ye (p.map (·.2)) h;exact⟨m,j,l.trans i⟩
 few:=by have:=p.length_eq;simp only[wg]at this;rw[this];exact d.few
 fits:=a
 led:=b.trans d.led
 good:=c
theorem SetD.add{led:Bool}{ks:03}{es:Array (Int×Value)}{t t':SetTable}{k:Int}{tk:Tok}{es':Array (Int×Value)}(d:SetD led ks es t)(p:es'.toList.Perm (es.push (hashInt k,.int k tk)).toList)(a:ks.length+1<scanBound)(b:t'.fits es'.size=true)(c:t'.led=t.led)(f:Good t'):SetD led (ks++[k]) es' t' where
 hash:=λe i=>by
  have:=p.mem_iff.mp i;rw[xn]at this;rcases wi.mp this with h|h
  .exact d.hash e h
  .rw [wY]at h;subst h;exact⟨k,tk,rfl,rfl⟩
 nums:=by
  obtain⟨ns,j,l⟩:=d.nums;rw[xn]at p;have q:=p.map (·.2);rw[xV]at q;obtain⟨m,n,o⟩:=ye q (y9 j);exact⟨m,n,o.trans (l.append_right _)⟩
 few:=by have:=p.length_eq;simp only[wg,Array.size_push]at this;rw[this,d.len];exact a
 fits:=b
 led:=c.trans d.led
 good:=f
theorem qb0{h:Heap}{ep:Nat}(b:h.get? a=some (setO es ep t)):(h.update a (Obj.putSet es' t')).get? a=some (setO es' (ep+1) t'):=by
 have:=w9 (Obj.putSet es' t') b (by rw[putSet_of es' t' rfl];rfl);rw[putSet_of es' t' rfl]at this;exact this
theorem qb1{g:Bool->Sem Unit}(u:∀(b:Bool) (f:Shared) (Q':Unit->Shared->Prop),Q' () f->wpAny 08 A (g b) Q' E f){a:Addr}{es:Array (Int×Value)}{ep:Nat}{t:SetTable}(r:s.heap.get? a=some (setO es ep t)){led:Bool}{ks:03}{c:Array (Int×Value)}{t2:SetTable}(d:SetD led ks c t2){e:Bool}{R:Option Bool->Shared->Prop}(h:∀h',Heap.SameBut a s.heap h'->SetL h' a led ks->R (some true) {s with heap:=h' }):
  wpAny 08 A (do
    storeSet a c t2
    if(!e&&t2.tooFull)=true then do
      g (relayAll t2 c (SetTable.grown c.size)).2.2
      storeSet a (relayAll t2 c (SetTable.grown c.size)).1 (relayAll t2 c (SetTable.grown c.size)).2.1
      pure (some true)
     else pure (some true)) R E s:=by
 refine wA (wpAny_storeSet_of r rfl ?_ (xg d.few));have j:=qb0 (es':=c) (t':=t2) r;have i:=Heap.SameBut.update s.heap a (Obj.putSet c t2);split
 .have m:=relayAll_perm t2 c (SetTable.grown c.size)
  have l:=relayAll_fits t2 c (SetTable.grown c.size);obtain⟨o,p⟩:=qc2 (t:=t2) (es:=c) (n:=SetTable.grown c.size);generalize relayAll t2 c (SetTable.grown c.size)=Rl at m l o p ⊢;obtain⟨v,t3,q⟩:=Rl;dsimp only at m l o p ⊢;have d2:=d.perm m l p o;refine wA (u _ _ _ ?_);refine wA (wpAny_storeSet_of j rfl ?_ (xg d2.few));exact wC (h _ (i.trans (Heap.SameBut.update _ a _)) ⟨_,_,_,qb0 j,d2⟩)
 .exact wC (h _ i ⟨_,_,_,j,d⟩)
theorem qku{k:Int}{tk:Tok}(M:SetL s.heap a led ks)(J:ks.length+1<scanBound)(h:∀h',Heap.SameBut a s.heap h'->SetL h' a led (step_dedup ks k)->∀b,Q b {s with heap:=h' }):
  wpAny 08 A (setAddHashed a (.int k tk) (hashInt k)) Q E s:=by
 obtain⟨es,ep,t,r,d⟩:=M;have u:ElemsOf (intKind prog w) es.toList:=d.elems;have hd:(setO es ep t).data=.set es ep t:=rfl;have v:=intKind_is prog w k tk;unfold setAddHashed setAddHashedIn;refine wj (wA (vb r hd d.fits ?_));dsimp only;rw[byScan_of (knd:=intKind prog w) rfl d.few u];simp only[↓reduceIte];unfold setAddByScan;refine wA ?_;refine wA (uB ?_);refine wA (wpAny_setScan_of (knd:=intKind prog w) v r hd d.fits u ?_);have hm:=qbc (prog:=prog) (w:=w) d k;cases hr':List.findIdx? (λe=>(intKind prog w).is k e.2) es.toList with
 |some j =>
  dsimp only;obtain⟨N,B,_⟩:=List.findIdx?_eq_some_iff_getElem.mp hr';have C:k∈ks:=hm.mp ⟨es.toList[j],uV N,B⟩;refine wC (wC ?_);have e:s={s with heap:=s.heap}:=by cases s;rfl
  have F:step_dedup ks k=ks:=by unfold step_dedup;rw[wM (vr.mpr ⟨k,C,by simp⟩)]
  have:=h s.heap (Heap.SameBut.refl a s.heap) (by rw[F];exact⟨es,ep,t,r,d⟩) false;rw[e];exact this
 |none =>
  dsimp only;have C:k∉ks:=λq=>by
   obtain⟨e,O,P⟩:=hm.mpr q;have:=List.findIdx?_eq_none_iff.mp hr' e O;rw[P]at this;exact Bool.noConfusion this
  have F:step_dedup ks k=ks++[k]:=by
   unfold step_dedup;rw[wN];intro q;obtain⟨x,hx,H⟩:=vr.mp q;have:x=k:=by simpa using H
   exact C (this ▸ hx)
  have I:∀(b:Bool) {i:Shared} {Q':Unit->Shared->Prop},Q' () i->wpAny 08 A (match b with|true=>rule "set.scan.the-table-gave-way" |false=>pure ()) Q' E i :=
   λb i Q' l=>by cases b <;> first|exact wC l|exact uB l
  have c:=layNew_perm t es (hashInt k) (.int k tk);have f:=layNew_fits t es (hashInt k) (.int k tk);obtain⟨y,z⟩:=qbZ (es:=es) (h:=hashInt k) (x:=.int k tk) d.good;generalize layNew t es (hashInt k) (.int k tk)=L at c f y z ⊢;obtain⟨S,t1,p,K⟩:=L;dsimp only at c f y z ⊢;refine wA (I _ ?_);have m:∀h',Heap.SameBut a s.heap h'->SetL h' a led (ks++[k])->Q true {s with heap:=h' }:=λh' H U=>h h' H (by rw[F];exact U) true
  split
  .refine wA ?_
   rw[hashByValue_scannable 8 (show(Value.int k tk).scannable=true from rfl)];refine wC ?_;refine qb1 ?_ r (d.add c J f z y) ?_
   .intro b i Q' l;cases b <;> first|exact wC l|exact uB l
   .intro h' n o;dsimp only;exact wC (m h' n o)
  .refine wA (wC ?_)
   simp only[↓reduceIte];refine qb1 ?_ r (d.add c J f z y) ?_
   .intro b i Q' l;cases b <;> first|exact wC l|exact uB l
   .intro h' n o;dsimp only;exact wC (m h' n o)
end
section
variable{prog:Program}{w:World}{A:Around}{R:Result->Shared->Prop}{I:Addr}{fp wr:List Addr}{G:Array GenState->Array GenState->Prop}{n:Nat}{P:Nat->Value->Prop}{St:Nat->Shared->Prop}
theorem loop(W:WalksS prog w A.in1 I fp wr G n P St)(S:Addr)(j:S∉fp)(led:Bool)(val:Nat->Int)(l:∀i v,P i v->∃t,v=.int (val i) t)(f:n+1<scanBound):
  ∀(k i:Nat) (s:Shared),n-i=k->i<=n->St i s->SetL s.heap S led (firstMet val i) ->
   (∀s',Moved (S::wr) G s s'->SetL s'.heap S led (firstMet val n)->R (.ok (.ret .none)) s') ->
   codeAny 08 A (.builtin "set.update.loop" ⟨[.ref S,.ref I],[]⟩) R s:=by
 have m:S∉wr:=λh=>j (W.sub _ h)
 have a:∀b∈wr,b∈S::wr:=λb f=>wO _ f
 intro k;induction k with
 |zero =>
  intro i s J hi c y z;have B:i=n:=by omega
  subst B;refine wu F.entry_set_update_loop ?_;rw[wc xq _];show wpAny _ A.in1 (pyNext (.ref I) >>= _) _ _ s;refine wA (W.done s _ _ c λs' hm=>?_);show wpAny _ A.in1 (ret Value.none) _ _ s';exact wC (z s' (hm.mono a) (y.at λo e=>hm.heap S o m e))
 |succ k K =>
  intro i s J hi c y z;have p:i<n:=by omega
  refine wu F.entry_set_update_loop ?_;rw[wc xq _];show wpAny _ A.in1 (pyNext (.ref I) >>= _) _ _ s;refine wA (W.item i s _ _ p c λv s' L q hm=>?_);obtain⟨t,rfl⟩:=l i v L;have C:SetL s'.heap S led (firstMet val i):=y.at λo e=>hm.heap S o m e
  show wpAny _ A.in1 (holding [Value.int (val i) t] (setAdd S (.int (val i) t)) >>= _) _ _ s';refine wA (wj ?_);unfold setAdd;refine wj ?_;refine wA ((intKind prog w).pyHash (k:=val i) (intKind_is _ _ _ _) ?_);have d:(firstMet val i).length+1<scanBound:=by have:=firstMet_length_le val i;omega
  refine qku (s:={s' with toks:=s'.toks+1}) C d λh' r E _=>?_
  have H:SetL h' S led (firstMet val (i+1)):=by rw[firstMet_succ];exact E
  refine wC ⟨vE xq _,K (i+1) _ 04 p (W.frame _ s' _ _ q (u0 _) λb f o e=>?_) H λs'' u x=>?_⟩
  .rw [r.2 b (λh:b=S=>j (by rw[<-h];exact f))];exact e
  .refine z s'' (Moved.trans W.gtrans ((hm.mono a).then_heap (u0 _) λb o f e=>?_) u) x
   rw[r.2 b (λh:b=S=>f (by rw[h];exact wL))];exact e
end
def qb2:isSubtype (.type "tuple") (.type "set")=pure false:=by rw[xa];kernel_rfl
def ja:isSubtype (.type "tuple") (.type "frozenset")=pure false:=by rw[xa];kernel_rfl
section
variable{prog:Program}{w:World}{A:Around}{E:Value->Shared->Prop}{s:Shared}
noncomputable abbrev ledW(w:World):Bool:=!w.params.followText "set-order"
theorem qf7(a:Value)(h:Q₁ (.ref s.heap.objs.size) {s with heap:=s.heap.push (setO #[] 0 (.fresh 0 0 (ledW w)))}):
  codeAny 08 A (.call (.builtin "set.__new__") ⟨[.type "set",a],[]⟩) (wants Q₁ E) s:=by
 refine gB ?_;show wpAny _ A.in1 (do checkBuiltinCall "set.__new__" ⟨[.type "set",a],[]⟩;again (.builtin "set.__new__" ⟨[.type "set",a],[]⟩)) _ _ s;refine wA (uj (F.newCall_set_1 a) (wC ⟨vE F.plain_set_new _,wu F.entry_set_new ?_⟩));rw[wc F.plain_set_new _];unfold Builtin.«set.__new__» Builtin.Frozenset.newClass;have b:=sub_set_self;obtain⟨c,g,d,tk,os⟩:=s;dsimp only;wp_walk;refine xI (wC ?_);dsimp only;simp only[newObj];refine wA (wpAny_alloc (wC ?_));exact wC h
theorem qf8(led:Bool):SetD led [] #[] (.fresh 0 0 led) where
 hash:=λe a=>by simp at a
 nums:=⟨[],.nil,.refl _⟩
 few:=by decide
 fits:=rfl
 led:=rfl
 good:=λ_=>⟨by show([]:List Nat).Pairwise _;exact .nil,rfl⟩
set_option maxHeartbeats 3200000 in
theorem set_tup{l:Addr}{items:Array Value}{ns:03}{Q:Value->Shared->Prop}(hh:A.handled=none)(hl:s.heap.IsTuple l items)(hi:IntsAre items.toList ns)(J:items.size+1<scanBound)(h:∀(h':Heap) (tk:Nat),SetL h' s.heap.objs.size (ledW w) (firstMet (λi=>ns.getD i 0) items.size) ->
   (∀b o,b<s.heap.objs.size->s.heap.get? b=some o->h'.get? b=some o)->Q (.ref s.heap.objs.size) {s with heap:=h',toks:=tk}):
  wpAny 08 A (call (.type "set") [.ref l]) Q E s:=by
 obtain⟨c,tl,Z⟩:=uo.mro;have K:=uo.made;have a0:=uo.sub;refine wpAny_call (gB ?_);show wpAny _ _ (callAny (.type "set") _) _ _ _;refine wC ⟨Code.quiet_builtin _ (by decide +kernel),wu F.entry_type_call ?_⟩;rw[Around.under_plain (weight_type_call_type "set" [.ref l] []) rfl];have h1:=uo.notType;have h2:=uo.canCreate;have a4:=F.typeCall_set_1 (.ref l)
 repeat (any_goals (first|assumption|wp_step))
 refine xZ (qf7 (.ref l) (E:=E) (Q₁:=λobj f=>obj=.ref s.heap.objs.size/\f={s with heap:=s.heap.push (setO #[] 0 (.fresh 0 0 (ledW w)))}) ⟨rfl,rfl⟩) λr f L=>?_
 cases r with
 |error e=>exact L
 |ok fl =>
  cases fl with
  |ret obj =>
   obtain⟨rfl,rfl⟩:=L;have hS:(s.heap.push (setO #[] 0 (.fresh 0 0 (ledW w)))).get? s.heap.objs.size=some (setO #[] 0 (.fresh 0 0 (ledW w))):=wE _ rfl;have hT:Shared.TypeIs {s with heap:=s.heap.push (setO #[] 0 (.fresh 0 0 (ledW w)))} (.ref s.heap.objs.size) "set":=⟨_,hS,rfl⟩;have a5:=uo.init.lookup;have a6:=uo.init.bind (.ref s.heap.objs.size)
   repeat (any_goals (first|assumption|wp_step))
   refine xZ (gI (R:=wants (λr j=>r=.none/\∃h' tk,j={s with heap:=h',toks:=tk} /\
     SetL h' s.heap.objs.size (ledW w) (firstMet (λi=>ns.getD i 0) items.size) /\
     (∀b o,b<s.heap.objs.size->s.heap.get? b=some o->h'.get? b=some o)) E) uo.init.plain F.entry_set_init (check_set_init_1 hT ?_)) λq j a=>?_
   .obtain ⟨ol,u,x,nl,y⟩:=hl
    obtain⟨a1,m,M,d⟩:=ol;simp only at x y;subst x;subst y;have z:(s.heap.push (setO #[] 0 (.fresh 0 0 (ledW w)))).get? l=some {cls:=.type "tuple",dict:=m,data:=.seq items nl,slots:=d}:=wB _ u;have a2:=qb2;have a3:=ja;have a7:(Value.type "tuple" == Value.type "dict")=false:=by decide
    have B:(s.heap.push (setO #[] 0 (.fresh 0 0 (ledW w)))).IsTuple l items:=⟨_,z,rfl,nl,rfl⟩;unfold Builtin.«set.__init__» noKeywords Builtin.Frozenset.updateFrom;generalize N:pyIter=PI;wp_walk;subst N;refine xY B ?_;refine wA (x9 ?_);have C:l<s.heap.objs.size:=wF u;have O:A.in1.in1.in1.handled=none:=by simp[hh]
    have H:l≠(s.heap.push (setO #[] 0 (.fresh 0 0 (ledW w)))).objs.size:=by
     rw[ww];exact wT (vf C)
    have P:s.heap.objs.size∉[(s.heap.push (setO #[] 0 (.fresh 0 0 (ledW w)))).objs.size,l]:=by
     rw[ww];simp only[wQ,wY,vO,xB,not_or];exact⟨wT (uh _),w1 C⟩
    have I:∀(i:Nat) (v:Value),items[i]?=some v->∃t,v=.int ((λi=>ns.getD i 0) i) t:=λi v hv =>
     IntsAre.int_at hi i v (by rw[vI];exact hv)
    refine loop ((Walks.tuple O _ l H items).toS) s.heap.objs.size
     P (ledW w) (λi=>ns.getD i 0) I J (items.size-0) 0 _ 04 (vN _)
     ⟨⟨_,wE _ rfl,rfl,rfl⟩,(B.push _)⟩ ?hS0 ?hR
    case hS0 =>
     exact⟨_,_,_,wB _ hS,qf8 _⟩
    case hR =>
     intro s' hm n;obtain⟨h',g',d',S,U⟩:=s';have eg:g'=s.gens:=hm.gens;have ed:d'=s.drawn:=hm.drawn;have eo:U=s.os:=hm.os;subst eg;subst ed;subst eo;show wpAny _ _ _ _ _ _;refine wC ?_;show wpAny _ _ (ret Value.none) _ _ _;refine wC ⟨rfl,h',S,rfl,n,λb o J e=>?_⟩;have W:b≠s.heap.objs.size:=wT J;have X:b≠(s.heap.push (setO #[] 0 (.fresh 0 0 (ledW w)))).objs.size:=by
      rw[ww];exact wT (vf J)
     exact hm.heap b o (by simp only[wQ,wY,vO,xB,not_or];exact⟨W,X⟩) (wB _ (wB _ e))
   .cases q with
    |error e=>exact a
    |ok p =>
     cases p with
     |ret r =>
      obtain⟨rfl,h',tk,rfl,n,Y⟩:=a
      repeat (any_goals (first|assumption|wp_step))
      exact h _ _ n Y
     |_=>exact a.elim
  |_=>exact L.elim
end
end SN
end R
section
set_option maxHeartbeats 400000
namespace R
open PySem PySem.Spec L2
open PyProof.Rows hiding St
namespace SN
def qc3:entryFor table "set.__iter__"=some Builtin.«frozenset.__iter__» :=
 entryFor_alias (id':="frozenset.__iter__") (by kernel_rfl) rfl (by decide +kernel) (by kernel_rfl)
def qP:Slot "set_iterator" "__next__" "set_iterator.__next__" :=
 .of (owner:="set_iterator") (n:="__next__") (by rw[typeLookup_type,builtinLookup_eq_fast];kernel_rfl) (by decide +kernel) (by decide +kernel) (by decide +kernel)
  (by first|exact .inl (by decide +kernel)|exact .inr (by decide +kernel)) (by rw[xa];kernel_rfl)
def yf:entryFor table "set_iterator.__next__"=some Builtin.«set_iterator.__next__»:=entryFor_of_tree (by kernel_rfl)
def yG(a:Value):argsOk "set_iterator.__next__" ⟨[a],[]⟩:=by unfold argsOk;kernel_rfl
def jW{a:Type}{l:List a}{i:Nat}(h:i<l.length):(l[i]::l.eraseIdx i).Perm l:=by
 rw[List.eraseIdx_eq_take_drop_succ];have e:l=l.take i++l[i]::l.drop (i+1):=by rw[<-ug h,List.take_append_drop]
 exact List.perm_middle.symm.trans (by rw[<-e])
def qdN{b:Type}(next:Nat->Nat):∀(f k:Nat) (left:List b) (a:Array b),left.length<=f->(pickOrder.go next f k left a).toList.Perm (a.toList++left)
 |0,k,left,a,h=>by
  have:left=[]:=xM 04;subst this;unfold pickOrder.go;simp
 |f+1,k,left,a,h=>by
  unfold pickOrder.go;by_cases c:left=[]
  .subst c;simp
  .have d:0<left.length:=List.length_pos_iff.mpr c
   have hi:next k % left.length<left.length:=Nat.mod_lt _ d;rw[wD hi];dsimp only;refine(qdN next f _ _ _ (by rw[List.length_eraseIdx_of_lt hi];omega)).trans ?_;rw[xn,u9];exact List.Perm.append_left _ (jW hi)
def js{a:Type}(next:Nat->Nat)(xs:Array a):(pickOrder next xs).toList.Perm xs.toList:=by
 unfold pickOrder;have:=qdN next xs.size 0 xs.toList #[] 02;simpa using this
section
variable{prog:Program}{w:World}{A:Around}{E:Value->Shared->Prop}{s:Shared}
theorem qbd{n:Nat}(hn:n≠0)(h:∀i,i<n->∀d',Q i {s with drawn:=d' }):wpAny 08 A (choose src n) Q E s :=
 λ_ _ _=>by unfold choose;rw[Sem.wp_choose];exact⟨hn,h _ (Nat.mod_lt _ (Nat.pos_of_ne_zero hn)) _⟩
theorem qdO{b:Type}:∀(n:Nat) (xs:List b) (s:Shared) {Q:List b->Shared->Prop},(n=xs.length)->(∀ys d',ys.Perm xs->Q ys {s with drawn:=d' })->wpAny 08 A (drawOrder n xs) Q E s
 |0,xs,s,Q,hn,h=>by
  have:xs=[]:=xM hn.symm;subst this;unfold drawOrder;have e:s={s with drawn:=s.drawn}:=by cases s;rfl
  rw[e];exact wC (h [] _ (.refl _))
 |n+1,[],s,Q,hn,h=>by simp at hn
 |n+1,x::r,s,Q,hn,h=>by
  unfold drawOrder;refine wA (qbd 02 λi hi d'=>?_);rw[wD hi];dsimp only;refine wA (qdO n _ _ (by rw[List.length_eraseIdx_of_lt hi];simp at hn ⊢;exact hn) λys a c=>wC ?_);exact h _ a ((c.cons _).trans (jW hi))
theorem zx(h:Q (w.params.followText "set-order") s):wpAny 08 A setsByText Q E s:=by
 unfold setsByText;exact wA (xI (wC h))
def ItO(h:Heap)(I a:Addr)(n ep:Nat)(first:Value)(i:Nat):Prop:=∃o,h.get? I=some o/\o.cls=.type "set_iterator"/\o.data=.fields #[first,.int i 0,.ref a,.int n 0,.int ep 0]
theorem ItO.at{h h':Heap}{n ep:Nat}{i:Nat}(x:ItO h I a n ep first i)(e:∀o,h.get? I=some o->h'.get? I=some o):ItO h' I a n ep first i:=let ⟨o,b,r⟩:=x;⟨o,e o b,r⟩
theorem ItO.typeIs{s:Shared}{n ep:Nat}{i:Nat}(x:ItO s.heap I a n ep first i):s.TypeIs (.ref I) "set_iterator":=let ⟨o,b,c,_⟩:=x;⟨o,b,c⟩
theorem ItO.set{n ep:Nat}{i j:Nat}(x:ItO h I a n ep first i):ItO (h.update I (Obj.mapFields (·.setIfInBounds 1 (rawInt j)))) I a n ep first j:=by
 obtain⟨o,b,c,hd⟩:=x;exact⟨_,w9 _ b (vV (wp hd _)),(xA ..).trans c,by rw[wp hd];simp[rawInt]⟩
theorem ItO.first{h:Heap}{I a:Addr}{n ep:Nat}{first:Value}{i j:Nat}(x:ItO h I a n ep first i):ItO (h.update I (Obj.mapFields (·.setIfInBounds 0 (rawInt j)))) I a n ep (.int j 0) i:=by
 obtain⟨o,b,c,hd⟩:=x;exact⟨_,w9 _ b (vV (wp hd _)),(xA ..).trans c,by rw[wp hd];simp[rawInt]⟩
theorem qb3{es:Array (Int×Value)}{ep slot slot' i:Nat}(c:ItO s.heap I a es.size ep (.int slot 0) i)(ha:s.heap.get? a=some (setO es ep t))(p:t.fits es.size=true)(hn:∀(q:Around) (r:Value->Shared->Prop) (Q':Option (Value×Nat)->Shared->Prop),Q' (some (x,slot')) s->wpAny 08 q (setNext a slot i ep) Q' r s)(u:∀h',ItO h' I a es.size ep (.int slot' 0) (i+1)->(∀b o,b≠I->s.heap.get? b=some o->h'.get? b=some o)->Q (some x) {s with heap:=h' }):wpAny 08 A (pyNext (.ref I)) Q E s:=by
 have h:=c.typeIs;obtain⟨o,l,z,hd⟩:=id c;unfold pyNext;refine wA (vX (wb (name:=Str.ofString "__next__") h qP (we qP h yf ?_ (yG _))));unfold Builtin.«set_iterator.__next__»;refine wA (wC (wA (uW l hd ?_)));dsimp only;refine wA (ui ha rfl p ?_);rw[wN 02];simp only[uC];refine wA (hn _ _ _ ?_);dsimp only;refine wA (vK l hd 02 ?_);have m:=c.first (j:=slot');obtain⟨B,d,v,f⟩:=id m;refine wA (vK d f 02 ?_);have y:=m.set (j:=i+1);refine wC ⟨_,rfl,wC (u _ y λb o n e=>?_)⟩;exact(wJ _ _ (Ne.symm n)).trans ((wJ _ _ (Ne.symm n)).trans e)
theorem jb{es:Array (Int×Value)}{ep slot i:Nat}(h:A.handled=none)(c:ItO s.heap I a es.size ep (.int slot 0) i)(ha:s.heap.get? a=some (setO es ep t))(j:t.fits es.size=true)(hn:∀(l:Around) (n:Value->Shared->Prop) (Q':Option (Value×Nat)->Shared->Prop),Q' none s->wpAny 08 l (setNext a slot i ep) Q' n s)(p:∀h',(∀b o,b≠I->s.heap.get? b=some o->h'.get? b=some o)->Q none {s with heap:=h' }):wpAny 08 A (pyNext (.ref I)) Q E s:=by
 have d:=c.typeIs;obtain⟨o,f,r,hd⟩:=id c;unfold pyNext;refine wA (vX (wb (name:=Str.ofString "__next__") d qP (we qP d yf ?_ (yG _))));unfold Builtin.«set_iterator.__next__»;refine wA (wC (wA (uW f hd ?_)));dsimp only;refine wA (ui ha rfl j ?_);rw[wN 02];simp only[uC];refine wA (hn _ _ _ ?_);dsimp only;refine wA (m:=setField (.ref I) 2 .none) (vK f hd 02 (?_:wpAny _ _ (newExc (.type "StopIteration") [] >>= _) _ _ _));refine wA ?_;unfold newExc newTuple;refine wA (wR (wA (uj (t:=firstArgMember _ _) (a:=Value.none) (by first|rfl|(simp only[firstArgMember];rfl)) (wR ?_ (by size_fits)))) (by size_fits));unfold raiseNew;refine wA (xo ?_);rw[show A.in1.handled=none from h];refine wA (wC (wpAny_throw ?_));refine wA (vn (T:="StopIteration") (b:=true) ⟨_,wE _ rfl,rfl⟩ xb ?_);exact wC (p _ λb o q e=>(((Heap.SameBut.update ..).extBut.push _).push _) b o q e)
theorem qiw{es:Array (Int×Value)}{ep i p:Nat}{pl:List Nat}{hx:Int}(c:ItO s.heap I a es.size ep (.ref T) i)(ha:s.heap.get? a=some (setO es ep t))(m:t.fits es.size=true)(d:s.heap.IsTuple T (pl.map λ(k:Nat)=>rawInt k).toArray)(r:pl[i]?=some p)(f:es[p]?=some (hx,x))(u:∀h',ItO h' I a es.size ep (.ref T) (i+1)->(∀b o,b≠I->s.heap.get? b=some o->h'.get? b=some o)->Q (some x) {s with heap:=h' }):wpAny 08 A (pyNext (.ref I)) Q E s:=by
 have n:=c.typeIs;obtain⟨o,q,z,hd⟩:=id c;obtain⟨B,h,_,C,l⟩:=d;unfold pyNext;refine wA (vX (wb (name:=Str.ofString "__next__") n qP (we qP n yf ?_ (yG _))));unfold Builtin.«set_iterator.__next__»;refine wA (wC (wA (uW q hd ?_)));dsimp only;refine wA (ui ha rfl m ?_);rw[wN 02];refine wA (vk h l ?_);have e1:(pl.map λ(k:Nat)=>Value.int (k:Int) 0).toArray[i]?=some (Value.int p 0):=by simp[r]
 simp only[uC,rawInt,e1];unfold setNextDrawn;refine wA (wA (vb ha rfl m ?_));dsimp only;rw[wN 02];rw[f];refine wC ?_;refine wA (vK q hd 02 ?_);have v:=c.set (j:=i+1);refine wC ⟨_,rfl,wC (u _ v λb o y e=>?_)⟩;exact(wJ _ _ (Ne.symm y)).trans e
theorem qb4{es:Array (Int×Value)}{ep i:Nat}{pl:List Nat}(r:A.handled=none)(c:ItO s.heap I a es.size ep (.ref T) i)(ha:s.heap.get? a=some (setO es ep t))(u:t.fits es.size=true)(d:s.heap.IsTuple T (pl.map λ(k:Nat)=>rawInt k).toArray)(v:pl[i]?=none)(x:∀h',(∀b o,b≠I->s.heap.get? b=some o->h'.get? b=some o)->Q none {s with heap:=h' }):wpAny 08 A (pyNext (.ref I)) Q E s:=by
 have p:=c.typeIs;obtain⟨o,f,y,hd⟩:=id c;obtain⟨z,h,_,B,j⟩:=d;unfold pyNext;refine wA (vX (wb (name:=Str.ofString "__next__") p qP (we qP p yf ?_ (yG _))));unfold Builtin.«set_iterator.__next__»;refine wA (wC (wA (uW f hd ?_)));dsimp only;refine wA (ui ha rfl u ?_);rw[wN 02];refine wA (vk h j ?_);have e1:(pl.map λ(k:Nat)=>Value.int (k:Int) 0).toArray[i]?=none:=by simpa using v
 simp only[uC,rawInt,e1];refine wA (vK f hd 02 ?_);have l:=w9 (Obj.mapFields (·.setIfInBounds 0 (Value.int 0 0))) f (vV (wp hd _));have n:=wp hd (·.setIfInBounds 0 (Value.int 0 0));refine wA (m:=setField (.ref I) 2 .none) (vK l n 02 (?_:wpAny _ _ (newExc (.type "StopIteration") [] >>= _) _ _ _));refine wA ?_;unfold newExc newTuple;refine wA (wR (wA (uj (t:=firstArgMember _ _) (a:=Value.none) (by first|rfl|(simp only[firstArgMember];rfl)) (wR ?_ (by size_fits)))) (by size_fits));unfold raiseNew;refine wA (xo ?_);rw[show A.in1.handled=none from r];refine wA (wC (wpAny_throw ?_));refine wA (vn (T:="StopIteration") (b:=true) ⟨_,wE _ rfl,rfl⟩ xb ?_);exact wC (x _ λb o q e=>wB _ (wB _ ((wJ _ _ (Ne.symm q)).trans ((wJ _ _ (Ne.symm q)).trans e))))
end
end SN
end R
end
section
set_option maxHeartbeats 400000
namespace R
open PySem PySem.Spec L2
open PyProof.Rows hiding St
namespace SN
section
variable{prog:Program}{w:World}{A:Around}{E:Value->Shared->Prop}{s:Shared}
theorem qdP:Slot "set_iterator" "__iter__" "set_iterator.__iter__" :=
 .of (owner:="set_iterator") (n:="__iter__") (by rw[typeLookup_type,builtinLookup_eq_fast];kernel_rfl) (by decide +kernel) (by decide +kernel) (by decide +kernel)
  (by first|exact .inl (by decide +kernel)|exact .inr (by decide +kernel)) (by rw[xa];kernel_rfl)
theorem qf9:entryFor table "set_iterator.__iter__"=some Builtin.«dict_keyiterator.__iter__»:=entryFor_alias (id':="dict_keyiterator.__iter__") (by kernel_rfl) rfl (by decide +kernel) (by kernel_rfl)
theorem qix(a:Value):argsOk "set_iterator.__iter__" ⟨[a],[]⟩:=by unfold argsOk;kernel_rfl
theorem qbe{n ep i:Nat}(b:ItO s.heap I a n ep first i)(h:Q (.ref I) s):wpAny 08 A (pyIter (.ref I)) Q E s:=by
 refine wpAny_pyIter_slot b.typeIs qdP (we qdP b.typeIs qf9 ?_ (qix _));show wpAny _ _ (ret (.ref I)) _ _ s;exact wC ⟨_,rfl,"set_iterator",_,b.typeIs,qP.lookup,h⟩
theorem qga(r:A.handled=none)(I a:Addr)(p:a≠I){es:Array (Int×Value)}{ep:Nat}{t:SetTable}(l:t.fits es.size=true)(d:w.params.followText "set-order"=true):
  Walks prog w A I [I,a] [I] es.size (λi v=>((pickOrder (w.params.setOrder a ep) es).toList.map (·.2))[i]?=some v) (λi h=>(∃slot:Nat,ItO h I a es.size ep (.int slot 0) i)/\h.get? a=some (setO es ep t)) where
 sub:=λb d=>by simp at d;simp[d]
 frame:=λ_ _ _ st f=>⟨let ⟨k,x⟩:=st.1;⟨k,x.at λo e=>f I 02 o e⟩,f a 02 _ st.2⟩
 item:=λi s Q E hi st m=>by
  obtain⟨⟨slot,c⟩,ha⟩:=st;have u:(pickOrder (w.params.setOrder a ep) es).size=es.size:=by
   have:=(js (w.params.setOrder a ep) es).length_eq;simpa using this
  have hx:(pickOrder (w.params.setOrder a ep) es)[i]?=some (pickOrder (w.params.setOrder a ep) es)[i]:=wo 04;refine qb3 (slot':=slot) (x:=((pickOrder (w.params.setOrder a ep) es)[i]' 04).2) c ha l (λy B Q' q=>?_) λh' n f=>?_
  .unfold setNext
   refine wA (vb ha rfl l ?_);dsimp only;refine wA (zx ?_);rw[d];simp only[vo,xh,wz,uG];unfold setWalk;refine wA (wA (vb ha rfl l ?_));dsimp only;refine wA (zx ?_);rw[d];simp only[vo];refine wA (xI (wC ?_));refine wC ?_;show Q' (((pickOrder (w.params.setOrder a ep) es)[i]?).map λe=>(e.2,slot)) _;rw[hx];exact q
  .refine m _ h' s.toks ?_ ⟨⟨slot,n⟩,f a _ p ha⟩ λb o j e=>f b o (λz=>j (by simp[z])) e
   rw[wU,vI,hx];rfl
 done:=λs Q E st m=>by
  obtain⟨⟨slot,c⟩,ha⟩:=st;have u:(pickOrder (w.params.setOrder a ep) es).size=es.size:=by
   have:=(js (w.params.setOrder a ep) es).length_eq;simpa using this
  refine jb r c ha l (λy B Q' q=>?_) λh' f=>m h' s.toks λb o j e=>f b o (λz=>j (by simp[z])) e
  unfold setNext;refine wA (vb ha rfl l ?_);dsimp only;refine wA (zx ?_);rw[d];simp only[vo,xh,wz,uG];unfold setWalk;refine wA (wA (vb ha rfl l ?_));dsimp only;refine wA (zx ?_);rw[d];simp only[vo];refine wA (xI (wC ?_));refine wC ?_;show Q' (((pickOrder (w.params.setOrder a ep) es)[es.size]?).map λe=>(e.2,slot)) _;rw[uF 04];exact q
 self:=λ_ s Q E st m=>by
  obtain⟨⟨slot,c⟩,_⟩:=st;exact qbe c m
noncomputable def slotAt(t:SetTable)(i:Nat):Nat:=if i=0 then 0 else t.place.getD (i-1) 0+1
theorem jX{t:SetTable}(h:t.place.toList.Pairwise (· < ·)){i:Nat}(hi:i<=t.place.size):SetTable.below t.place (slotAt t i)=i:=by
 obtain⟨b1,b2,e⟩:=qbX (slotAt t i) h;generalize f:SetTable.below t.place (slotAt t i)=b at b1 b2 e;have lt:∀x y,x<y->(c:y<t.place.size)->t.place.getD x 0<t.place.getD y 0:=λx y d c=>by
  have:=(ue.mp h) x y (by simp;omega) (by simpa using c) d;rw[zC (show x<t.place.size by omega),zC c];simpa using this
 rcases Nat.lt_trichotomy b i with q|q|q
 .exfalso
  have a:=e b (wG _) 04;unfold slotAt at a;rw[wN 04,zC (show b<t.place.size by omega),<-zC (j:=0) (show b<t.place.size by omega)]at a;rcases Nat.lt_or_eq_of_le (show b<=i-1 by omega)with r|r
  .have:=lt b (i-1) r 04;omega
  .rw [r]at a;omega
 .exact q
 .exfalso
  have a:=b2 i q;rw[zC (show i<t.place.size by omega),<-zC (j:=0) (show i<t.place.size by omega)]at a;unfold slotAt at a;by_cases z:i=0
  .rw [wM z]at a;omega
  .rw [wN z]at a
   have:=lt (i-1) i 04 04;omega
theorem qgb(J:A.handled=none)(I a:Addr)(y:a≠I){es:Array (Int×Value)}{ep:Nat}{t:SetTable}(d:t.fits es.size=true)(n:w.params.followText "set-order"=false)(C:t.led=true)(F:t.plain=true\/es.size<=1)(H:t.place.toList.Pairwise (· < ·)):
  Walks prog w A I [I,a] [I] es.size (λi v=>(es.toList.map (·.2))[i]?=some v) (λi h=>i<=es.size/\ItO h I a es.size ep (.int (slotAt t i) 0) i/\h.get? a=some (setO es ep t)) where
 sub:=λb n=>by simp at n;simp[n]
 frame:=λ_ _ _ st f=>⟨st.1,st.2.1.at λo e=>f I 02 o e,f a 02 _ st.2.2⟩
 item:=λi s Q E hi st r=>by
  obtain⟨_,j,ha⟩:=st;have B:t.place.size=es.size:=by simp[SetTable.fits]at d;exact d.1
  refine qb3 (slot':=slotAt t (i+1)) (x:=es[i].2) j ha d (λK L Q' q=>?_) λh' u f=>?_
  .unfold setNext
   refine wA (vb ha rfl d ?_);dsimp only;refine wA (zx ?_);rw[n];simp only[wz,uG];refine uq (λl=>?_) (λ_=>?_)
   .have c:(!t.plain&&decide (es.size>1))=true:=l
    simp only[wK,uE,w6]at c;rcases F with p|p
    .rw [p]at c;exact absurd c.1 01
    .omega
   refine wA ?_;show wpAny _ _ (if(!t.led&&!es.isEmpty)=true then _ else _) _ _ _;rw[wN (by rw[C];simp)];refine wC ?_;rw[jX H 04];have e1:es[i]?=some es[i]:=wo hi;have M:t.place[i]?=some (t.place[i]' 04):=wo 04;have N:slotAt t (i+1)=t.place[i]' 04+1:=by
    unfold slotAt;rw[wN 04,Nat.add_sub_cancel,zC 04]
   rw[e1,M];dsimp only;rw[N]at q;exact wC q
  .refine r _ h' s.toks ?_ ⟨hi,u,f a _ y ha⟩ λb o m e=>f b o (λz=>m (by simp[z])) e
   rw[wU,vI,wo hi];rfl
 done:=λs Q E st r=>by
  obtain⟨_,j,ha⟩:=st;have B:t.place.size=es.size:=by simp[SetTable.fits]at d;exact d.1
  refine jb J j ha d (λK L Q' q=>?_) λh' f=>r h' s.toks λb o m e=>f b o (λz=>m (by simp[z])) e
  unfold setNext;refine wA (vb ha rfl d ?_);dsimp only;refine wA (zx ?_);rw[n];simp only[wz,uG];refine uq (λl=>?_) (λ_=>?_)
  .have c:(!t.plain&&decide (es.size>1))=true:=l
   simp only[wK,uE,w6]at c;rcases F with p|p
   .rw [p]at c;exact absurd c.1 01
   .omega
  refine wA ?_;show wpAny _ _ (if(!t.led&&!es.isEmpty)=true then _ else _) _ _ _;rw[wN (by rw[C];simp)];refine wC ?_;rw[jX H 04,uF (wG _)];exact wC q
 self:=λ_ s Q E st r=>qbe st.2.1 r
theorem qiy(y:A.handled=none)(I a T:Addr)(n:a≠I)(p:T≠I){es:Array (Int×Value)}{ep:Nat}{t:SetTable}(r:t.fits es.size=true){pl:List Nat}(q:pl.Perm (List.range es.size)):
  Walks prog w A I [I,a,T] [I] es.size (λi v=>(pl.map λk=>(es.getD k (0,.none)).2)[i]?=some v) (λi h=>ItO h I a es.size ep (.ref T) i/\h.get? a=some (setO es ep t)/\h.IsTuple T (pl.map λ(k:Nat)=>rawInt k).toArray) where
 sub:=λb u=>by simp at u;simp[u]
 frame:=λ_ _ _ st c=>⟨st.1.at λo e=>c I 02 o e,c a 02 _ st.2.1,st.2.2.at λo e=>c T 02 o e⟩
 item:=λi s Q E hi st j=>by
  obtain⟨d,ha,m⟩:=st;have B:pl.length=es.size:=by have:=q.length_eq;simpa using this
  have e1:pl[i]?=some (pl[i]' 04):=wD 04;have c:pl[i]' 04<es.size:=by
   have:pl[i]' 04∈List.range es.size:=q.mem_iff.mp (uV _);exact uA.mp this
  refine qiw (x:=(es[pl[i]' 04]'c).2) (hx:=(es[pl[i]' 04]'c).1) d ha r m e1 (wo c) λh' l kp=>?_
  refine j _ h' s.toks ?_ ⟨l,kp a _ n ha,m.at λo e=>kp T o p e⟩ λb o f e=>kp b o (λz=>f (by simp[z])) e
  rw[wU,e1,wf];rw[show es.getD (pl[i]' 04) (0,.none)=es[pl[i]' 04]'c by simp[Array.getD,c]]
 done:=λs Q E st j=>by
  obtain⟨d,ha,m⟩:=st;have B:pl.length=es.size:=by have:=q.length_eq;simpa using this
  exact qb4 y d ha r m (vW 04) λh' c=>j h' s.toks λb o f e=>c b o (λz=>f (by simp[z])) e
 self:=λ_ s Q E st j=>qbe st.1 j
theorem qc4{es:Array (Int×Value)}{pl:List Nat}(a:pl.Perm (List.range es.size)):(pl.map λk=>(es.getD k (0,.none)).2).Perm (es.toList.map (·.2)):=by
 refine(a.map _).trans ?_;have:(List.range es.size).map (λk=>(es.getD k (0,.none)).2)=es.toList.map (·.2):=by
  apply u8;intro i;rw[wU,wU,show es.toList[i]?=es[i]? from vI];by_cases h:i<es.size
  .rw [List.getElem?_range h,wo h]
   simp[Array.getD,h]
  .rw [vW (by simpa using h),uF 04];rfl
 rw[this]
theorem qb5{n:Nat}(g:Good t)(b:t.fits n=true)(d:t.plain=true\/n<=1):t.place.toList.Pairwise (· < ·):=by
 rcases d with p|p
 .exact (g p).1
 .have a:t.place.size=n:=by simp[SetTable.fits]at b;exact b.1
  have c:t.place.toList.length<=1:=by simpa[a]using p
  match h:t.place.toList with
  |[]=>exact .nil
  |[_]=>exact uu _ _
  |_::_::_=>rw[h]at c;simp at c
theorem qgc{a:Addr}{ks:03}{es:Array (Int×Value)}{ep:Nat}{t:SetTable}{Q:Value->Shared->Prop}(ha:s.heap.get? a=some (setO es ep t))(d:SetD (ledW w) ks es t)(x:Around)(y:x.handled=none)(B:∀(h':Heap) (d':_) (I:Addr) (fp:List Addr) (St:Nat->Heap->Prop) (ord:List Value),(∀b o,s.heap.get? b=some o->h'.get? b=some o)->s.heap.objs.size<=h'.objs.size->s.heap.objs.size<=I->(∀b∈fp,b=a\/s.heap.objs.size<=b)->ord.Perm (es.toList.map (·.2)) ->
   Walks prog w x I fp [I] ord.length (λi v=>ord[i]?=some v) St->St 0 h'->Q (.ref I) {s with heap:=h',drawn:=d' }):wpAny (model prog w) A (pyIter (.ref a)) Q E s:=by
 have H:s.TypeIs (.ref a) "set":=⟨_,ha,rfl⟩;have m:=d.fits;have p:a<s.heap.objs.size:=wF ha;refine wpAny_pyIter_slot H F.slot_set_iter (we F.slot_set_iter H qc3 ?_ (F.args_set_iter_1 _));unfold Builtin.«frozenset.__iter__» Builtin.Frozenset.slot0 Builtin.Frozenset.sizeOf;refine wA (wA (wC (wC (wA (wA (ui ha rfl m (wC (wA ?_))))))));unfold setDrawn;refine wA (vb ha rfl m ?_);dsimp only;refine wA (zx (wC ?_));have C:∀h',({s with heap:=h' }:Shared)={s with heap:=h',drawn:=s.drawn}:=λh'=>by cases s;rfl
 refine uq (λhd=>?_) (λhd=>?_)
 .refine wA (qdO es.size _ _ 02 λpl d' f=>?_)
  have u:pl.length=es.size:=by have:=f.length_eq;simpa using this
  have J:es.size<=sizeLine:=xg d.few;unfold newTuple;refine wA (wR ?_ (by show(pl.map λ(i:Nat)=>rawInt i).toArray.size<=sizeLine;simpa[u]using J));have r:=wB {cls:=.type "tuple",data:=.seq (pl.map λ(i:Nat)=>rawInt i).toArray} ha;refine wA (wpAny_setEpoch_of r rfl m ?_);refine wA (wR ?_);have hsz:(s.heap.push {cls:=.type "tuple",data:=.seq (pl.map λ(i:Nat)=>rawInt i).toArray}).objs.size=s.heap.objs.size+1:=by rw[ww]
  have q:=wE (o:={cls:=.type "set_iterator",data:=.fields #[.ref s.heap.objs.size,rawInt 0,.ref a,rawInt es.size,rawInt ep]}) (s.heap.push {cls:=.type "tuple",data:=.seq (pl.map λ(i:Nat)=>rawInt i).toArray}) rfl;refine wC ⟨_,rfl,"set_iterator",_,⟨_,q,rfl⟩,qP.lookup,?_⟩;have W:=qiy (prog:=prog) (w:=w) y (s.heap.objs.size+1) a s.heap.objs.size (wT (vf p)) (wT (uh _)) (ep:=ep) m f;have c:(pl.map λk=>(es.getD k (0,.none)).2).length=es.size:=by rw[wH,u]
  rw[<-c]at W;have:=B ((s.heap.push {cls:=.type "tuple",data:=.seq (pl.map λ(i:Nat)=>rawInt i).toArray}).push {cls:=.type "set_iterator",data:=.fields #[.ref s.heap.objs.size,rawInt 0,.ref a,rawInt es.size,rawInt ep]}) d' (s.heap.objs.size+1) _ _ _ (λb o e=>wB _ (wB _ e)) (by rw[ww,ww];exact xJ _ 2) (u0 _) (λb j=>by
   rcases wQ.mp j with rfl|j
   .exact .inr (u0 _)
   .rcases wQ.mp j with rfl|j
    .exact .inl rfl
    .rw [wY.mp j];exact .inr (wG _)) (qc4 f) W ⟨⟨_,by rw[<-hsz];exact q,rfl,by rw[c];rfl⟩,wB _ r,⟨_,wB _ (wE _ rfl),rfl,0,rfl⟩⟩
  rw[<-hsz]at this;exact this
 .refine wA (wC ?_)
  refine wA (wpAny_setEpoch_of ha rfl m ?_);refine wA (wR ?_);have q:=wE (o:={cls:=.type "set_iterator",data:=.fields #[rawInt 0,rawInt 0,.ref a,rawInt es.size,rawInt ep]}) s.heap rfl;refine wC ⟨_,rfl,"set_iterator",_,⟨_,q,rfl⟩,qP.lookup,?_⟩;rw[C];have n:∀b∈[s.heap.objs.size,a],b=a\/s.heap.objs.size<=b:=λb j=>by
   rcases wQ.mp j with rfl|j
   .exact .inr (wG _)
   .exact .inl (wY.mp j)
  cases hft:w.params.followText "set-order" with
  |true =>
   have W:=qga (prog:=prog) (w:=w) y s.heap.objs.size a (wT p) (ep:=ep) m hft;have f:=(js (w.params.setOrder a ep) es).map (·.2);have c:((pickOrder (w.params.setOrder a ep) es).toList.map (·.2)).length=es.size:=by rw[f.length_eq,wH,wg]
   rw[<-c]at W;exact B (s.heap.push {cls:=.type "set_iterator",data:=.fields #[rawInt 0,rawInt 0,.ref a,rawInt es.size,rawInt ep]}) s.drawn s.heap.objs.size _ _ _ (λb o e=>wB _ e) (by rw[ww];exact u0 _) (wG _) n f W ⟨⟨0,_,q,rfl,by rw[c];rfl⟩,wB _ ha⟩
  |false =>
   have u:t.led=true:=by rw[d.led];show(!w.params.followText "set-order")=true;rw[hft];rfl
   have f:t.plain=true\/es.size<=1:=by
    have l:¬((!w.params.followText "set-order"&&(!t.plain&&decide (es.size>1)))=true):=hd;rw[hft]at l;cases z:t.plain with
    |true=>exact .inl rfl
    |false =>
     rw[z]at l;simp at l;exact .inr l
   have W:=qgb (prog:=prog) (w:=w) y s.heap.objs.size a (wT p) (ep:=ep) m hft u f (qb5 d.good m f);have c:(es.toList.map (·.2)).length=es.size:=by rw[wH,wg]
   have K:Walks prog w x s.heap.objs.size [s.heap.objs.size,a] [s.heap.objs.size] (es.toList.map (·.2)).length (λi v=>(es.toList.map (·.2))[i]?=some v) (λi h=>i<=es.size/\ItO h s.heap.objs.size a es.size ep (.int (slotAt t i) 0) i/\h.get? a=some (setO es ep t)):=by rw[c];exact W
   exact B (s.heap.push {cls:=.type "set_iterator",data:=.fields #[rawInt 0,rawInt 0,.ref a,rawInt es.size,rawInt ep]}) s.drawn s.heap.objs.size _ _ _ (λb o e=>wB _ e) (by rw[ww];exact u0 _) (wG _) n (.refl _) K ⟨vN _,⟨_,q,rfl,rfl⟩,wB _ ha⟩
end
end SN
end R
end
section
set_option maxHeartbeats 400000
namespace R
open PySem PySem.Spec L2
open PyProof.Rows hiding St
namespace SN
section
variable{prog:Program}{w:World}{A:Around}{E:Value->Shared->Prop}{s:Shared}
theorem qgd(d:s.TypeIs (.ref r) "set")(h:Q false s):wpAny 08 A (Builtin.List.listLengthHint (.ref r)) Q E s:=by
 unfold Builtin.List.listLengthHint;refine wA (gA d PySem.F.slot_set_len.lookup ?_);generalize c:("set.__len__":String)=id0
 wp_delta
 rw[show splitId id0=some ("set","__len__")from by subst c;decide +kernel];subst c;refine wA (vn (T:="set") (b:=true) d (by rw[xa];kernel_rfl) ?_);refine uq (λa=>absurd a 01) (λ_=>?_);refine uq (λ_=>?_) (λa=>absurd (by decide +kernel) a);refine wA (uk d ?_);exact wC h
theorem qc5{ep:Nat}(U:A.handled=none)(ha:s.heap.get? a=some (setO es ep t))(d:SetD (ledW w) ks es t)(S:Addr)(y:S≠a)(res:Value)(n:Nat)(O:s.heap.get? S=some {cls:=.type "list",data:=.seq #[] n})(X:∀h' tk d' c x,(∀b o,b≠S->s.heap.get? b=some o->h'.get? b=some o)->h'.get? S=some {cls:=.type "list",dict:=none,data:=.seq c x,slots:=#[]}->c.toList.Perm (es.toList.map (·.2))->R (.ok (.ret res)) {s with heap:=h',toks:=tk,drawn:=d' }):
  wpAny 08 A.in1 (Builtin.List.listExtendWith (.ref S) (.ref a) res)
   (λfin s'=>match fin with|.done f=>R (.ok f) s'|.again x=>x.quiet=true/\codeAny 08 A x R s') (λe s'=>R (.error e) s') s:=by
 have P:∀s':Shared,s'.heap.get? a=some (setO es ep t)->s'.TypeIs (.ref a) "set":=λs' h=>⟨_,h,rfl⟩
 have B:=wF O;unfold Builtin.List.listExtendWith;refine wA (uk (T:="set") (P s ha) ?_);have q:Builtin.List.listSameRef (.ref S) (.ref a)=false:=by simp[Builtin.List.listSameRef,y]
 have Y:(Value.type "set" == Value.type "list")=false:=by decide
 have Z:(Value.type "set" == Value.type "tuple")=false:=by decide
 simp only[q,Y,Z,Bool.or_false,wz,uG];refine wA (qgc ha d A.in1 U λq d1 I fp St ord k1 a0 C L Q W st=>?_);have hn:ord.length<=sizeLine:=by rw[Q.length_eq,wH,wg];exact xg d.few
 have H:S∉fp:=λhm=>(L S hm).elim y (λz=>absurd B (xS.mpr z))
 have a1:S≠I:=λe=>absurd B (xS.mpr (e ▸ C))
 have J:∀(h:Heap) (c₁ tk:Nat),St 0 h->(∀b o,b≠S->q.get? b=some o->h.get? b=some o)->q.objs.size<=h.objs.size ->
   h.get? S=some {cls:=.type "list",data:=.seq #[] c₁}->codeAny 08 A (.builtin "list.extend.loop" ⟨[.ref S,.ref I,res],[]⟩) R {s with heap:=h,toks:=tk,drawn:=d1}:=by
  intro h c₁ tk M hk hsz j;refine codeAny_extend_loopS W.toS hn S H res ord.length 0 _ #[] c₁ rfl (vN _) M j (ItemsOf.nil _) λs' c x hm N p=>?_
  rw[Moved.eq_with hm];have keep:∀b o,b≠S->s.heap.get? b=some o->s'.heap.get? b=some o:=λb o r e=>hm.heap b o (λl=>by
   rcases wQ.mp l with e'|l
   .exact r e'
   .exact absurd (wF e) (by rw[wY.mp l];exact xS.mpr C)) (hk b o r (k1 b o e))
  refine X s'.heap s'.toks d1 c x keep N ?_
  .have e:c.toList=ord:=by
    apply u8;intro i;rw[vI];cases z:c[i]? with
    |none =>
     have q:c.size<=i:=by simpa using z
     rw[p.1]at q;exact(vW q).symm
    |some v=>exact(p.2 i v z).symm
   rw[e];exact Q
 have j:=k1 S _ O;refine wA (wj (qgd (P _ (k1 a _ ha)) ?_));refine uq (λ_=>?_) (λ_=>wC ⟨vE PySem.F.plain_extend_loop _,J _ n _ st (λb o _ e=>e) (wG _) j⟩);refine wA (uB ?_);refine wA ?_;show wpAny _ _ (updateSeq S (·.push .none) >>= λ_=>updateSeq S (·.pop)) _ _ _;refine wA (vl j rfl ?_);have m:=w9 (Obj.mapSeq (·.push Value.none)) j rfl;refine vl (hz:=by seq_fits) m rfl ?_;have u:=w9 (Obj.mapSeq (·.pop)) m rfl;refine wC ⟨vE PySem.F.plain_extend_loop _,J _ _ _ ?_ (λb o r e=>?_) ?_ u⟩
 .refine W.frame 0 _ _ st λb r o e=>?_
  have K:b≠S:=λh=>H (h ▸ r)
  exact(wJ _ _ (Ne.symm K)).trans ((wJ _ _ (Ne.symm K)).trans e)
 .exact (wJ _ _ (Ne.symm r)).trans ((wJ _ _ (Ne.symm r)).trans e)
 .rw [vS,vS];exact wG _
theorem qge(n:A.handled=none)(f:SetL s.heap a (ledW w) ks)(p:∀(h':Heap) (tk:Nat) (d':Drawn) (h:List Value) (ns:03),s.heap.objs.size<=h'.objs.size->(∀b o,s.heap.get? b=some o->h'.get? b=some o)->IntsAre h ns->ns.Perm ks->Q h {s with heap:=h',toks:=tk,drawn:=d' }):wpAny 08 A (collect (.ref a)) Q E s:=by
 obtain⟨es,ep,t,ha,d⟩:=f;have hd:s.heap.objs.size≠a:=w1 (wF ha);have i:∀R:Result->Shared->Prop,(∀(h':Heap) (tk:Nat) (d':Drawn) (c:Array Value) (j:Nat),(∀b o,s.heap.get? b=some o->h'.get? b=some o)->h'.get? s.heap.objs.size=some {cls:=.type "list",dict:=none,data:=.seq c j,slots:=#[]}->c.toList.Perm (es.toList.map (·.2)) ->
   R (.ok (.ret (.ref s.heap.objs.size))) {s with heap:=h',toks:=tk,drawn:=d' })->codeAny (model prog w) A (.builtin "proto.collect" ⟨[.ref a],[]⟩) R s:=by
  intro R q;refine wu xH ?_;rw[wc xG];refine wA (m:=newList []) (wR (wC ⟨vE uD _,wu xm ?_⟩));rw[wc uD];have r:(s.heap.push {cls:=.type "list",data:=.seq ([]:List Value).toArray}).get? s.heap.objs.size=some {cls:=.type "list",data:=.seq #[] 0}:=wE _ rfl;exact qc5 (R:=R) (s:={s with heap:=s.heap.push {cls:=.type "list",data:=.seq ([]:List Value).toArray}}) n (wB _ ha) d s.heap.objs.size hd (.ref s.heap.objs.size) 0 r (λh' tk d' c j l f hi =>
   q h' tk d' c j (λb o e=>l b o (wT (wF e)) (wB _ e)) f hi)
 unfold collect;refine wA (x9 (i _ λh' tk d' c j l f hi=>?_));refine wA (m:=load s.heap.objs.size) (wpAny_load f (wC ?_));obtain⟨ns,u,v⟩:=d.nums;obtain⟨m,x,y⟩:=ye hi u;exact p h' tk d' _ _ (x4 (wF f)) l x (y.trans v)
theorem sorted_set(p:A.in1.handled=none)(q:SetL s.heap a (ledW w) ks)(r:ks.length<64)(h:∀(h':Heap) (tk:Nat) (d':Drawn) (D:Addr) (d:Array Value) (c:Nat) (f:03),s.heap.objs.size<=D->(∀b o,s.heap.get? b=some o->h'.get? b=some o)->IntsAre d.toList f->f.Perm ks->f.Pairwise (·<=·)->h'.get? D=some (seqObj "list" d c)->Q (.ref D) {s with heap:=h',toks:=tk,drawn:=d' }):
  wpAny 08 A (call (.builtin "sorted") [.ref a]) Q E s:=by
 refine xc kind_sorted plain_sorted entry_sorted (args_sorted1 _) ?_;unfold Builtin.«sorted»;refine wA (m:=checkCount "sorted" 1 1 _) (wC (wA (qge p q λi tk d' vs ns sz k1 i1 j=>wA (wpAny_newList ?_ (by have:=i1.length;have:=j.length_eq;rw[vM];omega)))));have u:vs.length<64:=by have:=i1.length;have:=j.length_eq;omega
 have l:(i.push (seqObj "list" vs.toArray 0)).get? i.objs.size=some (seqObj "list" vs.toArray 0):=wE _ rfl;show wpAny _ _ _ _ _ {s with heap:=i.push (seqObj "list" vs.toArray 0),toks:=tk,drawn:=d' };refine wA (wj (we slot_list_sort ⟨_,l,rfl⟩ entry_list_sort (list_sort_tree (s:={s with heap:=i.push (seqObj "list" vs.toArray 0),toks:=tk,drawn:=d' }) l i1 u λd f v x y=>⟨_,rfl,?_⟩) (args_list_sort _)));refine wC ⟨_,rfl,?_⟩;obtain⟨c,at'⟩:∃c,(sortedHeap (i.push (seqObj "list" vs.toArray 0)) i.objs.size vs d).get? i.objs.size=some (seqObj "list" d c):=by
  unfold sortedHeap;have e1:=ut l λ_=>(#[]:Array Value)
  have z:=wB (seqObj "list" #[] 0) (wB (seqObj "tuple" vs.toArray 0) e1);exact⟨_,ut z λ_=>d⟩
 refine h _ tk d' _ d c f sz (λb o e=>?_) v (x.trans j) y at';have n:b≠i.objs.size:=wT (wF (k1 b o e));unfold sortedHeap;exact(wJ _ _ (Ne.symm n)).trans (wB _ (wB _ ((wJ _ _ (Ne.symm n)).trans (wB _ (k1 b o e)))))
end
end SN
end R
end
section
set_option maxHeartbeats 400000
end
namespace R
open PySem PySem.Spec PyProof.Rows L2
namespace EX
def Errs(a C:Addr)(h:Heap):Prop:=∃o vs,h.get? a=some o/\o.cls=.ref C/\o.data=.fields vs
end EX
inductive D where
 |non|bl (b:Bool)|int (i:Int)|str (x:Str)
 |t (l:List D)|l (l:List D)|emp
 |ref (n:Nat)
 |exc (C:Addr)
mutual
def Den(ι:List Addr)(H:Hp):D->V->Prop
 | .non,v=>v=.non
 | .bl b,v=>v=.bl b
 | .int i,v=>v=.int i
 | .str x,v=>v=.str x
 | .t ds,v=>∃a xs,v=.ref a/\a∉ι/\H a=some (.t xs)/\Dens ι H ds xs
 | .l ds,v=>∃a xs,v=.ref a/\a∉ι/\Rd H a (.l xs)/\Dens ι H ds xs
 | .emp,v=>∃a,v=.ref a/\a∉ι/\H a=some (.dK [])
 | .ref n,v=>∃a,v=.ref a/\ι[n]?=some a
 | .exc C,v=>∃a,v=.ref a/\a∉ι/\H a=some (.ext (EX.Errs a C))
def Dens(ι:List Addr)(H:Hp):List D->List V->Prop
 |[],xs=>xs=[]
 |d::ds,xs=>∃x r,xs=x::r/\Den ι H d x/\Dens ι H ds r
end
def NT:HO->Prop
 | .tbl _=>False
 |_=>True
structure Stp (ι:List Addr) (H:Hp) (ι':List Addr) (H':Hp):Prop where
 pre:ι <+: ι'
 new:∀a∈ι',a∈ι\/H a=none
 keep:∀a o,H a=some o->a∉ι->NT o->H' a=some o
 there:∀a,H a≠none->H' a≠none
def Stp.refl(ι:List Addr)(H:Hp):Stp ι H ι H:=⟨xL _,λ_ h=>.inl h,λ_ _ h _ _=>h,λ_ h=>h⟩
def Stp.notin(s:Stp ι H b H')(h:H a=some o)(n:a∉ι):a∉b:=λm=>by
 rcases s.new a m with z|z
 .exact n z
 .rw [h]at z;cases z
def Stp.trans(s:Stp ι H b d)(t:Stp b d c H2):Stp ι H c H2 where
 pre:=s.pre.trans t.pre
 new:=λa m=>by
  rcases t.new a m with z|z
  .exact s.new a z
  .cases q:H a with
   |none=>exact .inr rfl
   |some o=>exact absurd z (s.there a (by rw[q];simp))
 keep:=λa o h n z=>t.keep a o (s.keep a o h n z) (s.notin h n) z
 there:=λa h=>t.there a (s.there a h)
def Stp.get(s:Stp ι H b H'){n:Nat}(h:ι[n]?=some a):b[n]?=some a:=by
 obtain⟨t,rfl⟩:=s.pre;rw[wW (wP.mp h).1];exact h
def Stp.rd(s:Stp ι H b H')(h:Rd H a u)(n:a∉ι)(z:NT u:=by trivial):Rd H' a u/\a∉b:=by
 rcases h with h|⟨o,h⟩
 .exact ⟨.inl (s.keep _ _ h n z),s.notin h n⟩
 .exact ⟨.inr ⟨o,s.keep _ _ h n trivial⟩,s.notin h n⟩
mutual
def Den.mono(s:Stp ι H ι' H'):∀(d:D) {v:V},Den ι H d v->Den ι' H' d v
 | .non,_,h=>h
 | .bl _,_,h=>h
 | .int _,_,h=>h
 | .str _,_,h=>h
 | .t ds,_,h=>by
  obtain⟨a,xs,e,n,ha,r⟩:=h;exact⟨a,xs,e,s.notin ha n,s.keep _ _ ha n trivial,Dens.mono s ds r⟩
 | .l ds,_,h=>by
  obtain⟨a,xs,e,n,ha,r⟩:=h;exact⟨a,xs,e,(s.rd ha n).2,(s.rd ha n).1,Dens.mono s ds r⟩
 | .emp,_,h=>by
  obtain⟨a,e,n,ha⟩:=h;exact⟨a,e,s.notin ha n,s.keep _ _ ha n trivial⟩
 | .ref _,_,h=>by
  obtain⟨a,e,ha⟩:=h;exact⟨a,e,s.get ha⟩
 | .exc _,_,h=>by
  obtain⟨a,e,n,ha⟩:=h;exact⟨a,e,s.notin ha n,s.keep _ _ ha n trivial⟩
def Dens.mono(s:Stp ι H ι' H'):∀(ds:List D) {xs:List V},Dens ι H ds xs->Dens ι' H' ds xs
 |[],_,h=>h
 |d::ds,_,h=>by
  obtain⟨x,r,e,h1,h2⟩:=h;exact⟨x,r,e,Den.mono s d h1,Dens.mono s ds h2⟩
end
def Dens.length:∀{ds:List D} {xs:List V},Dens ι H ds xs->ds.length=xs.length
 |[],_,h=>by cases (show _=[]from h);rfl
 |d::ds,_,h=>by
  obtain⟨x,r,rfl,_,a⟩:=h;simp[Dens.length a]
def Dens.append:∀{ds es:List D} {xs ys:List V},Dens ι H ds xs->Dens ι H es ys->Dens ι H (ds++es) (xs++ys)
 |[],_,_,_,h,k=>by cases (show _=[]from h);exact k
 |d::ds,_,_,_,h,k=>by
  obtain⟨x,r,rfl,a,b⟩:=h;exact⟨x,_,rfl,a,Dens.append b k⟩
def Dens.get:∀{ds:List D} {xs:List V} {i:Nat} {d:D},Dens ι H ds xs->ds[i]?=some d->∃x,xs[i]?=some x/\Den ι H d x
 |[],_,_,_,_,e=>by simp at e
 |d::ds,_,0,_,h,e=>by
  obtain⟨x,r,rfl,a,b⟩:=h;simp at e;subst e;exact⟨x,rfl,a⟩
 |d::ds,_,i+1,_,h,e=>by
  obtain⟨x,r,rfl,a,b⟩:=h;obtain⟨y,e1,c⟩:=Dens.get (i:=i) b (by simpa using e);exact⟨y,by simpa using e1,c⟩
def Dens.take:∀{ds:List D} {xs:List V} (n:Nat),Dens ι H ds xs->Dens ι H (ds.take n) (xs.take n)
 |_,_,0,_=>by simp[Dens]
 |[],_,n+1,h=>by cases (show _=[]from h);simp[Dens]
 |d::ds,_,n+1,h=>by
  obtain⟨x,r,rfl,a,b⟩:=h;exact⟨x,_,rfl,a,Dens.take n b⟩
def Dens.drop:∀{ds:List D} {xs:List V} (n:Nat),Dens ι H ds xs->Dens ι H (ds.drop n) (xs.drop n)
 |_,_,0,h=>by simpa using h
 |[],_,n+1,h=>by cases (show _=[]from h);simp[Dens]
 |d::ds,_,n+1,h=>by
  obtain⟨x,r,rfl,b,a⟩:=h;exact Dens.drop n a
def Dens.set(hd:Den ι H d x):∀{ds:List D} {xs:List V} (i:Nat),Dens ι H ds xs->Dens ι H (ds.set i d) (xs.set i x)
 |[],_,_,h=>by cases (show _=[]from h);simp[Dens]
 |d::ds,_,0,h=>by
  obtain⟨x,r,rfl,b,a⟩:=h;exact⟨_,_,rfl,hd,a⟩
 |d::ds,_,i+1,h=>by
  obtain⟨x,r,rfl,b,a⟩:=h;exact⟨_,_,rfl,b,Dens.set hd i a⟩
def Dens.snoc(h:Dens ι H ds xs)(hd:Den ι H d x):Dens ι H (ds++[d]) (xs++[x]) :=
 h.append ⟨x,[],rfl,hd,rfl⟩
mutual
noncomputable def refsLt(n:Nat):D->Bool
 | .ref k=>decide (k<n)
 | .t l=>refsLts n l
 | .l l=>refsLts n l
 | .exc _=>false
 |_=>true
noncomputable def refsLts(n:Nat):List D->Bool
 |[]=>true
 |d::r=>refsLt n d&&refsLts n r
end
def yq(n:Nat):∀(a b:List D),refsLts n (a++b)=(refsLts n a&&refsLts n b)
 |[],b=>by simp[refsLts]
 |d::r,b=>by simp only[List.cons_append,refsLts,yq n r b,Bool.and_assoc]
def ql{n:Nat}:∀{l:List D} {d:D},refsLts n l=true->d∈l->refsLt n d=true
 |[],_,_,h=>by cases h
 |x::r,d,h,m=>by
  simp only[refsLts,wK]at h;rcases wQ.mp m with z|z
  .rw [z];exact h.1
  .exact ql h.2 z
def qJ{n:Nat}:∀{l:List D},(∀d∈l,refsLt n d=true)->refsLts n l=true
 |[],_=>rfl
 |x::r,h=>by
  simp only[refsLts,wK];exact⟨h x wL,qJ λd m=>h d (wO _ m)⟩
mutual
def Den.less{n:Nat}:∀(d:D) {v:V},refsLt n d=true->Den ι H d v->Den (ι.take n) H d v
 | .non,_,_,h=>h
 | .bl _,_,_,h=>h
 | .int _,_,_,h=>h
 | .str _,_,_,h=>h
 | .t ds,_,r,h=>by
  obtain⟨a,xs,e,m,ha,q⟩:=h;exact⟨a,xs,e,λz=>m (vt z),ha,Dens.less ds r q⟩
 | .l ds,_,r,h=>by
  obtain⟨a,xs,e,m,ha,q⟩:=h;exact⟨a,xs,e,λz=>m (vt z),ha,Dens.less ds r q⟩
 | .emp,_,_,h=>by
  obtain⟨a,e,m,ha⟩:=h;exact⟨a,e,λz=>m (vt z),ha⟩
 | .ref k,_,r,h=>by
  obtain⟨a,e,ha⟩:=h;exact⟨a,e,by rw[um (vc r)];exact ha⟩
 | .exc _,_,r,_=>by cases r
def Dens.less{n:Nat}:∀(ds:List D) {xs:List V},refsLts n ds=true->Dens ι H ds xs->Dens (ι.take n) H ds xs
 |[],_,_,h=>h
 |d::ds,_,r,h=>by
  obtain⟨x,t,e,h1,h2⟩:=h;simp only[refsLts,wK]at r;exact⟨x,t,e,Den.less d r.1 h1,Dens.less ds r.2 h2⟩
end
mutual
def zh{n:Nat}:∀(d:D),refsLt 0 d=true->refsLt n d=true
 | .non,_=>rfl
 | .bl _,_=>rfl
 | .int _,_=>rfl
 | .str _,_=>rfl
 | .t ds,h=>qR ds h
 | .l ds,h=>qR ds h
 | .emp,_=>rfl
 | .ref k,h=>absurd (vc (show decide (k<0)=true from h)) (Nat.not_lt_zero _)
 | .exc _,h=>by cases h
def qR{n:Nat}:∀(ds:List D),refsLts 0 ds=true->refsLts n ds=true
 |[],_=>rfl
 |d::ds,h=>by
  simp only[refsLts,wK]at h ⊢;exact⟨zh d h.1,qR ds h.2⟩
end
mutual
def qe7{m n:Nat}(h:m<=n):∀(d:D),refsLt m d=true->refsLt n d=true
 | .non,_=>rfl
 | .bl _,_=>rfl
 | .int _,_=>rfl
 | .str _,_=>rfl
 | .t ds,q=>yg h ds q
 | .l ds,q=>yg h ds q
 | .emp,_=>rfl
 | .ref k,q=>w4 (wX (vc (show decide (k<m)=true from q)) h)
 | .exc _,h=>by cases h
def yg{m n:Nat}(h:m<=n):∀(ds:List D),refsLts m ds=true->refsLts n ds=true
 |[],_=>rfl
 |d::ds,q=>by
  simp only[refsLts,wK]at q ⊢;exact⟨qe7 h d q.1,yg h ds q.2⟩
end
inductive SO where
 |l (l:List D)
 |dic (l:List (List Int×D))
 |dis (l:List (Key×D))
noncomputable def keyT(k:03):List Key:=k.map Sum.inl
noncomputable def DGs{κ K:Type}(f:κ->K)(ι:List Addr)(H:Hp):List (κ×D)->List (K×V)->Prop
 |[],kvs=>kvs=[]
 |p::l,kvs=>∃v r,kvs=(f p.1,v)::r/\Den ι H p.2 v/\DGs f ι H l r
def DGs.mono{κ K:Type}{f:κ->K}{ι a:List Addr}{H H':Hp}(s:Stp ι H a H'):∀{l:List (κ×D)} {kvs:List (K×V)},DGs f ι H l kvs->DGs f a H' l kvs
 |[],_,h=>h
 |_::_,_,h=>let ⟨v,r,e,b,c⟩:=h;⟨v,r,e,Den.mono s _ b,DGs.mono s c⟩
def DGs.length{κ K:Type}{f:κ->K}{ι:List Addr}{H:Hp}:∀{l:List (κ×D)} {kvs:List (K×V)},DGs f ι H l kvs->l.length=kvs.length
 |[],_,h=>by cases (show _=[]from h);rfl
 |_::_,_,h=>by obtain⟨v,r,rfl,_,a⟩:=h;simp[DGs.length a]
def DGs.less{κ K:Type}{f:κ->K}{ι:List Addr}{H:Hp}{n:Nat}:∀{l:List (κ×D)} {kvs:List (K×V)},refsLts n (l.map (·.2))=true->DGs f ι H l kvs->DGs f (ι.take n) H l kvs
 |[],_,_,h=>h
 |_::_,_,r,h=>by
  obtain⟨v,t,e,a,b⟩:=h;simp only[wS,refsLts,wK]at r;exact⟨v,t,e,Den.less _ r.1 a,DGs.less r.2 b⟩
def SOk(ι:List Addr)(H:Hp)(a:Addr):SO->Prop
 | .l ds=>(∃j,ι[j]?=some a/\refsLts j ds=true)/\∃xs,H a=some (.l xs)/\Dens ι H ds xs
 | .dic l=>refsLts 0 (l.map (·.2))=true/\∃kvs,H a=some (.dT kvs)/\DGs keyT ι H l kvs
 | .dis l=>refsLts 0 (l.map (·.2))=true/\∃kvs,H a=some (.dK kvs)/\DGs id ι H l kvs
structure Sto (ι:List Addr) (H:Hp) (S:List SO):Prop where
 len:ι.length=S.length
 nd:ι.Nodup
 obj:∀(n:Nat) (a:Addr) (so:SO),ι[n]?=some a->S[n]?=some so->SOk ι H a so
def SOk.some:∀{so:SO},SOk ι H a so->H a≠none
 | .l _,⟨_,_,h,_⟩=>by rw[h];simp
 | .dic _,⟨_,_,h,_⟩=>by rw[h];simp
 | .dis _,⟨_,_,h,_⟩=>by rw[h];simp
def Sto.there(s:Sto ι H S)(m:a∈ι):H a≠none:=by
 obtain⟨n,hn,e⟩:=vh m;have b:n<S.length:=by rw[<-s.len];exact hn
 exact(s.obj n a S[n] (by rw[wD hn,e]) (wD b)).some
def Sto.fresh(s:Sto ι H S)(h:H a=none):a∉ι:=λm=>s.there m h
def SOk.mono{ι b:List Addr}{H H':Hp}(s:Stp ι H b H'){a:Addr}(c:H' a=H a):∀{so:SO},SOk ι H a so->SOk b H' a so
 | .l ds,⟨⟨j,e,f⟩,xs,h,r⟩=>⟨⟨j,s.get e,f⟩,xs,by rw[c];exact h,Dens.mono s _ r⟩
 | .dic l,⟨f,vs,h,r⟩=>⟨f,vs,by rw[c];exact h,DGs.mono s r⟩
 | .dis l,⟨f,vs,h,r⟩=>⟨f,vs,by rw[c];exact h,DGs.mono s r⟩
def Stp.laid(h:H p=none)(o:HO):Stp ι H ι (upd H p o) where
 pre:=xL _
 new:=λ_ m=>.inl m
 keep:=λa u e _ _=>by rw[qk (zw e h)];exact e
 there:=λa e=>by
  by_cases z:a=p
  .subst z;rw[qA];simp
  .rw [qk z];exact e
def Sto.laid(s:Sto ι H S)(h:H p=none)(o:HO):Sto ι (upd H p o) S where
 len:=s.len
 nd:=s.nd
 obj:=λn a so e1 b=>(s.obj n a so e1 b).mono (Stp.laid h o) (by
  rw[qk];intro z;subst z;exact s.there (vL e1) h)
def Stp.grow(h:H p=none)(o:HO):Stp ι H (ι++[p]) (upd H p o) where
 pre:=List.prefix_append _ _
 new:=λa m=>by
  rcases wi.mp m with z|z
  .exact .inl z
  .rw [wY.mp z];exact .inr h
 keep:=(Stp.laid (ι:=ι) h o).keep
 there:=(Stp.laid (ι:=ι) h o).there
def Sto.grow(s:Sto ι H S)(h:H p=none)(k:SOk (ι++[p]) (upd H p o) p so):Sto (ι++[p]) (upd H p o) (S++[so]) where
 len:=by simp[s.len]
 nd:=by
  rw[uO];refine⟨s.nd,by simp,λa ha b d e=>?_⟩;rw[wY.mp d]at e;subst e;exact s.fresh h ha
 obj:=λn a x e1 c=>by
  by_cases hn:n<ι.length
  .rw [wW hn]at e1
   rw[wW (by rw[<-s.len];exact hn)]at c;exact(s.obj n a x e1 c).mono (Stp.grow h o) (by
    rw[qk];intro z;subst z;exact s.there (vL e1) h)
  .rw [wk 00]at e1
   rw[wk (by rw[<-s.len];lia)]at c;have z:n-ι.length=0:=by
    have:=(wP.mp e1).1;simp at this;lia
   rw[z]at e1;rw[<-s.len,z]at c;simp at e1 c;subst e1 c;exact k
def Stp.put(m:p∈ι)(o:HO):Stp ι H ι (upd H p o) where
 pre:=xL _
 new:=λ_ m=>.inl m
 keep:=λa u e n _=>by rw[qk (λz=>n (by rw[z];exact m))];exact e
 there:=λa e=>by
  by_cases z:a=p
  .subst z;rw[qA];simp
  .rw [qk z];exact e
def zy{ι:List Addr}(c:ι.Nodup){i j:Nat}(a:ι[i]?=some x)(b:ι[j]?=some x):i=j:=by
 obtain⟨e,e1⟩:=wP.mp a;obtain⟨f,d⟩:=wP.mp b;exact(xx c).mp (e1.trans d.symm)
def Sto.put(s:Sto ι H S){n:Nat}(b:ι[n]?=some p)(k:SOk ι (upd H p o) p so):Sto ι (upd H p o) (S.set n so) where
 len:=by rw[List.length_set];exact s.len
 nd:=s.nd
 obj:=λj a x e1 c=>by
  by_cases d:j=n
  .subst d
   rw[b]at e1;obtain rfl:=Option.some.inj e1;have e:j<S.length:=by rw[<-s.len];exact(wP.mp b).1
   rw[wd e]at c;obtain rfl:=Option.some.inj c;exact k
  .rw [uM (Ne.symm d)]at c
   refine(s.obj j a x e1 c).mono (Stp.put (vL b) o) ?_;rw[qk];intro z;subst z;exact d (zy s.nd e1 b)
def Sto.less(s:Sto ι H S)(n:Nat):Sto (ι.take n) H (S.take n) where
 len:=by rw[vP,vP,s.len]
 nd:=s.nd.sublist (List.take_sublist _ _)
 obj:=λj a so e1 b=>by
  have c:ι[j]?=some a:=by
   have:=(wP.mp e1).1;rw[vP]at this;rw[um 00]at e1;exact e1
  have d:S[j]?=some so:=by
   have:=(wP.mp b).1;rw[vP]at this;rw[um 00]at b;exact b
  have k:=s.obj j a so c d;cases so with
  |l ds =>
   obtain⟨⟨i,e,f⟩,xs,h,r⟩:=k;have m:j<(ι.take n).length:=(wP.mp e1).1;rw[vP]at m;obtain rfl:i=j:=zy s.nd e c;exact⟨⟨i,e1,f⟩,xs,h,Dens.less ds (yg 00 ds f) r⟩
  |dic l =>
   obtain⟨f,kvs,h,r⟩:=k;exact⟨f,kvs,h,DGs.less (qR _ f) r⟩
  |dis l =>
   obtain⟨f,kvs,h,r⟩:=k;exact⟨f,kvs,h,DGs.less (qR _ f) r⟩
def Stp.less(s:Stp ι H a H'):Stp ι H (a.take ι.length) H':=by
 have e:a.take ι.length=ι:=by
  obtain⟨t,rfl⟩:=s.pre;simp
 rw[e];exact⟨xL _,λ_ m=>.inl m,s.keep,s.there⟩
def Stp.take_eq(s:Stp ι H a H'):a.take ι.length=ι:=by
 obtain⟨t,rfl⟩:=s.pre;simp
noncomputable abbrev Sr:=List SO
noncomputable abbrev En:=List (Option D)
inductive Res (α:Type) where
 |ok (a:α) (S:Sr)|err (x:D) (S:Sr)|no
@[reducible] noncomputable def Res.bind{α β:Type}(r:Res α)(f:α->Sr->Res β):Res β:=match r with
 | .ok a S=>f a S
 | .err x S=>.err x S
 | .no=>.no
@[simp] theorem Res.bind_ok{α β:Type}(a:α)(S:Sr)(f:α->Sr->Res β):(Res.ok a S).bind f=f a S:=rfl
@[simp] theorem Res.bind_err{α β:Type}(x:D)(S:Sr)(f:α->Sr->Res β):(Res.err x S).bind f=.err x S:=rfl
@[simp] theorem Res.bind_no{α β:Type}(f:α->Sr->Res β):(Res.no:Res α).bind f=.no:=rfl
noncomputable def ofO{b:Type}(o:Option b)(S:Sr):Res b:=match o with
 |some a=>.ok a S
 |none=>.no
@[simp] theorem ql8{α:Type}(a:α)(S:Sr):ofO (some a) S=.ok a S:=rfl
@[simp] theorem ql9{α:Type}(S:Sr):(ofO none S:Res α)=.no:=rfl
inductive BOp where|add|sub|mul|fdiv|mod|pow
inductive COp where|eq|ne|lt|le|gt|inn
inductive Ty where|int|bool|tuple|list|str|dict
noncomputable def Ty.nm:Ty->String
 | .int=>"int" | .bool=>"bool" | .tuple=>"tuple" | .list=>"list" | .str=>"str" | .dict=>"dict"
noncomputable def mulOk(a b:Int):Bool:=!((decide (Builtin.Int.intBits a>shortFactorBits)&&decide (Builtin.Int.intBits b>shortFactorBits)&&Builtin.Int.intTooBig (Builtin.Int.intBits a+Builtin.Int.intBits b)))
noncomputable def divOk(a b:Int):Bool:=!(b == 0)&&!(Builtin.divisionGoesByPylong a b)
noncomputable def lstOf(S:Sr):D->Option (List D)
 | .l l=>some l
 | .ref n=>match S[n]? with|some (.l l)=>some l|_=>none
 |_=>none
noncomputable def binI:BOp->Int->Int->Option Int
 | .add,i,j=>some (i+j)
 | .sub,i,j=>some (i-j)
 | .mul,i,j=>if mulOk i j then some (i*j)else none
 | .fdiv,i,j=>if divOk i j then some (i.fdiv j)else none
 | .mod,i,j=>if j=0 then none else some (i.fmod j)
 | .pow,i,j=>if 0<=j/\j<=1000000/\i.natAbs<2^64 then some (i^j.toNat)else none
noncomputable def catOk{c:Type}(a b:List c):Bool:=decide (a.length+b.length<=sizeLine)
noncomputable def repOk{b:Type}(a:List b)(k:Int):Bool:=decide (-(2^63)<=k/\k<2^63/\a.length*k.toNat<=sizeLine)
noncomputable def rep{b:Type}(a:List b)(k:Int):List b:=(List.replicate k.toNat a).flatten
noncomputable def binD(o:BOp)(x y:D)(S:Sr):Option D :=
 match x,y with
 | .int i,.int j=>(binI o i j).map .int
 | .str a,.str b=>match o with
  | .add=>if a.length+b.length<=sizeLine then some (.str (a++b))else none
  |_=>none
 | .t a,.t b=>match o with
  | .add=>if catOk a b then some (.t (a++b))else none
  |_=>none
 | .t a,.int k=>match o with
  | .mul=>if repOk a k then some (.t (rep a k))else none
  |_=>none
 |x,.int k=>match o with
  | .mul=>match lstOf S x with
   |some a=>if repOk a k then some (.l (rep a k))else none
   |none=>none
  |_=>none
 |x,y=>match o with
  | .add=>match lstOf S x,lstOf S y with
   |some a,some b=>if catOk a b then some (.l (a++b))else none
   |_,_=>none
  |_=>none
noncomputable def eqL(f:D->D->Option Bool):List D->List D->Option Bool
 |[],[]=>some true
 |[],_::_=>some false
 |_::_,[]=>some false
 |a::r,b::t=>match f a b,eqL f r t with
  |some x,some y=>some (x&&y)
  |_,_=>none
noncomputable def eqD:Nat->D->D->Option Bool
 |0,_,_=>none
 |n+1,x,y=>match x,y with
  | .non,.non=>some true
  | .bl a,.bl b=>some (a == b)
  | .int a,.int b=>some (a == b)
  | .str a,.str b=>some (a == b)
  | .bl a,.int b=>some ((if a then 1 else 0) == b)
  | .int a,.bl b=>some (a == (if b then 1 else 0))
  | .t a,.t b=>eqL (eqD n) a b
  | .l a,.l b=>if a.length=b.length then eqL (eqD n) a b else some false
  | .emp,.t _=>some false
  | .t _,.emp=>some false
  | .emp,_=>none
  |_,.emp=>none
  | .ref _,_=>none
  |_,.ref _=>none
  | .exc _,_=>none
  |_,.exc _=>none
  |_,_=>some false
noncomputable def intsOf:List D->Option (List Int)
 |[]=>some []
 | .int i::r=>(intsOf r).map (i::·)
 |_=>none
noncomputable def flatD:D->Bool
 | .non|.bl _|.int _|.str _=>true
 |_=>false
noncomputable def eqF:D->D->Bool
 | .non,.non=>true
 | .bl a,.bl b=>decide (a=b)
 | .int i,.int j=>decide (i=j)
 | .bl a,.int j=>decide ((if a then 1 else 0)=j)
 | .int i,.bl b=>decide (i=(if b then 1 else 0))
 | .str a,.str b=>decide (a=b)
 |_,_=>false
noncomputable def inD(x:D)(l:List D):Option Bool:=if flatD x&&l.all flatD then some (l.any λy=>eqF y x)else none
noncomputable def seqOf(S:Sr):D->Option (List D)
 | .t l=>some l
 |d=>lstOf S d
noncomputable def cmpD(o:COp)(x y:D)(S:Sr):Option Bool:=match o with
 | .eq=>eqD 20 x y
 | .ne=>(eqD 20 x y).map (!·)
 | .lt=>match x,y with
  | .int i,.int j=>some (decide (i<j))
  | .t a,.t b=>match intsOf a,intsOf b with
   |some m,some n=>some (HT.lexLt m n)
   |_,_=>none
  |_,_=>none
 | .le=>match x,y with|.int i,.int j=>some (decide (i<=j))|_,_=>none
 | .gt=>match x,y with|.int i,.int j=>some (decide (j<i))|_,_=>none
 | .inn=>(seqOf S y).bind (inD x)
noncomputable def truD(S:Sr):D->Option Bool
 | .non=>some false
 | .bl b=>some b
 | .int i=>some (i != 0)
 | .str x=>if x.length<=sizeLine then some ((x.length:Int) != 0)else none
 | .t l=>some (!l.isEmpty)
 | .emp=>some false
 |d=>(lstOf S d).map λl=>!l.isEmpty
noncomputable def isiD(S:Sr)(t:Ty):D->Option Bool
 | .non=>some false
 | .bl _=>some (match t with|.int=>true|.bool=>true|_=>false)
 | .int _=>some (match t with|.int=>true|_=>false)
 | .str _=>some (match t with|.str=>true|_=>false)
 | .t _=>some (match t with|.tuple=>true|_=>false)
 | .l _=>some (match t with|.list=>true|_=>false)
 | .emp=>some (match t with|.dict=>true|_=>false)
 | .ref n=>match S[n]? with
  |some (.l _)=>some (match t with|.list=>true|_=>false)
  |some (.dic _)=>some (match t with|.dict=>true|_=>false)
  |some (.dis _)=>some (match t with|.dict=>true|_=>false)
  |none=>none
 | .exc _=>none
noncomputable def lookA(C:Addr):List (Addr×Bool)->Option Bool
 |[]=>none
 | (c,b)::r=>if c=C then some b else lookA C r
noncomputable def isxD(t:List (Addr×Bool)):D->Option Bool
 | .exc C=>lookA C t
 |_=>none
noncomputable def keyD:D->Option Key
 | .int i=>some (.inl i)
 | .str x=>some (.inr x)
 |_=>none
noncomputable def lookT{κ:Type}[DecidableEq κ](k:κ):List (κ×D)->Option D
 |[]=>none
 | (j,d)::r=>if j=k then some d else lookT k r
noncomputable def putT{κ:Type}[DecidableEq κ](k:κ)(d:D)(l:List (κ×D)):List (κ×D) :=
 if l.any (λp=>decide (p.1=k))then l.map (λp=>if p.1=k then(p.1,d)else p)else l++[(k,d)]
noncomputable def idxD(S:Sr)(x i:D):Option D:=match i with
 | .int k=>(seqOf S x).bind λl=>atI l k
 | .t ks=>match x with
  | .ref n=>match S[n]? with
   |some (.dic l)=>(intsOf ks).bind λk=>lookT k l
   |_=>none
  |_=>none
 |_=>none
noncomputable def cutD(l:List D)(lo hi:Option Int):List D:=(l.drop (HT.sIx l.length 0 lo)).take (HT.sIx l.length l.length hi-HT.sIx l.length 0 lo)
noncomputable def slcD(S:Sr)(x:D)(lo hi:Option Int):Option D:=match x with
 | .t l=>some (.t (cutD l lo hi))
 |d=>(lstOf S d).map λl=>.l (cutD l lo hi)
noncomputable def rngL(a b s:Int):List D:=(List.range ((b-a+s-1) / s).toNat).map λ(k:Nat)=>D.int (a+s*k)
noncomputable def insI(x:Int):List Int->List Int
 |[]=>[x]
 |y::r=>if x<=y then x::y::r else y::insI x r
noncomputable def sortI(l:03):List Int:=l.foldr insI []
noncomputable def insT(x:03):List (List Int)->List (List Int)
 |[]=>[x]
 |y::r=>if HT.lexLt y x then y::insT x r else x::y::r
noncomputable def sortT(l:List (List Int)):List (List Int):=l.foldr insT []
noncomputable def tupsOf:List D->Option (List (List Int))
 |[]=>some []
 | .t a::r=>(intsOf a).bind λm=>(tupsOf r).map (m::·)
 |_=>none
noncomputable def tupI(m:03):D:=.t (m.map .int)
noncomputable def sortL(l:List D):Option (List D) :=
 if l.length<64 then
  match intsOf l with
  |some ns=>some ((sortI ns).map .int)
  |none=>(tupsOf l).bind λts=>if ts.Nodup/\∀t∈ts,t≠[]then some ((sortT ts).map tupI)else none
 else none
noncomputable def walkD(S:Sr):D->Option (List D)
 | .l l=>some l
 | .emp=>some []
 | .ref n=>match S[n]? with
  |some (.l l)=>some l
  |some (.dic l)=>some (l.map λp=>tupI p.1)
  |_=>none
 |_=>none
inductive Blt where|len|abs|min2|max2|divmod|list (m:Bool)|tuple|sorted (m:Bool)|all|sum|int|sset (m:Bool)
noncomputable def newL(m:Bool)(l:List D)(S:Sr):Res D:=if m then(if refsLts 0 l then .ok (.ref S.length) (S++[.l l])else .no)else .ok (.l l) S
noncomputable def lenD(S:Sr):D->Option Nat
 | .str x=>if x.length<=sizeLine then some x.length else none
 | .ref n=>match S[n]? with
  |some (.l l)=>some l.length
  |some (.dic l)=>some l.length
  |some (.dis _)=>none
  |none=>none
 | .t l=>some l.length
 | .l l=>some l.length
 |_=>none
noncomputable def boolsOf:List D->Option (List Bool)
 |[]=>some []
 | .bl b::r=>(boolsOf r).map (b::·)
 |_=>none
noncomputable def one(f:D->Sr->Res D)(xs:List D)(S:Sr):Res D:=match xs with
 |[x]=>f x S
 |_=>.no
noncomputable def two(f:D->D->Sr->Res D)(xs:List D)(S:Sr):Res D:=match xs with
 |[x,y]=>f x y S
 |_=>.no
noncomputable def bLen(x:D)(S:Sr):Res D:=ofO ((lenD S x).map λn=>.int n) S
noncomputable def bAbs(x:D)(S:Sr):Res D:=match x with
 | .int i=>.ok (.int (if i<0 then -i else i)) S
 |_=>.no
noncomputable def bMin(x y:D)(S:Sr):Res D:=match x,y with
 | .int i,.int j=>.ok (.int (if j<i then j else i)) S
 |_,_=>.no
noncomputable def bMax(x y:D)(S:Sr):Res D:=match x,y with
 | .int i,.int j=>.ok (.int (if j>i then j else i)) S
 |_,_=>.no
noncomputable def bDivmod(x y:D)(S:Sr):Res D:=match x,y with
 | .int i,.int j=>if divOk i j then .ok (.t [.int (i.fdiv j),.int (i.fmod j)]) S else .no
 |_,_=>.no
noncomputable def bList(m:Bool)(x:D)(S:Sr):Res D:=match seqOf S x with
 |some l=>newL m l S
 |none=>.no
noncomputable def bTuple(x:D)(S:Sr):Res D:=ofO ((seqOf S x).map .t) S
noncomputable def bSorted(m:Bool)(x:D)(S:Sr):Res D:=match(walkD S x).bind sortL with
 |some l=>newL m l S
 |none=>.no
noncomputable def bAll(x:D)(S:Sr):Res D:=ofO (((seqOf S x).bind boolsOf).map λl=>.bl (l.all id)) S
noncomputable def bSum(x:D)(S:Sr):Res D:=ofO (((seqOf S x).bind intsOf).map λl=>.int l.sum) S
noncomputable def bInt(x:D)(S:Sr):Res D:=match x with
 | .bl b=>.ok (.int (if b then 1 else 0)) S
 |_=>.no
noncomputable def ddI(l:03):List Int:=l.foldl PyProof.Rows.step_dedup []
noncomputable def bSset(m:Bool)(x:D)(S:Sr):Res D:=match x with
 | .t l=>match intsOf l with
  |some ns=>if ns.length<4000/\(ddI ns).length<64 then newL m ((sortI (ddI ns)).map .int) S else .no
  |none=>.no
 |_=>.no
noncomputable def bltD:Blt->List D->Sr->Res D
 | .len=>one bLen|.abs=>one bAbs|.min2=>two bMin|.max2=>two bMax|.divmod=>two bDivmod|.list m=>one (bList m)|.tuple=>one bTuple
 | .sorted m=>one (bSorted m)|.all=>one bAll|.sum=>one bSum|.int=>one bInt|.sset m=>one (bSset m)
noncomputable def walkF:D->Option (List D)
 | .t l=>some l
 | .l l=>some l
 |_=>none
inductive GW where|all|sum|tuple
mutual
inductive CE where
 |v (i:Nat)|k (d:D)
 |bin (o:BOp) (a b:CE)|neg (a:CE)
 |cmp (o:COp) (a b:CE)|chain (o o':COp) (a b c:CE)
 |and (a b:CE)|or (a b:CE)|not (a:CE)
 |t (es:CEs)|l (m:Bool) (es:CEs)|dic (m:Bool)|dis
 |call (f:Nat) (es:CEs)|blt (b:Blt) (es:CEs)|isi (t:Ty) (a:CE)|isx (t:List (Addr×Bool)) (a:CE)
 |popAt (o i:CE)|rem (o e:CE)|dcK (d:Int) (e:CE)|idk (a i:CE)|app (o e:CE)
 |idx (a i:CE)|slc (a:CE) (lo hi:CO)
 |rng (k:Option Bool) (es:CEs)
 |lc (m:Bool) (fr:List Nat) (nt:Nat) (elt:CE) (tg:CT) (it:CI) (ifs:CBs)
 |gen (w:GW) (fr:List Nat) (nt:Nat) (elt:CE) (tg:CT) (it:CI) (ifs:CBs)
 |genX (w:GW) (fr:List Nat) (nt:Nat) (elt:CE) (tg:CT) (e:CE) (ifs:CBs)
inductive CEs where|nil|cons (e:CE) (r:CEs)
inductive CB where|val (e:CE)|and (a b:CB)|or (a b:CB)|not (a:CB)|cal (a:CB)
inductive CBs where|nil|cons (e:CB) (r:CBs)
inductive CO where|none|some (e:CE)
inductive CI where|seq (e:CE)|rng (es:CEs)|zip (a b:CE)
inductive CT where|v (i:Nat)|t (r:CTs)|sub (o i:CE)
inductive CTs where|nil|cons (t:CT) (r:CTs)
end
abbrev CEs.c:=@CEs.cons
abbrev CEs.n:=@CEs.nil
abbrev CTs.c:=@CTs.cons
abbrev CTs.n:=@CTs.nil
abbrev CBs.c:=@CBs.cons
abbrev CBs.n:=@CBs.nil
noncomputable abbrev Fs:=Nat->List D->Sr->Res D
noncomputable def noE{b:Type}:Res b->Res b
 | .ok a S=>.ok a S
 |_=>.no
@[simp] theorem qgf{α:Type}(a:α)(S:Sr):noE (.ok a S)=.ok a S:=rfl
noncomputable def varE(ρ:En)(i:Nat)(S:Sr):Res D:=match ρ[i]? with|some (some d)=>.ok d S|_=>.no
noncomputable def putN(S:Sr)(n:Nat)(i v:D):Option Sr:=match S[n]? with
 |some (.l l)=>match i with
  | .int k=>(ixN l.length k).map λj=>S.set n (.l (l.set j v))
  |_=>none
 |some (.dic l)=>match i with
  | .t ks=>(intsOf ks).bind λk=>if l.length<1000 then some (S.set n (.dic (putT k v l)))else none
  |_=>none
 |some (.dis l)=>(keyD i).bind λk=>if l.length<1000 then some (S.set n (.dis (putT k v l)))else none
 |none=>none
noncomputable def putE(S:Sr)(o i v:D):Option Sr:=if refsLt 0 v then(match o with
 | .ref n=>putN S n i v
 |_=>none)else none
noncomputable def isLst(S:Sr):D->Bool
 | .ref n=>match S[n]? with|some (.l _)=>true|_=>false
 |_=>false
noncomputable def getD(S:Sr)(x y z:D):Option D:=match x,y with
 | .ref n,.t ks=>match S[n]? with
  |some (.dic l)=>(intsOf ks).map λk=>(lookT k l).getD z
  |_=>none
 | .ref n,.str t=>match S[n]? with
  |some (.dis l)=>some ((lookT (.inr t) l).getD z)
  |_=>none
 |_,_=>none
noncomputable def popD(S:Sr)(o i:D):Res D:=match o,i with
 | .ref n,.int k=>match S[n]? with
  |some (.l l)=>if 0<=k/\k<2^62 then(match l[k.toNat]? with
   |some d=>.ok d (S.set n (.l (l.eraseIdx k.toNat)))
   |none=>.no)else .no
  |_=>.no
 |_,_=>.no
noncomputable def appD(S:Sr)(o e:D):Res D:=match o with
 | .ref n=>match S[n]? with
  |some (.l l)=>if l.length<sizeLine/\refsLt 0 e=true then .ok .non (S.set n (.l (l++[e])))else .no
  |_=>.no
 |_=>.no
noncomputable def remD(S:Sr)(o i:D):Res D:=match o,i with
 | .ref n,.int k=>match S[n]? with
  |some (.l l)=>match intsOf l with
   |some ns=>if k∈ns then .ok .non (S.set n (.l ((ns.erase k).map .int)))else .no
   |none=>.no
  |_=>.no
 |_,_=>.no
noncomputable def idkD(S:Sr)(x i:D):Option D:=match x with
 | .ref n=>match S[n]? with
  |some (.dis l)=>(keyD i).bind λk=>lookT k l
  |_=>none
 |_=>none
noncomputable def dcKL(d:Int)(ns:03):List (Key×D):=ns.foldl (λl k=>putT (.inl k:Key) (.int d) l) []
noncomputable def rngD:List D->Option (List D)
 |[.int b]=>if -(2^62)<=b/\b<2^62 then some (rngL 0 b 1)else none
 |[.int a,.int b]=>if -(2^62)<=a/\a<2^62/\-(2^62)<=b/\b<2^62 then some (rngL a b 1)else none
 |[.int a,.int b,.int s]=>if -(2^62)<=a/\a<2^62/\-(2^62)<=b/\b<2^62/\0<s/\s<2^62 then some (rngL a b s)else none
 |_=>none
noncomputable def frE(ρ:En)(fr:List Nat)(nt:Nat):En:=fr.map (λi=>(ρ[i]?).getD none)++List.replicate nt none
noncomputable def lcLoop(n:Nat)(bind:D->En->Sr->Res En)(test:En->Sr->Res Bool)(elt:En->Sr->Res D):List D->En->Sr->Res En
 |[],ρ,S=>.ok ρ S
 |d::r,ρ,S=>(bind d ρ S).bind λρ1 S1=>(test ρ1 S1).bind λb S2 =>
   if b then(elt ρ1 S2).bind λv a=>(appD a (.ref n) v).bind λ_ c=>lcLoop n bind test elt r ρ1 c
   else lcLoop n bind test elt r ρ1 S2
noncomputable def lcEnd(m:Bool)(n:Nat)(S:Sr):Res D :=
 if m then .ok (.ref n) S
 else if S.length=n+1 then(match S[n]? with
  |some (.l l)=>.ok (.l l) (S.take n)
  |_=>.no)else .no
def own(n:Nat)(l:List D)(S:Sr):Prop:=S[n]?=some (.l l)
noncomputable def grd{a:Type}(gd:Sr->Prop)(S:Sr)(r:Res a):Res a:=@ite _ (gd S) (Classical.propDecidable _) r .no
def zA{a:Type}(h:gd S)(r:Res a):grd gd S r=r:=wM h
def yr{a:Type}(h:¬gd S)(r:Res a):grd gd S r=.no:=wN h
noncomputable def refX(x:D)(S:Sr):Option (List D×(Sr->Prop)):=match x with
 | .ref n=>match S[n]? with
  |some (.l l)=>some (l,own n l)
  |_=>none
 | .t l=>some (l,λ_=>True)
 | .l l=>some (l,λ_=>True)
 |_=>none
noncomputable def genLoop{a:Type}(bind:D->En->Sr->Res En)(test:En->Sr->Res Bool)(elt:En->Sr->Res D)(step:a->D->Option (a ⊕ D))(fin:a->Option D):List D->En->a->Sr->Res D
 |[],_,b,S=>ofO (fin b) S
 |d::r,ρ,b,S=>(bind d ρ S).bind λρ1 S1=>(test ρ1 S1).bind λt S2 =>
   if t then(elt ρ1 S2).bind λv c=>match step b v with
    |some (.inl b')=>genLoop bind test elt step fin r ρ1 b' c
    |some (.inr x)=>.ok x c
    |none=>.no
   else genLoop bind test elt step fin r ρ1 b S2
noncomputable def genLoopG{a:Type}(gd:Sr->Prop)(bind:D->En->Sr->Res En)(test:En->Sr->Res Bool)(elt:En->Sr->Res D)(step:a->D->Option (a ⊕ D))(fin:a->Option D):List D->En->a->Sr->Res D
 |[],_,b,S=>grd gd S (ofO (fin b) S)
 |d::r,ρ,b,S=>grd gd S ((bind d ρ S).bind λρ1 S1=>(test ρ1 S1).bind λt S2 =>
   if t then(elt ρ1 S2).bind λv c=>match step b v with
    |some (.inl b')=>genLoopG gd bind test elt step fin r ρ1 b' c
    |some (.inr x)=>.ok x c
    |none=>.no
   else genLoopG gd bind test elt step fin r ρ1 b S2)
def yt{a:Type}{bind:D->En->Sr->Res En}{test:En->Sr->Res Bool}{elt:En->Sr->Res D}{step:a->D->Option (a ⊕ D)}{fin:a->Option D}:∀(l:List D) (ρ:En) (b:a) (S:Sr),genLoopG (λ_=>True) bind test elt step fin l ρ b S=genLoop bind test elt step fin l ρ b S
 |[],_,_,_=>zA trivial _
 |d::r,ρ,b,S=>by
  unfold genLoopG genLoop;rw[zA trivial];congr 1;funext ρ1 S1;congr 1;funext t S2;cases t
  .exact yt r ρ1 b S2
  .simp only[vo]
   congr 1;funext v S3;cases step b v with
   |none=>rfl
   |some x=>cases x with
    |inl c=>exact yt r ρ1 c S3
    |inr x=>rfl
noncomputable def stepG(w:GW)(b:D)(v:D):Option (D ⊕ D):=match w,b,v with
 | .all,_,.bl true=>some (.inl .non)
 | .all,_,.bl false=>some (.inr (.bl false))
 | .sum,.int i,.int j=>some (.inl (.int (i+j)))
 | .tuple,.t l,v=>if l.length<sizeLine then some (.inl (.t (l++[v])))else none
 |_,_,_=>none
noncomputable def startG:GW->D
 | .all=>.non|.sum=>.int 0|.tuple=>.t []
noncomputable def finG(w:GW)(b:D):Option D:=match w with
 | .all=>some (.bl true)
 | .sum=>some b
 | .tuple=>some b
mutual
noncomputable def ev(F:Fs):CE->En->Sr->Res D
 | .v i,ρ,S=>varE ρ i S
 | .k d,_,S=>.ok d S
 | .bin o a b,ρ,S=>(ev F a ρ S).bind λx S1=>(ev F b ρ S1).bind λy S2=>ofO (binD o x y S2) S2
 | .neg a,ρ,S=>(ev F a ρ S).bind λx S1=>match x with|.int i=>.ok (.int (-i)) S1|_=>.no
 | .cmp o a b,ρ,S=>(ev F a ρ S).bind λx S1=>(ev F b ρ S1).bind λy S2=>ofO ((cmpD o x y S2).map .bl) S2
 | .chain o o' a b c,ρ,S=>(ev F a ρ S).bind λx S1=>(ev F b ρ S1).bind λy S2=>match cmpD o x y S2 with
  |some true=>(ev F c ρ S2).bind λz S3=>ofO ((cmpD o' y z S3).map .bl) S3
  |some false=>.ok (.bl false) S2
  |none=>.no
 | .and a b,ρ,S=>(ev F a ρ S).bind λx S1=>match x with
  | .bl true=>ev F b ρ S1
  | .bl false=>.ok (.bl false) S1
  |_=>.no
 | .or a b,ρ,S=>(ev F a ρ S).bind λx S1=>match x with
  | .bl true=>.ok (.bl true) S1
  | .bl false=>ev F b ρ S1
  |_=>.no
 | .not a,ρ,S=>(ev F a ρ S).bind λx S1=>match x with
  | .bl b=>.ok (.bl (!b)) S1
  |_=>.no
 | .t es,ρ,S=>(evs F es ρ S).bind λl S1=>if l.length<=sizeLine then .ok (.t l) S1 else .no
 | .l m es,ρ,S=>(evs F es ρ S).bind λl S1=>if l.length<=sizeLine then newL m l S1 else .no
 | .dic m,_,S=>if m then .ok (.ref S.length) (S++[.dic []])else .ok .emp S
 | .dis,_,S=>.ok (.ref S.length) (S++[.dis []])
 | .call f es,ρ,S=>(evs F es ρ S).bind λl S1=>F f l S1
 | .blt b es,ρ,S=>(evs F es ρ S).bind λl S1=>bltD b l S1
 | .isi t a,ρ,S=>(ev F a ρ S).bind λx S1=>ofO ((isiD S1 t x).map .bl) S1
 | .isx t a,ρ,S=>(ev F a ρ S).bind λx S1=>ofO ((isxD t x).map .bl) S1
 | .popAt o i,ρ,S=>(ev F o ρ S).bind λx S1=>if isLst S1 x then(ev F i ρ S1).bind λy S2=>popD S2 x y else .no
 | .app o e,ρ,S=>(ev F o ρ S).bind λx S1=>if isLst S1 x then(ev F e ρ S1).bind λy S2=>appD S2 x y else .no
 | .idx a i,ρ,S=>(ev F a ρ S).bind λx S1=>(ev F i ρ S1).bind λy S2=>ofO (idxD S2 x y) S2
 | .slc a lo hi,ρ,S=>(ev F a ρ S).bind λx S1=>(evO F lo ρ S1).bind λl S2=>(evO F hi ρ S2).bind λh S3=>ofO (slcD S3 x l h) S3
 | .rng k es,ρ,S=>(evs F es ρ S).bind λl S1=>match rngD l with
  |some ds=>if ds.length<=1000000 then(match k with
   |some m=>newL m ds S1
   |none=>.ok (.t ds) S1)else .no
  |none=>.no
 | .lc m fr nt elt tg it ifs,ρ,S=>(evI F it ρ S).bind λds S1 =>
   (lcLoop S1.length (λd ρ S=>asg F tg d ρ S) (λρ S=>tsts F ifs ρ S) (λρ S=>ev F elt ρ S) ds (frE ρ fr nt) (S1++[.l []])).bind λ_ S2=>lcEnd m S1.length S2
 | .genX w fr nt elt tg e ifs,ρ,S=>(ev F e ρ S).bind λx S1=>match refX x S1 with
  |some p=>genLoopG p.2 (λd ρ S=>asg F tg d ρ S) (λρ S=>tsts F ifs ρ S) (λρ S=>ev F elt ρ S) (stepG w) (finG w) p.1 (frE ρ fr nt) (startG w) S1
  |none=>.no
 | .rem o i,ρ,S=>(ev F o ρ S).bind λx S1=>if isLst S1 x then(ev F i ρ S1).bind λy S2=>remD S2 x y else .no
 | .idk a i,ρ,S=>(ev F a ρ S).bind λx S1=>(ev F i ρ S1).bind λy S2=>ofO (idkD S2 x y) S2
 | .dcK d e,ρ,S=>(ev F e ρ S).bind λx S1=>match refX x S1 with
  |some p=>match intsOf p.1 with
   |some ns=>if ns.length<1000 then .ok (.ref S1.length) (S1++[.dis (dcKL d ns)])else .no
   |none=>.no
  |none=>.no
 | .gen w fr nt elt tg it ifs,ρ,S=>(evI F it ρ S).bind λds S1 =>
   genLoop (λd ρ S=>asg F tg d ρ S) (λρ S=>tsts F ifs ρ S) (λρ S=>ev F elt ρ S) (stepG w) (finG w) ds (frE ρ fr nt) (startG w) S1
noncomputable def evs(F:Fs):CEs->En->Sr->Res (List D)
 | .nil,_,S=>.ok [] S
 | .cons e r,ρ,S=>(ev F e ρ S).bind λx S1=>(evs F r ρ S1).bind λl S2=>.ok (x::l) S2
noncomputable def evO(F:Fs):CO->En->Sr->Res (Option Int)
 | .none,_,S=>.ok none S
 | .some e,ρ,S=>(ev F e ρ S).bind λx S1=>match x with|.int i=>.ok (some i) S1|_=>.no
noncomputable def evI(F:Fs):CI->En->Sr->Res (List D)
 | .seq e,ρ,S=>(ev F e ρ S).bind λx S1=>match x with
  | .t l=>.ok l S1
  | .l l=>.ok l S1
  |_=>.no
 | .rng es,ρ,S=>(evs F es ρ S).bind λl S1=>ofO (rngD l) S1
 | .zip a b,ρ,S=>(ev F a ρ S).bind λx S1=>(ev F b ρ S1).bind λy S2=>match walkF x,walkF y with
  |some l,some m=>.ok ((l.zip m).map λp=>.t [p.1,p.2]) S2
  |_,_=>.no
noncomputable def asg(F:Fs):CT->D->En->Sr->Res En
 | .v i,d,ρ,S=>.ok (ρ.set i (some d)) S
 | .t r,d,ρ,S=>match d with
  | .t l=>asgs F r l ρ S
  |_=>.no
 | .sub o i,d,ρ,S=>(ev F o ρ S).bind λx S1=>(ev F i ρ S1).bind λy S2=>match putE S2 x y d with
  |some S3=>.ok ρ S3
  |none=>.no
noncomputable def asgs(F:Fs):CTs->List D->En->Sr->Res En
 | .nil,l,ρ,S=>match l with|[]=>.ok ρ S|_=>.no
 | .cons t r,l,ρ,S=>match l with
  |d::m=>(asg F t d ρ S).bind λρ1 S1=>asgs F r m ρ1 S1
  |[]=>.no
noncomputable def tst(F:Fs):CB->En->Sr->Res Bool
 | .val e,ρ,S=>(ev F e ρ S).bind λx S1=>ofO (truD S1 x) S1
 | .and a b,ρ,S=>(tst F a ρ S).bind λt S1=>if t then tst F b ρ S1 else .ok false S1
 | .or a b,ρ,S=>(tst F a ρ S).bind λt S1=>if t then .ok true S1 else tst F b ρ S1
 | .not a,ρ,S=>(tst F a ρ S).bind λt S1=>.ok (!t) S1
 | .cal a,ρ,S=>noE (tst F a ρ S)
noncomputable def tsts(F:Fs):CBs->En->Sr->Res Bool
 | .nil,_,S=>.ok true S
 | .cons e r,ρ,S=>(tst F e ρ S).bind λt S1=>if t then tsts F r ρ S1 else .ok false S1
end
mutual
inductive CS where
 |expr (e:CE)|ret (e:CE)|set (t:CT) (e:CE)
 |augK (o i e:CE)
 |ifs (c:CB) (a b:CSs)|forS (t:CT) (it:CI) (body:CSs)|whileS (c:CB) (body:CSs)
 |cal (s:CS)|grd (e:CE) (s:CS)|raise (C:Addr)|tryX (t:List (Addr×Bool)) (i:Nat) (body suite:CSs)
inductive CSs where|nil|cons (s:CS) (r:CSs)
end
abbrev CSs.c:=@CSs.cons
abbrev CSs.n:=@CSs.nil
inductive Fl where|nx (ρ:En)|bk (ρ:En)|ct (ρ:En)|rt (d:D)
noncomputable def forLoop(body:D->En->Sr->Res Fl):List D->En->Sr->Res Fl
 |[],ρ,S=>.ok (.nx ρ) S
 |d::r,ρ,S=>(body d ρ S).bind λf S1=>match f with
  | .nx ρ1=>forLoop body r ρ1 S1
  | .ct ρ1=>forLoop body r ρ1 S1
  | .bk ρ1=>.ok (.nx ρ1) S1
  | .rt d=>.ok (.rt d) S1
noncomputable def endG(gd:Sr->Prop)(r:Res Fl):Res Fl:=r.bind λf S=>match f with
 | .rt d=>.ok (.rt d) S
 |f=>grd gd S (.ok f S)
noncomputable def whileLoop(test:En->Sr->Res Bool)(body:En->Sr->Res Fl):Nat->En->Sr->Res Fl
 |0,_,_=>.no
 |n+1,ρ,S=>(test ρ S).bind λt S1=>if t then(body ρ S1).bind λf S2=>(match f with
   | .nx ρ1=>whileLoop test body n ρ1 S2
   | .ct ρ1=>whileLoop test body n ρ1 S2
   | .bk ρ1=>.ok (.nx ρ1) S2
   | .rt d=>.ok (.rt d) S2)
  else .ok (.nx ρ) S1
mutual
noncomputable def ex(F:Fs)(N:Nat):CS->En->Sr->Res Fl
 | .expr e,ρ,S=>(ev F e ρ S).bind λ_ S1=>.ok (.nx ρ) S1
 | .ret e,ρ,S=>(ev F e ρ S).bind λd S1=>.ok (.rt d) S1
 | .set t e,ρ,S=>(ev F e ρ S).bind λd S1=>(asg F t d ρ S1).bind λρ1 S2=>.ok (.nx ρ1) S2
 | .augK o i e,ρ,S=>(ev F o ρ S).bind λx S1=>(ev F i ρ S1).bind λy S2=>match idkD S2 x y with
  |some (.int a)=>(ev F e ρ S2).bind λz S3=>match z with
   | .int b=>match putE S3 x y (.int (a+b))with
    |some S4=>.ok (.nx ρ) S4
    |none=>.no
   |_=>.no
  |_=>.no
 | .ifs c a b,ρ,S=>(tst F c ρ S).bind λt S1=>if t then exs F N a ρ S1 else exs F N b ρ S1
 | .forS t it body,ρ,S=>(evI F it ρ S).bind λds S1=>forLoop (λd ρ S=>(asg F t d ρ S).bind λρ1 S1=>exs F N body ρ1 S1) ds ρ S1
 | .whileS c body,ρ,S=>whileLoop (λρ S=>tst F c ρ S) (λρ S=>exs F N body ρ S) N ρ S
 | .cal s,ρ,S=>noE (ex F N s ρ S)
 | .grd e s,ρ,S=>match ev F e ρ S with
  | .ok _ _=>noE (ex F N s ρ S)
  | .err x S1=>.err x S1
  | .no=>.no
 | .raise C,_,S=>.err (.exc C) S
 | .tryX t i body suite,ρ,S=>match exs F N body ρ S with
  | .ok f S1=>.ok f S1
  | .err (.exc C) S1=>match lookA C t with
   |some true=>(exs F N suite (ρ.set i (some (.exc C))) S1).bind λf S2=>match f with
    | .nx ρ'=>.ok (.nx (ρ'.set i none)) S2
    |_=>.no
   |_=>.no
  |_=>.no
noncomputable def exs(F:Fs)(N:Nat):CSs->En->Sr->Res Fl
 | .nil,ρ,S=>.ok (.nx ρ) S
 | .cons s r,ρ,S=>(ex F N s ρ S).bind λf S1=>match f with
  | .nx ρ1=>exs F N r ρ1 S1
  |f=>.ok f S1
end
structure CF where
 np:Nat
 nn:Nat
 keeps:Bool
 body:CSs
mutual
noncomputable def frz(S:Sr)(n:Nat):D->Option D
 | .t l=>(frzs S n l).map .t
 | .l l=>(frzs S n l).map .l
 | .ref m=>if m<n then some (.ref m)else match S[m]? with
  |some (.l l)=>if refsLts n l then some (.l l)else none
  |_=>none
 | .non=>some .non|.bl b=>some (.bl b)|.int i=>some (.int i)|.str x=>some (.str x)|.emp=>some .emp|.exc _=>none
noncomputable def frzs(S:Sr)(n:Nat):List D->Option (List D)
 |[]=>some []
 |d::r=>match frz S n d,frzs S n r with
  |some d',some r'=>some (d'::r')
  |_,_=>none
end
noncomputable def leave(keeps:Bool)(n:Nat)(d:D)(S:Sr):Res D :=
 if keeps then .ok d S
 else if S.length=n then .ok d S
 else if refsLt n d then .ok d (S.take n)else match frz S n d with
  |some d'=>.ok d' (S.take n)
  |none=>.no
noncomputable def callC(F:Fs)(N:Nat)(c:CF)(l:List D)(S:Sr):Res D :=
 if l.length=c.np then
  (exs F N c.body (l.map some++List.replicate (c.nn-c.np) none) S).bind λf S1=>match f with
   | .nx _=>leave c.keeps S.length .non S1
   | .rt d=>leave c.keeps S.length d S1
   |_=>.no
 else .no
noncomputable def run(P:List CF)(N:Nat):Nat->Fs
 |0,_,_,_=>.no
 |k+1,f,l,S=>match P[f]? with
  |some c=>callC (run P N k) N c l S
  |none=>.no
end R
namespace R
open PySem PySem.Spec L2
open PyProof.Rows hiding St
structure EnR (ι:List Addr) (H:Hp) (ρ:En) (σ:St):Prop where
 len:ρ.length=σ.length
 get:∀(i:Nat) (d:D),ρ[i]?=some (some d)->∃v,σ[i]?=some (some v)/\Den ι H d v
def EnR.mono(e:EnR ι H ρ f)(s:Stp ι H c H'):EnR c H' ρ f :=
 ⟨e.len,λi d h=>let ⟨v,a,b⟩:=e.get i d h;⟨v,a,Den.mono s d b⟩⟩
def EnR.set(e:EnR ι H ρ a){i:Nat}(h:Den ι H d v):EnR ι H (ρ.set i (some d)) (a.set i (some v)):=by
 refine⟨by simp[e.len],λj x q=>?_⟩;by_cases z:i=j
 .subst z
  have b:i<ρ.length:=by
   have:=(wP.mp q).1;simpa using this
  rw[wd b]at q;cases q;exact⟨v,wd (by rw[<-e.len];exact b),h⟩
 .rw [uM z]at q ⊢
  exact e.get j x q
def Pst{d e:Type}(R:List Addr->Hp->d->e->Prop)(r:Res d)(ι:List Addr)(H:Hp)(Q:e->Hp->Prop):Prop:=match r with
 | .ok a f=>∀b c H',Stp ι H c H'->Sto c H' f->R c H' a b->Q b H'
 | .err _ _=>False
 | .no=>False
def Pst.from(h:Pst R r ι H Q)(s:Stp ι H c H'):Pst R r c H' Q:=by
 cases r with
 |ok a S=>exact λb d H2 t st q=>h b d H2 (s.trans t) st q
 |err=>exact h
 |no=>exact h
def Pst.bind{d i j l:Type}{R:List Addr->Hp->d->i->Prop}{m:List Addr->Hp->j->l->Prop}{r:Res d}{f:d->Sr->Res j}{ι:List Addr}{H:Hp}{Q:l->Hp->Prop}{K:i->Hp->Prop}(h:Pst m (r.bind f) ι H Q)(k:∀a n c H' b,Stp ι H c H'->Sto c H' n->R c H' a b->Pst m (f a n) c H' Q->K b H'):Pst R r ι H K:=by
 cases r with
 |ok a S=>exact λb e H2 t st q=>k a S e H2 b t st q (Pst.from h t)
 |err=>exact h
 |no=>exact h
def Pst.ofO(h:Pst R (ofO o S) ι H Q)(st:Sto ι H S):∃a,o=some a/\∀b c H',Stp ι H c H'->Sto c H' S->R c H' a b->Q b H':=by
 cases o with
 |none=>exact h.elim
 |some a=>exact⟨a,rfl,h⟩
noncomputable def TG{a b:Type}(R:List Addr->Hp->a->b->Prop)(m:En->Sr->Res a):St->Hp->(b->Hp->Prop)->Prop:=λc H Q=>∃ι S ρ,EnR ι H ρ c/\Sto ι H S/\Pst R (m ρ S) ι H Q
noncomputable abbrev T(m:En->Sr->Res D):TE:=TG Den m
noncomputable abbrev TL(m:En->Sr->Res (List D)):TA:=TG Dens m
def EqR{c:Type}(_:List Addr)(_:Hp)(a b:c):Prop:=a=b
noncomputable abbrev TB(m:En->Sr->Res Bool):TT:=TG EqR m
noncomputable abbrev TOp(m:En->Sr->Res (Option Int)):TO:=TG EqR m
def TG.b1{d l n o:Type}{R:List Addr->Hp->d->l->Prop}{q:List Addr->Hp->n->o->Prop}{m:En->Sr->Res d}{f:En->d->Sr->Res n}{e:St}{H:Hp}{Q:o->Hp->Prop}{K:l->Hp->Prop}(h:TG q (λρ S=>(m ρ S).bind λa S1=>f ρ a S1) e H Q)(k:∀ι S ρ a b c,EnR ι c ρ e->Sto ι c S->R ι c a b->Pst q (f ρ a S) ι c Q->K b c):TG R m e H K:=by
 obtain⟨ι,S,ρ,r,st,h⟩:=h;exact⟨ι,S,ρ,r,st,Pst.bind h λa u i H' b s j v p=>k i u ρ a b H' (r.mono s) j v p⟩
def Pst.tg{e l n o:Type}{R:List Addr->Hp->e->l->Prop}{q:List Addr->Hp->n->o->Prop}{m:En->Sr->Res e}{ρ:En}{S:Sr}{f:e->Sr->Res n}{ι:List Addr}{i:St}{H:Hp}{Q:o->Hp->Prop}{K:l->Hp->Prop}(h:Pst q ((m ρ S).bind f) ι H Q)(r:EnR ι H ρ i)(st:Sto ι H S)(k:∀a d c H' b,Stp ι H c H'->EnR c H' ρ i->Sto c H' d->R c H' a b->Pst q (f a d) c H' Q->K b H'):TG R m i H K :=
 ⟨ι,S,ρ,r,st,Pst.bind h λa d c H' b s j u p=>k a d c H' b s (r.mono s) j u p⟩
def PEimp(h:PE X e t)(k:∀a H Q,t' a H Q->t a H Q):PE X e t':=λpins s a H Q I b=>h pins s a H Q I (k a H Q b)
def PTimp(h:PT X e t)(k:∀a H Q,t' a H Q->t a H Q):PT X e t':=λpins s a H Q I b=>h pins s a H Q I (k a H Q b)
def PAimp(h:PA X e t)(k:∀a H Q,t' a H Q->t a H Q):PA X e t':=λpos pins s a H Q I b=>h pos pins s a H Q I (k a H Q b)
section
variable{ι:List Addr}{H:Hp}{S:Sr}{v:V}
theorem zk(st:Sto ι H S):∀{d:D} {l:List D},lstOf S d=some l->Den ι H d v->∃a xs,v=.ref a/\Rd H a (.l xs)/\Dens ι H l xs
 | .l b,l,h,hd=>by
  cases h;obtain⟨a,xs,e,_,r,q⟩:=hd;exact⟨a,xs,e,r,q⟩
 | .ref n,l,h,hd=>by
  obtain⟨a,e,ha⟩:=hd;simp only[lstOf]at h;split at h
  .rename_i b c
   cases h;obtain⟨_,xs,f,i⟩:=st.obj n a _ ha c;exact⟨a,xs,e,.inl f,i⟩
  .cases h
 | .non,_,h,_=>by cases h
 | .bl _,_,h,_=>by cases h
 | .int _,_,h,_=>by cases h
 | .str _,_,h,_=>by cases h
 | .t _,_,h,_=>by cases h
 | .emp,_,h,_=>by cases h
 | .exc _,_,h,_=>by cases h
theorem zo(st:Sto ι H S)(c:Dens ι H l xs)(h:Pst Den (newL m l S) ι H Q):∀p,H p=none->Q (.ref p) (upd H p (.l xs)):=by
 intro p a;unfold newL at h;cases m with
 |true =>
  rw[wM rfl]at h;by_cases b:refsLts 0 l=true
  .rw [wM b]at h
   have g:=Stp.grow (ι:=ι) a (.l xs);have ep:(ι++[p])[ι.length]?=some p:=by simp
   refine h (.ref p) _ _ g (st.grow a ⟨⟨_,ep,qR l b⟩,xs,qA,Dens.mono g l c⟩) ⟨p,rfl,?_⟩;rw[<-st.len];exact ep
  .rw [wN b]at h;exact h.elim
 |false =>
  have g:=Stp.laid (ι:=ι) a (.l xs);exact h (.ref p) _ _ g (st.laid a _) ⟨p,xs,rfl,st.fresh a,.inl qA,Dens.mono g l c⟩
theorem zq{l:List D}{xs:List V}{Q:V->Hp->Prop}(st:Sto ι H S)(c:Dens ι H l xs)(h:∀v a H',Stp ι H a H'->Sto a H' S->Den a H' (.t l) v->Q v H'):∀p,H p=none->Q (.ref p) (upd H p (.t xs)):=by
 intro p b;have g:=Stp.laid (ι:=ι) b (.t xs);exact h (.ref p) _ _ g (st.laid b _) ⟨p,xs,rfl,st.fresh b,qA,Dens.mono g l c⟩
end
section
variable{X:Cx}
theorem qma{i:Nat}(h:PE X (.Name x pos) (tVar i)):PE X (.Name x pos) (T λρ S=>varE ρ i S):=PEimp h λf H Q a=>by
 obtain⟨ι,S,ρ,b,st,p⟩:=a;dsimp only[varE]at p;split at p
 .rename_i d hd
  obtain⟨v,c,e⟩:=b.get i d hd;exact⟨v,c,p v ι H (Stp.refl _ _) st e⟩
 .exact p.elim
theorem qb6(h:PE X e (tC v))(hd:∀ι H,Den ι H d v):PE X e (T λ_ S=>.ok d S):=PEimp h λb H Q a=>by
 obtain⟨ι,S,ρ,c,st,p⟩:=a;exact p v ι H (Stp.refl _ _) st (hd ι H)
theorem qkv(h:PE X e (λ_ H Q=>Q v H))(hd:∀ι H,Den ι H d v):PE X e (T λ_ S=>.ok d S):=qb6 h hd
theorem qmb:PA X [] (TL λ_ S=>.ok [] S):=PAimp jp λb H Q a=>by
 obtain⟨ι,S,ρ,c,st,p⟩:=a;exact p [] ι H (Stp.refl _ _) st rfl
theorem qkw(h:PE X e (T m))(i:PA X es (TL f))(j:sE X e es):
  PA X (e::es) (TL λρ S=>(m ρ S).bind λx S1=>(f ρ S1).bind λl S2=>.ok (x::l) S2):=PAimp (zB h i j) λv H Q n=>by
 refine TG.b1 n λι S ρ a b w o st q p=>Pst.tg p o st λl S2 c H2 xs s2 r d s u=>?_
 exact u _ c H2 (Stp.refl _ _) d ⟨b,xs,rfl,Den.mono s2 a q,s⟩
noncomputable def G2(g:D->D->Sr->Res D):R2:=λx y H Q=>∃ι S dx a,Sto ι H S/\Den ι H dx x/\Den ι H a y/\Pst Den (g dx a S) ι H Q
theorem T2(h:T (λρ S=>(f ρ S).bind λx S1=>(mb ρ S1).bind λy S2=>g x y S2) i H Q):tOp (G2 g) (T f) (T mb) i H Q :=
 TG.b1 h λι S ρ a b q j st l p=>Pst.tg p j st λm S2 c H2 b2 s2 n d e o=>⟨c,S2,a,m,d,Den.mono s2 a l,e,o⟩
theorem qmc{pos:Pos}(d:OpR X (binaryOp op) (G2 g))(ha:PE X a (T c))(e:PE X b (T mb)):
  PE X (.BinOp a op b pos) (T λρ S=>(c ρ S).bind λx S1=>(mb ρ S1).bind λy S2=>g x y S2):=PEimp (qlY d ha e) λf H Q=>T2
theorem qmd{pos:Pos}(d:OpR X (compareOp op) (G2 g))(ha:PE X a (T c))(e:PE X b (T mb))(hm:behindInMarks op b=false):
  PE X (.Compare a [op] [b] pos) (T λρ S=>(c ρ S).bind λx S1=>(mb ρ S1).bind λy S2=>g x y S2):=PEimp (qil d ha e hm) λf H Q=>T2
theorem qc6(I:Inv X pins b H s)(c:Rd H l (.l xs)):xs.length<=sizeLine/\∃(a:List Value) (n:Nat),Vals xs a/\xs.length=a.length/\s.heap.get? l=some {cls:=.type "list",data:=.seq a.toArray n}:=by
 obtain⟨z,a,n,r,e⟩:=c.ok I.hok;exact⟨z,a,n,r,r.length,e⟩
theorem qiz:OpR X (binaryOp .Add) (λx y H Q=>∃l b xs d,x=.ref l/\y=.ref b/\Rd H l (.l xs)/\Rd H b (.l d)/\xs.length+d.length<=sizeLine/\∀p,H p=none->Q (.ref p) (upd H p (.l (xs++d)))):=by
 intro pins s B H x y v u Q I rx f h;obtain⟨l,b,xs,d,rfl,rfl,i,j,hz,q⟩:=h;cases rx;cases f;obtain⟨z,c,n,r,C,e⟩:=qc6 I i;obtain⟨E,a,F,m,o,w⟩:=qc6 I j;refine PySem.P.add_list e w ?_ (by rw[wI,wI];lia);have A:c.toArray++a.toArray=(c++a).toArray:=by simp
 rw[A];exact⟨.ref _,_,I.lnew (t':=s.toks) (r.append m) (by rw[wm];lia),rfl,q _ I.fresh⟩
theorem qiA:OpR X (binaryOp .Mult) (λx y H Q=>∃l k xs,x=.ref l/\y=.int k/\Rd H l (.l xs)/\-(2^63)<=k/\k<2^63/\xs.length*k.toNat<=sizeLine /\
 ∀p,H p=none->Q (.ref p) (upd H p (.l (List.replicate k.toNat xs).flatten))):=by
 intro pins s L H x y v u Q I rx A h;obtain⟨l,k,xs,rfl,rfl,B,C,E,hz,q⟩:=h;cases rx;obtain⟨t,rfl⟩:=A;obtain⟨z,b,n,r,J,e⟩:=qc6 I B;have d:b.toArray.size*k.toNat<=sizeLine:=by rw[wI,<-J];exact hz
 have f:¬b.toArray.size*k.toNat>(2^63-1) / 8:=by
  have:(sizeLine:Nat)<=(2^63-1) / 8:=by decide
  lia
 have i:¬(!Builtin.List.listFitsIndex k)=true:=by
  rw[fitsIndex_both C E];exact wZ
 have c:¬Builtin.List.listTooLong (b.toArray.size*k.toNat)=true:=by
  rw[notLongL d];exact wZ
 have j:List.foldl (λo w=>o++w) #[] (List.replicate (if b.toArray.isEmpty=true then 0 else k.toNat) b.toArray)=(List.replicate k.toNat b).flatten.toArray:=by
  have K:∀m:Nat,List.foldl (λo w=>o++w) #[] (List.replicate m b.toArray)=(List.replicate m b).flatten.toArray:=λm=>by
   have:=jq b m [];rw[List.nil_append]at this;exact this
  rw[K];cases b with
  |nil=>simp
  |cons a M=>rw[wN 02]
 refine wpAny_binaryOp_repeat_ref (T:="list") (U:="int") 01 ⟨_,e,rfl⟩ (λs'=>xR s' k t) noFill_list_mul F.fills_int_mul gG repeat_list F.slot_int_index.lookup
  (uN gG (xR s k t) F.entry_int_rmul (F.args_int_rmul_2 _ _) (int___rmul___int_list k t l b.toArray n)
   ⟨e,rfl,⟨_,e,rfl⟩,uN F.slot_list_mul ⟨_,e,rfl⟩ F.entry_list_mul (F.args_list_mul_2 _ _) (AutoListH.list___mul___list_int_3 l b.toArray n k t i f c) ⟨e,?_⟩⟩)
 rw[j];exact⟨.ref _,_,I.lnew (t':=s.toks) (r.rep k.toNat) (by rw[qa9,Nat.mul_comm];exact hz),rfl,q _ I.fresh⟩
noncomputable def opOf:BOp->Operator
 | .add=>.Add|.sub=>.Sub|.mul=>.Mult|.fdiv=>.FloorDiv|.mod=>.Mod|.pow=>.Pow
theorem qkx(o:BOp):OpR X (binaryOp (opOf o)) (λx y H Q=>∃i j r,x=.int i/\y=.int j/\binI o i j=some r/\Q (.int r) H):=by
 intro pins s b H x y v u Q I rx c h;obtain⟨i,j,r,rfl,rfl,e,q⟩:=h;have fin:∀{a:Int} {t:Tok} {tk:Nat},r=a->EP X pins b Q (.int a t) {s with toks:=tk}:=λ{a t tk} z=>by subst z;exact⟨.int r,H,I.tok _,⟨_,rfl⟩,q⟩
 obtain⟨d,rfl⟩:=rx;obtain⟨f,rfl⟩:=c;cases o with
 |add=>exact add_int (fin (by cases e;rfl))
 |sub=>exact sub_int (fin (by cases e;rfl))
 |mul =>
  simp only[binI]at e;split at e
  .rename_i hm
   exact mul_int (fin (by cases e;rfl)) (by unfold mulOk at hm;unfold IntMulOk;intro z;rw[z]at hm;exact absurd hm 01)
  .cases e
 |fdiv =>
  simp only[binI]at e;split at e
  .rename_i hm
   simp only[divOk,wK,uE,vA]at hm;exact floordiv_int hm.1 (fin (by cases e;rfl)) (.inl hm.2)
  .cases e
 |mod =>
  simp only[binI]at e;split at e
  .cases e
  .rename_i hm
   exact mod_int' hm (fin (by cases e;rfl))
 |pow =>
  simp only[binI]at e;split at e
  .rename_i hm
   exact pow_int_small hm.1 hm.2.1 hm.2.2 (fin (by cases e;rfl))
  .cases e
end
end R
namespace R
open PySem PySem.Spec L2 SeqAt
open PyProof.Rows hiding St
def qb7:∀{a b:List D} {r:Bool},eqL f a b=some r ->
  (∀(j:Nat) (x y:D),a[j]?=some x->b[j]?=some y->∃c,f x y=some c) /\
  r=((List.range (min a.length b.length)).all (λj=>match a[j]?,b[j]? with|some x,some y=>(f x y).getD false|_,_=>false)&&a.length == b.length)
 |[],[],r,h=>by cases h;exact⟨λj x y h _=>by simp at h,by simp⟩
 |[],_::_,r,h=>by cases h;exact⟨λj x y h _=>by simp at h,by simp⟩
 |_::_,[],r,h=>by cases h;exact⟨λj x y _ h=>by simp at h,by simp⟩
 |a::p,b::q,r,h=>by
  simp only[eqL]at h;split at h
  .rename_i x y hx m
   obtain⟨d,i⟩:=qb7 m;cases h;refine⟨λj z w hz l=>?_,?_⟩
   .cases j with
    |zero=>simp at hz l;subst hz l;exact⟨x,hx⟩
    |succ j=>exact d j z w (by simpa using hz) (by simpa using l)
   .have e:min (a::p).length (b::q).length=min p.length q.length+1:=by simp only[w8];lia
    rw[e,List.range_succ_eq_map,va,gE];simp only[uQ,hx,xt];rw[i,Bool.and_assoc];congr 1;congr 1;simp only[w8];rw[u6,vd,vd];lia
  .cases h
section
variable{ι:List Addr}{H:Hp}
theorem jY(h:H a=some (.t xs))(k:Rd H a (.l ys)):False:=by
 rcases k with k|⟨o,k⟩ <;> (rw[h]at k;cases k)
theorem rd_inj(h:Rd H a (.l xs))(k:Rd H a (.l ys)):xs=ys:=by
 rcases h with h|⟨o,h⟩ <;> rcases k with k|⟨o',k⟩ <;> (rw[h]at k;first|(cases k;done)|(cases k;rfl))
theorem jZ(c:∀x y v b,Den ι H x v->Den ι H y v->f x y=some b->b=true):∀{a b:List D} {xs:List V} {r:Bool},Dens ι H a xs->Dens ι H b xs->eqL f a b=some r->r=true
 |[],[],_,r,_,_,h=>by cases h;rfl
 |[],_::_,_,r,h1,h2,h=>by
  cases (show _=[]from h1);obtain⟨x,r,e,_⟩:=h2;cases e
 |_::_,[],_,r,h1,h2,h=>by
  cases (show _=[]from h2);obtain⟨x,r,e,_⟩:=h1;cases e
 |a::p,b::q,_,r,h1,h2,h=>by
  obtain⟨x,t,rfl,d1,e1⟩:=h1;obtain⟨j,t',e,d2,d⟩:=h2;cases e;simp only[eqL]at h;split at h
  .rename_i y z i hz
   cases h;rw[c a b x y d1 d2 i,jZ c e1 d hz]
   all_goals rfl
  .cases h
theorem j0:∀(n:Nat) (x y:D) (v:V) (b:Bool),Den ι H x v->Den ι H y v->eqD n x y=some b->b=true
 |0,_,_,_,_,_,_,h=>by cases h
 |n+1,x,y,v,b,hx,hy,h=>by
  cases x <;> cases y <;> simp only[eqD,Den]at h hx hy <;> first
   | (cases h;rfl)
   | (cases h;subst hx;first|(cases hy;done)|(cases hy;simp;done))
   | (obtain⟨a,rfl,_,ha⟩:=hx;obtain⟨i,d,e,_,c,_⟩:=hy;cases e;rw[ha]at c;cases c;done)
   | (obtain⟨a,rfl,_,ha⟩:=hy;obtain⟨i,d,e,_,c,_⟩:=hx;cases e;rw[ha]at c;cases c;done)
   | (obtain⟨a,xs,rfl,_⟩:=hx;cases hy;done)
   | (obtain⟨a,xs,rfl,_⟩:=hy;cases hx;done)
   | (obtain⟨a,rfl,_⟩:=hx;cases h;done)
   | (obtain⟨a,rfl,_⟩:=hy;cases h;done)
   | (obtain⟨a,xs,rfl,_,ha,r⟩:=hx
      obtain⟨i,d,e,_,c,f⟩:=hy;cases e
      first
        | (rw[ha]at c;cases c;exact jZ (λx y v b=>j0 n x y v b) r f h)
        | (cases rd_inj ha c
           have j:_=_:=r.length.trans f.length.symm;rw[wM j]at h;exact jZ (λx y v b=>j0 n x y v b) r f h)
        |exact(jY ha c).elim
        |exact(jY c ha).elim)
end
section
variable{X:Cx}{pins:List (Addr×Obj)}{σ:St}{H:Hp}{s:Shared}{ι:List Addr}
theorem Vals.at(r:Vals xs us){j:Nat}(h:j<us.length):∃x,xs[j]?=some x/\RelV x us[j]:=by
 have c:=r.length;obtain⟨u,a,b⟩:=r.get (i:=j) (x:=xs[j]' 00) (wD 00);rw[wD h]at a;cases a;exact⟨_,wD 00,b⟩
theorem Dens.at{j:Nat}(h:Dens ι H ds xs)(e:xs[j]?=some x):∃d,ds[j]?=some d/\Den ι H d x:=by
 have c:=h.length;have f:=(wP.mp e).1;obtain⟨y,a,b⟩:=h.get (i:=j) (d:=ds[j]' 00) (wD 00);rw[e]at a;cases a;exact⟨_,wD 00,b⟩
theorem jt(I:000)(h:H a=some (.t xs)):∃b:List Value,Vals xs b/\IsTup s.heap a b.toArray/\xs.length<=sizeLine:=by
 obtain⟨z,b,r,p,_⟩:=I.hok a _ h;exact⟨b,r,p,z⟩
theorem qbf(I:000)(h:Rd H a (.l xs)):∃b:List Value,Vals xs b/\s.heap.IsList a b.toArray/\xs.length<=sizeLine:=by
 obtain⟨z,b,n,r,e⟩:=h.ok I.hok;exact⟨b,r,⟨_,e,rfl,n,rfl⟩,z⟩
theorem qjF(I:000)(h:H a=some (.dK kvs)):isDt s.heap a:=by
 obtain⟨_,lo,ys,m,o,es,ep,f,ex,i,_⟩:=I.hok a _ h;obtain⟨oc,od,j,osl⟩:=o;obtain⟨b,e1,c,d⟩:∃b,s.heap.get? a=some b/\b.cls=.type "dict"/\b.data=.dict es ep:=⟨_,f,ex.1,i⟩;obtain⟨c2,d2,e,l⟩:=b;dsimp only at c d;subst c d;exact⟨_,_,_,_,e1⟩
def EqAll(A:Around)(s:Shared)(v u:Value)(b:Bool):Prop:=RcAt A s v u b/\RcNeAt A s v u (!b)/\EqAt A s v u b
theorem yS{i:Int}(h:Den ι H (.int i) v)(r:RelV v u):∃t,u=.int i t:=by cases (show v=_ from h);exact r
theorem yT(h:Den ι H (.str i) v)(r:RelV v u):∃t,u=.str i t:=by cases (show v=_ from h);exact r
theorem vs_bl(h:Den ι H (.bl i) v)(r:RelV v u):u=.bool i:=by cases (show v=_ from h);exact r
theorem vs_non(h:Den ι H .non v)(r:RelV v u):u=.none:=by cases (show v=_ from h);exact r
theorem yu(I:000)(h:Den ι H (.t l) v)(r:RelV v u):∃a b xs,v=.ref a/\u=.ref a/\Vals xs b/\Dens ι H l xs/\s.heap.IsTuple a b.toArray/\H a=some (.t xs):=by
 obtain⟨a,xs,rfl,_,ha,d⟩:=h;cases r;obtain⟨b,c,p,_⟩:=jt I ha;exact⟨a,b,xs,rfl,rfl,c,d,p,ha⟩
theorem yU(I:000)(h:Den ι H (.l l) v)(r:RelV v u):∃a b xs,v=.ref a/\u=.ref a/\Vals xs b/\Dens ι H l xs/\s.heap.IsList a b.toArray/\Rd H a (.l xs):=by
 obtain⟨a,xs,rfl,_,ha,d⟩:=h;cases r;obtain⟨b,c,p,_⟩:=qbf I ha;exact⟨a,b,xs,rfl,rfl,c,d,p,ha⟩
theorem qgg(L:∀x y c v u l m,f x y=some c->Den ι H x v->Den ι H y u->RelV v l->RelV u m->EqAt A s l m c)(h:eqL f a b=some r)(n:Dens ι H a xs)(o:Dens ι H b ys)(p:Vals xs i)(q:Vals ys d):
  ∃e:Nat->Bool,(∀j (w:j<i.toArray.size) (z:j<d.toArray.size),EqAt A s i.toArray[j] d.toArray[j] (e j))/\r=((List.range (min i.toArray.size d.toArray.size)).all e&&i.toArray.size == d.toArray.size) /\
   a.length=i.length/\b.length=d.length:=by
 obtain⟨w,z⟩:=qb7 h;have B:a.length=i.length:=n.length.trans p.length;have C:b.length=d.length:=o.length.trans q.length;refine⟨_,λj E F=>?_,by rw[wI,wI,<-B,<-C];exact z,B,C⟩;simp only[wI]at E F;obtain⟨x,e1,M⟩:=Vals.at p E;obtain⟨y,N,O⟩:=Vals.at q F;obtain⟨d1,I,k1⟩:=n.at e1;obtain⟨d2,J,k2⟩:=o.at N;obtain⟨c,K⟩:=w j d1 d2 I J;simp only[I,J,K,xt,gJ];exact L d1 d2 c x y _ _ K k1 k2 M O
theorem qc7(I:000):∀(n:Nat) (A:Around) (x y:D) (b:Bool) (v u:V) (q r:Value),eqD n x y=some b->Den ι H x v->Den ι H y u->RelV v q->RelV u r->A.units+n<cLine->EqAll A s q r b
 |0,_,_,_,_,_,_,_,_,h,_,_,_,_,_=>by cases h
 |n+1,A,x,y,b,v,u,q,r,h,hx,hy,rx,ry,hu=>by
  have f:A.units<cLine:=by lia
  have w:=j0 (ι:=ι) (H:=H) (n+1) x y;have S:∀x y c v u q r,eqD n x y=some c->Den ι H x v->Den ι H y u->RelV v q->RelV u r->EqAt A.in1 s q r c:=λx y c v u q r Y Z h3 h4 h5 =>
   (qc7 I n A.in1 x y c v u q r Y Z h3 h4 h5 (by show A.units+1+n<cLine;lia)).2.2
  cases x with
  |exc k=>cases y <;> cases h
  |ref k=>cases y <;> cases h
  |emp =>
   cases y with
   |t l =>
    obtain⟨m,rfl,_,M⟩:=hx;cases rx;obtain⟨a,j,xs,_,rfl,_,_,p,_⟩:=yu I hy ry;have o:=qjF I M;cases h;exact⟨qjD o p f,ql6 o p f,EqAt.of_refs (qaO o p) (qjD o p f)⟩
   |_=>cases h
  |non =>
   cases vs_non hx rx;cases y with
   |ref k=>cases h
   |emp=>cases h
   |exc _=>cases h
   |non=>cases vs_non hy ry;cases h;exact⟨RcAt.none_none,RcNeAt.none_none,EqAt.same _⟩
   |bl c=>cases vs_bl hy ry;cases h;exact⟨RcAt.none_bool _,RcNeAt.none_bool _,EqAt.none_bool _⟩
   |int c=>obtain⟨t,rfl⟩:=yS hy ry;cases h;exact⟨RcAt.none_int _ _,RcNeAt.none_int _ _,EqAt.none_int _ _⟩
   |str c=>obtain⟨t,rfl⟩:=yT hy ry;cases h;exact⟨RcAt.none_str _ _,RcNeAt.none_str _ _,EqAt.none_str _ _⟩
   |t l=>obtain⟨a,j,xs,_,rfl,_,_,p,_⟩:=yu I hy ry;cases h;exact⟨RcAt.none_tuple p f,RcNeAt.none_tuple p f,EqAt.none_tuple p f⟩
   |l l=>obtain⟨a,j,xs,_,rfl,_,_,p,_⟩:=yU I hy ry;cases h;exact⟨RcAt.none_list p f,RcNeAt.none_list p f,EqAt.none_list p f⟩
  |bl d =>
   cases vs_bl hx rx;cases y with
   |ref k=>cases h
   |emp=>cases h
   |exc _=>cases h
   |non=>cases vs_non hy ry;cases h;exact⟨RcAt.bool_none _,RcNeAt.bool_none _,EqAt.bool_none _⟩
   |bl c=>cases vs_bl hy ry;cases h;exact⟨RcAt.bool_bool _ _,RcNeAt.bool_bool _ _,EqAt.bool_bool _ _⟩
   |int c=>obtain⟨t,rfl⟩:=yS hy ry;cases h;exact⟨RcAt.bool_int _ _ _,RcNeAt.bool_int _ _ _,EqAt.bool_int _ _ _⟩
   |str c=>obtain⟨t,rfl⟩:=yT hy ry;cases h;exact⟨RcAt.bool_str _ _ _,RcNeAt.bool_str _ _ _,EqAt.bool_str _ _ _⟩
   |t l=>obtain⟨a,j,xs,_,rfl,_,_,p,_⟩:=yu I hy ry;cases h;exact⟨RcAt.bool_tuple _ p f,RcNeAt.bool_tuple _ p f,EqAt.bool_tuple _ p f⟩
   |l l=>obtain⟨a,j,xs,_,rfl,_,_,p,_⟩:=yU I hy ry;cases h;exact⟨RcAt.bool_list _ p f,RcNeAt.bool_list _ p f,EqAt.bool_list _ p f⟩
  |int d =>
   obtain⟨tt,rfl⟩:=yS hx rx;cases y with
   |ref k=>cases h
   |emp=>cases h
   |exc _=>cases h
   |non=>cases vs_non hy ry;cases h;exact⟨RcAt.int_none _ _,RcNeAt.int_none _ _,EqAt.int_none _ _⟩
   |bl c=>cases vs_bl hy ry;cases h;exact⟨RcAt.int_bool _ _ _,RcNeAt.int_bool _ _ _,EqAt.int_bool _ _ _⟩
   |int c=>obtain⟨t,rfl⟩:=yS hy ry;cases h;exact⟨RcAt.int_int _ _ _ _,RcNeAt.int_int _ _ _ _,EqAt.int_int _ _ _ _⟩
   |str c=>obtain⟨t,rfl⟩:=yT hy ry;cases h;exact⟨RcAt.int_str _ _ _ _,RcNeAt.int_str _ _ _ _,EqAt.int_str _ _ _ _⟩
   |t l=>obtain⟨a,j,xs,_,rfl,_,_,p,_⟩:=yu I hy ry;cases h;exact⟨RcAt.int_tuple _ _ p f,RcNeAt.int_tuple _ _ p f,EqAt.int_tuple _ _ p f⟩
   |l l=>obtain⟨a,j,xs,_,rfl,_,_,p,_⟩:=yU I hy ry;cases h;exact⟨RcAt.int_list _ _ p f,RcNeAt.int_list _ _ p f,EqAt.int_list _ _ p f⟩
  |str d =>
   obtain⟨tt,rfl⟩:=yT hx rx;cases y with
   |ref k=>cases h
   |emp=>cases h
   |exc _=>cases h
   |non=>cases vs_non hy ry;cases h;exact⟨RcAt.str_none _ _,RcNeAt.str_none _ _,EqAt.str_none _ _⟩
   |bl c=>cases vs_bl hy ry;cases h;exact⟨RcAt.str_bool _ _ _,RcNeAt.str_bool _ _ _,EqAt.str_bool _ _ _⟩
   |int c=>obtain⟨t,rfl⟩:=yS hy ry;cases h;exact⟨RcAt.str_int _ _ _ _,RcNeAt.str_int _ _ _ _,EqAt.str_int _ _ _ _⟩
   |str c=>obtain⟨t,rfl⟩:=yT hy ry;cases h;exact⟨RcAt.str_str _ _ _ _,RcNeAt.str_str _ _ _ _,EqAt.str_str _ _ _ _⟩
   |t l=>obtain⟨a,j,xs,_,rfl,_,_,p,_⟩:=yu I hy ry;cases h;exact⟨RcAt.str_tuple _ _ p f,RcNeAt.str_tuple _ _ p f,EqAt.str_tuple _ _ p f⟩
   |l l=>obtain⟨a,j,xs,_,rfl,_,_,p,_⟩:=yU I hy ry;cases h;exact⟨RcAt.str_list _ _ p f,RcNeAt.str_list _ _ p f,EqAt.str_list _ _ p f⟩
  |t d =>
   obtain⟨m,its',N,e1,rfl,E,F,i,ha⟩:=yu I hx rx;cases y with
   |ref k=>cases h
   |emp =>
    obtain⟨a,rfl,_,O⟩:=hy;cases ry;have o:=qjF I O;cases h;exact⟨qjE o i f,ql7 o i f,EqAt.of_refs (qaO o i).symm (qjE o i f)⟩
   |exc _=>cases h
   |non=>cases vs_non hy ry;cases h;exact⟨RcAt.tuple_none i f,RcNeAt.tuple_none i f,EqAt.tuple_none i f⟩
   |bl c=>cases vs_bl hy ry;cases h;exact⟨RcAt.tuple_bool _ i f,RcNeAt.tuple_bool _ i f,EqAt.tuple_bool _ i f⟩
   |int c=>obtain⟨t,rfl⟩:=yS hy ry;cases h;exact⟨RcAt.tuple_int _ _ i f,RcNeAt.tuple_int _ _ i f,EqAt.tuple_int _ _ i f⟩
   |str c=>obtain⟨t,rfl⟩:=yT hy ry;cases h;exact⟨RcAt.tuple_str _ _ i f,RcNeAt.tuple_str _ _ i f,EqAt.tuple_str _ _ i f⟩
   |t l =>
    obtain⟨a,j,xs,P,rfl,J,K,p,hb⟩:=yu I hy ry;have B:eqL (eqD n) d l=some b:=h;obtain⟨e,C,L,_⟩:=qgg S B F K E J;have U:RcAt A s (.ref m) (.ref a) b:=by rw[L];exact RcAt.tuples i p f C
    have R2:RcNeAt A s (.ref m) (.ref a) (!b):=by rw[L];exact RcNeAt.tuples i p f C
    refine⟨U,R2,?_⟩;by_cases z:m=a
    .subst z
     rw[w (.ref m) b (e1 ▸ hx) (P ▸ hy) h];exact EqAt.same _
    .exact EqAt.of_refs z U
   |l l=>obtain⟨a,j,xs,_,rfl,_,_,p,_⟩:=yU I hy ry;cases h;exact⟨RcAt.tuple_list i p f,RcNeAt.tuple_list i p f,EqAt.tuple_list i p f⟩
  |l d =>
   obtain⟨m,its',N,e1,rfl,E,F,i,ha⟩:=yU I hx rx;cases y with
   |ref k=>cases h
   |emp=>cases h
   |exc _=>cases h
   |non=>cases vs_non hy ry;cases h;exact⟨RcAt.list_none i f,RcNeAt.list_none i f,EqAt.list_none i f⟩
   |bl c=>cases vs_bl hy ry;cases h;exact⟨RcAt.list_bool _ i f,RcNeAt.list_bool _ i f,EqAt.list_bool _ i f⟩
   |int c=>obtain⟨t,rfl⟩:=yS hy ry;cases h;exact⟨RcAt.list_int _ _ i f,RcNeAt.list_int _ _ i f,EqAt.list_int _ _ i f⟩
   |str c=>obtain⟨t,rfl⟩:=yT hy ry;cases h;exact⟨RcAt.list_str _ _ i f,RcNeAt.list_str _ _ i f,EqAt.list_str _ _ i f⟩
   |t l=>obtain⟨a,j,xs,_,rfl,_,_,p,_⟩:=yu I hy ry;cases h;exact⟨RcAt.list_tuple i p f,RcNeAt.list_tuple i p f,EqAt.list_tuple i p f⟩
   |l l =>
    obtain⟨a,j,xs,P,rfl,J,K,p,hb⟩:=yU I hy ry;have B:(if d.length=l.length then eqL (eqD n) d l else some false)=some b:=h;have la:d.length=its'.length:=F.length.trans E.length;have lb:l.length=j.length:=K.length.trans J.length;have R:RcAt A s (.ref m) (.ref a) b/\RcNeAt A s (.ref m) (.ref a) (!b):=by
     by_cases W:d.length=l.length
     .rw [wM W]at B
      obtain⟨e,C,L,_⟩:=qgg S B F K E J;have hsz:its'.toArray.size=j.toArray.size:=by rw[wI,wI];lia
      have Q:b=(List.range its'.toArray.size).all e:=by
       rw[L,hsz];simp
      rw[Q];exact⟨RcAt.lists i p hsz f C,RcNeAt.lists i p hsz f C⟩
     .rw [wN W]at B
      cases B;have hsz:(its'.toArray.size != j.toArray.size)=true:=by
       rw[wI,wI];simp;lia
      exact⟨RcAt.lists_lengths i p hsz f,RcNeAt.lists_lengths i p hsz f⟩
    refine⟨R.1,R.2,?_⟩;by_cases z:m=a
    .subst z
     rw[w (.ref m) b (e1 ▸ hx) (P ▸ hy) h];exact EqAt.same _
    .exact EqAt.of_refs z R.1
end
section
variable{X:Cx}
theorem Dens.rep(h:Dens ι H ds xs):∀k:Nat,Dens ι H (List.replicate k ds).flatten (List.replicate k xs).flatten
 |0=>by simp[Dens]
 |k+1=>by
  simp only[vg,u7];exact h.append (Dens.rep h k)
theorem qgh:OpR X (binaryOp .Add) (λx y H Q=>∃a b xs ys,x=.ref a/\y=.ref b/\H a=some (.t xs)/\H b=some (.t ys)/\xs.length+ys.length<=sizeLine /\
  (xs=[]->Q (.ref b) H)/\(xs≠[]->ys=[]->Q (.ref a) H)/\(xs≠[]->ys≠[]->∀p,H p=none->Q (.ref p) (upd H p (.t (xs++ys))))):=by
 intro pins s A H x y v u Q I rx o h;obtain⟨a,b,xs,ys,rfl,rfl,ha,q,hz,B,q1,q2⟩:=h;by_cases hx:xs=[]
 .subst hx
  cases rx;cases o;obtain⟨i,C,E,_⟩:=jt I ha;obtain⟨c,M,J,_⟩:=jt I q;obtain⟨⟨cls,dd,data,sl⟩,r,w,n,hd⟩:=id E;obtain⟨⟨z,j,l,m⟩,d,e,K,f⟩:=id J;simp only at w hd e f;subst w hd e f;have L:i=[]:=C.nil_iff.mpr rfl;subst L;exact concat_meets ⟨_,r,rfl⟩ ⟨_,d,rfl⟩ noFill_tuple_add seq_tuple_add xz xp (xj _ _)
   (tuple_addW0 a b _ c.toArray n K dd j sl m 02) ⟨r,d,⟨.ref b,H,I,rfl,B rfl⟩⟩
 .exact qir pins s A H _ _ v u Q I rx o ⟨a,b,xs,ys,rfl,rfl,.inl (.inl ha),.inl (.inl q),hx,hz,q1 hx,q2 hx⟩
theorem qiB(o:BOp):OpR X (binaryOp (opOf o)) (G2 λx y S=>ofO (binD o x y S) S):=by
 intro pins s n H x y v u Q I rx w h;obtain⟨ι,S,dx,M,st,hx,A,p⟩:=h;obtain⟨d,e,q⟩:=Pst.ofO p st;have B:∀v,Den ι H d v->Q v H:=λv J=>q v ι H (Stp.refl _ _) st J
 unfold binD at e;split at e
 .rename_i i j
  cases (show x=_ from hx);cases (show y=_ from A);cases C:binI o i j with
  |none=>rw[C]at e;cases e
  |some r =>
   rw[C]at e;cases e;exact qkx o pins s n H _ _ v u Q I rx w ⟨i,j,r,rfl,rfl,C,B _ rfl⟩
 .rename_i a b
  cases o <;> try (cases e;done)
  dsimp only at e;split at e
  .rename_i c
   cases e;cases (show x=_ from hx);cases (show y=_ from A);exact qcT pins s n H _ _ v u Q I rx w ⟨a,b,rfl,rfl,c,B _ rfl⟩
  .cases e
 .rename_i a b
  cases o <;> try (cases e;done)
  dsimp only at e;split at e
  .rename_i c
   cases e;obtain⟨l,xs,rfl,F,f,d1⟩:=hx;obtain⟨m,ys,rfl,K,E,d2⟩:=A;have hz:xs.length+ys.length<=sizeLine:=by
    have:=vc c;rw[d1.length,d2.length]at this;exact this
   refine qgh pins s n H _ _ v u Q I rx w ⟨l,m,xs,ys,rfl,rfl,f,E,hz,λz=>?_,λ_ z=>?_,λ_ _=>zq st (d1.append d2) q⟩
   .subst z
    have:a=[]:=vC.mp (by rw[d1.length];rfl);subst this;exact B _ ⟨m,ys,rfl,K,E,by simpa using d2⟩
   .subst z
    have:b=[]:=vC.mp (by rw[d2.length];rfl);subst this;exact B _ ⟨l,xs,rfl,F,f,by simpa using d1⟩
  .cases e
 .rename_i a k
  cases o <;> try (cases e;done)
  dsimp only at e;split at e
  .rename_i c
   cases e;obtain⟨l,xs,rfl,F,f,d1⟩:=hx;cases (show y=_ from A);obtain⟨c1,c2,c3⟩:=vc c;refine qiv pins s n H _ _ v u Q I rx w ⟨l,k,xs,rfl,rfl,.inl (.inl f),c1,c2,by rw[<-d1.length];exact c3,λz=>?_,λ_=>zq st (d1.rep _) q⟩;have L:rep a k=a:=by
    unfold rep;rcases z with z|z
    .subst z
     have:a=[]:=vC.mp (by rw[d1.length];rfl);subst this;simp
    .subst z;simp
   rw[L]at B;exact B _ ⟨l,xs,rfl,F,f,d1⟩
  .cases e
 .rename_i k _ _
  cases o <;> try (cases e;done)
  dsimp only at e;split at e
  .rename_i a ha
   split at e
   .rename_i c
    cases e;obtain⟨l,xs,rfl,f,d1⟩:=zk st ha hx;cases (show y=_ from A);obtain⟨c1,c2,c3⟩:=vc c;exact qiA pins s n H _ _ v u Q I rx w ⟨l,k,xs,rfl,rfl,f,c1,c2,by rw[<-d1.length];exact c3,zo (m:=false) st (d1.rep _) q⟩
   .cases e
  .cases e
 .cases o <;> try (cases e;done)
  dsimp only at e;split at e
  .rename_i a b ha C
   split at e
   .rename_i c
    cases e;obtain⟨l,xs,rfl,f,d1⟩:=zk st ha hx;obtain⟨m,ys,rfl,E,d2⟩:=zk st C A;have hz:xs.length+ys.length<=sizeLine:=by
     have:=vc c;rw[d1.length,d2.length]at this;exact this
    exact qiz pins s n H _ _ v u Q I rx w ⟨l,m,xs,ys,rfl,rfl,f,E,hz,zo (m:=false) st (d1.append d2) q⟩
   .cases e
  .cases e
theorem intsOf_eq:∀{l:List D} {m:03},intsOf l=some m->l=m.map .int
 |[],m,h=>by cases h;rfl
 | .int i::r,m,h=>by
  simp only[intsOf]at h;cases e:intsOf r with
  |none=>rw[e]at h;cases h
  |some a=>rw[e]at h;cases h;rw[intsOf_eq e];rfl
 | .non::_,_,h=>by cases h
 | .bl _::_,_,h=>by cases h
 | .str _::_,_,h=>by cases h
 | .t _::_,_,h=>by cases h
 | .l _::_,_,h=>by cases h
 | .emp::_,_,h=>by cases h
 | .exc _::_,_,h=>by cases h
 | .ref _::_,_,h=>by cases h
theorem dens_ints:∀{m:03} {xs:List V},Dens ι H (m.map .int) xs->xs=m.map .int
 |[],xs,h=>h
 |i::m,xs,h=>by
  obtain⟨x,r,rfl,a,b⟩:=h;rw[dens_ints b,show x=_ from a];rfl
noncomputable def cOf:COp->CmpOp
 | .eq=>.Eq|.ne=>.NotEq|.lt=>.Lt|.le=>.LtE|.gt=>.Gt|.inn=>.In
theorem j3:∀{d:D} {v:V},flatD d=true->Den ι H d v->flatV v=true
 | .non,_,_,h=>by cases (show _=_ from h);rfl
 | .bl _,_,_,h=>by cases (show _=_ from h);rfl
 | .int _,_,_,h=>by cases (show _=_ from h);rfl
 | .str _,_,_,h=>by cases (show _=_ from h);rfl
 | .t _,_,h,_=>by cases h
 | .l _,_,h,_=>by cases h
 | .emp,_,h,_=>by cases h
 | .exc _,_,h,_=>by cases h
 | .ref _,_,h,_=>by cases h
theorem qiC(fd:flatD d=true)(a:flatD e=true)(h:Den ι H d v)(k:Den ι H e u):eqV v u=eqF d e:=by
 cases d <;> cases e <;> first
  | (cases fd;done)
  | (cases a;done)
  | (cases (show v=_ from h);cases (show u=_ from k);simp[eqV,eqF,Bool.beq_eq_decide_eq];done)
theorem qc8(a:flatD x=true)(hx:Den ι H x v):∀{l:List D} {xs:List V},l.all flatD=true->Dens ι H l xs->xs.all flatV=true/\inV v xs=l.any λy=>eqF y x
 |[],xs,_,h=>by cases (show _=[]from h);exact⟨rfl,rfl⟩
 |d::l,xs,hf,h=>by
  obtain⟨y,r,rfl,b,c⟩:=h;simp only[va,wK]at hf;obtain⟨i1,i2⟩:=qc8 a hx hf.2 c;refine⟨by simp[j3 hf.1 b,i1],?_⟩;unfold inV at i2 ⊢;rw[uT,uT,qiC hf.1 a b hx,i2]
theorem zG(st:Sto ι H S)(h:seqOf S d=some l)(hd:Den ι H d v):∃a xs,v=.ref a/\(Rd H a (.l xs)\/H a=some (.t xs))/\Dens ι H l xs:=by
 unfold seqOf at h;split at h
 .cases h
  obtain⟨a,xs,e,_,ha,r⟩:=hd;exact⟨a,xs,e,.inr ha,r⟩
 .obtain ⟨a,xs,e,ha,r⟩:=zk st h hd
  exact⟨a,xs,e,.inl ha,r⟩
theorem yH(o:COp)(N:X.A.units+30<cLine):OpR X (compareOp (cOf o)) (G2 λx y S=>ofO ((cmpD o x y S).map .bl) S):=by
 intro pins s r H x y v u Q I rx f h;obtain⟨ι,S,dx,B,st,hx,i,p⟩:=h;obtain⟨d,e,q⟩:=Pst.ofO p st;obtain⟨b,M,rfl⟩:∃b,cmpD o dx B S=some b/\d=.bl b:=by
  cases z:cmpD o dx B S with
  |none=>rw[z]at e;cases e
  |some b=>rw[z]at e;cases e;exact⟨b,rfl,rfl⟩
 clear e p;have e:=M;clear M;have j:Q (.bl b) H:=q (.bl b) ι H (Stp.refl _ _) st rfl;have fin:EP X pins r Q (.bool b) s:=⟨.bl b,H,I,rfl,j⟩;cases o with
 |eq=>exact(qc7 I 20 X.A dx B b x y v u e hx i rx f 00).1 _ _ _ _ fin
 |ne =>
  cases z:eqD 20 dx B with
  |none=>simp only[cmpD,z]at e;cases e
  |some c =>
   simp only[cmpD,z]at e;cases e;exact(qc7 I 20 X.A dx B c x y v u z hx i rx f 00).2.1 _ _ _ _ fin
 |lt =>
  simp only[cmpD]at e;split at e
  .cases (show x=_ from hx);cases (show y=_ from i);cases e
   exact ql0 pins s r H _ _ v u Q I rx f ⟨_,_,rfl,rfl,j⟩
  .split at e
   .rename_i m n hm hn
    cases e;cases intsOf_eq hm;cases intsOf_eq hn;obtain⟨C,xs,rfl,_,E,d1⟩:=hx;obtain⟨F,ys,rfl,_,J,d2⟩:=i;cases dens_ints d1;cases dens_ints d2;exact qkp 00 pins s r H _ _ v u Q I rx f ⟨C,F,m,n,rfl,rfl,.inl (.inl E),.inl (.inl J),j⟩
   .cases e
  .cases e
 |le =>
  simp only[cmpD]at e;split at e
  .cases (show x=_ from hx);cases (show y=_ from i);cases e
   exact ql1 pins s r H _ _ v u Q I rx f ⟨_,_,rfl,rfl,j⟩
  .cases e
 |gt =>
  simp only[cmpD]at e;split at e
  .cases (show x=_ from hx);cases (show y=_ from i);cases e
   exact ql2 pins s r H _ _ v u Q I rx f ⟨_,_,rfl,rfl,j⟩
  .cases e
 |inn =>
  simp only[cmpD]at e;cases z:seqOf S B with
  |none=>rw[z]at e;cases e
  |some l =>
   rw[z]at e;have e:inD dx l=some b:=e;unfold inD at e;split at e
   .rename_i w
    simp only[wK]at w;cases e;obtain⟨a,xs,rfl,K,L⟩:=zG st z i;obtain⟨i1,i2⟩:=qc8 w.1 hx w.2 L;refine qeX pins s r H _ _ v u Q I rx f ⟨a,xs,rfl,K.elim (λz=>.inl (.inl z)) (λz=>.inr (.inl (.inl z))),j3 w.1 hx,i1,?_⟩;rw[wN 01,i2];exact j
   .cases e
end
section
variable{X:Cx}{pos:Pos}
theorem qiE{ι:List Addr}{H:Hp}{S:Sr}{K:07}(st:Sto ι H S){d:D}{v:V}{b:Bool}(h:truD S d=some b)(hd:Den ι H d v):TruV K v H b:=by
 have e:∀{l:List D},lstOf S d=some l->b=(!l.isEmpty)->TruV K v H b:=λ{l} hl hb=>by
  obtain⟨a,xs,rfl,j,f⟩:=zk st hl hd;refine .inl ⟨xs,.inl j,?_⟩;rw[hb];have:=f.length;cases l <;> cases xs <;> first|rfl|(simp at this;done)
 cases d with
 |non=>cases h;cases (show v=_ from hd);exact(rfl:false=false)
 |bl c=>cases h;cases (show v=_ from hd);exact(show b=b from rfl)
 |int i=>cases h;cases (show v=_ from hd);exact(rfl:(i != 0)=(i != 0))
 |str x =>
  cases (show v=_ from hd);simp only[truD]at h;split at h
  .cases h;exact⟨by assumption,rfl⟩
  .cases h
 |t l =>
  cases h;obtain⟨a,xs,rfl,_,ha,f⟩:=hd;refine .inr (.inl ⟨xs,.inl (.inl ha),?_⟩);have:=f.length;cases l <;> cases xs <;> first|rfl|(simp at this;done)
 |emp =>
  cases h;obtain⟨a,rfl,_,ha⟩:=hd;exact .inr (.inr ⟨[],ha,rfl⟩)
 |l l =>
  simp only[truD,lstOf,wf,Option.some.injEq]at h;exact e rfl h.symm
 |exc C=>simp[truD,lstOf]at h
 |ref n =>
  simp only[truD]at h;cases z:lstOf S (.ref n)with
  |none=>rw[z]at h;cases h
  |some l=>rw[z]at h;cases h;exact e z rfl
noncomputable def mVal(m:En->Sr->Res D):En->Sr->Res Bool:=λρ S=>(m ρ S).bind λx S1=>ofO (truD S1 x) S1
theorem qky(h:PE X e (T m))(d:∀c,isTrue e X.env c=(do let v <-c;standAt e.pos;holding [v] (truthy v))):PT X e (TB (mVal m)) :=
 PTimp (qfN h d) λl H Q f=>TG.b1 f λι S ρ a b i n st j p=>by
  obtain⟨k,e1,q⟩:=Pst.ofO p st;exact⟨k,qiE st e1 j,q k ι i (Stp.refl _ _) st rfl⟩
def IsB(m:En->Sr->Res D):Prop:=∀ρ S d a,m ρ S=.ok d a->∃c,d=.bl c
theorem toTest(j:IsB m)(l:TB (mVal m) h H Q):tTest (T m) h H Q:=by
 obtain⟨ι,S,ρ,n,st,p⟩:=l;refine⟨ι,S,ρ,n,st,?_⟩;dsimp only[mVal]at p ⊢;cases z:m ρ S with
 |no=>rw[z]at p;exact p
 |err x i=>rw[z]at p;exact p
 |ok d i =>
  rw[z]at p;obtain⟨c,rfl⟩:=j ρ S d i z;intro b a H' s' e f;cases (show b=_ from f);exact⟨c,rfl,p c a H' s' e rfl⟩
theorem qiF{a mb:En->Sr->Res D}{g:D->D->Sr->Option Bool}:IsB (λρ S=>(a ρ S).bind λx S1=>(mb ρ S1).bind λy S2=>ofO ((g x y S2).map D.bl) S2):=by
 intro ρ S d b z;dsimp only at z;cases z1:a ρ S with
 |no=>rw[z1]at z;cases z
 |err=>rw[z1]at z;cases z
 |ok x S1 =>
  rw[z1,Res.bind_ok]at z;cases z2:mb ρ S1 with
  |no=>rw[z2]at z;cases z
  |err=>rw[z2]at z;cases z
  |ok y S2 =>
   rw[z2,Res.bind_ok]at z;cases z3:g x y S2 with
   |none=>rw[z3]at z;cases z
   |some c=>rw[z3]at z;cases z;exact⟨c,rfl⟩
theorem qkz{a b:Expr}{op:CmpOp}{c mb:En->Sr->Res D}{g:D->D->Sr->Option Bool}(d:OpR X (compareOp op) (G2 λx y S=>ofO ((g x y S).map D.bl) S))(ha:PE X a (T c))(e:PE X b (T mb))(hm:behindInMarks op b=false):
  PT X (.Compare a [op] [b] pos) (TB (mVal λρ S=>(c ρ S).bind λx S1=>(mb ρ S1).bind λy S2=>ofO ((g x y S2).map D.bl) S2)) :=
 PTimp (qim d ha e hm) λh H Q f=>T2 (toTest qiF f)
noncomputable def mChain(g g':D->D->Sr->Option Bool)(b mb c:En->Sr->Res D):En->Sr->Res D:=λρ S=>(b ρ S).bind λx S1=>(mb ρ S1).bind λy S2=>match g x y S2 with
 |some true=>(c ρ S2).bind λz a=>ofO ((g' y z a).map D.bl) a
 |some false=>.ok (.bl false) S2
 |none=>.no
theorem qdQ(h:T (mChain g g' u mb w) A H Q):
  tChain (G2 λx y S=>ofO ((g x y S).map D.bl) S) (G2 λx y S=>ofO ((g' x y S).map D.bl) S) (T u) (T mb) (T w) A H Q:=by
 refine TG.b1 h λι S ρ a b M B st C p=>Pst.tg p B st λd S2 l H2 b2 s2 m n e f=>?_
 refine⟨l,S2,a,d,n,Den.mono s2 a C,e,?_⟩;cases z:g a d S2 with
 |none=>rw[z]at f;exact f.elim
 |some c =>
  rw[z]at f;show Pst Den (ofO (Option.map D.bl (g a d S2)) S2) _ _ _;rw[z];intro v o H3 j i E;cases (show v=_ from E);refine⟨c,rfl,?_⟩;cases c with
  |false=>rw[wN 01];exact f _ o H3 j i rfl
  |true =>
   rw[wM rfl];refine Pst.tg (ρ:=ρ) (Pst.from f j) (m.mono j) i λF I q N O J K r s L=>?_
   exact⟨q,I,d,F,r,Den.mono (j.trans J) d e,s,L⟩
theorem qe8:IsB (mChain g g' a mb b):=by
 intro ρ S d f z;dsimp only[mChain]at z;cases z1:a ρ S with
 |no=>rw[z1]at z;cases z
 |err=>rw[z1]at z;cases z
 |ok x S1 =>
  rw[z1,Res.bind_ok]at z;cases z2:mb ρ S1 with
  |no=>rw[z2]at z;cases z
  |err=>rw[z2]at z;cases z
  |ok y S2 =>
   rw[z2,Res.bind_ok]at z;cases z3:g x y S2 with
   |none=>rw[z3]at z;cases z
   |some c =>
    rw[z3]at z;cases c with
    |false=>cases z;exact⟨_,rfl⟩
    |true =>
     dsimp only at z;cases z4:b ρ S2 with
     |no=>rw[z4]at z;cases z
     |err=>rw[z4]at z;cases z
     |ok w e =>
      rw[z4,Res.bind_ok]at z;cases z5:g' y w e with
      |none=>rw[z5]at z;cases z
      |some c=>rw[z5]at z;cases z;exact⟨_,rfl⟩
theorem qiG(i:OpR X (compareOp op) (G2 λx y S=>ofO ((g x y S).map D.bl) S))(e:OpR X (compareOp d) (G2 λx y S=>ofO ((g' x y S).map D.bl) S))(ha:PE X a (T f))(j:PE X b (T mb))(l:PE X c (T h))(hm:lastMarks [op,d] [b,c]=false):PE X (.Compare a [op,d] [b,c] pos) (T (mChain g g' f mb h)) :=
 PEimp (qfL i e ha j l hm) λm H Q=>qdQ
theorem qgj(i:OpR X (compareOp op) (G2 λx y S=>ofO ((g x y S).map D.bl) S))(e:OpR X (compareOp d) (G2 λx y S=>ofO ((g' x y S).map D.bl) S))(ha:PE X a (T f))(j:PE X b (T mb))(l:PE X c (T h))(hm:lastMarks [op,d] [b,c]=false):PT X (.Compare a [op,d] [b,c] pos) (TB (mVal (mChain g g' f mb h))) :=
 PTimp (qfM i e ha j l hm) λn H Q m=>qdQ (toTest qe8 m)
theorem qkA{a:Expr}{b:Expr}{rest:List Expr}{c mb:En->Sr->Res Bool}(ha:PT X a (TB c))(d:PW X (.BoolOp .And (b::rest) pos) (TB mb)):
  PW X (.BoolOp .And (a::b::rest) pos) (TB λρ S=>(c ρ S).bind λt S1=>if t then mb ρ S1 else .ok false S1):=λe pins s f H Q I h=>by
 refine qj7 ha d e pins s f H Q I (TG.b1 h λι S ρ x y i j st l p=>?_);cases (show x=y from l);cases x with
 |true=>rw[wM rfl];exact⟨ι,S,ρ,j,st,p⟩
 |false=>rw[wN 01];exact p false ι i (Stp.refl _ _) st rfl
theorem qme{a:Expr}{b:Expr}{rest:List Expr}{c mb:En->Sr->Res Bool}(ha:PT X a (TB c))(d:PW X (.BoolOp .Or (b::rest) pos) (TB mb)):
  PW X (.BoolOp .Or (a::b::rest) pos) (TB λρ S=>(c ρ S).bind λt S1=>if t then .ok true S1 else mb ρ S1):=λe pins s f H Q I h=>by
 refine qlW ha d e pins s f H Q I (TG.b1 h λι S ρ x y i j st l p=>?_);cases (show x=y from l);cases x with
 |true=>rw[wM rfl];exact p true ι i (Stp.refl _ _) st rfl
 |false=>rw[wN 01];exact⟨ι,S,ρ,j,st,p⟩
theorem qkB(ha:PT X a (TB b)):PT X (.UnaryOp .Not a pos) (TB λρ S=>(b ρ S).bind λt S1=>.ok (!t) S1) :=
 PTimp (qj8 ha) λf H Q c=>TG.b1 c λι S ρ x y d h st e p=>by
  cases (show x=y from e);exact p _ ι d (Stp.refl _ _) st rfl
theorem qmf{a:Expr}{b:Expr}{rest:List Expr}{d mb:En->Sr->Res D}(ha:PE X a (T d))(e:PE X (.BoolOp .And (b::rest) pos) (T mb)):
  PE X (.BoolOp .And (a::b::rest) pos) (T λρ S=>(d ρ S).bind λx S1=>match x with|.bl true=>mb ρ S1|.bl false=>.ok (.bl false) S1|_=>.no) :=
 PEimp (qj9 ha e) λl H Q f=>TG.b1 f λι S ρ x y h i st j p=>by
  cases x with
  |bl c =>
   cases (show y=_ from j);refine⟨c,rfl,?_⟩;cases c with
   |true=>rw[wM rfl];exact⟨ι,S,ρ,i,st,p⟩
   |false=>rw[wN 01];exact p _ ι h (Stp.refl _ _) st rfl
  |_=>exact p.elim
theorem r_or{a:Expr}{b:Expr}{rest:List Expr}{d mb:En->Sr->Res D}(ha:PE X a (T d))(e:PE X (.BoolOp .Or (b::rest) pos) (T mb)):
  PE X (.BoolOp .Or (a::b::rest) pos) (T λρ S=>(d ρ S).bind λx S1=>match x with|.bl true=>.ok (.bl true) S1|.bl false=>mb ρ S1|_=>.no) :=
 PEimp (qlX ha e) λl H Q f=>TG.b1 f λι S ρ x y h i st j p=>by
  cases x with
  |bl c =>
   cases (show y=_ from j);refine⟨c,rfl,?_⟩;cases c with
   |true=>rw[wM rfl];exact p _ ι h (Stp.refl _ _) st rfl
   |false=>rw[wN 01];exact⟨ι,S,ρ,i,st,p⟩
  |_=>exact p.elim
theorem qmg(ha:PE X a (T d)):PE X (.UnaryOp .Not a pos) (T λρ S=>(d ρ S).bind λx S1=>match x with|.bl b=>.ok (.bl (!b)) S1|_=>.no) :=
 PEimp (qka ha) λi H Q e=>TG.b1 e λι S ρ x y f j st h p=>by
  cases x with
  |bl c =>
   cases (show y=_ from h);exact⟨c,rfl,p _ ι f (Stp.refl _ _) st rfl⟩
  |_=>exact p.elim
theorem qmh(ha:PE X a (T b)):PE X (.UnaryOp .USub a pos) (T λρ S=>(b ρ S).bind λx S1=>match x with|.int i=>.ok (.int (-i)) S1|_=>.no) :=
 PEimp (qlZ qki ha) λf H Q c=>TG.b1 c λι S ρ x y d h st e p=>by
  cases x with
  |int i =>
   cases (show y=_ from e);exact⟨i,rfl,p _ ι d (Stp.refl _ _) st rfl⟩
  |_=>exact p.elim
theorem qmi{k:Nat}(h:PA X es (TL b)):PE X (.Tuple es k pos) (T λρ S=>(b ρ S).bind λl S1=>if l.length<=sizeLine then .ok (.t l) S1 else .no) :=
 PEimp (qfQ h) λe H Q d=>TG.b1 d λι S ρ x y f i st c p=>by
  by_cases a:x.length<=sizeLine
  .rw [wM a]at p
   exact⟨by rw[<-c.length];exact a,zq st c p⟩
  .rw [wN a]at p;exact p.elim
theorem qmj(h:PA X es (TL b)):PE X (.List es pos) (T λρ S=>(b ρ S).bind λl S1=>if l.length<=sizeLine then newL m l S1 else .no) :=
 PEimp (qkl h) λe H Q d=>TG.b1 d λι S ρ x y f i st c p=>by
  by_cases a:x.length<=sizeLine
  .rw [wM a]at p
   exact⟨by rw[<-c.length];exact a,zo st c p⟩
  .rw [wN a]at p;exact p.elim
theorem qmk{m:Bool}:PE X (.Dict [] [] pos) (T λ_ S=>if m then .ok (.ref S.length) (S++[.dic []])else .ok .emp S):=by
 cases m with
 |true =>
  refine PEimp qf1 λc H Q b=>?_
  obtain⟨ι,S,ρ,d,st,p⟩:=b;intro q a;have g:=Stp.grow (ι:=ι) a (.dT []);refine p (.ref q) _ _ g (st.grow a ⟨rfl,[],qA,rfl⟩) ⟨q,rfl,?_⟩;rw[<-st.len];simp
 |false =>
  refine PEimp qbW λc H Q b=>?_
  obtain⟨ι,S,ρ,d,st,p⟩:=b;intro q a;have g:=Stp.laid (ι:=ι) a (.dK []);exact p (.ref q) _ _ g (st.laid a _) ⟨q,rfl,st.fresh a,qA⟩
theorem qml:PE X (.Dict [] [] pos) (T λ_ S=>.ok (.ref S.length) (S++[.dis []])):=by
 refine PEimp qbW λc H Q b=>?_
 obtain⟨ι,S,ρ,d,st,p⟩:=b;intro q a;have g:=Stp.grow (ι:=ι) a (.dK []);refine p (.ref q) _ _ g (st.grow a ⟨rfl,[],qA,rfl⟩) ⟨q,rfl,?_⟩;rw[<-st.len];simp
theorem key_den(h:keyD d=some k)(hd:Den ι H d v):v=kV k:=by
 cases d <;> simp only[keyD]at h <;> cases h <;> exact hd
theorem qdR{k:Int}(a:Dens ι H l xs)(h:atI l k=some d):∃v,atI xs k=some v/\Den ι H d v:=by
 unfold atI at h ⊢;rw[<-a.length];cases z:ixN l.length k with
 |none=>rw[z]at h;cases h
 |some j =>
  rw[z]at h;exact a.get h
theorem qb8:keyT a=keyT b ↔ a=b:=by
 refine⟨λh=>?_,λh=>by rw[h]⟩;unfold keyT at h;exact(List.map_inj_right (λx y h=>Sum.inl.inj h)).mp h
theorem qdS(k:03):(keyT k).map kV=k.map V.int:=by
 unfold keyT;rw[vH];rfl
theorem j4{κ K:Type}[DecidableEq κ][DecidableEq K]{f:κ->K}(c:∀{a b},f a=f b ↔ a=b){ι:List Addr}{H:Hp}{k:κ}:∀{l:List (κ×D)} {kvs:List (K×V)} {d:D},DGs f ι H l kvs->lookT k l=some d->∃v,valV kvs (f k)=some v/\Den ι H d v
 |[],_,_,_,h=>by cases h
 |p::l,_,d,hk,h=>by
  obtain⟨v,r,rfl,i,m⟩:=hk;obtain⟨j,e⟩:=p;simp only[lookT]at h;by_cases z:j=k
  .rw [wM z]at h;cases h
   exact⟨v,y7 (by simp[z]),i⟩
  .rw [wN z]at h
   obtain⟨w,e1,n⟩:=j4 c m h;exact⟨w,by rw[y8 (by simpa[c]using z)];exact e1,n⟩
theorem qdT{κ K:Type}[DecidableEq κ][DecidableEq K]{f:κ->K}(c:∀{a b},f a=f b ↔ a=b){ι:List Addr}{H:Hp}{k:κ}:∀{l:List (κ×D)} {kvs:List (K×V)},DGs f ι H l kvs->(kvs.any λd=>decide (d.1=f k))=l.any λp=>decide (p.1=k)
 |[],_,h=>by cases (show _=[]from h);rfl
 |p::l,_,h=>by
  obtain⟨v,r,rfl,i,e⟩:=h;rw[uT,uT,qdT c e];simp[c]
theorem j5{κ:Type}[DecidableEq κ]{k:κ}{d:D}(hd:refsLt 0 d=true):∀{l:List (κ×D)},refsLts 0 (l.map (·.2))=true->refsLts 0 ((putT k d l).map (·.2))=true:=by
 intro l c;refine qJ λx hx=>?_
 obtain⟨p,a,rfl⟩:=vD.mp hx;unfold putT at a;split at a
 .obtain ⟨q,f,e⟩:=vD.mp a
  have b:=ql c (vD.mpr ⟨q,f,rfl⟩);split at e
  .subst e;exact hd
  .subst e;exact b
 .rcases wi.mp a with z|z
  .exact ql c (vD.mpr ⟨p,z,rfl⟩)
  .rw [wY.mp z];exact hd
theorem qbg{κ K:Type}[DecidableEq κ][DecidableEq K]{f:κ->K}(j:∀{a b},f a=f b ↔ a=b){ι:List Addr}{H:Hp}{k:κ}{d:D}{v:V}(hd:Den ι H d v){l:List (κ×D)}{kvs:List (K×V)}(h:DGs f ι H l kvs):DGs f ι H (putT k d l) (putK kvs (f k) v):=by
 unfold putT putK;rw[qdT j h];split
 .rename_i hz
  clear hz;induction l generalizing kvs with
  |nil=>cases (show _=[]from h);exact(rfl:_=_)
  |cons p l c =>
   obtain⟨w,r,rfl,i,e⟩:=h;rw[wS,wS];by_cases z:p.1=k
   .rw [wM z,wM (by simp[z])]
    exact⟨v,_,rfl,hd,c e⟩
   .rw [wN z,wN (by simpa[j]using z)]
    exact⟨w,_,rfl,i,c e⟩
 .rename_i hz
  clear hz;induction l generalizing kvs with
  |nil=>cases (show _=[]from h);exact⟨v,[],rfl,hd,rfl⟩
  |cons p l c =>
   obtain⟨w,r,rfl,i,e⟩:=h;exact⟨w,_,rfl,i,c e⟩
theorem qdU(i:X.A.units+1<cLine):IxR X (λx y H Q=>∃a v,x=.ref a/\DGet H a y (some v)/\Q v H):=by
 intro b c pins s j H x y v u Q I rx l h m;obtain⟨a,z,rfl,g,q⟩:=h;cases rx;have f:=qbU I g;unfold subscriptTail;refine wA ?_;rw[getitemInPython_of_ne f.not_modules];refine wA (gA f PySem.F.slot_dict_getitem.lookup ?_);have fin:wpAny 05 X.A (subscripted c false (.ref a) u) (λr d=>wpAny 05 X.A (letTemporaryGo b (.ref a) r >>= λ_=>pure r) (EP X pins j Q) X.xe d) X.xe s:=by
  rw[m];exact wpAny_operating (qaN i I g l λo p n e=>wA (wpAny_letTemporaryGo (wC ⟨z,H,n,e,q⟩)))
 first
  |exact wC (wA fin)
  |exact wA fin
theorem qmm(s:X.A.units+1<cLine)(ha:PE X a (T o))(j:PE X b (T mb))(f:PlainIx b):
  PE X (.Subscript a b pos) (T λρ S=>(o ρ S).bind λx S1=>(mb ρ S1).bind λy S2=>ofO (idxD S2 x y) S2) :=
 PEimp (qfU (qdH.or (qfV.or (qdU s))) ha j f) λM H Q u=>by
  refine TG.b1 u λι S ρ a b N w st r p=>Pst.tg p w st λO S2 h H2 b2 s2 B c i C=>?_
  obtain⟨d,e,q⟩:=Pst.ofO C c;unfold idxD at e;split at e
  .rename_i k
   cases (show b2=_ from i);cases z:seqOf S2 a with
   |none=>rw[z]at e;cases e
   |some l =>
    rw[z]at e;obtain⟨p,xs,rfl,f,E⟩:=zG c z (Den.mono s2 a r);obtain⟨v,e1,m⟩:=qdR E e;have fin:=q v h H2 (Stp.refl _ _) c m;rcases f with f|f
    .exact .inl ⟨p,xs,k,v,rfl,rfl,.inl f,e1,fin⟩
    .exact .inr (.inl ⟨p,xs,k,v,rfl,rfl,.inl (.inl f),e1,fin⟩)
  .rename_i ks
   split at e
   .rename_i n
    split at e
    .rename_i l F
     cases z:intsOf ks with
     |none=>rw[z]at e;cases e
     |some k =>
      rw[z]at e;cases intsOf_eq z;obtain⟨p,I,hn⟩:=Den.mono s2 _ r;subst I;obtain⟨_,kvs,J,K⟩:=c.obj n p _ hn F;obtain⟨v,e1,m⟩:=j4 qb8 K e;obtain⟨b,xs,rfl,_,j,L⟩:=i;cases dens_ints L;refine .inr (.inr ⟨p,v,rfl,?_,q v h H2 (Stp.refl _ _) c m⟩);rw[<-e1];exact DGet.t J (by rw[qdS];exact j)
    .cases e
   .cases e
  .cases e
end
section
variable{X:Cx}{pos:Pos}
theorem qkC{ι:List Addr}{H:Hp}{S:Sr}{K:07}(st:Sto ι H S)(t:Ty):∀{d:D} {v:V} {b:Bool},isiD S t d=some b->Den ι H d v->∃ty,TyOf K H v ty/\PySem.W.kitOne K ty (.type t.nm)=some b
 | .non,v,b,h,hd=>by
  cases (show v=_ from hd);cases h;exact⟨_,.non,by cases t <;> (first|rfl|decide +kernel)⟩
 | .bl c,v,b,h,hd=>by
  cases (show v=_ from hd);cases t <;> cases h <;> exact⟨_,.bl c,by first|rfl|decide +kernel⟩
 | .int c,v,b,h,hd=>by
  cases (show v=_ from hd);cases t <;> cases h <;> exact⟨_,.int c,by first|rfl|decide +kernel⟩
 | .str c,v,b,h,hd=>by
  cases (show v=_ from hd);cases t <;> cases h <;> exact⟨_,.str c,by first|rfl|decide +kernel⟩
 | .t l,v,b,h,hd=>by
  obtain⟨a,xs,rfl,_,ha,_⟩:=hd;cases t <;> cases h <;> exact⟨_,.t ha,by first|rfl|decide +kernel⟩
 | .l l,v,b,h,hd=>by
  obtain⟨a,xs,rfl,_,ha,_⟩:=hd;rcases ha with ha|⟨o,ha⟩
  .cases t <;> cases h <;> exact⟨_,.l ha,by first|rfl|decide +kernel⟩
  .cases t <;> cases h <;> exact⟨_,.frz ha,by first|rfl|decide +kernel⟩
 | .exc C,v,b,h,hd=>by cases h
 | .emp,v,b,h,hd=>by
  obtain⟨a,rfl,_,ha⟩:=hd;cases t <;> cases h <;> exact⟨_,.dK ha,by first|rfl|decide +kernel⟩
 | .ref n,v,b,h,hd=>by
  obtain⟨a,rfl,ha⟩:=hd;simp only[isiD]at h;split at h
  .rename_i l e
   obtain⟨_,xs,f,_⟩:=st.obj n a _ ha e;cases t <;> cases h <;> exact⟨_,.l f,by first|rfl|decide +kernel⟩
  .rename_i l e
   obtain⟨_,xs,f,_⟩:=st.obj n a _ ha e;cases t <;> cases h <;> exact⟨_,.dT f,by first|rfl|decide +kernel⟩
  .rename_i l e
   obtain⟨_,xs,f,_⟩:=st.obj n a _ ha e;cases t <;> cases h <;> exact⟨_,.dK f,by first|rfl|decide +kernel⟩
  .cases h
theorem qgk:CallR X (.builtin "isinstance") (λxs H Q=>∃x n ty b,xs=[x,.ty n]/\TyOf X.K H x ty/\PySem.W.kitOne X.K ty (.type n)=some b/\Q (.bl b) H):=by
 intro pins s f H xs us Q I r h;obtain⟨x,n,ty,b,rfl,a,c,q⟩:=h;obtain⟨u,i,rfl,d,e⟩:=vals2 r;cases e;exact qeU I d a c λtk=>⟨.bl b,H,I.tok _,rfl,q⟩
theorem qiH(t:Ty):bootBuiltins (Str.ofString t.nm)=some (.type t.nm):=by cases t <;> decide +kernel
theorem j6:bootBuiltins "isinstance"=some (.builtin "isinstance"):=by decide +kernel
theorem qmn{p f:Pos}{t:Ty}(o:Gl X "isinstance")(hm:X.mg "isinstance"=none)(h:Gl X (Str.ofString t.nm))(i:X.mg (Str.ofString t.nm)=none)(ha:PE X a (T m))(n:starEach [a,.Name (Str.ofString t.nm) f] X.env=(false,eval a X.env)::starEach [.Name (Str.ofString t.nm) f] X.env)(j:starEach [.Name (Str.ofString t.nm) f] X.env=(false,eval (.Name (Str.ofString t.nm) f) X.env)::starEach [] X.env)(l:(backTo pos (starEach [.Name (Str.ofString t.nm) f] X.env)).any (·.1)=false):
  PE X (.Call (.Name "isinstance" p) [a,.Name (Str.ofString t.nm) f] [] pos) (T λρ S=>(m ρ S).bind λx S1=>ofO ((isiD S1 t x).map .bl) S1):=by
 have hn:(Str.ofString t.nm)≠"__name__":=by cases t <;> decide
 have hd:((Str.ofString t.nm) == ("__debug__":Str))=false:=by cases t <;> decide
 have r:PE X (.Name (Str.ofString t.nm) f) (λ_ H Q=>Q (.ty t.nm) H):=qdz (v:=.ty t.nm) h i (qiH t) rfl hn hd;refine PEimp (yZ qgk o hm j6 (zB ha (zB r jp j) n) 01 01 n l) λB H Q s=>?_
 refine TG.b1 s λι S ρ a b u C st w p=>?_
 obtain⟨d,e,q⟩:=Pst.ofO p st;cases z:isiD S t a with
 |none=>rw[z]at e;cases e
 |some c =>
  rw[z]at e;cases e;obtain⟨ty,y,A⟩:=qkC (K:=X.K) st t z w;exact⟨b,t.nm,ty,c,rfl,y,A,q _ ι u (Stp.refl _ _) st rfl⟩
theorem Dens.cut(h:Dens ι H l xs)(lo hi:Option Int):Dens ι H (cutD l lo hi) (cutV xs lo hi):=by
 unfold cutD cutV;rw[h.length];exact(h.drop _).take _
theorem qgl(h:PE X e (T m)):PO X (some e) (TOp λρ S=>(m ρ S).bind λx S1=>match x with|.int i=>.ok (some i) S1|_=>.no):=by
 intro pins s c H Q I d;refine qiq h pins s c H Q I (TG.b1 d λι S ρ a b f l st j p=>?_);cases a with
 |int i =>
  cases (show b=_ from j);exact⟨i,rfl,p _ ι f (Stp.refl _ _) st rfl⟩
 |_=>exact p.elim
theorem qgm:PO X none (TOp λ_ S=>.ok none S):=by
 intro pins s a H Q I b;obtain⟨ι,S,ρ,c,st,p⟩:=b;exact qip pins s a H Q I (p _ ι H (Stp.refl _ _) st rfl)
theorem qmo{e:Expr}{lo hi:Option Expr}{r:Pos}{m:En->Sr->Res D}{C E:En->Sr->Res (Option Int)}(F:PE X e (T m))(I:PO X lo (TOp C))(J:PO X hi (TOp E)):
  PE X (.Subscript e (.Slice lo hi none r) pos) (T λρ S=>(m ρ S).bind λx S1=>(C ρ S1).bind λl S2=>(E ρ S2).bind λh o=>ofO (slcD o x l h) o) :=
 PEimp (qfT (qis.or (qko.or qiu)) F I J) λσ H Q K=>by
  refine TG.b1 K λι S ρ a b H1 L st M p=>Pst.tg p L st λs S2 N H2 O s2 u v w r=>Pst.tg r u v λy o A H3 P U W f B Y=>?_
  cases (show s=O from w);cases (show y=P from B);obtain⟨d,e,q⟩:=Pst.ofO Y f;have j:=Den.mono (s2.trans U) a M;unfold slcD at e;split at e
  .rename_i l
   cases e;obtain⟨c,xs,rfl,Z,n,i⟩:=j;by_cases hn:HT.sIx xs.length 0 s=0/\HT.sIx xs.length xs.length y=xs.length
   .refine .inr (.inr ⟨c,xs,rfl,.inl (.inl n),hn,?_⟩)
    have e2:cutD l s y=l:=by
     unfold cutD;rw[i.length,hn.1,hn.2,uf,Nat.sub_zero,<-i.length,xK]
    rw[e2]at q;exact q _ A H3 (Stp.refl _ _) f ⟨c,xs,rfl,Z,n,i⟩
   .exact .inr (.inl ⟨c,xs,rfl,.inl (.inl n),hn,zq f (i.cut _ _) q⟩)
  .cases z:lstOf o a with
   |none=>rw[z]at e;cases e
   |some l =>
    rw[z]at e;cases e;obtain⟨c,xs,rfl,n,i⟩:=zk f z j;exact .inl ⟨c,xs,rfl,.inl n,zo (m:=false) f (i.cut _ _) q⟩
def Gn(g:List D->Sr->Res D):List V->Hp->VK->Prop:=λxs H Q=>∃ι S ds,Sto ι H S/\Dens ι H ds xs/\Pst Den (g ds S) ι H Q
theorem qiI{x:Str}{id:String}{e:Expr}{es:List Expr}{p:Pos}{g:List D->Sr->Res D}{f:En->Sr->Res (List D)}(h:CallR X (.builtin id) (Gn g))(i:Gl X x)(hm:X.mg x=none)(j:bootBuiltins x=some (.builtin id))(ha:PA X (e::es) (TL f))(hn:x≠"__name__")(c:dB x)(m:sE X e es)(d:bT X es pos):
  PE X (.Call (.Name x p) (e::es) [] pos) (T λρ S=>(f ρ S).bind λl S1=>g l S1) :=
 PEimp (yZ h i hm j ha hn c m d) λq H Q n=>TG.b1 n λι S ρ a b r s st o p=>⟨ι,S,a,st,o,p⟩
theorem qgn{x:Str}{ty:String}{e:Expr}{es:List Expr}{p:Pos}{g:List D->Sr->Res D}{f:En->Sr->Res (List D)}(h:CallR X (.type ty) (Gn g))(i:Gl X x)(hm:X.mg x=none)(j:bootBuiltins x=some (.type ty))(ha:PA X (e::es) (TL f))(hn:x≠"__name__")(c:dB x)(m:sE X e es)(d:bT X es pos):
  PE X (.Call (.Name x p) (e::es) [] pos) (T λρ S=>(f ρ S).bind λl S1=>g l S1) :=
 PEimp (qeW h i hm j ha hn c m d) λq H Q n=>TG.b1 n λι S ρ a b r s st o p=>⟨ι,S,a,st,o,p⟩
noncomputable def SpD(np:Nat)(g:List D->Sr->Res D):Sp:=λvs H Q _=>vs.length=np/\∃ι S ds,Sto ι H S/\Dens ι H ds vs/\Pst Den (g ds S) ι H Q
theorem qkD{k:Nat}{p:Pos}(F:FnOk X.prog X.w X.K X.mg X.base CX k f fd ps (SpD ps.length g))(m:Room k X.A)(n:Gl X x)(hm:X.mg x=some (.ref f))(o:PySem.W.keepIn X.K (.ref f)=true)(q:Binds X.K fd ps [])(hx:Passes CX X E)(ha:PA X (e::es) (TL b))(a:∀ρ S l r,b ρ S=.ok l r->l.length=ps.length)(c:dB x)(s:sE X e es)(d:bT X es pos):
  PE X (.Call (.Name x p) (e::es) [] pos) (T λρ S=>(b ρ S).bind λl S1=>g l S1) :=
 PEimp (qdD F m n hm o q (dvs:=[]) .nil hx ha c s d) λy H Q u=>by
  obtain⟨ι,S,ρ,v,st,p⟩:=u;refine⟨ι,S,ρ,v,st,?_⟩;dsimp only at p ⊢;cases z:b ρ S with
  |no=>rw[z]at p;exact p
  |err=>rw[z]at p;exact p
  |ok l S1 =>
   rw[z]at p;intro xs h B s1 i j;refine⟨?_,h,S1,l,i,by simpa using j,Pst.from p s1⟩;rw[uP,<-j.length];exact a ρ S l S1 z
end
section
variable{X:Cx}{pos:Pos}
theorem dens1(h:Dens ι H [d] xs):∃x,xs=[x]/\Den ι H d x:=by
 obtain⟨x,r,rfl,a,b⟩:=h;cases (show r=[]from b);exact⟨x,rfl,a⟩
theorem dens2(h:Dens ι H [d,e] xs):∃x y,xs=[x,y]/\Den ι H d x/\Den ι H e y:=by
 obtain⟨x,r,rfl,a,b⟩:=h;obtain⟨y,rfl,c⟩:=dens1 b;exact⟨x,y,rfl,a,c⟩
theorem CallRimp(h:CallR X f r)(k:∀xs H Q,a xs H Q->r xs H Q):CallR X f a:=λpins s b H xs us Q I c q=>h pins s b H xs us Q I c (k xs H Q q)
theorem qbh(p:Pst Den (one g ds S) ι H Q):∃d,ds=[d]/\Pst Den (g d S) ι H Q:=by
 cases ds with
 |nil=>exact(show False from p).elim
 |cons d r =>
  cases r with
  |nil=>exact⟨d,rfl,p⟩
  |cons e r=>exact(show False from p).elim
theorem qkE(p:Pst Den (two g ds S) ι H Q):∃d e,ds=[d,e]/\Pst Den (g d e S) ι H Q:=by
 cases ds with
 |nil=>exact(show False from p).elim
 |cons d r =>
  cases r with
  |nil=>exact(show False from p).elim
  |cons e r =>
   cases r with
   |nil=>exact⟨d,e,rfl,p⟩
   |cons f r=>exact(show False from p).elim
theorem qb9{f:Value}{g:D->Sr->Res D}{r:V->Hp->VK->Prop}(h:CallR X f (λxs H Q=>∃x,xs=[x]/\r x H Q))(k:∀ι S d x H Q,Sto ι H S->Den ι H d x->Pst Den (g d S) ι H Q->r x H Q):CallR X f (Gn (one g)):=CallRimp h λxs H Q a=>by
 obtain⟨ι,S,ds,st,hd,p⟩:=a;obtain⟨d,rfl,p⟩:=qbh p
 .skip
  obtain⟨x,rfl,hx⟩:=dens1 hd;exact⟨x,rfl,k ι S d x H Q st hx p⟩
theorem qgo{f:Value}{g:D->D->Sr->Res D}{r:V->V->Hp->VK->Prop}(h:CallR X f (λxs H Q=>∃x y,xs=[x,y]/\r x y H Q))(k:∀ι S d e x y H Q,Sto ι H S->Den ι H d x->Den ι H e y->Pst Den (g d e S) ι H Q->r x y H Q):CallR X f (Gn (two g)):=CallRimp h λxs H Q a=>by
 obtain⟨ι,S,ds,st,hd,p⟩:=a;obtain⟨d,e,rfl,p⟩:=qkE p
 .skip
  obtain⟨x,y,rfl,hx,b⟩:=dens2 hd;exact⟨x,y,rfl,k ι S d e x y H Q st hx b p⟩
theorem qmp:CallR X (.builtin "len") (Gn (one bLen)) :=
 qb9 (r:=λx H Q=>(∃n,LenV X.K x H n/\Q (.int n) H)\/∃a kvs,x=V.ref a/\H a=some (.dT kvs)/\Q (.int kvs.length) H) (CallRimp (qfP.or qe2) λxs H Q ⟨x,e,h⟩=>h.elim (λ⟨n,b,f⟩=>.inl ⟨x,n,e,b,f⟩) λ⟨a,kvs,b,f,j⟩=>.inr ⟨a,kvs,by rw[e,b],f,j⟩) λι S d x H Q st hx p=>by
  obtain⟨r,e,q⟩:=Pst.ofO p st;cases z:lenD S d with
  |none=>rw[z]at e;cases e
  |some n =>
   rw[z]at e;cases e;have fin:=q _ ι H (Stp.refl _ _) st rfl;cases d with
   |str y =>
    cases (show x=_ from hx);simp only[lenD]at z;split at z
    .cases z;exact .inl ⟨_,⟨by assumption,rfl⟩,fin⟩
    .cases z
   |t l =>
    cases z;obtain⟨a,xs,rfl,_,ha,c⟩:=hx;exact .inl ⟨_,.inr ⟨xs,.inl (.inl ha),c.length⟩,fin⟩
   |l l =>
    cases z;obtain⟨a,xs,rfl,_,ha,c⟩:=hx;exact .inl ⟨_,.inl ⟨xs,.inl ha,c.length⟩,fin⟩
   |ref k =>
    simp only[lenD]at z;split at z
    .rename_i l i
     cases z;obtain⟨a,rfl,ha⟩:=hx;obtain⟨_,xs,b,c⟩:=st.obj k a _ ha i;exact .inl ⟨_,.inl ⟨xs,.inl (.inl b),c.length⟩,fin⟩
    .rename_i l i
     cases z;obtain⟨a,rfl,ha⟩:=hx;obtain⟨_,kvs,b,c⟩:=st.obj k a _ ha i;exact .inr ⟨a,kvs,rfl,b,by rw[<-c.length];exact fin⟩
    .cases z
    .cases z
   |_=>cases z
theorem qmq:CallR X (.type "int") (Gn (one bInt)) :=
 qb9 (r:=λx H Q=>∃b,x=.bl b/\Q (.int (if b then 1 else 0)) H) (CallRimp qe3 λxs H Q ⟨x,e,b,a,c⟩=>⟨b,by rw[e,a],c⟩) λι S d x H Q st hx p=>by
  cases d with
  |bl b=>cases (show x=_ from hx);exact⟨b,rfl,p _ ι H (Stp.refl _ _) st rfl⟩
  |_=>exact p.elim
theorem qmr:CallR X (.builtin "abs") (Gn (one bAbs)) :=
 qb9 (r:=λx H Q=>∃i,x=.int i/\Q (.int (if i<0 then -i else i)) H) (CallRimp qfO λxs H Q ⟨x,e,i,a,b⟩=>⟨i,by rw[e,a],b⟩) λι S d x H Q st hx p=>by
  cases d with
  |int i=>cases (show x=_ from hx);exact⟨i,rfl,p _ ι H (Stp.refl _ _) st rfl⟩
  |_=>exact p.elim
theorem qms(a:X.calm=true):CallR X (.builtin "min") (Gn (two bMin)) :=
 qgo (r:=λx y H Q=>∃i j,x=.int i/\y=.int j/\Q (.int (if j<i then j else i)) H) (CallRimp (qeS a) λxs H Q ⟨x,y,e,i,j,b,c,f⟩=>⟨i,j,by rw[e,b,c],f⟩) λι S d e x y H Q st hx h p=>by
  cases d with
  |int i =>
   cases e with
   |int j=>cases (show x=_ from hx);cases (show y=_ from h);exact⟨i,j,rfl,rfl,p _ ι H (Stp.refl _ _) st rfl⟩
   |_=>exact p.elim
  |_=>exact p.elim
theorem qmt(a:X.calm=true):CallR X (.builtin "max") (Gn (two bMax)) :=
 qgo (r:=λx y H Q=>∃i j,x=.int i/\y=.int j/\Q (.int (if j>i then j else i)) H) (CallRimp (qeR a) λxs H Q ⟨x,y,e,i,j,b,c,f⟩=>⟨i,j,by rw[e,b,c],f⟩) λι S d e x y H Q st hx h p=>by
  cases d with
  |int i =>
   cases e with
   |int j=>cases (show x=_ from hx);cases (show y=_ from h);exact⟨i,j,rfl,rfl,p _ ι H (Stp.refl _ _) st rfl⟩
   |_=>exact p.elim
  |_=>exact p.elim
theorem qbi:CallR X (.builtin "divmod") (λxs H Q=>∃x y,xs=[x,y]/\∃i j,x=.int i/\y=.int j/\divOk i j=true/\∀p,H p=none->Q (.ref p) (upd H p (.t [.int (i.fdiv j),.int (i.fmod j)]))):=by
 intro pins s a H xs us Q I r h;obtain⟨x,y,rfl,i,j,rfl,rfl,hd,q⟩:=h;obtain⟨u,c,rfl,⟨t,rfl⟩,⟨t',rfl⟩⟩:=vals2 r;simp only[divOk,wK,uE,vA]at hd;refine divmod_int hd.1 ?_ (.inl hd.2);have hn:H s.heap.objs.size=none:=I.hok.fresh (wG _);refine⟨.ref s.heap.objs.size,_,?_,rfl,q _ hn⟩;refine I.laid (λb o e=>wB _ e) (wG _) ⟨by simp only[w8,ws];rw[vM];decide,[.int (i.fdiv j) s.toks,.int (i.fmod j) (s.toks+1)],.cons ⟨_,rfl⟩ (.cons ⟨_,rfl⟩ .nil),?_⟩;exact⟨⟨_,wE s.heap rfl,rfl,0,rfl⟩,yF _ _⟩
theorem qgp:CallR X (.builtin "divmod") (Gn (two bDivmod)) :=
 qgo qbi λι S d e x y H Q st hx a p=>by
  cases d with
  |int i =>
   cases e with
   |int j =>
    cases (show x=_ from hx);cases (show y=_ from a);simp only[bDivmod]at p;split at p
    .rename_i hd
     exact⟨i,j,rfl,rfl,hd,zq (l:=[.int (i.fdiv j),.int (i.fmod j)]) (xs:=[.int (i.fdiv j),.int (i.fmod j)]) st ⟨_,_,rfl,rfl,_,_,rfl,rfl,rfl⟩ p⟩
    .exact p.elim
   |_=>exact p.elim
  |_=>exact p.elim
theorem qkF(m:Bool):CallR X (.type "list") (Gn (one (bList m))) :=
 qb9 (r:=λx H Q=>∃p ys,x=.ref p/\(SqL X.K H p ys\/SqT X.K H p ys)/\∀l,H l=none->Q (.ref l) (upd H l (.l ys))) (CallRimp qa8 λxs H Q ⟨x,e,p,ys,b,c,f⟩=>⟨p,ys,by rw[e,b],c,f⟩) λι S d x H Q st hx p=>by
  unfold bList at p;split at p
  .rename_i l h
   obtain⟨a,xs,rfl,i,j⟩:=zG st h hx;exact⟨a,xs,rfl,i.elim (λz=>.inl (.inl z)) (λz=>.inr (.inl (.inl z))),zo st j p⟩
  .exact p.elim
theorem qiJ:CallR X (.type "tuple") (Gn (one bTuple)) :=
 qb9 (r:=λx H Q=>∃p ys,x=.ref p/\((SqL X.K H p ys/\∀l,H l=none->Q (.ref l) (upd H l (.t ys)))\/(SqT X.K H p ys/\Q (.ref p) H))) (CallRimp qaz λxs H Q ⟨x,e,p,ys,c,f⟩=>⟨p,ys,by rw[e,c],f⟩) λι S d x H Q st hx p=>by
  obtain⟨r,e,q⟩:=Pst.ofO p st;cases z:seqOf S d with
  |none=>rw[z]at e;cases e
  |some l =>
   rw[z]at e;cases e;cases d with
   |t h =>
    cases z;obtain⟨a,xs,rfl,hn,ha,b⟩:=hx;exact⟨a,xs,rfl,.inr ⟨.inl (.inl ha),q _ ι H (Stp.refl _ _) st ⟨a,xs,rfl,hn,ha,b⟩⟩⟩
   |l h =>
    cases z;obtain⟨a,xs,rfl,hn,ha,b⟩:=hx;exact⟨a,xs,rfl,.inl ⟨.inl ha,zq st b q⟩⟩
   |ref k =>
    obtain⟨a,xs,rfl,i,b⟩:=zk st (show lstOf S (.ref k)=some l from z) hx;exact⟨a,xs,rfl,.inl ⟨.inl i,zq st b q⟩⟩
   |_=>cases z
theorem qgq{A:Around}(I:Inv X pins q H s)(y:A.handled=none)(l:Rd H a (.l xs)\/H a=some (.t xs)):
  ∃c:List Value,Vals xs c/\∀(E:Value->Shared->Prop) (Q:Value->Shared->Prop),
   (∀(It:Addr) (fp z:List Addr) (m:Nat->Heap->Prop) (d:Shared),Walks X.prog X.w A It fp z c.length (λi v=>c[i]?=some v) m->m 0 d.heap->(∀b∈fp,b<d.heap.objs.size) ->
    (∀h' tk,(∀b o,b∉z->d.heap.get? b=some o->h'.get? b=some o)->Inv X pins q H {d with heap:=h',toks:=tk})->Q (.ref It) d) ->
   wpAny 05 A (pyIter (.ref a)) Q E s:=by
 have base:∀(o:Obj) (h':Heap) (tk:Nat),(∀b x,b∉[s.heap.objs.size]->(s.heap.push o).get? b=some x->h'.get? b=some x)->Inv X pins q H {s with heap:=h',toks:=tk}:=λo h' tk n =>
  I.kept λb u e=>n b u (λhm=>by rw[wY.mp hm]at e;exact vZ _ (wF e)) (wB _ e)
 rcases l with l|l
 .obtain ⟨c,r,j,hz⟩:=qbf I l
  refine⟨c,r,λE Q k=>wpAny_pyIter_list j ?_⟩;have f:a<s.heap.objs.size:=by obtain⟨_,e,_⟩:=j;exact wF e
  have W:=Walks.list (prog:=X.prog) (w:=X.w) (A:=A) y s.heap.objs.size a (wT f) c.toArray;refine k s.heap.objs.size [s.heap.objs.size,a] [s.heap.objs.size] (λi h=>h.IsListIter s.heap.objs.size a i/\h.IsList a c.toArray) _ (by simpa using W) ⟨⟨_,wE _ rfl,rfl,rfl⟩,j.push _⟩ (λb p=>?_) (λh' tk n=>base _ h' tk n);simp only[wQ,vO,xB]at p;have e1:=ww s.heap;rcases p with rfl|rfl
  .exact x3 (uh _) (e1 _).symm
  .exact x3 (vf f) (e1 _).symm
 .obtain ⟨c,r,j,hz⟩:=jt I l
  refine⟨c,r,λE Q k=>xY j ?_⟩;have f:a<s.heap.objs.size:=by obtain⟨_,e,_⟩:=j;exact wF e
  have W:=Walks.tuple (prog:=X.prog) (w:=X.w) (A:=A) y s.heap.objs.size a (wT f) c.toArray;refine k s.heap.objs.size [s.heap.objs.size,a] [s.heap.objs.size] (λi h=>h.IsTupleIter s.heap.objs.size a i/\h.IsTuple a c.toArray) _ (by simpa using W) ⟨⟨_,wE _ rfl,rfl,rfl⟩,j.push _⟩ (λb p=>?_) (λh' tk n=>base _ h' tk n);simp only[wQ,vO,xB]at p;have e1:=ww s.heap;rcases p with rfl|rfl
  .exact x3 (uh _) (e1 _).symm
  .exact x3 (vf f) (e1 _).symm
theorem qaQ:∀{l:List D} {xs:List V} {a:List Value} {bs:List Bool},boolsOf l=some bs->Dens ι H l xs->Vals xs a->a=bs.map .bool
 |[],xs,a,b,h,hd,r=>by
  cases h;cases (show xs=[]from hd);cases r;rfl
 | .bl c::l,xs,a,b,h,hd,r=>by
  obtain⟨x,t,rfl,d,e⟩:=hd;cases (show x=_ from d);simp only[boolsOf]at h;cases z:boolsOf l with
  |none=>rw[z]at h;cases h
  |some bs =>
   rw[z]at h;cases h;cases r with
   |cons f rt=>cases f;rw[qaQ z e rt];rfl
 | .non::_,_,_,_,h,_,_=>by cases h
 | .int _::_,_,_,_,h,_,_=>by cases h
 | .str _::_,_,_,_,h,_,_=>by cases h
 | .t _::_,_,_,_,h,_,_=>by cases h
 | .l _::_,_,_,_,h,_,_=>by cases h
 | .emp::_,_,_,_,h,_,_=>by cases h
 | .exc _::_,_,_,_,h,_,_=>by cases h
 | .ref _::_,_,_,_,h,_,_=>by cases h
theorem qc9(bs:List Bool):((List.range bs.length).all λi=>(bs[i]?).getD true)=bs.all id:=by
 rw[u6,wy,wy];constructor
 .intro h b c
  obtain⟨i,hi,e⟩:=vh c;have:=h i (uA.mpr hi);simpa[wD hi,e]using this
 .intro h i hi
  have a:=uA.mp hi;simpa[wD a]using h _ (uV a)
theorem qca{bs:List Bool}(e:a=bs.map .bool)(d:Bool):TruthOf prog w A (λi v=>a[i]?=some v) (λi=>(bs[i]?).getD d):=λi v s Q E c h=>by
 subst e;rw[wU]at c;cases z:bs[i]? with
 |none=>rw[z]at c;cases c
 |some b =>
  have f:Q ((bs[i]?).getD d) s:=h;rw[z]at c f;cases c;exact vU f
theorem qmu(j:X.calm=true):CallR X (.builtin "all") (Gn (one bAll)):=by
 intro pins s J H xs us Q I r h;obtain⟨ι,S,ds,st,hd,p⟩:=h;obtain⟨d,rfl,p⟩:=qbh p
 .skip
  obtain⟨x,rfl,hx⟩:=dens1 hd;obtain⟨u,rfl,m⟩:=vals1 r;obtain⟨K,e,q⟩:=Pst.ofO p st;cases z:seqOf S d with
  |none=>rw[z]at e;cases e
  |some l =>
   rw[z]at e;cases z2:boolsOf l with
   |none=>rw[w5,z2]at e;cases e
   |some bs =>
    rw[w5,z2]at e;cases e;obtain⟨a,xs,rfl,n,o⟩:=zG st z hx;cases m;obtain⟨b,v,w⟩:=qgq (A:=X.A.in1) I (I.ok.hd j) n;have f:=qaQ z2 o v;refine call_all_walk (w _ _ λIt fp y c i W B L C=>⟨It,fp,y,_,_,c,_,rfl,W,B,qca f true,λh' tk E=>?_⟩);have F:b.length=bs.length:=by rw[f,wH]
    rw[F,qc9];exact⟨.bl (bs.all id),H,C h' tk E,rfl,q _ ι H (Stp.refl _ _) st rfl⟩
end
section
variable{X:Cx}{pos:Pos}
theorem Dens.erase:∀{ds:List D} {xs:List V} (i:Nat),Dens ι H ds xs->Dens ι H (ds.eraseIdx i) (xs.eraseIdx i)
 |[],_,_,h=>by cases (show _=[]from h);exact(rfl:_=_)
 |d::ds,_,0,h=>by
  obtain⟨x,r,rfl,b,a⟩:=h;exact a
 |d::ds,_,i+1,h=>by
  obtain⟨x,r,rfl,b,a⟩:=h;exact⟨x,_,rfl,b,Dens.erase i a⟩
theorem jL{n:Nat}(st:Sto ι H S)(ha:ι[n]?=some a)(f:refsLts n l=true)(b:Dens ι H l xs):Stp ι H ι (upd H a (.l xs))/\Sto ι (upd H a (.l xs)) (S.set n (.l l)):=by
 have g:=Stp.put (H:=H) (vL ha) (.l xs);exact⟨g,st.put ha ⟨⟨n,ha,f⟩,xs,qA,Dens.mono g l b⟩⟩
theorem qe9{ι:List Addr}{H:Hp}{S:Sr}{x:D}{v:V}{K:07}(st:Sto ι H S)(h:isLst S x=true)(hx:Den ι H x v):tyV K "list" v H:=by
 cases x with
 |ref n =>
  obtain⟨a,rfl,ha⟩:=hx;simp only[isLst]at h;split at h
  .rename_i l b
   obtain⟨_,xs,c,_⟩:=st.obj n a _ ha b;exact .inl ⟨rfl,xs,.inl (.inl c)⟩
  .cases h
 |_=>cases h
theorem qda{o e:Expr}{name:Str}{id:String}{b:Pos}{mo me:En->Sr->Res D}{g:Sr->D->D->Res D}{r:V->List V->Hp->VK->Prop}(slot:Slot "list" name id)(i:typeOf (.builtin id)=pure (.type "method_descriptor"))(hm:MtM X id r)(n:∀ι S x y v u H Q,Sto ι H S->Den ι H x v->Den ι H y u->Pst Den (g S x y) ι H Q->r v [u] H Q)(q:PE X o (T mo))(s:PE X e (T me))(f:starEach [e] X.env=(false,eval e X.env)::starEach [] X.env)(c:attributeBase o name X.env (eval o X.env)=eval o X.env)(d:(b.endLine == pos.line)=true)(h:((backTo pos (starEach [e] X.env)).all (λx=>!x.1)&&(backToKw pos (keywordEach [] X.env)).all (λx=>x.1.isSome)&&decide ([e].length+([]:List Keyword).length+(if([]:List Keyword).isEmpty then 0 else 1)<30))=true)(a:(backTo pos (starEach [] X.env)).any (·.1)=false):
  PE X (.Call (.Attribute o name b) [e] [] pos) (T λρ S=>(mo ρ S).bind λx S1=>if isLst S1 x then(me ρ S1).bind λy S2=>g S2 x y else .no) :=
 PEimp (ql4 PySem.F.plainAttrs_list slot i hm q (zB s jp f) c h d f a) λE H Q w=>by
  refine TG.b1 w λι S ρ x v I z st rx p=>?_
  by_cases j:isLst S x=true
  .rw [wM j]at p
   refine⟨qe9 st j rx,Pst.tg p z st λy S2 l H2 u s2 A m B C=>?_⟩;exact n l S2 x y v u H2 Q m (Den.mono s2 x rx) B C
  .rw [wN j]at p;exact p.elim
theorem qmv(st:Sto ι H S)(hx:Den ι H x v)(e:Den ι H y u)(p:Pst Den (popD S x y) ι H Q):rPopAt v [u] H Q:=by
 unfold popD at p;split at p
 .rename_i n k
  split at p
  .rename_i l f
   split at p
   .rename_i h
    split at p
    .rename_i d hd
     obtain⟨a,rfl,ha⟩:=hx;cases (show u=_ from e);obtain⟨⟨i,j,o⟩,xs,q,c⟩:=st.obj n a _ ha f;obtain rfl:i=n:=zy st.nd j ha;obtain⟨z,e1,r⟩:=c.get hd;have s:k.toNat<xs.length:=(wP.mp e1).1;obtain⟨g,b⟩:=jL st ha (qJ λd m=>ql o (List.mem_of_mem_eraseIdx m)) (Dens.erase k.toNat c);refine⟨a,xs,k,k.toNat,z,rfl,rfl,q,?_,?_,?_,e1,p z ι _ g b (Den.mono g d r)⟩
     .lia
     .lia
     .exact seqIndex_of h.1 00
    .exact p.elim
   .exact p.elim
  .exact p.elim
 .exact p.elim
theorem qjG(st:Sto ι H S)(hx:Den ι H x v)(d:Den ι H y u)(p:Pst Den (appD S x y) ι H Q):rAppend v [u] H Q:=by
 unfold appD at p;split at p
 .rename_i n
  split at p
  .rename_i l e
   split at p
   .rename_i hz
    obtain⟨a,rfl,ha⟩:=hx;obtain⟨⟨f,h,i⟩,xs,j,c⟩:=st.obj n a _ ha e;obtain rfl:f=n:=zy st.nd h ha;obtain⟨g,b⟩:=jL st ha (by rw[yq,i];simp[refsLts,zh _ hz.2]) (c.snoc d);exact⟨a,xs,u,rfl,rfl,j,by rw[<-c.length];exact hz.1,p .non ι _ g b rfl⟩
   .exact p.elim
  .exact p.elim
 .exact p.elim
noncomputable def TGt(m:D->En->Sr->Res En):L2.TG:=λv a H Q=>∃ι S ρ d,EnR ι H ρ a/\Sto ι H S/\Den ι H d v/\Pst EnR (m d ρ S) ι H Q
noncomputable def TGts(m:List D->En->Sr->Res En):TGs:=λvs a H Q=>∃ι S ρ ds,EnR ι H ρ a/\Sto ι H S/\Dens ι H ds vs/\Pst EnR (m ds ρ S) ι H Q
theorem PGimp(h:PG X tg t)(k:∀v a H Q,t' v a H Q->t v a H Q):PG X tg t':=λpins s a H v u Q I r b=>h pins s a H v u Q I r (k v a H Q b)
theorem PGsimp(h:PGs X ts t)(k:∀v a H Q,t' v a H Q->t v a H Q):PGs X ts t':=λpins s a H v u Q I r b=>h pins s a H v u Q I r (k v a H Q b)
theorem qmw{i:Nat}(h:PG X tg (gName i)):PG X tg (TGt λd ρ S=>.ok (ρ.set i (some d)) S):=PGimp h λv c H Q a=>by
 obtain⟨ι,S,ρ,d,b,st,hd,p⟩:=a;exact p _ ι H (Stp.refl _ _) st (b.set hd)
theorem qmx:PGs X [] (TGts λl ρ S=>match l with|[]=>.ok ρ S|_=>.no):=PGsimp qii λvs c H Q a=>by
 obtain⟨ι,S,ρ,ds,b,st,hd,p⟩:=a;cases ds with
 |nil=>exact⟨hd,p _ ι H (Stp.refl _ _) st b⟩
 |cons=>exact p.elim
theorem qkG(h:PG X e (TGt m))(i:PGs X es (TGts f))(j:(assignEach (e::es) X.env).map (·.2)=assign e X.env::(assignEach es X.env).map (·.2)):
  PGs X (e::es) (TGts λl ρ S=>match l with|d::r=>(m d ρ S).bind λρ1 S1=>f r ρ1 S1|[]=>.no):=PGsimp (qfF h i j) λvs y H Q n=>by
 obtain⟨ι,S,ρ,ds,o,st,hd,p⟩:=n;cases ds with
 |nil=>exact p.elim
 |cons d r =>
  obtain⟨v,q,rfl,s,u⟩:=hd;refine⟨v,q,rfl,ι,S,ρ,d,o,st,s,Pst.bind p λρ1 S1 a z w s1 b c x=>?_⟩;exact⟨a,S1,ρ1,r,c,b,Dens.mono s1 r u,x⟩
theorem qmy{k n:Nat}(j:X.calm=true)(h:PGs X es (TGts c))(hn:(assignEach es X.env).length=n)(e:(assignEach es X.env).findIdx? (·.1)=none)(m:∀l ρ S b f,c l ρ S=.ok b f->l.length=n):PG X (.Tuple es k pos) (TGt λd ρ S=>match d with|.t l=>c l ρ S|_=>.no):=PGimp (qkc j h hn e) λv r H Q o=>by
 obtain⟨ι,S,ρ,d,q,st,hd,p⟩:=o;cases d with
 |t l =>
  obtain⟨a,xs,rfl,_,ha,i⟩:=hd;refine⟨a,xs,rfl,.inl (.inl ha),?_,ι,S,ρ,l,q,st,i,p⟩;rw[<-i.length];cases z:c l ρ S with
  |ok b f=>exact m l ρ S b f z
  |no=>simp only[z]at p;exact p.elim
  |err=>simp only[z]at p;exact p.elim
 |_=>exact p.elim
theorem qcb(b:X.A.units+1<cLine):PSet X (λo i v H Q=>∃a H',o=.ref a/\DPut H a i v H'/\Q H'):=by
 intro pins s f H o i v j l u Q I c ri d h;obtain⟨a,H',rfl,g,q⟩:=h;cases c;exact qeY b I g ri d λm e=>⟨H',e,q⟩
theorem qgr(P:X.A.units+1<cLine){pins:001}{s:Shared}{p:St}{H:Hp}{a:Addr}{i v:V}{r B u:Value}{Q:Hp->Prop}{ι:List Addr}{S U:Sr}{n:Nat}{y d:D}(I:Inv X pins p H s)(K:RelV (.ref a) r)(ri:RelV i B)(L:RelV v u)(st:Sto ι H S)(ha:ι[n]?=some a)(h:refsLt 0 d=true)(M:Den ι H y i)(hd:Den ι H d v)(e:putN S n y d=some U)(q:∀C H',Stp ι H C H'->Sto C H' U->Q H'):wpAny 05 X.A (setItem r B u) (λ_ s'=>∃H',Inv X pins p H' s'/\Q H') X.xe s:=by
 unfold putN at e;split at e
 .rename_i l E
  obtain⟨⟨W,Y,F⟩,xs,J,c⟩:=st.obj n a _ ha E;obtain rfl:W=n:=zy st.nd Y ha;split at e
  .rename_i k
   cases (show i=_ from M);cases z:ixN l.length k with
   |none=>rw[z]at e;cases e
   |some j =>
    rw[z]at e;cases e;obtain⟨g,N⟩:=jL st ha (qJ λx m=>(List.mem_or_eq_of_mem_set m).elim (λz=>ql F z) λz=>z ▸ zh _ h) (c.set hd j);exact qfW pins s p H _ _ v r B u Q I K ri L ⟨a,xs,k,j,rfl,rfl,J,by rw[<-c.length];exact z,q ι _ g N⟩
  .cases e
 .rename_i l E
  obtain⟨F,kvs,J,c⟩:=st.obj n a _ ha E;split at e
  .rename_i ks
   cases z:intsOf ks with
   |none=>rw[z]at e;cases e
   |some k =>
    rw[z,w5]at e;split at e
    .rename_i o
     cases e;cases intsOf_eq z;obtain⟨b,ys,rfl,_,Z,db⟩:=M;cases dens_ints db;have g:=Stp.put (H:=H) (vL ha) (.dT (putK kvs (keyT k) v));refine qcb P pins s p H _ _ v r B u Q I K ri L ⟨a,_,rfl,DPut.t (k:=keyT k) J (by rw[qdS];exact Z) ?_,q ι _ g (st.put ha ⟨j5 h F,_,qA,qbg qb8 (Den.mono g d hd) (DGs.mono g c)⟩)⟩;have O:kvs.length<1000:=by rw[<-c.length];exact o
     exact wX O (by rw[vM];decide)
    .cases e
  .cases e
 .rename_i l E
  obtain⟨F,kvs,J,c⟩:=st.obj n a _ ha E;cases z:keyD y with
  |none=>rw[z]at e;cases e
  |some k =>
   rw[z,w5]at e;split at e
   .rename_i o
    cases e;cases key_den z M;have g:=Stp.put (H:=H) (vL ha) (.dK (putK kvs k v));refine qcb P pins s p H _ _ v r B u Q I K ri L ⟨a,_,rfl,DPut.k (k:=k) J ?_,q ι _ g (st.put ha ⟨j5 h F,_,qA,qbg (f:=id) Iff.rfl (Den.mono g d hd) (DGs.mono g c)⟩)⟩;have O:kvs.length<1000:=by rw[<-c.length];exact o
    exact wX O (by rw[vM];decide)
   .cases e
 .cases e
theorem qdV(j:X.A.units+1<cLine):PSet X (λo i v H Q=>∃ι S x y d f,Sto ι H S/\Den ι H x o/\Den ι H y i/\Den ι H d v/\putE S x y d=some f/\∀c H',Stp ι H c H'->Sto c H' f->Q H'):=by
 intro pins s r H o i v w z u Q I l ri m h;obtain⟨ι,S,x,y,d,f,st,hx,p,hd,e,q⟩:=h;unfold putE at e;by_cases b:refsLt 0 d=true
 .rw [wM b]at e
  split at e
  .rename_i n
   obtain⟨a,rfl,ha⟩:=hx;exact qgr j I l ri m st ha b p hd e q
  .cases e
 .rw [wN b]at e;cases e
theorem qmz{o i:Expr}{mo mi:En->Sr->Res D}(r:X.A.units+1<cLine)(s:PE X o (T mo))(hi:PE X i (T mi))(ha:∀v,assign (.Subscript o i pos) X.env v=(do
   let a <-holding [v] (eval o X.env)
   let c <-holding [v,a] (eval i X.env)
   standAt pos
   holding [v,a,c] (setItem a c v)
   release [v,a,c] [])):
  PG X (.Subscript o i pos) (TGt λd ρ S=>(mo ρ S).bind λx S1=>(mi ρ S1).bind λy S2=>match putE S2 x y d with|some e=>.ok ρ e|none=>.no):=PGimp (qkd s hi (qdV r) ha) λv u H Q w=>by
 obtain⟨ι,S,ρ,d,B,st,hd,p⟩:=w;refine Pst.tg (ρ:=ρ) p B st λx S1 C I J s1 f h rx E=>Pst.tg (ρ:=ρ) E f h λy S2 j H2 K s2 l m F b=>?_
 cases z:putE S2 x y d with
 |none=>rw[z]at b;exact b.elim
 |some e =>
  rw[z]at b;exact⟨j,S2,x,y,d,e,m,Den.mono s2 x rx,F,Den.mono (s1.trans s2) d hd,z,λn H' g q=>b u n H' g q (l.mono g)⟩
def FlOk(f:Fl)(ι:List Addr)(H:Hp)(D:Ends):Prop:=match f with
 | .nx ρ=>∀a,EnR ι H ρ a->D.nx a H
 | .bk ρ=>∀a,EnR ι H ρ a->D.bk a H
 | .ct ρ=>∀a,EnR ι H ρ a->D.ct a H
 | .rt d=>∀v,Den ι H d v->D.rt v H
def PsF(r:Res Fl)(ι:List Addr)(H:Hp)(D:Ends):Prop:=match r with
 | .ok f b=>∀a H',Stp ι H a H'->Sto a H' b->FlOk f a H' D
 | .err _ _=>False
 | .no=>False
theorem PsF.from{r:Res Fl}{ι a:List Addr}{H H':Hp}{D:Ends}(h:PsF r ι H D)(s:Stp ι H a H'):PsF r a H' D:=by
 cases r with
 |ok f S=>exact λb H2 t st=>h b H2 (s.trans t) st
 |err=>exact h
 |no=>exact h
theorem PsF.bind{d i:Type}{R:List Addr->Hp->d->i->Prop}{r:Res d}{f:d->Sr->Res Fl}{ι:List Addr}{H:Hp}{D:Ends}{K:i->Hp->Prop}(h:PsF (r.bind f) ι H D)(k:∀a j c H' b,Stp ι H c H'->Sto c H' j->R c H' a b->PsF (f a j) c H' D->K b H'):Pst R r ι H K:=by
 cases r with
 |ok a S=>exact λb e H2 t st q=>k a S e H2 b t st q (PsF.from h t)
 |err=>exact h
 |no=>exact h
noncomputable def TSm(m:En->Sr->Res Fl):TS:=λD a H=>∃ι S ρ,EnR ι H ρ a/\Sto ι H S/\PsF (m ρ S) ι H D
theorem PSimp{st:Stmt}{t t':TS}(h:PS X st t)(k:∀D a H,t' D a H->t D a H):PS X st t':=λpins s a H D I b=>h pins s a H D I (k D a H b)
theorem PSsimp{st:List Stmt}{t t':TS}(h:PSs X st t)(k:∀D a H,t' D a H->t D a H):PSs X st t':=λpins s a H D I b=>h pins s a H D I (k D a H b)
theorem qmA:PSs X [] (TSm λρ S=>.ok (.nx ρ) S):=PSsimp qdA λD a H b=>by
 obtain⟨ι,S,ρ,c,st,p⟩:=b;exact p ι H (Stp.refl _ _) st a c
theorem qkH{st:Stmt}{rest:List Stmt}{m i:En->Sr->Res Fl}(j:PS X st (TSm m))(l:PSs X rest (TSm i)):
  PSs X (st::rest) (TSm λρ S=>(m ρ S).bind λf S1=>match f with|.nx ρ1=>i ρ1 S1|f=>.ok f S1):=PSsimp (qbQ j l) λD r H n=>by
 obtain⟨ι,S,ρ,o,st,p⟩:=n;refine⟨ι,S,ρ,o,st,?_⟩;dsimp only at p;cases z:m ρ S with
 |no=>rw[z]at p;exact p
 |err=>rw[z]at p;exact p
 |ok f S1 =>
  rw[z]at p;intro b h s1 c;cases f with
  |nx ρ1=>exact λe a=>⟨b,S1,ρ1,a,c,PsF.from p s1⟩
  |bk ρ1=>exact λe a=>p b h s1 c e a
  |ct ρ1=>exact λe a=>p b h s1 c e a
  |rt d=>exact λv q=>p b h s1 c v q
theorem qkI(h:PE X e (T m))(i:swapsWith e none pos.line X.env=pure false):PS X (.Expr e pos) (TSm λρ S=>(m ρ S).bind λ_ S1=>.ok (.nx ρ) S1):=PSimp (qdB h i) λD j H l=>by
 obtain⟨ι,S,ρ,f,st,p⟩:=l;exact⟨ι,S,ρ,f,st,PsF.bind p λa S1 c n b s1 d q o=>o c n (Stp.refl _ _) d j (f.mono s1)⟩
theorem qmB(h:PE X e (T m)):PS X (.Return (some e) pos) (TSm λρ S=>(m ρ S).bind λd S1=>.ok (.rt d) S1):=PSimp (qkb h) λD q H i=>by
 obtain⟨ι,S,ρ,j,st,p⟩:=i;exact⟨ι,S,ρ,j,st,PsF.bind p λa S1 c l b s1 f n o=>o c l (Stp.refl _ _) f b n⟩
theorem s_if(l:PT X c (TB h))(ha:PSs X a (TSm i))(m:PSs X b (TSm mb)):
  PS X (.If c a b pos) (TSm λρ S=>(h ρ S).bind λt S1=>if t then i ρ S1 else mb ρ S1):=PSimp (qjz l ha m) λD q H n=>by
 obtain⟨ι,S,ρ,f,st,p⟩:=n;refine⟨ι,S,ρ,f,st,PsF.bind p λa S1 d r b s1 e o j=>?_⟩;cases (show a=b from o);cases a with
 |true=>rw[wM rfl];exact⟨d,S1,ρ,f.mono s1,e,j⟩
 |false=>rw[wN 01];exact⟨d,S1,ρ,f.mono s1,e,j⟩
theorem qjH(h:PS X (.Assign [tg] e pos) (tAsg (T m) (TGt g))):
  PS X (.Assign [tg] e pos) (TSm λρ S=>(m ρ S).bind λd S1=>(g d ρ S1).bind λρ1 S2=>.ok (.nx ρ1) S2):=PSimp h λD r H n=>by
 obtain⟨ι,S,ρ,l,st,p⟩:=n;refine⟨ι,S,ρ,l,st,PsF.bind p λd S1 a s v s1 b rd o=>?_⟩;refine⟨a,S1,ρ,d,l.mono s1,b,rd,PsF.bind o λρ1 S2 c H2 f s2 i j q=>?_⟩;exact q c H2 (Stp.refl _ _) i f j
theorem qiK{N:Nat}(x:PassesOwn 05 X.A X.env X.xe)(y:PT X c (TB n))(B:PSs X body (TSm mb)):
  PS X (.While c body [] pos) (TSm λρ S=>whileLoop n mb N ρ S):=PSimp (qfI x y B) λD u H C=>by
 obtain⟨ι,S,ρ,o,st,p⟩:=C;refine⟨λm u H=>∃ι S ρ,EnR ι H ρ u/\Sto ι H S/\PsF (whileLoop n mb m ρ S) ι H D,⟨N,ι,S,ρ,o,st,p⟩,?_⟩;rintro m u H ⟨ι,S,ρ,o,st,p⟩;cases m with
 |zero=>exact p.elim
 |succ m =>
  refine⟨ι,S,ρ,o,st,PsF.bind (show PsF ((n ρ S).bind _) ι H D from p) λa S1 q E b s1 r F h=>?_⟩;cases (show a=b from F);cases a with
  |false=>exact h q E (Stp.refl _ _) r u (o.mono s1)
  |true =>
   refine⟨λs H'=>∃ι S ρ,EnR ι H' ρ s/\Sto ι H' S/\PsF (whileLoop n mb m ρ S) ι H' D,λs H' h'=>⟨m,uh _,h'⟩,q,S1,ρ,o.mono s1,r,?_⟩;cases z:mb ρ S1 with
   |no=>simp only[z,vo]at h;exact h
   |err=>simp only[z,vo]at h;exact h
   |ok f S2 =>
    simp only[z,vo,Res.bind_ok]at h;intro i H2 s2 j;cases f with
    |nx ρ1=>exact λl e=>⟨i,S2,ρ1,e,j,PsF.from h s2⟩
    |ct ρ1=>exact λl e=>⟨i,S2,ρ1,e,j,PsF.from h s2⟩
    |bk ρ1=>exact λl e=>h i H2 s2 j l e
    |rt d=>exact λv I=>h i H2 s2 j v I
end
structure ItOk (ι:List Addr) (H:Hp) (J:It) (ds:List D):Prop where
 go:∀(i:Nat) (d:D) (ι2:List Addr) (H2:Hp),Stp ι H ι2 H2->ds[i]?=some d->J.go i H2/\∀x H3,J.yld i H2 x H3->Stp ι2 H2 ι2 H3/\∀S,Sto ι2 H2 S->Sto ι2 H3 S/\Den ι2 H3 d x
 stop:∀(ι2:List Addr) (H2:Hp),Stp ι H ι2 H2->J.stop ds.length H2
def qgs{ι:List Addr}{H:Hp}{K:07}{a:Addr}{xs:List V}{ds:List D}(n:a∉ι)(h:Rd H a (.l xs))(f:Dens ι H ds xs):ItOk ι H (Itl K a) ds where
 go:=λi d b H2 s e=>by
  obtain⟨x,e1,l⟩:=(Dens.mono s ds f).get e;obtain⟨j,m⟩:=s.rd h n;refine⟨⟨xs,x,.inl j,e1⟩,λy H3 c=>?_⟩;obtain⟨rfl,c⟩:=c;have:=c xs (.inl j);rw[e1]at this;cases this;exact⟨Stp.refl _ _,λ_ z=>⟨z,l⟩⟩
 stop:=λb H2 s=>⟨xs,.inl (s.rd h n).1,x8 f.length.symm⟩
def qgt{ι:List Addr}{H:Hp}{K:07}{a:Addr}{xs:List V}{ds:List D}(n:a∉ι)(h:H a=some (.t xs))(f:Dens ι H ds xs):ItOk ι H (Itt K a) ds where
 go:=λi d b H2 s e=>by
  obtain⟨x,e1,l⟩:=(Dens.mono s ds f).get e;have j:=s.keep _ _ h n trivial;refine⟨⟨xs,x,.inl (.inl j),e1⟩,λy H3 c=>?_⟩;obtain⟨rfl,c⟩:=c;have:=c xs (.inl (.inl j));rw[e1]at this;cases this;exact⟨Stp.refl _ _,λ_ z=>⟨z,l⟩⟩
 stop:=λb H2 s=>⟨xs,.inl (.inl (s.keep _ _ h n trivial)),x8 f.length.symm⟩
structure ItG (ι:List Addr) (H:Hp) (J:It) (ds:List D) (gd:Sr->Prop):Prop where
 go:∀(i:Nat) (d:D) (ι2:List Addr) (H2:Hp) (S2:Sr),Stp ι H ι2 H2->Sto ι2 H2 S2->gd S2->ds[i]?=some d->J.go i H2/\∀x H3,J.yld i H2 x H3->Stp ι2 H2 ι2 H3/\∀S,Sto ι2 H2 S->Sto ι2 H3 S/\Den ι2 H3 d x
 stop:∀(ι2:List Addr) (H2:Hp) (S2:Sr),Stp ι H ι2 H2->Sto ι2 H2 S2->gd S2->J.stop ds.length H2
def ItG.mono(h:ItG ι H J ds gd)(s:Stp ι H b H'):ItG b H' J ds gd :=
 ⟨λi d a H2 S2 t st g e=>h.go i d a H2 S2 (s.trans t) st g e,λa H2 S2 t st g=>h.stop a H2 S2 (s.trans t) st g⟩
def ItOk.g(h:ItOk ι H J ds):ItG ι H J ds λ_=>True :=
 ⟨λi d a H2 _ t _ _ e=>h.go i d a H2 t e,λa H2 _ t _ _=>h.stop a H2 t⟩
def qiL{ι:List Addr}{H:Hp}{K:07}{a:Addr}{n:Nat}{l:List D}(h:ι[n]?=some a):ItG ι H (Itl K a) l (own n l) where
 go:=λi d b H2 S2 s st g e=>by
  obtain⟨_,xs,ha,c⟩:=st.obj n a _ (s.get h) g;obtain⟨x,e1,j⟩:=c.get e;refine⟨⟨xs,x,.inl (.inl ha),e1⟩,λy H3 f=>?_⟩;obtain⟨rfl,f⟩:=f;have:=f xs (.inl (.inl ha));rw[e1]at this;cases this;exact⟨Stp.refl _ _,λ_ z=>⟨z,j⟩⟩
 stop:=λb H2 S2 s st g=>by
  obtain⟨_,xs,ha,c⟩:=st.obj n a _ (s.get h) g;exact⟨xs,.inl (.inl ha),x8 c.length.symm⟩
noncomputable def TIg(m:En->Sr->Res (List D×(Sr->Prop))):TI:=λb H R=>∃ι S ρ,EnR ι H ρ b/\Sto ι H S/\match m ρ S with
 | .ok p c=>∀a H' J,Stp ι H a H'->Sto a H' c->ItG a H' J p.1 p.2->R J H'
 | .err _ _=>False
 | .no=>False
noncomputable def TIt(m:En->Sr->Res (List D)):TI:=λb H R=>∃ι S ρ,EnR ι H ρ b/\Sto ι H S/\match m ρ S with
 | .ok ds c=>∀a H' J,Stp ι H a H'->Sto a H' c->ItOk a H' J ds->R J H'
 | .err _ _=>False
 | .no=>False
section
variable{X:Cx}{pos:Pos}{tg:Expr}
theorem PIimp(h:PI X tg iter t)(k:∀a H R,t' a H R->t a H R):PI X tg iter t':=λpins s a H R I b=>h pins s a H R I (k a H R b)
theorem qdb(r:PE X l tl):PI X tg l (λi H R=>tl i H λx d=>(∃a,x=.ref a/\(∃xs,SqL X.K d a xs)/\R (Itl X.K a) d)\/(∃a,x=.ref a/\(∃xs,SqT X.K d a xs)/\R (Itt X.K a) d)):=by
 intro pins s i H R I h;refine thn (r pins s i H _ I h) λv s1 ⟨x,d,c,n,q1⟩=>?_
 rcases q1 with ⟨a,e,⟨xs,j⟩,q⟩|⟨a,e,⟨xs,j⟩,q⟩
 .subst e
  cases n;obtain⟨f,u,p,hz⟩:=c.list j;refine wpAny_pyIter_list p.isList ?_;refine⟨s1.heap.objs.size,[s1.heap.objs.size],_,_,d,rfl,c.kept (t':=s1.toks) λb o e=>wB _ e,qeP a _,⟨_,wE _ rfl,rfl,rfl⟩,λb m=>?_,q⟩;have e:b=s1.heap.objs.size:=by simpa using m
  subst e;exact c.fpOk (wG _) (c.hok.fresh (wG _))
 .subst e
  cases n;obtain⟨f,u,p,hz⟩:=c.tuple j;refine xY (show s1.heap.IsTuple a f.toArray from p) ?_;refine⟨s1.heap.objs.size,[s1.heap.objs.size],_,_,d,rfl,c.kept (t':=s1.toks) λb o e=>wB _ e,qcQ a _,⟨_,wE _ rfl,rfl,rfl⟩,λb m=>?_,q⟩;have e:b=s1.heap.objs.size:=by simpa using m
  subst e;exact c.fpOk (wG _) (c.hok.fresh (wG _))
noncomputable def mSeq(m:En->Sr->Res D):En->Sr->Res (List D):=λρ S=>(m ρ S).bind λx S1=>match x with
 | .t l=>.ok l S1
 | .l l=>.ok l S1
 |_=>.no
theorem qmC(h:PE X e (T m)):PI X tg e (TIt (mSeq m)):=PIimp (qdb h) λq H R n=>by
 obtain⟨ι,S,ρ,o,st,p⟩:=n;refine⟨ι,S,ρ,o,st,?_⟩;dsimp only[mSeq]at p;cases z:m ρ S with
 |no=>rw[z]at p;exact p
 |err=>rw[z]at p;exact p
 |ok d S1 =>
  rw[z,Res.bind_ok]at p;intro v b i s1 c j;cases d with
  |t l =>
   obtain⟨a,xs,rfl,hn,ha,f⟩:=j;exact .inr ⟨a,rfl,⟨xs,.inl (.inl ha)⟩,p b i _ s1 c (qgt hn ha f)⟩
  |l l =>
   obtain⟨a,xs,rfl,hn,ha,f⟩:=j;exact .inl ⟨a,rfl,⟨xs,.inl ha⟩,p b i _ s1 c (qgs hn ha f)⟩
  |_=>exact p.elim
theorem qkJ(hp:PassesOwn 05 X.A X.env X.xe)(hc:X.calm=true)(hi:PI X tg iter (TIg mi))(hg:PG X tg (TGt g))(hb:PSs X body (TSm mb))(hs:∀x,foldedSetIterable iter X.env x=pure x):
  PS X (.For tg iter body [] pos) (TSm λρ S=>(mi ρ S).bind λp S1=>endG p.2 (forLoop (λd ρ S=>(grd p.2 S (g d ρ S)).bind λρ1 S1=>mb ρ1 S1) p.1 ρ S1)):=PSimp (qkg hp hc hi hg hb hs) λD K H hw=>by
 obtain⟨ι,S,ρ,W,st,p⟩:=hw;refine⟨ι,S,ρ,W,st,?_⟩;dsimp only at p;cases z:mi ρ S with
 |no=>rw[z]at p;exact p
 |err=>rw[z]at p;exact p
 |ok dg S1 =>
  obtain⟨ds,gd⟩:=dg;rw[z,Res.bind_ok]at p;dsimp only at p;intro q Y J s1 L y;refine⟨λi m K H=>m=ds.length-i/\i<=ds.length/\∃ι S ρ,Stp q Y ι H/\EnR ι H ρ K/\Sto ι H S/\PsF (endG gd (forLoop (λd ρ S=>(grd gd S (g d ρ S)).bind λρ1 S1=>mb ρ1 S1) (ds.drop i) ρ S)) ι H D,
   ⟨_,rfl,vN _,q,S1,ρ,Stp.refl _ _,W.mono s1,L,by simpa using PsF.from p s1⟩,?_⟩
  rintro i m K H ⟨rfl,hi,ι,S,ρ,s2,B,h,j⟩;by_cases r:i<ds.length
  .have hd:ds[i]?=some ds[i]:=wD r
   rw[ug r]at j;have b:gd S:=by
    apply Classical.byContradiction;intro hn;simp only[forLoop,yr hn,Res.bind_no,endG]at j;exact j
   obtain⟨go,yl⟩:=y.go i _ ι H S s2 h b hd;refine .inr ⟨go,λC H'=>∃ι S ρ,Stp q Y ι H'/\EnR ι H' ρ C/\Sto ι H' S/\PsF (endG gd (forLoop (λd ρ S=>(grd gd S (g d ρ S)).bind λρ1 S1=>mb ρ1 S1) (ds.drop (i+1)) ρ S)) ι H' D,λC H' h'=>⟨_,by omega,rfl,r,h'⟩,λx H3 hy=>?_⟩;obtain⟨M,N⟩:=yl x H3 hy;obtain⟨k3,d3⟩:=N S h;refine⟨ι,S,ρ,ds[i],B.mono M,k3,d3,?_⟩;have s:=PsF.from j M;simp only[forLoop,zA b]at s;cases z2:g ds[i] ρ S with
   |no=>simp only[z2,endG,Res.bind_no]at s;exact s
   |err=>simp only[z2,endG,Res.bind_err]at s;exact s
   |ok E Z =>
    rw[z2,Res.bind_ok]at s;intro a0 O H4 s4 P Q;refine⟨O,Z,E,Q,P,?_⟩;have a:=PsF.from s s4;cases z3:mb E Z with
    |no=>simp only[z3,endG,Res.bind_no]at a;exact a
    |err=>simp only[z3,endG,Res.bind_err]at a;exact a
    |ok f U =>
     rw[z3,Res.bind_ok]at a;intro l H5 F n;have tot:=((s2.trans M).trans s4).trans F;cases f with
     |nx o=>exact λu c=>⟨l,U,o,tot,c,n,PsF.from a F⟩
     |ct o=>exact λu c=>⟨l,U,o,tot,c,n,PsF.from a F⟩
     |bk o =>
      by_cases I:gd U
      .simp only[endG,Res.bind_ok,zA I]at a
       exact λu c=>a l H5 F n u c
      .simp only[endG,Res.bind_ok,yr I]at a
       exact a.elim
     |rt d=>exact λv hv=>a l H5 F n v hv
  .have e:i=ds.length:=by omega
   subst e;rw[uz (wG _)]at j;have b:gd S:=by
    apply Classical.byContradiction;intro hn;simp only[forLoop,Res.bind_ok,endG,yr hn]at j;exact j
   simp only[forLoop,Res.bind_ok,endG,zA b]at j;refine .inl ⟨y.stop ι H S s2 h b,?_⟩;exact j ι H (Stp.refl _ _) h K B
theorem pi_g(h:PI X tg iter (TIt mi)):PI X tg iter (TIg λρ S=>(mi ρ S).bind λds S1=>.ok (ds,λ_=>True) S1):=PIimp h λe H R c=>by
 obtain⟨ι,S,ρ,d,st,p⟩:=c;refine⟨ι,S,ρ,d,st,?_⟩;dsimp only at p;cases z:mi ρ S with
 |no=>rw[z]at p;exact p
 |err=>rw[z]at p;exact p
 |ok ds S1 =>
  rw[z,Res.bind_ok]at p;exact λa H' J s1 b ok=>p a H' J s1 b ok.g
theorem qdc{a:Type}(S:Sr)(r:Res a):grd (λ_=>True) S r=r:=zA (gd:=λ_=>True) trivial r
theorem qiM(r:Res Fl):endG (λ_=>True) r=r:=by
 cases r with
 |ok f S=>cases f <;> simp only[endG,Res.bind_ok,qdc]
 |err=>rfl
 |no=>rfl
theorem qmD(a:PassesOwn 05 X.A X.env X.xe)(b:X.calm=true)(hi:PI X tg iter (TIt mi))(c:PG X tg (TGt g))(f:PSs X body (TSm mb))(i:∀x,foldedSetIterable iter X.env x=pure x):
  PS X (.For tg iter body [] pos) (TSm λρ S=>(mi ρ S).bind λds S1=>forLoop (λd ρ S=>(g d ρ S).bind λρ1 S1=>mb ρ1 S1) ds ρ S1):=by
 have h:=qkJ (pos:=pos) a b (pi_g hi) c f i;have e:(λ(ρ:En) (S:Sr)=>((mi ρ S).bind λds S1=>.ok (ds,λ_=>True) S1:Res (List D×(Sr->Prop))).bind λp S1=>endG p.2 (forLoop (λd ρ S=>(grd p.2 S (g d ρ S)).bind λρ1 S1=>mb ρ1 S1) p.1 ρ S1))=λρ S=>(mi ρ S).bind λds S1=>forLoop (λd ρ S=>(g d ρ S).bind λρ1 S1=>mb ρ1 S1) ds ρ S1:=by
  funext ρ S;cases mi ρ S with
  |ok ds S1 =>
   show endG (λ_=>True) (forLoop (λd ρ S=>(grd (λ_=>True) S (g d ρ S)).bind λρ1 S1=>mb ρ1 S1) ds ρ S1)=_;rw[qiM];simp only[qdc]
  |err=>rfl
  |no=>rfl
 rw[<-e];exact h
end
noncomputable def compCx(X:Cx)(sc:Scope)(cl:List (Str×Addr))(C:Addr)(N':List Str)(fp:List Addr)(s:Shared)(H:Hp):Cx :=
 {X with N:=N',s₀:=s,H₀:=H,env:=compEnvC sc cl C X.env,outer:=X.stack,ex:=fp,fn:=λ_=>false,pn:=[],xe:=λ_ _=>False}
structure Clos (X:Cx) (sc:Scope) (cl:List (Str×Addr)):Prop where
 eq:closureFor sc X.env=pure cl
 sub:∀x c,cl.lookup x=some c->X.env.cells.lookup x=some c
 all:∀x,sc.names.lookup x=some .free->∃c,cl.lookup x=some c
def qbj{env:Env}:∀(names:List (Str×NameKind)) (b:List (Str×Addr)),(∀x∈names,x.2=.free->∃c,env.cells.lookup x.1=some c) ->
  ∃cl,(forIn names b λ(p:Str×NameKind) (cs:List (Str×Addr))=>(if p.2 == NameKind.free then(do let a <-cellOf env p.1;pure (ForInStep.yield ((p.1,a)::cs)))else pure (ForInStep.yield cs):Sem (ForInStep (List (Str×Addr)))))=pure cl /\
   (∀x c,cl.lookup x=some c->env.cells.lookup x=some c\/b.lookup x=some c)/\(∀x c,b.lookup x=some c->(∃d,cl.lookup x=some d))/\(∀x∈names,x.2=.free->∃c,cl.lookup x.1=some c)
 |[],b,_=>⟨b,rfl,λx c h=>.inr h,λx c h=>⟨c,h⟩,λx h=>by cases h⟩
 | (n,k)::r,b,h=>by
  by_cases i:k=.free
  .subst i
   obtain⟨c,l⟩:=h (n,.free) wL rfl;obtain⟨cl,e,i1,i2,j⟩:=qbj r ((n,c)::b) λx hx=>h x (wO _ hx)
   have e1:cellOf env n=pure c:=by unfold cellOf;rw[l]
   refine⟨cl,?_,λx d hx=>?_,λx d hx=>?_,λx hx f=>?_⟩
   .rw [u5]
    simp only[beq_self_eq_true,vo,e1,pure_bind];exact e
   .rcases i1 x d hx with z|z
    .exact .inl z
    .rw [vq]at z
     cases q:x == n with
     |true=>rw[q]at z;cases z;rw[vd.mp q];exact .inl l
     |false=>rw[q]at z;exact .inr z
   .cases q:x == n with
    |true=>exact i2 x c (by rw[vq,q])
    |false=>exact i2 x d (by rw[vq,q];exact hx)
   .rcases wQ.mp hx with z|z
    .subst z;exact i2 n c (by simp[vq])
    .exact j x z f
  .have m:(k == NameKind.free)=false:=by simpa using i
   obtain⟨cl,e,i1,i2,j⟩:=qbj r b λx hx=>h x (wO _ hx)
   refine⟨cl,?_,i1,i2,λx hx f=>?_⟩
   .rw [u5]
    simp only[m,wz,uG,pure_bind];exact e
   .rcases wQ.mp hx with z|z
    .subst z;exact absurd f i
    .exact j x z f
def qbk{X:Cx}{sc:Scope}(h:∀x∈sc.names,x.2=.free->∃c,X.env.cells.lookup x.1=some c):∃cl,Clos X sc cl:=by
 obtain⟨cl,e,i1,i2,a⟩:=qbj (env:=X.env) sc.names [] h;refine⟨cl,⟨?_,λx c hx=>?_,λx hx=>?_⟩⟩
 .unfold closureFor
  show(forIn sc.names [] _ >>= λr=>pure r)=_;rw[bind_pure];exact e
 .rcases i1 x c hx with z|z
  .exact z
  .cases z
 .exact a (x,.free) (ve hx) rfl
def zI{env:Env}:∀{names:List (Str×NameKind)} {x:Str},(names.map λ(n,k)=>if(k == NameKind.free&&env.scope.kind == .function&&env.kindOf n == some .cell)then(n,NameKind.cell)else(n,k)).lookup x =
  (names.lookup x).map λk=>if(k == NameKind.free&&env.scope.kind == .function&&env.kindOf x == some .cell)then NameKind.cell else k
 |[],_=>rfl
 | (n,k)::r,x=>by
  show List.lookup x ((if(k == NameKind.free&&env.scope.kind == .function&&env.kindOf n == some .cell)=true then(n,NameKind.cell)else(n,k))::_)=_;have c:=@zI env r x;cases hx:x == n with
  |true =>
   have b:=vd.mp hx;subst b;by_cases a:(k == NameKind.free&&env.scope.kind == .function&&env.kindOf x == some .cell)=true
   .rw [wM a];simp only[vq,hx,wf,wM a]
   .rw [wN a];simp only[vq,hx,wf,wN a]
  |false =>
   by_cases a:(k == NameKind.free&&env.scope.kind == .function&&env.kindOf n == some .cell)=true
   .rw [wM a];simp only[vq,hx];exact c
   .rw [wN a];simp only[vq,hx];exact c
section
variable{X:Cx}{pos:Pos}
theorem qfa{sc:Scope}{fp:List Addr}(I:Inv X pins j H s)(l:sc.kind=.function)(a:∀y∈sc.names,y.2≠.cell)(f:Clos X sc cl)(i:∀b∈fp,FpOk X pins H b)(n:∀b∈fp,b<s.heap.objs.size):(compCx X sc cl s.heap.objs.size N' fp s H).Ok where
 mod:=I.ok.mod
 kind:=l
 glob:=I.ok.glob
 blt:=I.ok.blt
 above:=wG _
 inj:=λx y c p q=>I.ok.inj x y c (f.sub x c p) (f.sub y c q)
 has:=λx hx=>by
  have hx:(relabel sc X.env).names.lookup x=some .cell\/(relabel sc X.env).names.lookup x=some .free:=hx;have e:(relabel sc X.env).names.lookup x=_:=zI (env:=X.env) (names:=sc.names) (x:=x);rw[e]at hx;cases z:sc.names.lookup x with
  |none=>rw[z]at hx;simp at hx
  |some k =>
   cases k with
   |free=>exact f.all x z
   |cell=>exact absurd rfl (a _ (ve z))
   |_=>rw[z]at hx;simp at hx
 cab:=λx c h _=>by cases h
 hd:=I.ok.hd
 frames:=I.ok.frames
 stk:=.inl rfl
 exf:=λb d=>⟨wT (n b d),λx c h=>(i b d).2.2.2.2.1 x c (f.sub x c h)⟩
 bs:=I.bs
 bsz:=vG I.ok.bsz I.sz
 noex:=λb o e d=>by
  rcases(i b d).2.2.2.1 with z|z
  .exact I.ok.noex b o e z
  .exact absurd (wX (wF e) (vG I.ok.bsz z)) (vZ _)
 exfs:=λb d r=>by
  rcases wQ.mp (I.stkSub b r)with z|z
  .exact (i b d).2.1 z
  .exact (i b d).2.2.1 z
 funs:=I.stack
 frf:=I.stkFree
 tab:=λc T z=>let ⟨ps,e⟩:=I.ok.tab c T z;let ⟨m,e'⟩:=I.base.tbls _ _ e;⟨_,e'⟩
structure Frs (X:Cx) (sc:Scope) (fr:List Nat) (xs ts:List Str):Prop where
 len:fr.length=xs.length
 at':∀(i j:Nat) (x:Str),fr[i]?=some j->xs[i]?=some x->X.N[j]?=some x
 kd:∀x∈xs,sc.names.lookup x=some .free/\(X.env.kindOf x=some .cell\/X.env.kindOf x=some .free)
 tl:∀x∈ts,sc.names.lookup x=some .local
 nd:(xs++ts).Nodup
noncomputable def frS(a:St)(fr:List Nat)(nt:Nat):St:=fr.map (λi=>(a[i]?).getD none)++List.replicate nt none
theorem qdW(e:EnR ι H ρ a)(fr:List Nat)(nt:Nat):EnR ι H (frE ρ fr nt) (frS a fr nt):=by
 refine⟨by simp[frE,frS],λi d h=>?_⟩;unfold frE at h;unfold frS;by_cases hi:i<fr.length
 .rw [wW (by simpa using hi),wU,wD hi]at h
  rw[wW (by simpa using hi),wU,wD hi];simp only[wf,Option.some.injEq]at h ⊢;cases z:ρ[fr[i]]? with
  |none=>rw[z]at h;cases h
  |some o =>
   rw[z]at h;cases h;obtain⟨v,b,c⟩:=e.get _ d z;exact⟨v,by rw[b];rfl,c⟩
 .rw [wk (by simpa using hi),vw]at h
  split at h <;> cases h
theorem j7{sc:Scope}{fp:List Addr}(I:Inv X pins h H s)(M:sc.kind=.function)(f:∀y∈sc.names,y.2≠.cell)(j:Clos X sc cl)(N:∀b∈fp,FpOk X pins H b)(O:∀b∈fp,b<s.heap.objs.size)(F:Frs X sc fr xs ts){h':Heap}{tk:Nat}(hn:h'.Ns s.heap.objs.size m)(a:∀b o,s.heap.get? b=some o->h'.get? b=some o):
  Inv (compCx X sc cl s.heap.objs.size (xs++ts) fp s H) [] (frS h fr ts.length) H {s with heap:=h',toks:=tk}:=by
 refine⟨qfa I M f j N O,rfl,GK.refl I.bare.bare,Un.kept a,⟨m,hn,λi x v n d Z=>?_⟩,λx c e=>?_,I.hok.fresh (wG _),λx c e=>I.freeC x c (j.sub x c e),λp P=>absurd (show p∈([]:List (Addr×Obj))from P) 02,I.hok.kept a,?_⟩
 .have n:(xs++ts)[i]?=some x:=n
  have d:(frS h fr ts.length)[i]?=some (some v):=d;unfold frS at d;by_cases hi:i<fr.length
  .rw [wW (by simpa using hi),wU,wD hi]at d
   rw[wW (by rw[<-F.len];exact hi)]at n;simp only[wf,Option.some.injEq]at d;have Q:=F.at' i fr[i] x (wD hi) n;have B:h[fr[i]]?=some (some v):=by
    cases z:h[fr[i]]? with
    |none=>rw[z]at d;cases d
    |some o=>rw[z]at d;simp at d;rw[d]
   obtain⟨E,J⟩:=F.kd x (vL n);obtain⟨m0,S,C⟩:=I.loc;have w:Vis X.env.scope x:=by
    rcases J with z|z
    .exact .inr (.inl z)
    .exact .inr (.inr z)
   obtain⟨u,r,l⟩:=C fr[i] x v Q B w;refine⟨u,r,.inr ?_⟩;have U:∃c,X.env.cells.lookup x=some c/\s.heap.IsCell c (some u):=by
    rcases l with ⟨z,_⟩|⟨_,c,e1,A⟩
    .rcases J with q|q <;> (rw[z]at q;cases q)
    .exact ⟨c,e1,A⟩
   obtain⟨c,e1,o,A,W⟩:=U;obtain⟨Y,K⟩:=j.all x E;have L:=j.sub x Y K;rw[e1]at L;cases L;refine⟨?_,c,K,o,a _ _ A,W⟩;have e:(relabel sc X.env).names.lookup x=_:=zI (env:=X.env) (names:=sc.names) (x:=x);show(relabel sc X.env).names.lookup x=some .cell\/(relabel sc X.env).names.lookup x=some .free;rw[e,E];simp only[wf];split
   .exact .inl rfl
   .exact .inr rfl
  .rw [wk (by simpa using hi),vw]at d
   split at d <;> cases d
 .obtain ⟨v,o,e1,A⟩:=I.cell x c (j.sub x c e)
  exact⟨v,o,a _ _ e1,A⟩
 .show (frS h fr ts.length).length=(xs++ts).length
  simp[frS,F.len]
theorem j8{fp:List Addr}(I:Inv X pins j H s)(d:∀b∈fp,FpOk X pins H b)(J:Inv (compCx X sc cl s.heap.objs.size N' fp s H) [] i H' s')(m:Heap.SameBut s.heap.objs.size s'.heap h'):Inv X pins j H' {s' with heap:=h' }:=by
 have l:H' s.heap.objs.size=none:=J.free;have u:=J.base;have f:∀b o,b≠s.heap.objs.size->s'.heap.get? b=some o->h'.get? b=some o:=λb o a e=>m.extBut b o a e
 have ne:∀b o,s.heap.get? b=some o->b≠s.heap.objs.size:=λb o e=>wT (wF e)
 have un:Un (frs X.stack) fp H H' s.heap h':=⟨λb o e n a hx=>f b o (ne b o e) (u.keep b o e n a hx),λb o e n a hx=>by
   obtain⟨sl,q⟩:=u.slot b o e n a hx;exact⟨sl,f b _ (ne b o e) q⟩,λb o e n hx=>u.free b o e n hx,λb o e hx=>by
   obtain⟨o',q⟩:=u.there b o e hx;exact⟨o',f b o' (ne b o e) q⟩,u.tups,u.frzs,u.tbls⟩
 have hok:HOk X.prog X.w H' h':=λb o e=>(J.hok b o e).stay (λc w p q=>f c w (λz=>by
   subst z;rcases p with h|h
   .rw [<-h,l]at e;cases e
   .rw [l]at h;cases h) q) (λ_ q=>q) λ_ _ q=>q
 exact I.call' (s':={s' with heap:=h' }) (ch:=fp) J.os un hok J.bare λb a=>⟨(d b a).2.2.2.1,(d b a).2.1,(d b a).2.2.2.2.1,(d b a).2.2.2.2.2⟩
end
def thnF(h:wpAny M A t Q (λ_ _=>False) s)(c:∀a s,Q a s->Q' a s):wpAny M A t Q' E s:=wv h c λ_ _ x=>x.elim
section
variable{X:Cx}{pos:Pos}
def PTl(X:Cx)(ifs:List Expr)(t:TT):Prop:=∀(pins:001) (s:Shared) (a:St) (H:Hp) (Q:Bool->Hp->Prop),Inv X pins a H s->t a H Q ->
 wpAny 05 X.A (forIn ifs true λc r=>(if r=true then do let ok <-isTrue c X.env (eval c X.env);pure (ForInStep.yield ok)else pure (ForInStep.yield r):Sem (ForInStep Bool))) (TP X pins a Q) X.xe s
theorem qkK:PTl X [] (TB λ_ S=>.ok true S):=λpins s a H Q I h=>by
 obtain⟨ι,S,ρ,b,st,p⟩:=h;exact wC ⟨H,I,p true ι H (Stp.refl _ _) st rfl⟩
theorem qcc:∀(ifs:List Expr),Q false s->wpAny M A (forIn ifs false λc r=>(if r=true then do let ok <-isTrue c env (eval c env);pure (ForInStep.yield ok)else pure (ForInStep.yield r):Sem (ForInStep Bool))) Q E s
 |[],h=>wC h
 |c::r,h=>by
  rw[u5];refine wA ?_;rw[wN 01];exact wC (qcc r h)
theorem qiN(o:PT X c (TB m))(q:PTl X ifs (TB h)):PTl X (c::ifs) (TB λρ S=>(m ρ S).bind λt S1=>if t then h ρ S1 else .ok false S1):=λpins s i H Q I r=>by
 rw[u5];refine wA ?_;rw[wM rfl];obtain⟨ι,S,ρ,u,st,p⟩:=r;refine wA (thn (o pins s i H _ I (Pst.tg (ρ:=ρ) p u st (K:=λb d=>if b=true then TB h i d Q else Q false d) λa S1 e d b s1 j f v l=>?_)) λb s1 ⟨d,n,q1⟩=>?_)
 .cases (show a=b from v)
  cases a with
  |true=>rw[wM rfl];exact⟨e,S1,ρ,j,f,l⟩
  |false=>rw[wN 01];exact l false e d (Stp.refl _ _) f rfl
 .refine wC ?_
  cases b with
  |true=>rw[wM rfl]at q1;exact q pins s1 i d Q n q1
  |false=>rw[wN 01]at q1;exact qcc ifs ⟨d,n,q1⟩
theorem qiO{tg elt iter:Expr}{ifs:List Expr}{sc:Scope}{J:It}{fp:List Addr}{it Dl:Addr}{tn:Nat->Heap->Prop}{g:D->En->Sr->Res En}{mt:En->Sr->Res Bool}{me:En->Sr->Res D}{n:Nat}{ds:List D}{gd:Sr->Prop}{R:Result->Shared->Prop}(O:X.xe=λ_ _=>False)(hc:X.calm=true)(a4:X.ex=fp)(a5:X.pn=[])(T':Turn X.prog X.w X.K tg J fp it tn)(hg:PG X tg (TGt g))(ht:PTl X ifs (TB mt))(he:PE X elt (T me))(a6:∀d ρ S,¬gd S->g d ρ S=.no){ι:List Addr}{H:Hp}{S:Sr}{ρ P:En}{Sf:Sr}{σ:St}{s:Shared}(hD:ι[n]?=some Dl)(ok:ItG ι H J ds gd)(I:Inv X [] σ H s)(h0:tn 0 s.heap)(a7:∀b∈fp,H b=none)(er:EnR ι H ρ σ)(st:Sto ι H S)(e:lcLoop n g mt me ds ρ S=.ok P Sf)(a8:gd Sf)(fin:∀(l:St) (H':Hp) (a:List Addr) (s':Shared),Inv X [] l H' s'->Stp ι H a H'->Sto a H' Sf->R (.ok .next) s'):
  codeAny 05 X.A (.compLoop (.ListComp elt [⟨tg,iter,ifs,0⟩] sc pos) 0 (.ref it) (.ref Dl) X.env) R s:=by
 refine codeAny_loop rfl (λk s'=>∃(i:Nat) (l:St) (H':Hp) (a:List Addr) (S':Sr) (F:En),k=ds.length-i/\i<=ds.length/\Inv X [] l H' s'/\tn i s'.heap/\(∀b∈fp,H' b=none)/\Stp ι H a H'/\EnR a H' F l/\Sto a H' S'/\lcLoop n g mt me (ds.drop i) F S'=.ok P Sf) ?_
  ds.length ⟨0,σ,H,ι,S,ρ,by simp,vN _,I,h0,a7,Stp.refl _ _,er,st,by simpa using e⟩
 rintro k s1 ⟨i,Q,H1,B,S1,ρ1,rfl,hi,I1,t1,f1,p1,a9,U,e1⟩;have L:∀{H':Hp},(∀b∈fp,H' b=none)->∀b∈fp,FpOk X [] H' b:=λhn b hb=>by
  have W:b∈X.ex:=by rw[a4];exact hb
  exact⟨hn b hb,(I.ok.exf b W).1,λz=>I.ok.exfs b W z,.inl W,(I.ok.exf b W).2,λp hp=>by rw[a5]at hp;exact absurd hp 02⟩
 show wpAny _ X.A ((compTurn (.ListComp elt [⟨tg,iter,ifs,0⟩] sc pos) 0 (.ref it) (.ref Dl) X.env).onRaise (λx=>do noteFrame x X.env;theTreesLotGoes x)) _ _ s1;refine wpAny_noted ?_;rw[compTurn_list];refine wA (vi (wA ?_));by_cases a0:i<ds.length
 .have hd:ds[i]?=some ds[i]:=wD a0
  rw[ug a0]at e1;have aa:gd S1:=by
   apply Classical.byContradiction;intro hn;simp only[lcLoop,a6 _ _ _ hn,Res.bind_no]at e1;cases e1
  obtain⟨go,yl⟩:=ok.go i _ B H1 S1 p1 U aa hd;refine thnF (T'.item X rfl rfl rfl hc i [] s1 Q H1 _ I1 (L f1) t1 go) λr s2 ⟨u,hr,h2⟩=>?_
  subst hr;refine wA (thnF h2 λ_ s3 ⟨x,H3,I3,r3,y3,t3,f3⟩=>?_);obtain⟨q3,ab⟩:=yl x H3 y3;obtain⟨k3,d3⟩:=ab S1 U;have ac:=I3.pinned (L f3) (T'.obj _ _ t3);simp only[lcLoop]at e1;cases z1:g ds[i] ρ1 S1 with
  |no=>rw[z1]at e1;cases e1
  |err=>rw[z1]at e1;cases e1
  |ok f S2 =>
   rw[z1,Res.bind_ok]at e1;refine wA (wv (hg _ s3 Q H3 x u (λC H4=>∃h,Stp B H3 h H4/\Sto h H4 S2/\EnR h H4 f C) ac r3 ⟨B,S1,ρ1,ds[i],a9.mono q3,k3,d3,?_⟩) (λ_ s4 ⟨C,H4,I4,h,q4,a1,E⟩=>?_) λ_ _ z=>by rw[O]at z;exact z.elim)
   .rw [z1];exact λC h H4 q4 a1 E=>⟨h,q4,a1,E⟩
   cases z2:mt f S2 with
   |no=>rw[z2]at e1;cases e1
   |err=>rw[z2]at e1;cases e1
   |ok b S3 =>
    rw[z2,Res.bind_ok]at e1;refine wA (wv (ht _ s4 C H4 (λb' H5=>b'=b/\∃q,Stp h H4 q H5/\Sto q H5 S3) I4 ⟨h,S2,f,E,a1,?_⟩) (λb' s5 ⟨H5,I5,eb,q,q5,Y⟩=>?_) λ_ _ z=>by rw[O]at z;exact z.elim)
    .rw [z2];exact λb' q H5 q5 Y eb=>⟨(show b=b' from eb).symm,q,q5,Y⟩
    subst eb;have M:∀{Z:St} {N:Hp} {s7:Shared} {c:List Addr} {S7:Sr},Inv X ([]++pinsAt fp s3.heap) Z N s7->Stp B H1 c N->EnR c N f Z->Sto c N S7->lcLoop n g mt me (ds.drop (i+1)) f S7=.ok P Sf ->
      ∃m,m<ds.length-i/\∃(i:Nat) (l:St) (H':Hp) (a:List Addr) (S':Sr) (F:En),m=ds.length-i/\i<=ds.length/\Inv X [] l H' s7/\tn i s7.heap/\(∀b∈fp,H' b=none)/\Stp ι H a H'/\EnR a H' F l/\Sto a H' S'/\lcLoop n g mt me (ds.drop i) F S'=.ok P Sf:=by
     intro Z N s7 c S7 I7 q7 ad a2 e7;refine⟨ds.length-(i+1),by omega,i+1,Z,N,c,S7,f,rfl,a0,I7.unpinned,T'.keep _ _ _ t3 λb hb o eo=>(I7.pin (b,o) (wV _ (wV _ (zf hb eo)))).1,λb hb=>?_,p1.trans q7,ad,a2,e7⟩;obtain⟨o,eo,_⟩:=T'.obj _ _ t3 b hb;exact(I7.pin (b,o) (wV _ (wV _ (zf hb eo)))).2.1
    cases b' with
    |false =>
     rw[wN 01]at e1;exact wC ⟨rfl,M I5 ((q3.trans q4).trans q5) (E.mono q5) Y e1⟩
    |true =>
     rw[wM rfl]at e1;cases z3:me f S3 with
     |no=>rw[z3]at e1;cases e1
     |err=>rw[z3]at e1;cases e1
     |ok v S4 =>
      rw[z3,Res.bind_ok]at e1;refine wA (wA (wv (he _ s5 C H5 (λy H6=>∃j,Stp q H5 j H6/\Sto j H6 S4/\Den j H6 v y) I5 ⟨q,S3,f,E.mono q5,Y,?_⟩) (λy' s6 ⟨y,H6,I6,ry,j,q6,a3,dv⟩=>?_) λ_ _ z=>by rw[O]at z;exact z.elim))
      .rw [z3];exact λy j H6 q6 a3 dv=>⟨j,q6,a3,dv⟩
      cases z4:appD S4 (.ref n) v with
      |no=>rw[z4]at e1;cases e1
      |err=>rw[z4]at e1;cases e1
      |ok w S5 =>
       rw[z4,Res.bind_ok]at e1;have tot:=((q3.trans q4).trans q5).trans q6;have ae:j[n]?=some Dl:=(p1.trans tot).get hD;refine wA (wv (qaL (X:=X) _ s6 C H6 (.ref Dl) [y] (.ref Dl) [y'] (λ_ N=>∃c,Stp j H6 c N/\Sto c N S5) I6 rfl (.cons ry .nil) (qjG (x:=.ref n) a3 ⟨Dl,rfl,ae⟩ dv ?_)) (λ_ s7 ⟨_,N,I7,_,c,q7,a2⟩=>?_) λ_ _ z=>by rw[O]at z;exact z.elim)
       .rw [z4];exact λb a H' s' af _=>⟨a,s',af⟩
       .exact wC (wC ⟨rfl,M I7 (tot.trans q7) ((E.mono (q5.trans q6)).mono q7) a2 e1⟩)
 .have ag:i=ds.length:=by omega
  subst ag;rw[uz (wG _)]at e1;cases e1;refine thnF (T'.done X rfl rfl rfl hc _ [] s1 Q H1 _ I1 (L f1) t1 (ok.stop B H1 _ p1 U a8)) λr s2 ⟨hr,I2⟩=>?_
  subst hr;exact wC (fin Q H1 B s2 I2 p1 U)
structure Blk (X:Cx) (sc:Scope) (N':List Str) (tg:Expr) (ifs:List Expr) (elt:Expr) (g:D->En->Sr->Res En) (mt:En->Sr->Res Bool) (me:En->Sr->Res D):Prop where
 tg:∀cl C fp s H,PG (compCx X sc cl C N' fp s H) tg (TGt g)
 ifs:∀cl C fp s H,PTl (compCx X sc cl C N' fp s H) ifs (TB mt)
 elt:∀cl C fp s H,PE (compCx X sc cl C N' fp s H) elt (T me)
structure CSc (X:Cx) (sc:Scope) (fr:List Nat) (xs ts:List Str):Prop where
 kind:sc.kind=.function
 nocell:∀y∈sc.names,y.2≠.cell
 names:∀x∈sc.names,x.2=.local->sc.names.lookup x.1=some .local
 frees:∀x∈sc.names,x.2=.free->X.env.kindOf x.1=some .cell\/X.env.kindOf x.1=some .free
 frs:Frs X sc fr xs ts
noncomputable def mLc(m:Bool)(fr:List Nat)(nt:Nat)(mi:En->Sr->Res (List D))(g:D->En->Sr->Res En)(mt:En->Sr->Res Bool)(me:En->Sr->Res D):En->Sr->Res D:=λρ S=>(mi ρ S).bind λds S1 =>
 (lcLoop S1.length g mt me ds (frE ρ fr nt) (S1++[.l []])).bind λ_ S2=>lcEnd m S1.length S2
noncomputable def mLcG(m:Bool)(fr:List Nat)(nt:Nat)(mi:En->Sr->Res (List D×(Sr->Prop)))(g:D->En->Sr->Res En)(mt:En->Sr->Res Bool)(me:En->Sr->Res D):En->Sr->Res D:=λρ S=>(mi ρ S).bind λp S1 =>
 (lcLoop S1.length (λd ρ S=>grd p.2 S (g d ρ S)) mt me p.1 (frE ρ fr nt) (S1++[.l []])).bind λ_ S2=>grd p.2 S2 (lcEnd m S1.length S2)
theorem qjI{m:Bool}{fr:List Nat}{nt:Nat}{mi:En->Sr->Res (List D)}{g:D->En->Sr->Res En}{mt:En->Sr->Res Bool}{me:En->Sr->Res D}:mLcG m fr nt (λρ S=>(mi ρ S).bind λds S1=>.ok (ds,λ_=>True) S1) g mt me=mLc m fr nt mi g mt me:=by
 funext ρ S;unfold mLcG mLc;dsimp only;cases mi ρ S with
 |ok ds S1 =>
  show((lcLoop S1.length (λd ρ S=>grd (λ_=>True) S (g d ρ S)) mt me ds (frE ρ fr nt) (S1++[.l []])).bind λ_ S2=>grd (λ_=>True) S2 (lcEnd m S1.length S2))=_;simp only[qdc]
 |err=>rfl
 |no=>rfl
theorem qkL(h:PG X tg (TGt g)):PG X tg (TGt λd ρ S=>grd gd S (g d ρ S)):=PGimp h λv e H Q b=>by
 obtain⟨ι,S,ρ,d,c,st,hd,p⟩:=b;refine⟨ι,S,ρ,d,c,st,hd,?_⟩;dsimp only at p;by_cases a:gd S
 .rw [zA a]at p;exact p
 .rw [yr a]at p;exact p.elim
theorem qdX{tg elt iter:Expr}{ifs:List Expr}{sc:Scope}{fr:List Nat}{xs ts:List Str}{mi:En->Sr->Res (List D×(Sr->Prop))}{g:D->En->Sr->Res En}{mt:En->Sr->Res Bool}{me:En->Sr->Res D}{mm:Bool}(hc:X.calm=true)(hi:PI X tg iter (TIg mi))(hs:∀x,foldedSetIterable iter X.env x=pure x)(C':CSc X sc fr xs ts)(B:Blk X sc (xs++ts) tg ifs elt g mt me){pins:001}{s:Shared}{K:St}{H:Hp}{Q:VK}{use:Option (Value->Sem Unit)}{Q':Value->Shared->Prop}(I:Inv X pins K H s)(hw:T (mLcG mm fr ts.length mi g mt me) K H Q)(fin:∀(D C:Addr) (H':Hp) (s':Shared) (m:Str->Option Value),s'.heap.Ns C m->C≠X.env.locals->(∀x c,X.env.cells.lookup x=some c->c≠C)->(H' C=none/\X.s₀.heap.objs.size<=C/\∀p∈X.pn++pins,p.1≠C)->(∀h',Heap.SameBut C s'.heap h'->Inv X pins K H' {s' with heap:=h' })->Q (.ref D) H'->compPost 05 X.A X.xe use Q' (.ref D) C (.ok .next) s'):
  wpAny 05 X.A (comprehension (.ListComp elt [⟨tg,iter,ifs,0⟩] sc pos) sc X.env (firstIterPos [⟨tg,iter,ifs,0⟩] pos) (newList []) false (eval iter X.env) use) Q' X.xe s:=by
 obtain⟨ι,S,ρ,er,st,p⟩:=hw;dsimp only[mLcG]at p;cases z:mi ρ S with
 |no=>rw[z]at p;exact p.elim
 |err=>rw[z]at p;exact p.elim
 |ok dg S1 =>
 obtain⟨ds,gd⟩:=dg;rw[z,Res.bind_ok]at p;dsimp only at p;cases z2:lcLoop S1.length (λd ρ S=>grd gd S (g d ρ S)) mt me ds (frE ρ fr ts.length) (S1++[.l []])with
 |no=>rw[z2]at p;exact p.elim
 |err=>rw[z2]at p;exact p.elim
 |ok ab Sf =>
 rw[z2,Res.bind_ok]at p;have L:gd Sf:=by
  apply Classical.byContradiction;intro hn;rw[yr hn]at p;exact p
 rw[zA L]at p;obtain⟨cl,CL⟩:=qbk (X:=X) (sc:=sc) λx hx hf=>I.ok.has x.1 (C'.frees x hx hf)
 refine wpAny_comprehension_free rfl hs CL.eq C'.kind C'.names ?_;refine thn (hi pins s K H (λJ H2=>∃a,Stp ι H a H2/\Sto a H2 S1/\ItG a H2 J ds gd) I ⟨ι,S,ρ,er,st,?_⟩) λxv s1 Z=>thn Z λac s2 h2=>?_
 .rw [z];exact λh H' J q f ok=>⟨h,q,f,ok⟩
 obtain⟨it,fp,tn,J,H2,e,I2,T',t2,f2,a,q2,E,a0⟩:=h2;subst e;refine wR ?_;have M:H2 s2.heap.objs.size=none:=I2.hok.fresh (wG _);have N:∀b∈fp,b<s2.heap.objs.size:=λb i=>by
  obtain⟨o,n,_⟩:=T'.obj _ _ t2 b i;exact wF n
 have F:Inv X pins K (upd H2 s2.heap.objs.size (.l [])) {s2 with heap:=s2.heap.push {cls:=.type "list",dict:=none,data:=.seq ([]:List Value).toArray}} :=
  I2.laid (t':=s2.toks) (λb o e=>wB _ e) (wG _) ⟨vN _,[],0,.nil,wE _ rfl⟩
 have f3:∀b∈fp,FpOk X pins (upd H2 s2.heap.objs.size (.l [])) b:=λb i=>⟨by rw[qk (wT (N b i))];exact(f2 b i).1,(f2 b i).2⟩
 have Y:=Stp.grow (ι:=a) M (.l []);have a1:Sto (a++[s2.heap.objs.size]) (upd H2 s2.heap.objs.size (.l [])) (S1++[.l []]):=E.grow M ⟨⟨a.length,by simp,rfl⟩,[],qA,rfl⟩;have O:(a++[s2.heap.objs.size])[S1.length]?=some s2.heap.objs.size:=by rw[<-E.len];simp
 generalize P:({s2 with heap:=s2.heap.push {cls:=.type "list",dict:=none,data:=.seq ([]:List Value).toArray}}:Shared)=s3 at F ⊢;have U:∀b∈fp,b<s3.heap.objs.size:=λb i=>by
  rw[<-P];show b<(s2.heap.push _).objs.size;rw[ww];exact vf (N b i)
 have t3:tn 0 s3.heap:=T'.keep _ _ _ t2 λb i o n=>by rw[<-P];exact wB _ n
 refine wpAny_newFunctionEnv C'.nocell (by intro y hy;simp at hy) (λh4 a2 a3=>?_) C'.kind;have r:∀b o,s3.heap.get? b=some o->h4.get? b=some o:=λb o n=>a3.extBut b o (wT (wF n)) (wB _ n)
 have I4:=j7 (tk:=s3.toks+([]:List (Str×Value)).length) F C'.kind C'.nocell CL f3 U C'.frs a2 r;have t4:tn 0 h4:=T'.keep _ _ _ t3 λb i o n=>r b o n
 have a4:EnR (a++[s2.heap.objs.size]) (upd H2 s2.heap.objs.size (.l [])) (frE ρ fr ts.length) (frS K fr ts.length):=(qdW er fr ts.length).mono (q2.trans Y);have loop:codeAny 05 X.A (.compLoop (.ListComp elt [⟨tg,iter,ifs,0⟩] sc pos) 0 (.ref it) (.ref s2.heap.objs.size) (compEnvC sc cl s3.heap.objs.size X.env)) (compPost 05 X.A X.xe use Q' (.ref s2.heap.objs.size) s3.heap.objs.size) {s3 with heap:=h4,toks:=s3.toks+([]:List (Str×Value)).length}:=by
  refine qiO (X:=compCx X sc cl s3.heap.objs.size (xs++ts) fp s3 (upd H2 s2.heap.objs.size (.l []))) (pos:=pos) rfl hc rfl rfl T' (qkL (gd:=gd) (B.tg _ _ _ _ _)) (B.ifs _ _ _ _ _) (B.elt _ _ _ _ _) (λd ρ S hn=>yr hn _) O (a0.mono Y) I4 t4 (λb i=>(f3 b i).1) a4 a1 z2 L λad H' h s' J' q' f=>?_
  obtain⟨m',a5,_⟩:=J'.loc;refine fin s2.heap.objs.size s3.heap.objs.size H' s' m' a5 (w1 F.lt) (λx c ec ez=>?_) ⟨J'.free,F.sz,λq hq ez=>by have:=wF (F.pin q hq).1;rw[ez]at this;exact absurd this (vZ _)⟩ (λh5 a6=>j8 F f3 J' a6) ?_
  .obtain ⟨v,o,n,_⟩:=F.cell x c ec
   rw[ez]at n;exact absurd (wF n) (vZ _)
  .have u:h[S1.length]?=some s2.heap.objs.size:=q'.get O
   unfold lcEnd at p;cases mm with
   |true =>
    rw[wM rfl]at p;exact p _ h H' ((q2.trans Y).trans q') f ⟨_,rfl,u⟩
   |false =>
    rw[wN 01]at p;by_cases hl:Sf.length=S1.length+1
    .rw [wM hl]at p
     split at p
     .rename_i l a7
      obtain⟨⟨n',a8,a9⟩,ys,Z,dl⟩:=f.obj _ _ _ u a7;obtain rfl:n'=S1.length:=zy f.nd a8 u;have en:S1.length=a.length:=E.len.symm;have qq:Stp ι H (h.take S1.length) H':=by rw[en];exact q2.trans (Y.trans q').less
      have W:=f.less S1.length;refine p (.ref s2.heap.objs.size) _ H' qq W ⟨_,ys,rfl,λhm=>?_,.inl Z,Dens.less l a9 dl⟩;obtain⟨j,hj,ej⟩:=vh hm;rw[vP]at hj;have aa:h[j]?=some s2.heap.objs.size:=by
       rw[List.getElem_take]at ej;rw[wD 04,ej]
      have:=zy f.nd aa u;omega
     .exact p.elim
    .rw [wN hl]at p;exact p.elim
 exact codeAny_compStart_list loop (T'.self _ 0 _ _ _ t4 loop)
theorem qmE{tg elt iter:Expr}{ifs:List Expr}{sc:Scope}{fr:List Nat}{xs ts:List Str}{mi:En->Sr->Res (List D×(Sr->Prop))}{g:D->En->Sr->Res En}{mt:En->Sr->Res Bool}{me:En->Sr->Res D}{b:Bool}(c:X.calm=true)(hi:PI X tg iter (TIg mi))(d:∀x,foldedSetIterable iter X.env x=pure x)(C':CSc X sc fr xs ts)(B:Blk X sc (xs++ts) tg ifs elt g mt me):
  PE X (.ListComp elt [⟨tg,iter,ifs,0⟩] sc pos) (T (mLcG b fr ts.length mi g mt me)):=λpins s h H Q I e=>by
 rw[eval_ListComp];refine qdX c hi d C' B I e λD C H' s' m hn _ _ _ f q=>⟨m,hn,λh' a=>⟨.ref D,H',f h' a,rfl,q⟩⟩
theorem qgu{tg elt iter:Expr}{ifs:List Expr}{sc:Scope}{fr:List Nat}{xs ts:List Str}{mi:En->Sr->Res (List D×(Sr->Prop))}{g:D->En->Sr->Res En}{mt:En->Sr->Res Bool}{me:En->Sr->Res D}{M:Bool}{i:Nat}{y:Str}{h c:Pos}(U:X.calm=true)(hi:PI X tg iter (TIg mi))(W:∀x,foldedSetIterable iter X.env x=pure x)(C':CSc X sc fr xs ts)(B:Blk X sc (xs++ts) tg ifs elt g mt me)(Y:X.N.Nodup)(Z:X.N[i]?=some y)(O:X.env.scope.names.lookup y=some .local)(n:swapsWith (.ListComp elt [⟨tg,iter,ifs,0⟩] sc pos) (some (.Name y h)) c.line X.env=pure true):
  PS X (.Assign [.Name y h] (.ListComp elt [⟨tg,iter,ifs,0⟩] sc pos) c) (TSm λρ S=>(mLcG M fr ts.length mi g mt me ρ S).bind λd S1=>.ok (.nx (ρ.set i (some d))) S1):=λpins s r H D I hw=>by
 obtain⟨ι,S,ρ,P,st,p⟩:=hw;rw[exec_Assign_Name_used _ _ _ _ n];refine wA (vi (wA ?_));show wpAny _ X.A (do let _ <-comprehension (.ListComp elt [⟨tg,iter,ifs,0⟩] sc pos) sc X.env _ (newList []) false (eval iter X.env) (some (assign (.Name y h) X.env))) _ _ s;have hT:T (mLcG M fr ts.length mi g mt me) r H (λv u=>D.nx (r.set i (some v)) u):=⟨ι,S,ρ,P,st,PsF.bind p λa S1 w u b s1 E ra p1=>p1 w u (Stp.refl _ _) E _ ((P.mono s1).set ra)⟩;refine wA (wv (qdX (use:=some (assign (.Name y h) X.env)) (Q':=λ_ s'=>SP X pins D .next s') U hi W C' B I hT λQ C H' s' m hn j l f hI q=>?_) (λ_ s' hq=>wC (wC hq)) λ_ _ e=>e);show wpAny _ X.A (assign (.Name y h) X.env (.ref Q)) _ _ _;have I0:Inv X pins r H' s':=by
  have:=hI s'.heap (Heap.SameBut.refl ..);exact this
 refine wpAny_assign_Name (jo I0 Y Z (.inl O) (v:=.ref Q) rfl (λs'' F J=>?_) (.inr O));obtain⟨a,sb,ha⟩:=J;have K:C≠a:=by
  rcases ha with z|z
  .rw [z];exact j
  .exact λq=>l y a z q.symm
 refine⟨m,hn.sameBut sb K,λh' L=>?_⟩;have I3:=F.turned (h':=h') (t':=s''.toks) (it:=C) (λb o hb e=>L.extBut b o hb e) f.1 j (.inr f.2.1) l f.2.2;exact⟨_,H',I3,q⟩
theorem r_lc{tg elt iter:Expr}{ifs:List Expr}{sc:Scope}{fr:List Nat}{xs ts:List Str}{mi:En->Sr->Res (List D)}{g:D->En->Sr->Res En}{mt:En->Sr->Res Bool}{me:En->Sr->Res D}{a:Bool}(b:X.calm=true)(hi:PI X tg iter (TIt mi))(c:∀x,foldedSetIterable iter X.env x=pure x)(C':CSc X sc fr xs ts)(B:Blk X sc (xs++ts) tg ifs elt g mt me):
  PE X (.ListComp elt [⟨tg,iter,ifs,0⟩] sc pos) (T (mLc a fr ts.length mi g mt me)):=by
 rw[<-qjI];exact qmE b (pi_g hi) c C' B
theorem qiP{tg elt iter:Expr}{ifs:List Expr}{sc:Scope}{fr:List Nat}{xs ts:List Str}{mi:En->Sr->Res (List D)}{g:D->En->Sr->Res En}{mt:En->Sr->Res Bool}{me:En->Sr->Res D}{e:Bool}{i:Nat}{y:Str}{c a:Pos}(f:X.calm=true)(hi:PI X tg iter (TIt mi))(h:∀x,foldedSetIterable iter X.env x=pure x)(C':CSc X sc fr xs ts)(B:Blk X sc (xs++ts) tg ifs elt g mt me)(j:X.N.Nodup)(l:X.N[i]?=some y)(m:X.env.scope.names.lookup y=some .local)(b:swapsWith (.ListComp elt [⟨tg,iter,ifs,0⟩] sc pos) (some (.Name y c)) a.line X.env=pure true):
  PS X (.Assign [.Name y c] (.ListComp elt [⟨tg,iter,ifs,0⟩] sc pos) a) (TSm λρ S=>(mLc e fr ts.length mi g mt me ρ S).bind λd S1=>.ok (.nx (ρ.set i (some d))) S1):=by
 rw[<-qjI];exact qgu f (pi_g hi) h C' B j l m b
end
def Sg(M:Model)(B:Around)(a:End->Shared->Prop)(k:Code)(t:Sem Fin)(l:List Frame)(s:Shared):Prop:=∀G p,G.code=k->G.Woken B->∃x z,Runs M G p t l s x z/\a x z
section
variable{M:Model}{B:Around}{Φ:End->Shared->Prop}{k:Code}{l:List Frame}{s:Shared}
theorem qbl(h:wpAny M (B.over k l) m (λa z=>Sg M B Φ k (f a) l z) (λx z=>Sg M B Φ k (e x) l z) s):Sg M B Φ k (m.wrap f e gd lv) l s:=λG p d b=>by
 subst d;exact runs_wrap_of_wp f e gd lv m (h _ p (b.over l)) (λ_ q _ z=>z G q rfl b) λ_ q _ z=>z G q rfl b
theorem zY{d i:Type}{m:Sem d}{f:d->Sem i}{c:i->Sem Fin}{e':Value->Sem Fin}{gd:Bool->Bool}{lv:List Value->List Value}(h:wpAny M (B.over k l) m (λa z=>Sg M B Φ k ((f a).wrap c e' gd lv) l z) (λx z=>Sg M B Φ k (e' x) l z) s):Sg M B Φ k ((m >>= f).wrap c e' gd lv) l s:=by
 have q:=qbl (f:=λa=>(f a).wrap c e' gd lv) (e:=λx=>(Sem.raise x).wrap c e' gd lv) (gd:=λb=>gd (id b)) (lv:=λb=>lv (id b)) h
 rwa [Sem.bind_eq_wrap',Sem.wrap_wrap]
theorem yv{a:Code}(b:a.quiet=true)(h:Sg M B Φ a (M.den a) l s):Sg M B Φ k (.pure (.again a)) l s:=λG p c d=>by
 subst c;have ⟨x,z,r,q⟩:=h (G.goto a) p rfl (d.goto a);exact⟨x,z,Runs.head (c₁:=a) (λ_ _ y=>.again b y) r,q⟩
theorem qkM(r:Result)(h:Φ (.ret r) s):Sg M B Φ k (leafOf r) [] s:=λG p a b=>⟨_,s,Runs.leaf r,h⟩
theorem qmF(h:Sg M B Φ k (f ()) l s):Sg M B Φ k (.at a f) l s:=by
 have q:Sg M B Φ k ((standAt a).wrap f .raise id id) l s:=qbl (vi h);exact q
theorem qgv(h:∀p,Φ (.susp v false vs f k p []) s):Sg M B Φ k (.yield v false vs f) [] s:=λG p a b=>by
 subst a;exact⟨_,s,Runs.yield' [] rfl,h p⟩
end
def Go(M:Model)(B:Around)(a:End->Shared->Prop)(s:Shared):GenState->Prop
 | .fresh k=>Sg M B a k (M.den k) [] s
 | .suspended f _ k _ l _=>Sg M B a k (f (.send .none)) l s
 |_=>False
def qgw{prog:Program}{w:World}{A:Around}{E:Value->Shared->Prop}{s:Shared}{a:Addr}{n:Nat}{gs:GenState}{h:End->Shared->Prop}{Q:Option Value->Shared->Prop}(B:A.handled=none)(C:s.heap.NoLimit)(hd:A.depth<recursionLimit)(ha:s.heap.IsGen a n)(m:s.gens[n]?=some gs)(c:Go 08 A.in1 h (s.setGen n .running) gs)(hx:∀x z,h x z->match x with
   | .ret r=>r=.ok .next/\∀h',(∀b o,z.heap.get? b=some o->h'.get? b=some o)->Q none {z.setGen n .finished with heap:=h' }
   | .susp v g vs f k p l=>(End.susp v g vs f k p l).quiet=true/\Q (some v) (z.setGen n (End.susp v g vs f k p l).genState)):
  wpAny 08 A (pyNext (.ref a)) Q E s:=by
 have d:∀{u:Type} {l:List Value} {f:GenResult->Sem u} {R:u->Shared->Prop} {y:Value->Shared->Prop},(∀x z,h x z->x.quiet=true/\wpAny 08 A.in1 (f x.result) R y (z.setGen n x.genState))->wpAny 08 A.in1 (.resume n (.send .none) l f) R y s:=by
  intro u l f R y i G p j;rw[Sem.wp_resume];cases gs with
  |fresh k =>
   obtain⟨x,z,r,q⟩:=c (G.wake k p) p rfl (j.wake k p);exact⟨x.result,z.setGen n x.genState,by unfold Wakes;rw[m];exact⟨x,z,r,(i x z q).1,rfl,rfl⟩,(i x z q).2 G p j⟩
  |suspended K L k F H cl =>
   obtain⟨x,z,r,q⟩:=c (G.wake k p) F rfl (j.wake k p);exact⟨x.result,z.setGen n x.genState,by unfold Wakes;rw[m];exact⟨x,z,r,(i x z q).1,rfl,rfl⟩,(i x z q).2 G p j⟩
  |running=>exact c.elim
  |finished=>exact c.elim
 unfold pyNext;refine wA (vX ?_);refine wb (name:=Str.ofString "__next__") ha.typeIs slot_gen_next ?_;refine we slot_gen_next ha.typeIs entry_gen_next (?_:wpAny _ A.in1 (Builtin.Generator.genWake (.ref a) (.send .none)) _ _ s) (args_gen_next _);unfold Builtin.Generator.genWake;refine wA (wj (wpAny_genNumber ha ?_));refine wA (wpAny_genState m ?_);have go:∀x z,h x z->x.quiet=true:=λx z q=>by
  cases x with
  |ret r=>rfl
  |susp v g vs f k p l=>exact(hx _ _ q).1
 cases gs with
 |running=>exact c.elim
 |finished=>exact c.elim
 |_ =>
  refine wA (wpAny_roomToWake C hd (d λx z q=>⟨go x z q,?_⟩));cases x with
  |susp v g vs f k p l=>exact wC ⟨v,rfl,wC (hx _ _ q).2⟩
  |ret r =>
   obtain⟨e,I⟩:=hx _ _ q;subst e;show wpAny _ A.in1 (newExc (.type "StopIteration") [] >>= _) _ _ (z.setGen n .finished);refine wA ?_;unfold newExc newTuple;refine wA (wR ?_ (by size_fits));refine wA (uj (t:=firstArgMember _ _) (a:=Value.none) (by first|rfl|(simp only[firstArgMember];rfl)) ?_);refine wR ?_ (by size_fits);unfold raiseNew;refine wA (wA (xo ?_));rw[show A.in1.handled=none from B];refine wpAny_throw (wA (vn (T:="StopIteration") (b:=true) ⟨_,wE _ rfl,rfl⟩ xb ?_));exact wC (I _ λb o J=>wB _ (wB _ J))
inductive GN where
 |fin (S:Sr)|yl (i:Nat) (ρ:En) (v:D) (S:Sr)|bad
noncomputable def grdN(gu:Sr->Prop)(S:Sr)(r:GN):GN:=@ite _ (gu S) (Classical.propDecidable _) r .bad
def yI(h:gu S)(r:GN):grdN gu S r=r:=wM h
def jc(h:grdN gu S r≠.bad):gu S:=Classical.byContradiction λn=>h (wN n)
noncomputable def gnx(gu:Sr->Prop)(g:D->En->Sr->Res En)(mt:En->Sr->Res Bool)(me:En->Sr->Res D):Nat->List D->En->Sr->GN
 |_,[],_,S=>grdN gu S (.fin S)
 |i,d::r,ρ,S=>grdN gu S <| match g d ρ S with
  | .ok ρ1 S1=>match mt ρ1 S1 with
   | .ok true S2=>match me ρ1 S2 with
    | .ok v a=>.yl (i+1) ρ1 v a
    |_=>.bad
   | .ok false S2=>gnx gu g mt me (i+1) r ρ1 S2
   |_=>.bad
  |_=>.bad
section
variable{X:Cx}{pos:Pos}
structure Sus (X:Cx) (J:It) (tn:Nat->Heap->Prop) (fp:List Addr) (ds:List D) (gu:Sr->Prop) (i:Nat) (ρ:En) (S:Sr) (ι:List Addr) (H:Hp) (pins:001) (s:Shared):Prop where
 inv:∃σ,Inv X pins σ H s/\EnR ι H ρ σ
 sto:Sto ι H S
 at':tn i s.heap
 le:i<=ds.length
 fz:∀b∈fp,H b=none
 it:ItG ι H J ds gu
 pf:∀p∈pins,p.1∉fp
def Pw(X:Cx)(J:It)(tn:Nat->Heap->Prop)(fp:List Addr)(ds:List D)(gu:Sr->Prop)(M:Model)(B:Around)(g:D->En->Sr->Res En)(mt:En->Sr->Res Bool)(me:En->Sr->Res D):Nat->GenState->Nat->En->Sr->Prop
 |0,_,_,_,_=>True
 |n+1,gs,i,ρ,S=>∀pins ι H s,Sus X J tn fp ds gu i ρ S ι H pins s->gnx gu g mt me i (ds.drop i) ρ S≠.bad->Go M B (λx z=>match x with
  | .ret r=>r=.ok .next/\∃c a H' e,gnx gu g mt me i (ds.drop i) ρ S=.fin c/\Inv X pins e H' z/\Stp ι H a H'/\Sto a H' c
  | .susp v gd vs f k p l=>(End.susp v gd vs f k p l).quiet=true/\∃h b d c a H' y,gnx gu g mt me i (ds.drop i) ρ S=.yl h b d c/\Stp ι H a H'/\Den a H' d y/\RelV y v/\Sus X J tn fp ds gu h b c a H' pins z /\
   Pw X J tn fp ds gu M B g mt me n (End.susp v gd vs f k p l).genState h b c) s gs
def Pz(X:Cx)(J:It)(tn:Nat->Heap->Prop)(fp:List Addr)(ds:List D)(gu:Sr->Prop)(M:Model)(B:Around)(g:D->En->Sr->Res En)(mt:En->Sr->Res Bool)(me:En->Sr->Res D)(n:Nat)(i:GN)(pins:001)(ι:List Addr)(H:Hp):End->Shared->Prop:=λx z=>match x with
  | .ret r=>r=.ok .next/\∃c a H' e,i=.fin c/\Inv X pins e H' z/\Stp ι H a H'/\Sto a H' c
  | .susp v gd vs f k p l=>(End.susp v gd vs f k p l).quiet=true/\∃h b d c a H' y,i=.yl h b d c/\Stp ι H a H'/\Den a H' d y/\RelV y v/\Sus X J tn fp ds gu h b c a H' pins z /\
   Pw X J tn fp ds gu M B g mt me n (End.susp v gd vs f k p l).genState h b c
theorem qgx{tg elt iter:Expr}{ifs:List Expr}{sc:Scope}{J:It}{fp:List Addr}{it:Addr}{tn:Nat->Heap->Prop}{g:D->En->Sr->Res En}{mt:En->Sr->Res Bool}{me:En->Sr->Res D}{ds:List D}{gu:Sr->Prop}{B:Around}(O:X.xe=λ_ _=>False)(hc:X.calm=true)(a1:X.ex=fp)(a2:∀p∈X.pn,p.1∉fp)(hA:X.A=B.over (.compLoop 003 0 (.ref it) .none X.env) [])(a4:X.env.scope.isCoroutine=false)(T':Turn X.prog X.w X.K tg J fp it tn)(hg:PG X tg (TGt g))(ht:PTl X ifs (TB mt))(he:PE X elt (T me)):∀(n m i:Nat) (ρ:En) (S:Sr) (pins:001) (q:List Addr) (H0:Hp) (ι:List Addr) (H:Hp) (s:Shared),ds.length-i=m ->
   Sus X J tn fp ds gu i ρ S ι H pins s->Stp q H0 ι H->gnx gu g mt me i (ds.drop i) ρ S≠.bad ->
   Sg 05 B (Pz X J tn fp ds gu 05 B g mt me n (gnx gu g mt me i (ds.drop i) ρ S) pins q H0) (.compLoop 003 0 (.ref it) .none X.env)
    ((model X.prog X.w).den (.compLoop 003 0 (.ref it) .none X.env)) [] s:=by
 intro n;induction n using Nat.strongRecOn with
 |ind n a5 =>
 intro m;induction m with
 |zero =>
  intro i ρ S pins q H0 ι H s hm U q0 a;obtain⟨⟨σ,I,er⟩,st,t1,le,f1,ok,pf⟩:=U;have hi:i=ds.length:=by omega
  subst hi;have j:∀{H':Hp},(∀b∈fp,H' b=none)->∀b∈fp,FpOk X pins H' b:=λhn b a=>by
   have c:b∈X.ex:=by rw[a1];exact a
   exact⟨hn b a,(I.ok.exf b c).1,λz=>I.ok.exfs b c z,.inl c,(I.ok.exf b c).2,λp hp z=>(wi.mp hp).elim (λy=>a2 p y (z ▸ a)) λy=>pf p y (z ▸ a)⟩
  show Sg _ B _ _ ((compTurn 003 0 (.ref it) .none X.env).onRaise (leaving X.env)) [] s;rw[compTurn_gen,Sem.onRaise_eq_wrap];refine zY (vi (zY ?_));rw[<-hA];have C:gu S:=by
   rw[uz (wG _)]at a;exact jc a
  refine thnF (T'.done X rfl rfl rfl hc _ pins s σ H _ I (j f1) t1 (ok.stop ι H S (Stp.refl _ _) st C)) λr s2 ⟨hr,I2⟩=>?_
  subst hr;refine qkM (.ok .next) ⟨rfl,S,ι,H,σ,?_,I2,q0,st⟩;rw[uz (wG _)];exact yI C _
 |succ m a6 =>
  intro i ρ S pins q H0 ι H s hm U q0 a;obtain⟨⟨σ,I,er⟩,st,t1,le,f1,ok,pf⟩:=U;have P:i<ds.length:=by omega
  have j:∀{H':Hp},(∀b∈fp,H' b=none)->∀b∈fp,FpOk X pins H' b:=λhn b a=>by
   have c:b∈X.ex:=by rw[a1];exact a
   exact⟨hn b a,(I.ok.exf b c).1,λz=>I.ok.exfs b c z,.inl c,(I.ok.exf b c).2,λp hp z=>(wi.mp hp).elim (λy=>a2 p y (z ▸ a)) λy=>pf p y (z ▸ a)⟩
  have hd:ds[i]?=some ds[i]:=wD P;have ed:ds.drop i=ds[i]::ds.drop (i+1):=ug P;have C:gu S:=by
   rw[ed]at a;exact jc a
  obtain⟨go,yl⟩:=ok.go i _ ι H S (Stp.refl _ _) st C hd;show Sg _ B _ _ ((compTurn 003 0 (.ref it) .none X.env).onRaise (leaving X.env)) [] s;rw[compTurn_gen,Sem.onRaise_eq_wrap];refine zY (vi (zY ?_));rw[<-hA];refine thnF (T'.item X rfl rfl rfl hc i pins s σ H _ I (j f1) t1 go) λr s2 ⟨u,hr,h2⟩=>?_
  subst hr;refine zY ?_;rw[<-hA];refine thnF h2 λ_ s3 ⟨x,H3,I3,r3,y3,t3,f3⟩=>?_
  obtain⟨q3,a7⟩:=yl x H3 y3;obtain⟨k3,d3⟩:=a7 S st;have a8:=I3.pinned (j f3) (T'.obj _ _ t3);rw[ed]at a ⊢;unfold gnx at a ⊢;rw[yI C]at a ⊢;cases z1:g ds[i] ρ S with
  |no=>rw[z1]at a;exact absurd rfl a
  |err=>rw[z1]at a;exact absurd rfl a
  |ok d S2 =>
   rw[z1]at a;dsimp only at a ⊢;refine zY ?_;rw[<-hA];refine wv (hg _ s3 σ H3 x u (λE Q=>∃e,Stp ι H3 e Q/\Sto e Q S2/\EnR e Q d E) a8 r3 ⟨ι,S,ρ,ds[i],er.mono q3,k3,d3,?_⟩) (λ_ s4 ⟨E,Q,I4,e,q4,W,l⟩=>?_) λ_ _ z=>by rw[O]at z;exact z.elim
   .rw [z1];exact λE e Q q4 W l=>⟨e,q4,W,l⟩
   cases z2:mt d S2 with
   |no=>rw[z2]at a;exact absurd rfl a
   |err=>rw[z2]at a;exact absurd rfl a
   |ok b S3 =>
    rw[z2]at a;refine zY ?_;rw[<-hA];refine wv (ht _ s4 E Q (λb' Y=>b'=b/\∃f,Stp e Q f Y/\Sto f Y S3) I4 ⟨e,S2,d,l,W,?_⟩) (λb' s5 ⟨Y,I5,eb,f,N,L⟩=>?_) λ_ _ z=>by rw[O]at z;exact z.elim
    .rw [z2];exact λb' f Y N L eb=>⟨(show b=b' from eb).symm,f,N,L⟩
    subst eb;have sus:∀{M:St} {H7:Hp} {s7:Shared} {F:List Addr} {S7:Sr},Inv X (pins++pinsAt fp s3.heap) M H7 s7->Stp ι H F H7->EnR F H7 d M->Sto F H7 S7->Sus X J tn fp ds gu (i+1) d S7 F H7 pins s7:=by
     intro M H7 s7 F S7 I7 q7 a9 aa;refine⟨⟨M,I7.unpinned,a9⟩,aa,T'.keep _ _ _ t3 λb a o eo=>(I7.pin (b,o) (wV _ (wV _ (zf a eo)))).1,P,λb a=>?_,ok.mono q7,pf⟩;obtain⟨o,eo,_⟩:=T'.obj _ _ t3 b a;exact(I7.pin (b,o) (wV _ (wV _ (zf a eo)))).2.1
    cases b' with
    |false =>
     dsimp only at a ⊢;exact yv rfl (a6 (i+1) d S3 pins q H0 f Y s5 04 (sus I5 ((q3.trans q4).trans N) (l.mono N) L) (q0.trans ((q3.trans q4).trans N)) a)
    |true =>
     dsimp only at a ⊢;cases z3:me d S3 with
     |no=>rw[z3]at a;exact absurd rfl a
     |err=>rw[z3]at a;exact absurd rfl a
     |ok v S4 =>
      dsimp only;have hy:∀v,yieldOut X.env v=yieldValue v:=λv=>by simp only[yieldOut,a4,wz,uG]
      simp only[hy,vo];rw[Sem.bind_eq_wrap',Sem.bind_eq_wrap',Sem.wrap_wrap,Sem.wrap_wrap];refine qbl ?_;rw[<-hA];refine wv (he _ s5 E Y (λy H6=>∃h,Stp f Y h H6/\Sto h H6 S4/\Den h H6 v y) I5 ⟨f,S3,d,l.mono N,L,?_⟩) (λy' s6 ⟨y,H6,I6,ry,h,q6,Z,dv⟩=>?_) λ_ _ z=>by rw[O]at z;exact z.elim
      .rw [z3];exact λy h H6 q6 Z dv=>⟨h,q6,Z,dv⟩
      have tot:=((q3.trans q4).trans N).trans q6;refine qmF (qgv λp=>⟨rfl,i+1,d,v,S4,h,H6,y,rfl,q0.trans tot,dv,ry,sus I6 tot (l.mono (N.trans q6)) Z,?_⟩);cases n with
      |zero=>trivial
      |succ n' =>
       intro a0 a3 H' s' U' c;exact yv rfl (a5 n' (uh _) _ (i+1) d S4 a0 a3 H' a3 H' s' rfl U' (Stp.refl _ _) c)
end
section
variable{gu:Sr->Prop}{g:D->En->Sr->Res En}{mt:En->Sr->Res Bool}{me:En->Sr->Res D}
theorem ju:∀(l:List D) (i:Nat) (ρ:En) (S:Sr) {b:Nat} {a:En} {v:D} {c:Sr},gnx gu g mt me i l ρ S=.yl b a v c->i<b/\b<=i+l.length
 |[],_,_,S,_,_,_,_,h=>by
  rw[show gnx gu g mt me _ [] _ S=grdN gu S (.fin S)from rfl,yI (jc (by rw[show grdN gu S (.fin S)=_ from h];intro z;cases z))]at h;cases h
 |d::r,i,ρ,S,b,a,v,c,h=>by
  unfold gnx at h;rw[yI (jc (by rw[h];intro z;cases z))]at h;split at h
  .split at h
   .split at h
    .cases h;simp
    .cases h
   .have:=ju r (i+1) _ _ h
    simp only[w8];lia
   .cases h
  .cases h
noncomputable def gen1{a:Type}(step:a->D->Option (a ⊕ D))(fin:a->Option D)(rest:Nat->En->a->Sr->Res D)(b:a):GN->Res D
 | .fin S=>ofO (fin b) S
 | .yl i ρ v S=>match step b v with
  |some (.inl b')=>rest i ρ b' S
  |some (.inr x)=>.ok x S
  |none=>.no
 | .bad=>.no
theorem qdY{c:Type}{step:c->D->Option (c ⊕ D)}{fin:c->Option D}:∀(l:List D) (i:Nat) (ρ:En) (b:c) (S:Sr) {d:D} {f:Sr},genLoopG gu g mt me step fin l ρ b S=.ok d f ->
  gen1 step fin (λj ρ b S=>genLoopG gu g mt me step fin (l.drop (j-i)) ρ b S) b (gnx gu g mt me i l ρ S)=.ok d f
 |[],_,_,_,S,d,f,h=>by
  have a:gu S:=Classical.byContradiction λn=>by
   unfold genLoopG at h;rw[yr n]at h;cases h
  unfold genLoopG at h;rw[zA a]at h;unfold gnx;rw[yI a];exact h
 |x::r,i,ρ,b,S,d,f,h=>by
  have a:gu S:=Classical.byContradiction λn=>by
   unfold genLoopG at h;rw[yr n]at h;cases h
  unfold genLoopG at h;rw[zA a]at h;unfold gnx;rw[yI a];cases z1:g x ρ S with
  |no=>rw[z1]at h;cases h
  |err=>rw[z1]at h;cases h
  |ok ρ1 S1 =>
   rw[z1,Res.bind_ok]at h;dsimp only;cases z2:mt ρ1 S1 with
   |no=>rw[z2]at h;cases h
   |err=>rw[z2]at h;cases h
   |ok t S2 =>
    rw[z2,Res.bind_ok]at h;cases t with
    |true =>
     rw[wM rfl]at h;dsimp only;cases z3:me ρ1 S2 with
     |no=>rw[z3]at h;cases h
     |err=>rw[z3]at h;cases h
     |ok v m =>
      rw[z3,Res.bind_ok]at h;have e:i+1-i=1:=by lia
      simp only[gen1,e,uS,uf];exact h
    |false =>
     rw[wN 01]at h;dsimp only;have q:=qdY r (i+1) ρ1 b S2 h;cases z4:gnx gu g mt me (i+1) r ρ1 S2 with
     |fin m=>rw[z4]at q;exact q
     |bad=>rw[z4]at q;cases q
     |yl j o v m =>
      rw[z4]at q;have:=ju r (i+1) ρ1 S2 z4;have e:j-i=j-(i+1)+1:=by lia
      simp only[gen1]at q ⊢;rw[e,uS];exact q
theorem zJ{a:Type}{step:a->D->Option (a ⊕ D)}{fin:a->Option D}{ds:List D}{gu:Sr->Prop}{i:Nat}{ρ:En}{b:a}{S:Sr}{d:D}{c:Sr}(h:genLoopG gu g mt me step fin (ds.drop i) ρ b S=.ok d c):
  gen1 step fin (λj ρ b S=>genLoopG gu g mt me step fin (ds.drop j) ρ b S) b (gnx gu g mt me i (ds.drop i) ρ S)=.ok d c:=by
 have q:=qdY _ i ρ b S h;cases z:gnx gu g mt me i (ds.drop i) ρ S with
 |fin f=>rw[z]at q;exact q
 |bad=>rw[z]at q;cases q
 |yl j l v f =>
  rw[z]at q;have:=ju _ i ρ S z;simp only[gen1]at q ⊢;rw[List.drop_drop]at q;have e:i+(j-i)=j:=by lia
  rw[e]at q;exact q
end
def qiQ{s:Shared}{n:Nat}:(s.setGen n x).setGen n y=s.setGen n y:=by
 unfold Shared.setGen;simp
def GK.done{a g:Array GenState}(h:GK (a.push .running) (g.setIfInBounds a.size .running))(e:g[a.size]?=some x)(hx:x.bare=true):GK a g:=by
 refine⟨λy b=>?_,?_,λi hi=>?_⟩
 .obtain ⟨i,hi,rfl⟩:=Array.mem_iff_getElem.mp b
  by_cases q:i=a.size
  .subst q
   rw[wo hi]at e;cases e;exact hx
  .refine h.bare _ ?_
   have:(g.setIfInBounds a.size .running)[i]'(by simpa using hi)=g[i]:=by
    rw[xX];rw[wN (Ne.symm q)]
   rw[<-this];exact Array.getElem_mem _
 .have:=h.sz
  simp at this;lia
 .have:=h.old i (by simp;lia)
  rw[Array.getElem?_setIfInBounds_ne 00]at this;rw[this,Array.getElem?_push_lt hi];exact(wo hi).symm
def qgy(I:Inv X pins a H s)(h:GK X.s₀.gens g'):Inv X pins a H {s with gens:=g' } :=
 ⟨I.ok,I.os,h,I.base,I.loc,I.cell,I.free,I.freeC,I.pin,I.hok,I.len⟩
section
variable{X:Cx}
structure Cs (X:Cx) (J:It) (tn:Nat->Heap->Prop) (fp:List Addr) (ds:List D) (gu:Sr->Prop) (B:Around) (g:D->En->Sr->Res En) (mt:En->Sr->Res Bool) (me:En->Sr->Res D) (n k i:Nat) (ρ:En) (S:Sr) (ι:List Addr) (H:Hp) (pins:001) (s:Shared):Prop where
 sus:Sus X J tn fp ds gu i ρ S ι H pins (s.setGen n .running)
 st:∃gs,s.gens[n]?=some gs/\gs.bare=true/\Pw X J tn fp ds gu 05 B g mt me k gs i ρ S
theorem qbm{J:It}{tn:Nat->Heap->Prop}{fp:List Addr}{ds:List D}{gu:Sr->Prop}{A:Around}{g:D->En->Sr->Res En}{mt:En->Sr->Res Bool}{me:En->Sr->Res D}{n k i:Nat}{ρ:En}{S:Sr}{ι:List Addr}{H:Hp}{pins:001}{s:Shared}{a:Addr}{o:Obj}{F:Array GenState}{Q:Option Value->Shared->Prop}{E:Value->Shared->Prop}(Z:A.handled=none)(hd:A.depth<recursionLimit)(ho:(a,o)∈X.pn)(hg:∀h:Heap,h.get? a=some o->h.IsGen a n)(M:X.s₀.gens=F.push .running)(hn:n=F.size)(C:Cs X J tn fp ds gu A.in1 g mt me n (k+1) i ρ S ι H pins s)(hb:gnx gu g mt me i (ds.drop i) ρ S≠.bad)(fin:∀m c H' b z,gnx gu g mt me i (ds.drop i) ρ S=.fin m->Inv X pins b H' (z.setGen n .running)->GK F z.gens->Stp ι H c H'->Sto c H' m->Q none z)(yl:∀L u d m c H' y v z,gnx gu g mt me i (ds.drop i) ρ S=.yl L u d m->Stp ι H c H'->Den c H' d y->RelV y v->Cs X J tn fp ds gu A.in1 g mt me n k L u m c H' pins z->Q (some v) z):
  wpAny 05 A (pyNext (.ref a)) Q E s:=by
 obtain⟨U,gs,hs,a0,pw⟩:=C;obtain⟨⟨σ,I,er⟩,_⟩:=id U;have hp:s.heap.get? a=some o:=(I.pin (a,o) (vu _ ho)).1;refine qgw Z I.nolimit hd (hg _ hp) hs (pw pins ι H _ U hb) λx z q=>?_
 have hsz:∀{b:St} {H':Hp},Inv X pins b H' z->z.gens[n]?=some .running/\n<z.gens.size:=λ{b H'} J=>by
  have e:=J.bare.old n (by rw[M,hn];simp);rw[M,hn]at e;rw[hn];have B:(F.push GenState.running)[F.size]?=some .running:=by simp
  rw[B]at e;exact⟨e,by
   rcases Nat.lt_or_ge F.size z.gens.size with N|N
   .exact N
   .rw [uF N]at e;cases e⟩
 have bk:∀{b:St} {H':Hp} (y:GenState),Inv X pins b H' z->Inv X pins b H' ((z.setGen n y).setGen n .running):=λ{b H'} y J=>by
  rw[qiQ];have e:(z.gens.setIfInBounds n .running)=z.gens:=by
   obtain⟨e1,B⟩:=hsz J;apply Array.ext
   .simp
   .intro j h1 h2
    rw[xX];split
    .rename_i q
     subst q;rw[wo B]at e1;exact(Option.some.inj e1).symm
    .rfl
  have:=qgy J (g':=z.gens.setIfInBounds n .running) (by rw[e];exact J.bare);exact this
 cases x with
 |ret r =>
  obtain⟨e,m,c,H',b,e1,J,s1,O⟩:=q;refine⟨e,λh' hk=>fin m c H' b _ e1 ?_ ?_ s1 O⟩
  .have:=(bk .finished J).kept (h':=h') (t':=z.toks) hk
   exact this
  .refine GK.done (x:=.finished) (g:=(z.gens.setIfInBounds n .finished)) ?_ ?_ rfl
   .have:=(bk .finished J).bare
    rw[M]at this;rw[<-hn];exact this
   .rw [<-hn]
    obtain⟨_,B⟩:=hsz J;simp[B]
 |susp v gd vs f k' p l =>
  obtain⟨W,L,u,d,m,c,H',y,e1,s1,dv,ry,Y,P⟩:=q;refine⟨W,yl L u d m c H' y v _ e1 s1 dv ry ⟨?_,_,?_,End.bare_of_quiet W,P⟩⟩
  .obtain ⟨⟨b,J,K⟩,a1,a2,a3,a4,a5,a6⟩:=Y
   exact⟨⟨b,bk _ J,K⟩,a1,a2,a3,a4,a5,a6⟩
  .obtain ⟨⟨b,J,K⟩,_⟩:=Y
   obtain⟨_,B⟩:=hsz J;show(z.gens.setIfInBounds n _)[n]?=_;simp[B]
end
section
variable{X:Cx}{pos:Pos}
theorem qdd{K:07}{h:Heap}(kin:K.In h){c T:Addr}{ps:Array Value}(e:codeTab K c T=true)(n:h.get? T=some {cls:=.none,data:=.fields ps})(tr:TriplesOk ps.toList):h.IsCode c T ps/\h.TableAt c T ps:=by
 unfold codeTab at e;split at e
 .rename_i cls d vs sl p
  simp only[wK,vd]at e;obtain⟨⟨e1,_⟩,i⟩:=e;split at i
  .rename_i a b v w x y x5 x6 z j f l q r m
   simp only[wK,vd,bne_iff_ne]at i;obtain⟨⟨s,u⟩,ne⟩:=i;subst s;subst u;have o:=kin _ _ p;exact⟨⟨_,vs,_,_,_,_,_,_,_,_,o,rfl,j,l,q,r,m,n,rfl,tr,ne⟩,⟨_,vs,o,e1,rfl,f⟩,n⟩
  .cases i
 .cases e
theorem qgz{M:Model}{A:Around}{E:Value->Shared->Prop}{pins:001}{C:St}{H:Hp}{s:Shared}{c T:Addr}{q:Str}{sc:Scope}(I:Inv X pins C H s)(O:X.env.code=.ref c)(P:codeTab X.K c T=true):
  wpAny M A (genexprCode X.env pos q sc) (λ_ s'=>∃H',Inv X pins C H' s'/\s'.gens=s.gens/\(∀ι,Stp ι H ι H')/\(∀ι S,Sto ι H S->Sto ι H' S)/\∀b o,s.heap.get? b=some o->H b=none->s'.heap.get? b=some o/\H' b=none) E s:=by
 obtain⟨j,U⟩:=I.ok.tab c T P;obtain⟨mo,p⟩:=I.base.tbls T j U;generalize j++mo=ps at p;obtain⟨W,tr⟩:=I.hok T _ p;obtain⟨ic,Y⟩:=qdd I.kIn P W tr;cases z:codeAmong pos ps.toList with
 |some v=>exact wpAny_genexprCode_hit O ic z ⟨H,I,rfl,λ_=>Stp.refl _ _,λ_ _ x=>x,λb o e n=>⟨e,n⟩⟩
 |none =>
  refine wpAny_genexprCodeX O ic Y z λQ h' tk hx _ _ B _ h _=>?_
  generalize F:ps++#[rawInt pos.line,rawInt pos.col,.ref Q]=ps' at B h;have f:∀{b:Addr} {u:HO},H b=some u->(∀x,u≠.tbl x)->b≠T:=λ{b u} e n z=>by
   subst z;rw[p]at e;cases e;exact n _ rfl
  have i:∀{b:Addr},H b=none->b≠T:=λ{b} e z=>by subst z;rw[p]at e;cases e
  have J:TriplesOk ps'.toList:=by
   obtain⟨_,_,_,_,_,_,_,_,_,_,_,_,_,_,_,_,_,e1,L,t,_⟩:=B;exact t
  have N:HOk X.prog X.w (upd H T (.tbl ps')) h':=λb u e=>by
   by_cases q:b=T
   .subst q
    rw[qA]at e;cases e;exact⟨h.2,J⟩
   .rw [qk q]at e
    refine(I.hok b u e).stay (λd v hd Z=>hx d v ?_ Z) (λd e'=>by rw[qk (f e' (by intro _ z;cases z))];exact e') λd xs e'=>by rw[qk (f e' (by intro _ z;cases z))];exact e'
    rcases hd with y|y
    .subst y;exact q
    .exact f y (by intro _ z;cases z)
  have I':Inv X pins C (upd H T (.tbl ps')) {s with heap:=h',toks:=tk}:=by
   refine I.step (g':=s.gens) (d':=s.drawn) (ch:=[]) (λ_ z=>nomatch z) (λb o _ _ _ e n=>hx b o (i n) e) (λb o _ _ _ e n=>⟨o.slots,hx b o (i n) e⟩) (λb o _ e n=>by rw[qk (i n)];exact n)
    (λb o _ e=>?_) (λb xs e=>by rw[qk (f e (by intro _ z;cases z))];exact e) (λb o u e=>by rw[qk (f e (by intro _ z;cases z))];exact e) (λb qs e=>?_) (λm hm=>?_) N I.bare.self
   .by_cases q:b=T
    .subst q;exact⟨_,h.2⟩
    .exact ⟨o,hx b o q e⟩
   .by_cases q:b=T
    .subst q
     rw[p]at e;cases e;exact⟨#[rawInt pos.line,rawInt pos.col,.ref Q],by rw[qA,<-F]⟩
    .exact ⟨#[],by rw[qk q,e];simp⟩
   .obtain ⟨o,es,ep,ho,r⟩:=hm
    exact⟨o,es,ep,hx _ o (i I.free) ho,r⟩
  have sp:∀ι,Stp ι H ι (upd H T (.tbl ps')):=λι=>⟨xL _,λ_ m=>.inl m,λa u e _ nt=>by
    rw[qk (f e (by intro x z;subst z;exact nt))];exact e,λa e=>by
    by_cases q:a=T
    .subst q;rw[qA];simp
    .rw [qk q];exact e⟩
  refine⟨_,I',rfl,sp,λι S st=>⟨st.len,st.nd,λn a so e1 L=>(st.obj n a so e1 L).mono (sp ι) ?_⟩,λb o e n=>⟨hx b o (i n) e,by rw[qk (i n)];exact n⟩⟩;have k:=st.obj n a so e1 L;cases so with
  |l l=>obtain⟨_,xs,e,_⟩:=k;rw[qk (f e (by intro _ z;cases z))]
  |dic l=>obtain⟨_,xs,e,_⟩:=k;rw[qk (f e (by intro _ z;cases z))]
  |dis l=>obtain⟨_,xs,e,_⟩:=k;rw[qk (f e (by intro _ z;cases z))]
theorem qiR(I:Inv X pins a H s)(h:Q builtinsNs s):wpAny M A (builtinsFor X.env.globals X.env.builtins) Q E s:=by
 obtain⟨bm,ob,e1,b,c,d,e,f⟩:=I.ok.mod.bmod;rw[I.ok.glob];exact wpAny_builtinsFor (I.ok.mod.glob.keeps I.bk) e1 b (I.bk _ _ c) d e f h
noncomputable def genCx(X:Cx)(sc:Scope)(cl:List (Str×Addr))(C:Addr)(code:Value)(N':List Str)(fp:List Addr)(ge:Expr)(it:Addr)(o:Addr×Obj)(s:Shared)(H:Hp):Cx :=
 {X with A:=X.A.in4.in1.over (.compLoop ge 0 (.ref it) .none (genEnv sc cl C code builtinsNs X.env)) [],N:=N',s₀:={s with gens:=s.gens.push .running},H₀:=H,env:=genEnv sc cl C code builtinsNs X.env,outer:=X.stack,stack:=genEnv sc cl C code builtinsNs X.env::X.stack,ex:=fp,fn:=λ_=>false,pn:=[o],xe:=λ_ _=>False}
theorem qgA{sc:Scope}{cl:List (Str×Addr)}{code:Value}{N':List Str}{fp:List Addr}{tg elt iter:Expr}{ifs:List Expr}{it:Addr}{o:Addr×Obj}{pins:001}{j:St}{H:Hp}{s:Shared}(I:Inv X pins j H s)(l:sc.kind=.function)(a:∀y∈sc.names,y.2≠.cell)(f:Clos X sc cl)(i:∀b∈fp,FpOk X pins H b)(n:∀b∈fp,b<s.heap.objs.size):(genCx X sc cl s.heap.objs.size code N' fp 003 it o s H).Ok where
 mod:=I.ok.mod
 kind:=l
 glob:=I.ok.glob
 blt:=rfl
 above:=wG _
 inj:=λx y c p q=>I.ok.inj x y c (f.sub x c p) (f.sub y c q)
 has:=λx hx=>by
  have hx:sc.names.lookup x=some .cell\/sc.names.lookup x=some .free:=hx;rcases hx with z|z
  .exact absurd rfl (a _ (ve z))
  .exact f.all x z
 cab:=λx c h _=>by cases h
 hd:=λh=>I.ok.hd h
 frames:=by
  unfold genCx Around.over;dsimp only[gC,envsOf,List.filter_nil,List.filterMap_nil,pushEnvs];rw[I.ok.frames];rfl
 stk:=.inr ⟨rfl,rfl⟩
 exf:=λb d=>⟨wT (n b d),λx c h=>(i b d).2.2.2.2.1 x c (f.sub x c h)⟩
 bs:=I.bs
 bsz:=vG I.ok.bsz I.sz
 noex:=λb o e d=>by
  rcases(i b d).2.2.2.1 with z|z
  .exact I.ok.noex b o e z
  .exact absurd (wX (wF e) (vG I.ok.bsz z)) (vZ _)
 exfs:=λb d r=>by
  rcases wQ.mp (I.stkSub b r)with z|z
  .exact (i b d).2.1 z
  .exact (i b d).2.2.1 z
 funs:=I.stack
 frf:=I.stkFree
 tab:=λc T z=>let ⟨ps,e⟩:=I.ok.tab c T z;let ⟨m,e'⟩:=I.base.tbls _ _ e;⟨_,e'⟩
end
section
variable{X:Cx}{pos:Pos}
theorem qfb{tg elt iter:Expr}{ifs:List Expr}{sc:Scope}{J:It}{fp:List Addr}{it:Addr}{tn:Nat->Heap->Prop}{g:D->En->Sr->Res En}{mt:En->Sr->Res Bool}{me:En->Sr->Res D}{ds:List D}{gu:Sr->Prop}{B:Around}(a:X.xe=λ_ _=>False)(f:X.calm=true)(b:X.ex=fp)(c:∀p∈X.pn,p.1∉fp)(h:X.A=B.over (.compLoop 003 0 (.ref it) .none X.env) [])(d:X.env.scope.isCoroutine=false)(T':Turn X.prog X.w X.K tg J fp it tn)(i:PG X tg (TGt g))(j:PTl X ifs (TB mt))(l:PE X elt (T me))(ρ:En)(S:Sr):∀k,Pw X J tn fp ds gu 05 B g mt me k (.fresh (.compStart 003 0 (.ref it) .none X.env)) 0 ρ S
 |0=>trivial
 |k+1=>by
  intro pins ι H s U n;have loop:=qgx a f b c h d T' i j l k _ 0 ρ S pins ι H ι H s rfl U (Stp.refl _ _) n;have e:=U.at';show Sg _ B (Pz X J tn fp ds gu _ B g mt me k _ pins ι H) _ ((compStart 003 0 (.ref it) .none X.env).onRaise (leaving X.env)) [] s;unfold compStart;rw[Sem.onRaise_eq_wrap];refine zY (m:=ask) (xI ?_);split
  .exact yv rfl loop
  .refine zY (uB ?_)
   first
    |exact zY (vi (zY (T'.self _ 0 s _ _ e (yv rfl loop))))
    | (show Sg _ B _ _ ((standAt iter.pos >>= _).wrap _ _ _ _) [] s
       exact zY (vi (zY (T'.self _ 0 s _ _ e (yv rfl loop)))))
structure BlkG (X:Cx) (sc:Scope) (N':List Str) (tg iter:Expr) (ifs:List Expr) (elt:Expr) (pos:Pos) (g:D->En->Sr->Res En) (mt:En->Sr->Res Bool) (me:En->Sr->Res D):Prop where
 rt:∀cl C code fp it o s H,PG (genCx X sc cl C code N' fp 003 it o s H) tg (TGt g)
 ri:∀cl C code fp it o s H,PTl (genCx X sc cl C code N' fp 003 it o s H) ifs (TB mt)
 re:∀cl C code fp it o s H,PE (genCx X sc cl C code N' fp 003 it o s H) elt (T me)
noncomputable def GH(X:Cx)(pins:001)(j:St)(ds:List D)(gu:Sr->Prop)(g:D->En->Sr->Res En)(mt:En->Sr->Res Bool)(me:En->Sr->Res D)(a:Addr)(ρ:En)(S:Sr)(ι:List Addr)(H:Hp)(s:Shared):Prop :=
 ∃sc cl C code N' fp ge it o d f J tn,(∀h:Heap,h.get? a=some o->h.IsGen a d.gens.size)/\(∀k,Cs (genCx X sc cl C code N' fp ge it (a,o) d f) J tn fp ds gu X.A.in4.in1 g mt me d.gens.size k 0 ρ S ι H [] s)/\(∀b∈fp,b<s.heap.objs.size) /\
  (∀i h h',tn i h->(∀b∈fp,∀o,h.get? b=some o->h'.get? b=some o)->tn i h') /\
  ∀c e H' z,Inv (genCx X sc cl C code N' fp ge it (a,o) d f) c e H' (z.setGen d.gens.size .running)->GK d.gens z.gens->Inv X pins j H' z
theorem qcd{tg elt iter:Expr}{ifs:List Expr}{sc:Scope}{fr:List Nat}{xs ts:List Str}{mi:En->Sr->Res (List D×(Sr->Prop))}{g:D->En->Sr->Res En}{mt:En->Sr->Res Bool}{me:En->Sr->Res D}{c T:Addr}(hc:X.calm=true)(W:X.A.depth<recursionLimit)(hi:PI X tg iter (TIg mi))(hs:∀x,genFold iter X.env x=pure x)(C':CSc X sc fr xs ts)(hz:sc.names.lookup (".0":Str)=some NameKind.local)(a4:sc.isCoroutine=false)(Y:X.env.code=.ref c)(a5:codeTab X.K c T=true)(B:BlkG X sc (xs++ts) tg iter ifs elt pos g mt me){pins:001}{s:Shared}{O:St}{H:Hp}{ι:List Addr}{S:Sr}{ρ:En}(I:Inv X pins O H s)(er:EnR ι H ρ O)(st:Sto ι H S){ds:List D}{gu:Sr->Prop}{S1:Sr}(hm:mi ρ S=.ok (ds,gu) S1):
  wpAny 05 X.A (eval 003 X.env) (λv s'=>∃a P H',v=.ref a/\Stp ι H P H'/\GH X pins O ds gu g mt me a (frE ρ fr ts.length) S1 P H' s') X.xe s:=by
 obtain⟨cl,CL⟩:=qbk (X:=X) (sc:=sc) λx hx hf=>I.ok.has x.1 (C'.frees x hx hf)
 refine wpAny_GeneratorExp_make a4 CL.eq C'.nocell hz C'.kind W ?_ hs;refine thn (hi pins s O H (λJ H2=>∃E,Stp ι H E H2/\Sto E H2 S1/\ItG E H2 J ds gu) I ⟨ι,S,ρ,er,st,?_⟩) λxv s1 U=>thn U λan s2 L=>?_
 .rw [hm];exact λP H' J q aa ok=>⟨P,q,aa,ok⟩
 obtain⟨it,fp,tn,J,H2,e,I2,T',t2,f2,E,q2,ab,ac⟩:=L;subst e;refine⟨I2.nolimit,thn (qgz I2 Y a5) λcode d ⟨H3,M,eg,Z,ad,a0⟩=>qiR M ?_⟩;intro m ae a6;have a7:∀b∈fp,∃o,s2.heap.get? b=some o/\H2 b=none:=λb C=>by
  obtain⟨o,eo,_⟩:=T'.obj _ _ t2 b C;exact⟨o,eo,(f2 b C).1⟩
 have f3:∀b∈fp,FpOk X pins H3 b:=λb C=>by
  obtain⟨o,e1,Q⟩:=a7 b C;exact⟨(a0 b o e1 Q).2,(f2 b C).2⟩
 have l3:∀b∈fp,b<d.heap.objs.size:=λb C=>by
  obtain⟨o,e1,Q⟩:=a7 b C;exact wF (a0 b o e1 Q).1
 have hsz:m.objs.size=d.heap.objs.size+1:=by rw[a6.1,ww]
 have f:∀(u:Obj) b o,d.heap.get? b=some o->(m.push u).get? b=some o:=λu b o e=>wB _ (a6.extBut b o (wT (wF e)) (wB _ e))
 generalize a1:({cls:=.type "generator",data:=.fields #[.int d.gens.size 0,.str "<genexpr>" (d.toks+1),.str (X.env.qual++"<genexpr>") (d.toks+1+1)]}:Obj)=ob;have a2:H3 m.objs.size=none:=M.hok.fresh (by rw[hsz];lia);have af:=qgA (code:=code) (N':=xs++ts) (tg:=tg) (elt:=elt) (iter:=iter) (ifs:=ifs) (pos:=pos) (it:=it) (o:=(m.objs.size,ob)) M C'.kind C'.nocell CL f3 l3;have ag:(m.push ob).Ns d.heap.objs.size (λy=>if y=".0" then some (.ref it)else none):=ae.push _;have ek:∀n,(d.gens.push (GenState.fresh n)).setIfInBounds d.gens.size .running=d.gens.push .running:=λn=>by
  apply Array.ext
  .simp
  .intro j U L
   by_cases q:j=d.gens.size
   .subst q;simp
   .have:j<d.gens.size:=by simp at L;lia
    rw[xX (by simp;lia),wN (Ne.symm q),Array.getElem_push_lt this,Array.getElem_push_lt this]
 have am:∀b:Addr,(m.objs.size)≠b\/b=m.objs.size:=λb=>by
  by_cases q:b=m.objs.size
  .exact .inr q
  .exact .inl (Ne.symm q)
 have a8:(m.push ob).get? m.objs.size=some ob:=by subst a1;exact wE _ rfl
 have F:=C'.frs;have a9:∀(gg:Array GenState) (tk:Nat),gg=d.gens.push .running->Inv (genCx X sc cl d.heap.objs.size code (xs++ts) fp 003 it (m.objs.size,ob) d H3) [] (frS O fr ts.length) H3 {d with heap:=m.push ob,toks:=tk,gens:=gg}:=by
  intro gg tk ah;refine⟨af,rfl,?_,Un.kept (f ob),⟨_,ag,λi x v U L h3=>?_⟩,λx N e=>?_,M.hok.fresh (wG _),λx N e=>M.freeC x N (CL.sub x N e),λp hp=>?_,M.hok.kept (f ob),?_⟩
  .subst ah
   exact GK.refl (AllBare.push M.bare.bare rfl)
  .have U:(xs++ts)[i]?=some x:=U
   have L:(frS O fr ts.length)[i]?=some (some v):=L;unfold frS at L;by_cases hi:i<fr.length
   .rw [wW (by simpa using hi),wU,wD hi]at L
    rw[wW (by rw[<-F.len];exact hi)]at U;simp only[wf,Option.some.injEq]at L;have hN:=F.at' i fr[i] x (wD hi) U;have ai:O[fr[i]]?=some (some v):=by
     cases z:O[fr[i]]? with
     |none=>rw[z]at L;cases L
     |some o=>rw[z]at L;simp at L;rw[L]
    obtain⟨kf,ko⟩:=F.kd x (vL U);obtain⟨m0,ao,aj⟩:=M.loc;obtain⟨u,r,l⟩:=aj fr[i] x v hN ai (.inr ko);refine⟨u,r,.inr ?_⟩;have ak:∃N,X.env.cells.lookup x=some N/\d.heap.IsCell N (some u):=by
     rcases l with ⟨z,_⟩|⟨_,N,e1,Q⟩
     .rcases ko with q|q <;> (rw[z]at q;cases q)
     .exact ⟨N,e1,Q⟩
    obtain⟨N,e1,o,Q,e3⟩:=ak;obtain⟨c',e4⟩:=CL.all x kf;have e5:=CL.sub x c' e4;rw[e1]at e5;cases e5;exact⟨.inr kf,N,e4,o,f ob _ _ Q,e3⟩
   .rw [wk (by simpa using hi),vw]at L
    split at L <;> cases L
  .obtain ⟨v,o,e1,Q⟩:=M.cell x N (CL.sub x N e)
   exact⟨v,o,f ob _ _ e1,Q⟩
  .have a3:p=(m.objs.size,ob):=by
    have:p∈[(m.objs.size,ob)]++([]:List (Addr×Obj)):=hp;simpa using this
   subst a3;refine⟨a8,a2,(show m.objs.size≠d.heap.objs.size by lia),λz=>?_,λv=>?_⟩
   .have z':m.objs.size∈frs X.stack:=z
    rcases wQ.mp (M.stkSub _ z')with q|q
    .have:=M.lt
     rw[<-q,hsz]at this;exact absurd this (xS.mpr (u0 _))
    .exact absurd q (M.nofs 00)
   .show ob.data≠_
    rw[<-a1];intro z;cases z
  .show (frS O fr ts.length).length=(xs++ts).length
   simp[frS,F.len]
 refine⟨m.objs.size,E,H3,rfl,q2.trans (Z E),sc,cl,d.heap.objs.size,code,xs++ts,fp,.GeneratorExp elt [⟨tg,iter,ifs,0⟩] sc pos,it,ob,d,H3,J,tn,λh e=>?_,λk=>⟨?_,_,Array.getElem?_push_size ..,rfl,?_⟩,λb C=>?_,T'.keep,λal ap H' z J' gk=>?_⟩
 .rw [<-a1]at e
  exact⟨_,_,_,e,rfl,rfl,rfl⟩
 .refine ⟨⟨frS O fr ts.length,?_,(qdW er fr ts.length).mono (q2.trans (Z E))⟩,ad _ _ ab,T'.keep _ _ _ t2 λb C o eo=>f ob b o (a0 b o eo (f2 b C).1).1,vN _,λb C=>(f3 b C).1,ac.mono (Z E),λp hp=>absurd hp 02⟩
  exact a9 _ _ (ek _)
 .exact qfb (X:=genCx X sc cl d.heap.objs.size code (xs++ts) fp 003 it (m.objs.size,ob) d H3) rfl hc rfl (λp hp C=>by
   have a3:p=(m.objs.size,ob):=by
    have:p∈[(m.objs.size,ob)]:=hp;simpa using this
   subst a3;have:=l3 _ C;have e:m.objs.size<d.heap.objs.size:=this;lia) rfl a4 T' (B.rt _ _ _ _ _ _ _ _) (B.ri _ _ _ _ _ _ _ _) (B.re _ _ _ _ _ _ _ _) _ _ k
 .have:=l3 b C
  show b<(m.push ob).objs.size;rw[ww];exact wX (l3 b C) 00
 .have ba:Un (frs X.stack) fp H3 H' d.heap z.heap:=J'.base
  exact M.call' (ch:=fp) J'.os ba J'.hok gk λb C=>⟨(f3 b C).2.2.2.1,(f3 b C).2.1,(f3 b C).2.2.2.2.1,(f3 b C).2.2.2.2.2⟩
end
section
variable{X:Cx}{pos:Pos}
theorem qce{A:Around}(h:wpAny M A.in4 t Q E s):wpAny M A.in1 t Q E s:=wpAny_of_in1 (wpAny_of_in1 (wpAny_of_in1 h))
section
variable{sc:Scope}{cl:List (Str×Addr)}{C:Addr}{code:Value}{N':List Str}{fp:List Addr}{ge:Expr}{it a:Addr}{o:Obj}{s4:Shared}{H4:Hp}{J:It}{tn:Nat->Heap->Prop}{ds:List D}{gu:Sr->Prop}{g:D->En->Sr->Res En}{mt:En->Sr->Res Bool}{me:En->Sr->Res D}
theorem qde{c:Type}{step:c->D->Option (c ⊕ D)}{fin:c->Option D}{i:Nat}{ρ:En}{b:c}{S e:Sr}{d:D}(h:genLoopG gu g mt me step fin (ds.drop i) ρ b S=.ok d e):gnx gu g mt me i (ds.drop i) ρ S≠.bad:=λz=>by
 have q:=zJ h;rw[z]at q;cases q
theorem qiS{R:Result->Shared->Prop}(P:X.A.handled=none)(hd:X.A.depth<recursionLimit)(Q:∀h:Heap,h.get? a=some o->h.IsGen a s4.gens.size):∀(k i:Nat) (ρ:En) (b:D) (S:Sr) (ι:List Addr) (H:Hp) (s:Shared) {d:D} {l:Sr},ds.length<k+i ->
  Cs (genCx X sc cl C code N' fp ge it (a,o) s4 H4) J tn fp ds gu X.A.in4.in1 g mt me s4.gens.size k i ρ S ι H [] s->genLoopG gu g mt me (stepG .all) (finG .all) (ds.drop i) ρ b S=.ok d l ->
  (∀j f H' z c,d=.bl c->Inv (genCx X sc cl C code N' fp ge it (a,o) s4 H4) [] j H' (z.setGen s4.gens.size .running)->GK s4.gens z.gens->Stp ι H f H'->Sto f H' l->R (.ok (.ret (.bool c))) z) ->
  codeAny 05 X.A (.builtin "all.loop" ⟨[.ref a],[]⟩) R s:=by
 intro k;induction k with
 |zero =>
  intro i ρ b S ι H s d l U r _ _;have:=r.sus.le;lia
 |succ k W =>
  intro i ρ b S ι H s d l U r e x;refine wu F.entry_all_loop ?_;rw[wc F.plain_all_loop];refine wA (m:=pyNext (.ref a)) (qce (qbm (X:=genCx X sc cl C code N' fp ge it (a,o) s4 H4) (A:=X.A.in4) P hd wL Q rfl rfl r (qde e) (λS2 f H' j z n p B q st=>?_) λY E v S2 f H' y u z n q Z ry O=>?_))
  .have q2:=zJ e
   rw[n]at q2;cases q2;exact wA (uB (wC (x j f H' z true rfl p B q st)))
  .have q2:=zJ e
   have hi:=ju _ _ _ _ n;rw[n]at q2;simp only[gen1]at q2;have hv:∃c,v=.bl c:=by
    cases v with
    |bl c=>exact⟨c,rfl⟩
    |_=>simp only[stepG]at q2;cases q2
   obtain⟨c,rfl⟩:=hv;cases (show y=_ from Z);cases (show u=Value.bool c from ry);refine wA (wj (vU (wA (xT ?_))));cases c with
   |true =>
    simp only[stepG]at q2;rw[wM rfl];exact wC ⟨vE F.plain_all_loop _,W Y E _ S2 f H' z 00 O q2 λI K H2 z2 c ec I2 B s2 L=>x I K H2 z2 c ec I2 B (q.trans s2) L⟩
   |false =>
    simp only[stepG]at q2;cases q2;rw[wN 01];obtain⟨⟨⟨M,p,a0⟩,N,_⟩,gs,eg,bg,_⟩:=O;exact wA (uB (wC (x M f H' z false rfl p (GK.done p.bare eg bg) q N)))
end
end
section
variable{X:Cx}{J:It}{tn:Nat->Heap->Prop}{fp:List Addr}{ds:List D}{gu:Sr->Prop}{B:Around}{g:D->En->Sr->Res En}{mt:En->Sr->Res Bool}{me:En->Sr->Res D}{n k i:Nat}{ρ:En}{S:Sr}{ι:List Addr}{H:Hp}{s:Shared}
theorem qdZ(C:Cs X J tn fp ds gu B g mt me n k i ρ S ι H [] s)(tk:∀i h h',tn i h->(∀b∈fp,∀o,h.get? b=some o->h'.get? b=some o)->tn i h')(c:∀b∈fp,b<s.heap.objs.size)(d:(s.heap.push u).get? s.heap.objs.size=some u)(f:∀v,u.data≠.cell v){t:Nat}:
  Cs X J tn fp ds gu B g mt me n k i ρ S ι H [(s.heap.objs.size,u)] {s with heap:=s.heap.push u,toks:=t}:=by
 obtain⟨⟨⟨j,I,l⟩,st,at',le,fz,ok,pf⟩,w⟩:=C;refine⟨⟨⟨j,?_,l⟩,st,tk _ _ _ at' λb _ o e=>wB _ e,le,fz,ok,λp a m=>?_⟩,w⟩
 .have q:=I.kept (h':=s.heap.push u) (t':=t) λb o e=>wB _ e
  refine q.pins_of λp a=>?_
  obtain rfl:=wY.mp a;exact⟨d,I.hok.fresh (wG _),w1 I.lt,I.nofs (wG _),f⟩
 .obtain rfl:=wY.mp a
  exact absurd (c _ m) (vZ _)
theorem qbn{h':Heap}{t:Nat}(C:Cs X J tn fp ds gu B g mt me n k i ρ S ι H [(p,u)] s)(tk:∀i h h',tn i h->(∀b∈fp,∀o,h.get? b=some o->h'.get? b=some o)->tn i h')(F:X.s₀.heap.objs.size<=p)(hn:∀q∈X.pn,q.1≠p)(l:∀b o,b≠p->s.heap.get? b=some o->h'.get? b=some o)(K:h'.get? p=some f)(L:∀v,f.data≠.cell v):Cs X J tn fp ds gu B g mt me n k i ρ S ι H [(p,f)] {s with heap:=h',toks:=t}:=by
 obtain⟨⟨⟨m,I,M⟩,st,at',le,fz,ok,pf⟩,w⟩:=C;obtain⟨e1,r,y,N,O⟩:=I.pin (p,u) (wV _ (wY.mpr rfl));have np:p∉fp:=pf (p,u) (wY.mpr rfl);refine⟨⟨⟨m,?_,M⟩,st,tk _ _ _ at' λb j o e=>l b o (λz=>np (z ▸ j)) e,le,fz,ok,λq a j=>?_⟩,w⟩
 .have A:Inv X [] m H (s.setGen n .running):=I.unpinned (pins:=[]) (pl:=[(p,u)])
  have P:=A.turned (h':=h') (t':=t) (it:=p) l r y (.inr F) (λx c Q z=>by
   obtain⟨v,o,E,d⟩:=A.cell x c Q;rw[z,e1]at E;cases E;exact O v d) λq a=>hn q (by simpa using a)
  refine P.pins_of λq a=>?_
  obtain rfl:=wY.mp a;exact⟨K,r,y,N,L⟩
 .obtain rfl:=wY.mp a
  exact np j
end
noncomputable def accO(t:Int)(a:Tok)(c:Nat):Obj:={cls:=.type "list",dict:=none,data:=.seq #[.int t a] c,slots:=#[]}
section
variable{X:Cx}{sc:Scope}{cl:List (Str×Addr)}{C:Addr}{code:Value}{N':List Str}{fp:List Addr}{ge:Expr}{it a:Addr}{o:Obj}{s4:Shared}{H4:Hp}{J:It}{tn:Nat->Heap->Prop}{ds:List D}{gu:Sr->Prop}{g:D->En->Sr->Res En}{mt:En->Sr->Res Bool}{me:En->Sr->Res D}
theorem qiT{R:Result->Shared->Prop}(hh:X.A.handled=none)(hd:X.A.depth<recursionLimit)(hg:∀h:Heap,h.get? a=some o->h.IsGen a s4.gens.size)(tk:∀i h h',tn i h->(∀b∈fp,∀o,h.get? b=some o->h'.get? b=some o)->tn i h')(hp:s4.heap.objs.size<=p)(a0:a≠p):∀(k i:Nat) (ρ:En) (t:Int) (S:Sr) (ι:List Addr) (H:Hp) (s:Shared) (K:Tok) (c:Nat) (P:Int) {d:D} {U:Sr},(P=0\/P=2)->ds.length<k+i ->
  Cs (genCx X sc cl C code N' fp ge it (a,o) s4 H4) J tn fp ds gu X.A.in4.in1 g mt me s4.gens.size k i ρ S ι H [(p,accO t K c)] s->genLoopG gu g mt me (stepG .sum) (finG .sum) (ds.drop i) ρ (.int t) S=.ok d U ->
  (∀j N l H' z r tz,d=.int r->Inv (genCx X sc cl C code N' fp ge it (a,o) s4 H4) j N H' (z.setGen s4.gens.size .running)->GK s4.gens z.gens->Stp ι H l H'->Sto l H' U->R (.ok (.ret (.int r tz))) z) ->
  codeAny 05 X.A (.builtin "sum.loop" ⟨[.ref a,.ref p,rawInt P,rawInt 0],[]⟩) R s:=by
 intro k;induction k with
 |zero =>
  intro i ρ t S ι H s K c P d U _ hk W _ _;have:=W.sus.le;lia
 |succ k ih =>
  intro i ρ t S ι H s K c P d U a1 hk W e hR;have hS:s.heap.get? p=some (accO t K c):=by
   obtain⟨σ,I,_⟩:=W.sus.inv;exact(I.pin (p,accO t K c) (wV _ (wY.mpr rfl))).1
  refine wu F.entry_sum_loop ?_;rw[wc xO];refine wA (m:=seqItems? (.ref p)) (vk hS rfl ?_);refine wA (m:=tryCatch (pyNext (.ref a)) _) (wpAny_tryCatch ?_);refine qce (qbm (X:=genCx X sc cl C code N' fp ge it (a,o) s4 H4) (A:=X.A.in4) hh hd wL hg rfl rfl W (qde e) (λS2 l H' N z Y Iz gk q st=>?_) λi' a2 v S2 l H' y u z Y q dv ry Cz=>?_)
  .have q2:=zJ e
   rw[Y]at q2;cases q2;exact wC (hR _ N l H' z t K rfl Iz gk q st)
  .have q2:=zJ e
   have hi:=ju _ _ _ _ Y;rw[Y]at q2;simp only[gen1]at q2;have hv:∃r,v=.int r:=by
    cases v with
    |int r=>exact⟨r,rfl⟩
    |_=>simp only[stepG]at q2;cases q2
   obtain⟨r,rfl⟩:=hv;cases (show y=_ from dv);obtain⟨tr,rfl⟩:=(show ∃tr,u=Value.int r tr from ry);simp only[stepG]at q2;have L:z.heap.get? p=some (accO t K c):=by
    obtain⟨σ,I,_⟩:=Cz.sus.inv;exact(I.pin (p,accO t K c) (wV _ (wY.mpr rfl))).1
   have n:=w9 (h:=z.heap) (Obj.mapSeq λ_=>#[Value.int (t+r) z.toks]) L rfl;have fin:∀(Z:Heap) (Q:Nat) (O:Tok) (c2:Nat) (B:Int),(B=0\/B=2)->(∀b o,b≠p->z.heap.get? b=some o->Z.get? b=some o)->Z.get? p=some (accO (t+r) O c2) ->
     codeAny 05 X.A (.builtin "sum.loop" ⟨[.ref a,.ref p,rawInt B,rawInt 0],[]⟩) R {z with heap:=Z,toks:=Q}:=λZ Q O c2 B a3 a4 a5=>by
    refine ih i' a2 (t+r) S2 l H' _ O c2 B a3 00 (qbn Cz tk hp (λq hq=>?_) a4 a5 λv z=>by cases z) q2 λj a6 a7 H2 z2 r2 tz ec I2 gk s2 a8=>hR j a6 a7 H2 z2 r2 tz ec I2 gk (q.trans s2) a8
    have a9:q=(a,o):=by
     have:q∈[(a,o)]:=hq;simpa using this
    subst a9;exact a0
   have E:∀(f:Obj->Obj) (h1:Heap) (b:Addr) (x:Obj),b≠p->h1.get? b=some x->(h1.update p f).get? b=some x:=λf h1 b x M ex=>(wJ _ _ (Ne.symm M)).trans ex
   rcases a1 with rfl|rfl
   .show wpAny _ _ (if(_:Bool)=true then(mkInt (t+r) >>= _)else _) _ _ z
    split
    .refine wA (wpAny_mkInt ?_)
     refine wA (m:=updateSeq p _) (vl L rfl (wC ⟨vE xO _,?_⟩));exact fin _ _ z.toks _ 0 (.inl rfl) (λb x M ex=>E _ _ b x M ex) n
    .refine wA (uB (wA (vX (wj (wpAny_add_int ?_)))))
     refine wA (m:=updateSeq p _) (vl L rfl (wA (xT ?_)));refine wA (m:=updateSeq p _) (vl n rfl (wC ⟨vE xO _,?_⟩));exact fin _ _ z.toks _ 2 (.inr rfl) (λb x M ex=>E _ _ b x M (E _ _ b x M ex)) (w9 _ n rfl)
   .refine wA (m:=(holding [Value.int r tr] (binaryOp .Add (.int t K) (.int r tr))).attempt) (vX (wj (wpAny_add_int ?_)))
    refine wA (m:=updateSeq p _) (vl L rfl (wA (xT ?_)));refine wA (m:=updateSeq p _) (vl n rfl (wC ⟨vE xO _,?_⟩));exact fin _ _ z.toks _ 2 (.inr rfl) (λb x M ex=>E _ _ b x M (E _ _ b x M ex)) (w9 _ n rfl)
end
noncomputable def mGenG(w:GW)(fr:List Nat)(nt:Nat)(mi:En->Sr->Res (List D×(Sr->Prop)))(g:D->En->Sr->Res En)(mt:En->Sr->Res Bool)(me:En->Sr->Res D):En->Sr->Res D:=λρ S=>(mi ρ S).bind λp S1 =>
 genLoopG p.2 g mt me (stepG w) (finG w) p.1 (frE ρ fr nt) (startG w) S1
noncomputable def mGen(w:GW)(fr:List Nat)(nt:Nat)(mi:En->Sr->Res (List D))(g:D->En->Sr->Res En)(mt:En->Sr->Res Bool)(me:En->Sr->Res D):En->Sr->Res D:=λρ S=>(mi ρ S).bind λds S1 =>
 genLoop g mt me (stepG w) (finG w) ds (frE ρ fr nt) (startG w) S1
def qgB{w:GW}{fr:List Nat}{nt:Nat}{mi:En->Sr->Res (List D)}{g:D->En->Sr->Res En}{mt:En->Sr->Res Bool}{me:En->Sr->Res D}:mGenG w fr nt (λρ S=>(mi ρ S).bind λds S1=>.ok (ds,λ_=>True) S1) g mt me=mGen w fr nt mi g mt me:=by
 funext ρ S;unfold mGenG mGen;dsimp only;cases mi ρ S with
 |ok ds S1=>exact yt _ _ _ _
 |err=>rfl
 |no=>rfl
section
variable{X:Cx}{pos gp:Pos}
def GCall(X:Cx)(w:GW)(f:Value):Prop:=∀(pins:001) (s:Shared) (b:St) (H:Hp) (ι:List Addr) (a:Addr) (ds:List D) (gu:Sr->Prop) (g:D->En->Sr->Res En) (mt:En->Sr->Res Bool) (me:En->Sr->Res D) (ρ:En) (S:Sr) (Q:VK),
 GH X pins b ds gu g mt me a ρ S ι H s->Pst Den (genLoopG gu g mt me (stepG w) (finG w) ds ρ (startG w) S) ι H Q->wpAny 05 X.A (call f [.ref a]) (EP X pins b Q) X.xe s
theorem qbo{w:GW}{ds:List D}{gu:Sr->Prop}{g:D->En->Sr->Res En}{mt:En->Sr->Res Bool}{me:En->Sr->Res D}{ρ:En}{b:D}{S:Sr}{ι:List Addr}{H:Hp}{Q:VK}(h:Pst Den (genLoopG gu g mt me (stepG w) (finG w) ds ρ b S) ι H Q):
  ∃d c,genLoopG gu g mt me (stepG w) (finG w) (ds.drop 0) ρ b S=.ok d c/\∀y a H',Stp ι H a H'->Sto a H' c->Den a H' d y->Q y H':=by
 rw[uf];cases z:genLoopG gu g mt me (stepG w) (finG w) ds ρ b S with
 |no=>rw[z]at h;exact h.elim
 |err=>rw[z]at h;exact h.elim
 |ok d c=>rw[z]at h;exact⟨d,c,rfl,h⟩
theorem qkN(n:X.calm=true)(hd:X.A.depth<recursionLimit)(hok:X.calm=true->X.A.handled=none):GCall X .all (.builtin "all"):=by
 intro pins s w H ι a ds gu g mt me ρ S Q p h;obtain⟨sc,cl,C,code,N',fp,ge,it,o,x,y,J,tn,l,cs,B,tk,f⟩:=p;obtain⟨d,E,e,q⟩:=qbo h;have ha:s.heap.get? a=some o:=by
  obtain⟨b,I,_⟩:=(cs 0).sus.inv;exact(I.pin (a,o) (vu _ wL)).1
 refine call_function_tree F.kind_all F.plain_all F.entry_all (F.args_all1 _) ?_;unfold Builtin.«all»;refine wA (m:=oneArg "all" _) (wC (wA (wpAny_pyIter_gen (l _ ha) (wC ⟨vE F.plain_all_loop _,?_⟩))));exact qiS (hok n) hd l (ds.length+1) 0 ρ _ S ι H s 00 (cs _) e λb i H' z c r u v s1 j=>⟨.bl c,H',f _ b H' z u v,rfl,q _ i H' s1 j (by subst r;rfl)⟩
theorem qgC(u:X.calm=true)(hd:X.A.depth<recursionLimit)(hok:X.calm=true->X.A.handled=none):GCall X .sum (.builtin "sum"):=by
 intro pins s N H ι a ds gu g mt me ρ S Q w h;obtain⟨sc,cl,C,code,N',fp,ge,it,o,x,O,J,tn,n,cs,y,tk,f⟩:=w;obtain⟨d,P,e,q⟩:=qbo h;have B:=(cs 0).sus.inv;obtain⟨c,I,_⟩:=B;have ha:s.heap.get? a=some o:=(I.pin (a,o) (vu _ wL)).1;refine call_function_tree F.kind_sum F.plain_sum F.entry_sum (F.args_sum1 _) ?_;unfold Builtin.«sum»;simp only[w8,ws];rw[wN 01];refine wA (uj (show Builtin.Builtins.bindParams "sum" ["start"] 0 { }=pure [none]from rfl) (wA (wpAny_pyIter_gen (n _ ha) ?_)));refine wA (wpAny_mkInt (wA (wC ?_)));simp only[u5,List.forIn_nil];refine wA (wA (wA (vn (T:="int") (b:=false) (xR _ _ _) PySem.sub_int_str ?_)));rw[wN wZ];refine wC (wA (wA (vn (T:="int") (b:=false) (xR _ _ _) PySem.sub_int_bytes ?_)));rw[wN wZ];refine wC (wA (wA (vn (T:="int") (b:=false) (xR _ _ _) PySem.sub_int_bytearray ?_)));rw[wN wZ];refine wC (wC (wA (wR (wC ⟨vE xO _,?_⟩))));have lt:x.heap.objs.size<=s.heap.objs.size:=I.sz;have i:a≠s.heap.objs.size:=wT (wF ha);refine qiT (hok u) hd n tk (p:=s.heap.objs.size) lt i (ds.length+1) 0 ρ 0 S ι H _ s.toks 0 0 (.inl rfl) 00 (qdZ (cs _) tk y (wE _ rfl) λv z=>by cases z) e λj c l H' z r E K L M s1 m=>⟨.int r,H',f _ c H' z L M,⟨E,rfl⟩,q _ l H' s1 m (by subst K;rfl)⟩
theorem qgD{w:GW}{id:String}{f:Str}{p:Pos}{tg elt iter:Expr}{ifs:List Expr}{sc:Scope}{fr:List Nat}{xs ts:List Str}{mi:En->Sr->Res (List D×(Sr->Prop))}{g:D->En->Sr->Res En}{mt:En->Sr->Res Bool}{me:En->Sr->Res D}{c T':Addr}(o:X.calm=true)(b:X.A.depth<recursionLimit)(r:GCall X w (.builtin id))(j:Gl X f)(hm:X.mg f=none)(u:bootBuiltins f=some (.builtin id))(hn:f≠"__name__")(l:dB f)(hi:PI X tg iter (TIg mi))(y:∀x,genFold iter X.env x=pure x)(C':CSc X sc fr xs ts)(hz:sc.names.lookup (".0":Str)=some NameKind.local)(m:sc.isCoroutine=false)(d:X.env.code=.ref c)(i:codeTab X.K c T'=true)(B:BlkG X sc (xs++ts) tg iter ifs elt gp g mt me):
  PE X (.Call (.Name f p) [.GeneratorExp elt [⟨tg,iter,ifs,0⟩] sc gp] [] pos) (T (mGenG w fr ts.length mi g mt me)):=by
 intro pins s C H Q I E;refine ur (zT I j hm u ?_ hn l);obtain⟨ι,S,ρ,F,st,h⟩:=E;dsimp only[mGenG]at h;cases z:mi ρ S with
 |no=>rw[z]at h;exact h.elim
 |err=>rw[z]at h;exact h.elim
 |ok J S1 =>
  obtain⟨ds,gu⟩:=J;rw[z,Res.bind_ok]at h;refine xD (e:=.GeneratorExp elt [⟨tg,iter,ifs,0⟩] sc gp) (rest:=[]) ?_ rfl rfl;refine uI (thn (qcd o b hi y C' hz m d i B I F st z) λv s' ⟨a,n,H',ev,q,L⟩=>?_);subst ev;exact ua (r pins s' C H' n a ds gu g mt me _ S1 Q L (Pst.from h q))
theorem qmG{w:GW}{id:String}{f:Str}{p:Pos}{tg elt iter:Expr}{ifs:List Expr}{sc:Scope}{fr:List Nat}{xs ts:List Str}{mi:En->Sr->Res (List D)}{g:D->En->Sr->Res En}{mt:En->Sr->Res Bool}{me:En->Sr->Res D}{c T':Addr}(j:X.calm=true)(a:X.A.depth<recursionLimit)(l:GCall X w (.builtin id))(e:Gl X f)(hm:X.mg f=none)(m:bootBuiltins f=some (.builtin id))(hn:f≠"__name__")(h:dB f)(hi:PI X tg iter (TIt mi))(n:∀x,genFold iter X.env x=pure x)(C':CSc X sc fr xs ts)(hz:sc.names.lookup (".0":Str)=some NameKind.local)(i:sc.isCoroutine=false)(b:X.env.code=.ref c)(d:codeTab X.K c T'=true)(B:BlkG X sc (xs++ts) tg iter ifs elt gp g mt me):
  PE X (.Call (.Name f p) [.GeneratorExp elt [⟨tg,iter,ifs,0⟩] sc gp] [] pos) (T (mGen w fr ts.length mi g mt me)):=by
 rw[<-qgB];exact qgD j a l e hm m hn h (pi_g hi) n C' hz i b d B
end
def qcf{a b c:Int}(d:0<c):Builtin.Range.rangeSize a b c=(((b-a+c-1) / c).toNat:Int):=by
 unfold Builtin.Range.rangeSize;rw[wM d];by_cases h:a<b
 .rw [wM h]
  have e:b-a+c-1=(b-a-1)+c:=by omega
  have q:(b-a-1+c) / c=(b-a-1) / c+1:=Int.add_ediv_of_dvd_right (Int.dvd_refl c) |>.trans (by rw[Int.ediv_self 04]);rw[e,q];have:=Int.ediv_nonneg (a:=b-a-1) (b:=c) 04 04;omega
 .rw [wN h]
  have:(b-a+c-1) / c<=0:=by
   have i:b-a+c-1<=c-1:=by omega
   have f:=Int.ediv_le_ediv d i;have j:(c-1) / c=0:=Int.ediv_eq_zero_of_lt 04 04;rw[j]at f;exact f
  omega
def qfc{a b c:Int}(f:-(2^62)<=a)(i:a<2^62)(j:-(2^62)<=b)(o:b<2^62)(d:0<c)(p:c<2^62):Builtin.Range.small a b c=true:=by
 have hz:=qcf (a:=a) (b:=b) d;have l:(b-a+c-1) / c<=2^63-1:=by
  by_cases h:b-a+c-1<0
  .have:=Int.ediv_neg_of_neg_of_pos h d
   omega
  .have m:(b-a+c-1) / c<=b-a+c-1-(c-1)\/b-a<=0:=by
    by_cases n:b-a<=0
    .exact .inr n
    .left
     have e:b-a+c-1=(b-a-1)+c:=by omega
     have q:(b-a-1+c) / c=(b-a-1) / c+1:=Int.add_ediv_of_dvd_right (Int.dvd_refl c) |>.trans (by rw[Int.ediv_self 04]);rw[e,q];have:=Int.ediv_le_self c (a:=b-a-1) 04;omega
   rcases m with z|z
   .omega
   .have f:b-a+c-1<=c-1:=by omega
    have i:=Int.ediv_le_ediv d f;have j:(c-1) / c=0:=Int.ediv_eq_zero_of_lt 04 04;rw[j]at i;omega
 unfold Builtin.Range.small;rw[hz];simp only[Builtin.Range.rangeFitsLong,wK,Bool.or_eq_true,w6,vd];rw[wM d];simp only[wK,w6];omega
def noPy{x c:Int}(a:0<c)(b:c<2^63):Builtin.divisionGoesByPylong x c=false:=by
 refine PyProof.noPylong_of_log2 ?_;have h:c.natAbs.log2<63:=(Nat.log2_lt 04).mpr 04;omega
def qcg:∀{xs:List V} {us:List Value},xs.length=us.length->(∀(i:Nat) (x:V) (u:Value),xs[i]?=some x->us[i]?=some u->RelV x u)->Vals xs us
 |[],[],_,_=>.nil
 |[],_::_,h,_=>by cases h
 |_::_,[],h,_=>by cases h
 |x::xs,u::us,h,k=>.cons (k 0 x u rfl rfl) (qcg (by simpa using h) λi y w e1 a=>k (i+1) y w (by simpa using e1) (by simpa using a))
section
variable{X:Cx}{pos:Pos}{tg:Expr}
noncomputable def RngAt(X:Cx)(pins:001)(d:St)(ds:List D)(H:Hp)(v:Value)(s:Shared):Prop :=
 ∃a b c t u w p,v=.ref p/\IsRange s.heap p a b c t u w/\Inv X pins d H s/\Builtin.Range.small a b c=true/\Builtin.Range.rangeSize a b c=ds.length/\ds=(List.range ds.length).map λ(k:Nat)=>D.int (a+k*c)
theorem qgE{E:Value->Shared->Prop}(I:Inv X pins d H s)(r:Vals vs us)(hd:Dens ι H l vs)(e:rngD l=some ds):
  wpAny 05 X.A (call (.type "range") us) (RngAt X pins d ds H) E s:=by
 have fin:∀{a b c:Int} {t u w:Tok} {tk:Nat},-(2^62)<=a->a<2^62->-(2^62)<=b->b<2^62->0<c->c<2^62->ds=rngL a b c ->
   RngAt X pins d ds H (.ref s.heap.objs.size) {s with heap:=s.heap.push {cls:=.type "range",data:=.fields #[.int a t,.int b u,.int c w]},toks:=tk}:=by
  intro a b c t u w tk q v B C j F m;have n:ds.length=((b-a+c-1) / c).toNat:=by rw[m];unfold rngL;simp
  refine⟨a,b,c,t,u,w,_,rfl,IsRange.new ..,I.kept λb o e=>wB _ e,qfc q v B C j F,?_,?_⟩
  .rw [qcf j,n]
  .rw [n,m]
   unfold rngL;exact vT λk _=>by rw[Int.mul_comm]
 match l,e,hd with
 |[.int b],e,hd =>
  obtain⟨x,rfl,hx⟩:=dens1 hd;cases (show x=_ from hx);obtain⟨u,rfl,p,rfl⟩:=vals1 r;simp only[rngD]at e;split at e
  .rename_i h
   cases e;exact call_range_1 (fin 04 04 h.1 h.2 04 04 rfl)
  .cases e
 |[.int a,.int b],e,hd =>
  obtain⟨x,y,rfl,hx,f⟩:=dens2 hd;cases (show x=_ from hx);cases (show y=_ from f);obtain⟨u,w,rfl,⟨p,rfl⟩,J,rfl⟩:=vals2 r;simp only[rngD]at e;split at e
  .rename_i h
   cases e;exact call_range_2 (fin h.1 h.2.1 h.2.2.1 h.2.2.2 04 04 rfl)
  .cases e
 |[.int a,.int b,.int c],e,hd =>
  obtain⟨x,M,rfl,hx,i⟩:=hd;obtain⟨y,z,rfl,f,hz⟩:=dens2 i;cases (show x=_ from hx);cases (show y=_ from f);cases (show z=_ from hz);cases r with
  |cons K L =>
   obtain⟨u,w,rfl,⟨p,rfl⟩,J,rfl⟩:=vals2 L;obtain⟨N,rfl⟩:=K;simp only[rngD]at e;split at e
   .rename_i h
    cases e;exact call_range_3 04 (fin h.1 h.2.1 h.2.2.1 h.2.2.2.1 h.2.2.2.2.1 h.2.2.2.2.2 rfl) (.inl (noPy 04 04))
   .cases e
theorem qgF{p:Pos}(m:Gl X "range")(hm:X.mg "range"=none)(ha:PA X (a::es) (TL j))(n:sE X a es)(i:bT X es pos)(I:Inv X pins h H s)(o:EnR ι H ρ h)(st:Sto ι H S)(z:j ρ S=.ok l S1)(e:rngD l=some ds):
  wpAny 05 X.A (eval (.Call (.Name "range" p) (a::es) [] pos) X.env) (λv s'=>∃f H',Stp ι H f H'/\Sto f H' S1/\RngAt X pins h ds H' v s') X.xe s:=by
 refine Call_ (zT I m hm boot_range (vY (thn (ha pos pins s h H (λvs d=>∃b,Stp ι H b d/\Sto b d S1/\Dens b d l vs) I ⟨ι,S,ρ,o,st,?_⟩) λus s1 ⟨vs,d,q,r,b,q1,c,d1⟩=>?_) n i))
 .rw [z];exact λvs b d q1 c d1=>⟨b,q1,c,d1⟩
 .exact thn (qgE q r d1 e) λv s2 q2=>⟨b,d,q1,c,q2⟩
noncomputable def ItS(lo c:Int)(n:Nat):It:=⟨λi _=>i<n,λi H x H'=>H'=H/\x=.int (lo+i*c),λi _=>n<=i⟩
theorem qfd{P:Program}{w:World}{K:07}(it:Addr)(lo c:Int)(n:Nat):Turn P w K tg (ItS lo c n) [it] it (λi h=>IsRangeIter h it (lo+(i:Nat)*c) ((n:Int)-(i:Nat)) c) where
 mem:=by simp
 obj:=λi h st b a=>by
  obtain rfl:=wY.mp a;exact⟨_,st,λv z=>by cases (show Data.fields _=Data.cell v from z)⟩
 keep:=λi h h' st k=>k it 02 _ st
 item:=by
  intro X j l m p i pins s B H E I f st q;subst j l m;obtain⟨r,u,C,x,y,A⟩:=f it 02;refine(Walks.range (prog:=X.prog) (w:=X.w) (I.ok.hd p) it lo c n).item i s _ _ q st λv h' tk F d J=>?_
  obtain⟨t,rfl⟩:=F;have L:Inv X pins B H {s with heap:=h',toks:=tk}:=I.turned (λb o a e=>J b o (by simpa using a) e) r u x y A;exact⟨_,rfl,qfJ (s:={s with heap:=h',toks:=tk}) (n:="range_iterator") d rfl rfl 01 ⟨.int (lo+i*c),H,L,⟨t,rfl⟩,⟨rfl,rfl⟩,d,λb a=>(f b a).1⟩⟩
 done:=by
  intro X j l m p i pins s B H E I f st q;subst j l m;obtain⟨r,u,C,x,y,A⟩:=f it 02;exact wpAny_pyNext_range_end (I.ok.hd p) st (by have:n<=i:=q;omega) λh' M=>⟨rfl,I.turned (t':=s.toks) (λb o a e=>M b o a e) r u x y A⟩
 self:=λ_ _ _ _ _ st h=>wpAny_pyIter_rangeiter st h
theorem qkO{lo c:Int}{n:Nat}:ItOk ι H (ItS lo c n) ((List.range n).map λ(k:Nat)=>D.int (lo+k*c)) where
 go:=λi d a H2 s e=>by
  rw[wU]at e;cases z:(List.range n)[i]? with
  |none=>rw[z]at e;cases e
  |some k =>
   rw[z]at e;cases e;obtain⟨b,f⟩:=wP.mp z;simp only[List.length_range]at b;simp only[List.getElem_range]at f;subst f;refine⟨b,λy H3 h=>?_⟩;obtain⟨rfl,rfl⟩:=h;exact⟨Stp.refl _ _,λ_ z=>⟨z,rfl⟩⟩
 stop:=λa H2 s=>by
  show n<=_;simp
theorem i_rng{p:Pos}(r:Gl X "range")(hm:X.mg "range"=none)(ha:PA X (a::es) (TL f))(A:sE X a es)(h:bT X es pos):
  PI X tg (.Call (.Name "range" p) (a::es) [] pos) (TIt λρ S=>(f ρ S).bind λl S1=>ofO (rngD l) S1):=by
 intro pins s N H R I B;obtain⟨ι,S,ρ,C,st,q⟩:=B;dsimp only at q;cases z:f ρ S with
 |no=>rw[z]at q;exact q.elim
 |err=>rw[z]at q;exact q.elim
 |ok l S1 =>
  rw[z,Res.bind_ok]at q;cases z2:rngD l with
  |none=>rw[z2]at q;exact q.elim
  |some ds =>
   rw[z2]at q;refine thn (qgF r hm ha A h I C st z z2) λv s1 ⟨d,i,q1,j,E⟩=>?_
   obtain⟨x,y,c,t,u,w,O,rfl,F,m,J,sz,K⟩:=E;refine wpAny_pyIter_range F J ?_;refine⟨s1.heap.objs.size,[s1.heap.objs.size],_,ItS x c ds.length,i,rfl,m.kept (t':=s1.toks) λb o e=>wB _ e,qfd _ x c ds.length,?_,λb L=>?_,q d i _ q1 j (by rw[K];simpa using qkO (ι:=d) (H:=i) (lo:=x) (c:=c) (n:=ds.length))⟩
   .show IsRangeIter _ _ (x+((0:Nat):Int)*c) ((ds.length:Int)-((0:Nat):Int)) c
    have e1:x+((0:Nat):Int)*c=x:=by simp
    have M:(ds.length:Int)-((0:Nat):Int)=Builtin.Range.rangeSize x y c:=by rw[sz];simp
    rw[e1,M];exact wE _ rfl
   .obtain rfl:=wY.mp L
    exact m.fpOk (wG _) (m.hok.fresh (wG _))
theorem j9{a c:Int}:∀{b:Array Value} {n:Nat},ItemsOf (λi v=>∃t,v=.int (a+i*c) t) b n->Vals ((List.range n).map λ(k:Nat)=>V.int (a+k*c)) b.toList:=by
 intro b n h;obtain⟨e,f⟩:=h;apply qcg
 .simp [e]
 .intro i x u e1 j
  rw[wU]at e1;cases z:(List.range n)[i]? with
  |none=>rw[z]at e1;cases e1
  |some k =>
   rw[z]at e1;cases e1;obtain⟨l,d⟩:=wP.mp z;simp only[List.getElem_range]at d;subst d;obtain⟨t,rfl⟩:=f i u (by simpa using j);exact⟨t,rfl⟩
end
section
variable{prog:Program}{w:World}{A:Around}{E:Value->Shared->Prop}{s:Shared}
theorem qgG{a b c:Int}{n:Nat}(p:A.handled=none)(q:IsRange s.heap r a b c t u v)(x:Builtin.Range.small a b c=true)(hn:Builtin.Range.rangeSize a b c=n)(y:n<=2^24)(z:∀(h':Heap) (tk:Nat) (d:Array Value),(∀b o,s.heap.get? b=some o->h'.get? b=some o)->ItemsOf (λi v=>∃t,v=.int (a+i*c) t) d n->Q d.toList {s with heap:=h',toks:=tk}):wpAny 08 A (collect (.ref r)) Q E s:=by
 have f:∀R:Result->Shared->Prop,(∀(h':Heap) (tk:Nat) (d:Array Value) (h:Nat),(∀b o,s.heap.get? b=some o->h'.get? b=some o)->h'.get? s.heap.objs.size=some {cls:=.type "list",dict:=none,data:=.seq d h,slots:=#[]}->ItemsOf (λi v=>∃t,v=.int (a+i*c) t) d n ->
   R (.ok (.ret (.ref s.heap.objs.size))) {s with heap:=h',toks:=tk})->codeAny (model prog w) A (.builtin "proto.collect" ⟨[.ref r],[]⟩) R s:=by
  intro R B;refine wu xH ?_;rw[wc xG];refine wA (m:=newList []) (wR (wC ⟨vE uD _,wu xm ?_⟩));rw[wc uD];have C:(s.heap.push {cls:=.type "list",data:=.seq ([]:List Value).toArray}).get? s.heap.objs.size=some {cls:=.type "list",data:=.seq #[] 0}:=wE _ rfl;exact wpAny_extend_range (R:=R) (s:={s with heap:=s.heap.push {cls:=.type "list",data:=.seq ([]:List Value).toArray}}) p (wB _ q) x hn y s.heap.objs.size (.ref s.heap.objs.size) 0 C λh' tk d h j l hi =>
   B h' tk d h (λb o e=>j b o (wT (wF e)) (wB _ e)) l hi
 unfold collect;refine wA (x9 (f _ λh' tk d h j l hi=>?_));exact wA (m:=load s.heap.objs.size) (wpAny_load l (wC (z h' tk d j hi)))
theorem qiU{a b c:Int}{n:Nat}(p:A.handled=none)(j:IsRange s.heap r a b c t u v)(q:Builtin.Range.small a b c=true)(hn:Builtin.Range.rangeSize a b c=n)(l:n<=2^24)(x:∀(h':Heap) (tk:Nat) (d:Array Value),(∀b o,s.heap.get? b=some o->h'.get? b=some o)->ItemsOf (λi v=>∃t,v=.int (a+i*c) t) d n->Q (.ref h'.objs.size) {s with heap:=h'.push {cls:=.type "tuple",data:=.seq d},toks:=tk}):
  wpAny 08 A (call (.type "tuple") [.ref r]) Q E s:=by
 have new:codeAny 08 A.in1 (.call (.builtin "tuple.__new__") ⟨[.type "tuple",.ref r],[]⟩) (wants (λobj f=>f.TypeIs obj "tuple"/\Q obj f) E) s:=by
  refine gB (?_:wpAny _ A.in1.in1 (do checkBuiltinCall "tuple.__new__" ⟨[.type "tuple",.ref r],[]⟩;again (.builtin "tuple.__new__" ⟨[.type "tuple",.ref r],[]⟩)) _ _ s);refine wA (uj (F.newCall_tuple_1 _) (wC ⟨vE xl _,wu F.entry_tuple_new ?_⟩));rw[wc xl];have k1:=sub_tuple_self;have k2:=init_tuple_lookup;have k3:=madeHere_tuple;have y:s.TypeIs (.ref r) "range":=⟨_,j,rfl⟩;wp_walk using uk y,qgG (A:=A.in1.in1) p j q hn l;intro h' tk d z hi;refine wA (m:=Builtin.Tuple.tupleExact d.toList.toArray) ?_;unfold Builtin.Tuple.tupleExact;refine wR (wC ?_) (by
   have:d.toList.toArray.size<=sizeLine:=by rw[xP,hi.1];exact l
   exact this)
  have e:d.toList.toArray=d:=xP ..;rw[e];exact⟨⟨_,wE _ rfl,rfl⟩,x h' tk d z hi⟩
 refine callType_codes xC (F.typeCall_tuple_1 _) F.entry_object_init new λobj f h=>?_
 exact⟨h.1,F.args_object_init_2 obj _,object_init_meets xC.init.lookup xC.made 01 prog w A.in1 _ f ⟨h.1,rfl,h.2⟩⟩
end
section
variable{X:Cx}{pos:Pos}
noncomputable def mRng(k:Option Bool)(a:En->Sr->Res (List D)):En->Sr->Res D:=λρ S=>(a ρ S).bind λl S1=>match rngD l with
 |some ds=>if ds.length<=1000000 then(match k with
  |some m=>newL m ds S1
  |none=>.ok (.t ds) S1)else .no
 |none=>.no
theorem qiV{a c:Int}{n:Nat}:Dens ι H ((List.range n).map λ(k:Nat)=>D.int (a+k*c)) ((List.range n).map λ(k:Nat)=>V.int (a+k*c)):=by
 have:∀l:List Nat,Dens ι H (l.map λ(k:Nat)=>D.int (a+k*c)) (l.map λ(k:Nat)=>V.int (a+k*c)):=λl=>by
  induction l with
  |nil=>rfl
  |cons x r b=>exact⟨_,_,rfl,rfl,b⟩
 exact this _
theorem qmH{p1 U h:Pos}(C:(f=Str.ofString "list"/\ty="list"/\∃m,k=some m)\/(f=Str.ofString "tuple"/\ty="tuple"/\k=none))(W:X.calm=true)(hg:Gl X "range")(hm:X.mg "range"=none)(F:Gl X f)(J:X.mg f=none)(ha:PA X (a::es) (TL E))(hs:sE X a es)(K:(backTo h (starEach es X.env)).any (·.1)=false):
  PE X (.Call (.Name f p1) [.Call (.Name "range" U) (a::es) [] h] [] pos) (T (mRng k E)):=by
 intro pins s σ H Q I hw;have hb:bootBuiltins f=some (.type ty):=by
  rcases C with ⟨rfl,rfl,_⟩|⟨rfl,rfl,_⟩ <;> decide +kernel
 have hn:f≠"__name__":=by rcases C with ⟨rfl,rfl,_⟩|⟨rfl,rfl,_⟩ <;> decide
 have hd:(f == ("__debug__":Str))=false:=by rcases C with ⟨rfl,rfl,_⟩|⟨rfl,rfl,_⟩ <;> decide
 refine Call_ (zT I F J hb ?_ hn hd);obtain⟨ι,S,ρ,er,st,q⟩:=hw;dsimp only[mRng]at q;cases z:E ρ S with
 |no=>rw[z]at q;exact q.elim
 |err=>rw[z]at q;exact q.elim
 |ok l S1 =>
  rw[z,Res.bind_ok]at q;cases z2:rngD l with
  |none=>simp only[z2]at q;exact q.elim
  |some ds =>
   simp only[z2]at q;by_cases i:ds.length<=1000000
   .rw [wM i]at q
    refine vY (e:=.Call (.Name "range" U) (a::es) [] h) (rest:=[]) ?_ rfl rfl;refine uI (thn (qgF hg hm ha hs K I er st z z2) λv s1 ⟨p,r,q1,A,ra⟩=>ua ?_);obtain⟨x,y,c,t,u,w,pp,rfl,Y,L,Z,sz,ed⟩:=ra;have M:r s1.heap.objs.size=none:=L.hok.fresh (wG _);have dd:Dens p r ds ((List.range ds.length).map λ(k:Nat)=>V.int (x+k*c)):=by
     have:=qiV (ι:=p) (H:=r) (a:=x) (c:=c) (n:=ds.length)
     rwa [<-ed]at this
    have d:ds.length<=2^24:=vG i 01;rcases C with ⟨rfl,rfl,e⟩|⟨rfl,rfl,e⟩
    .obtain ⟨m,rfl⟩:=e
     .refine call_list_range (I.ok.hd W) Y Z sz d λh' tk j c' N hS hi=>?_
      exact⟨.ref _,_,L.laid (o:=.l ((List.range ds.length).map λ(k:Nat)=>V.int (x+k*c))) (t':=tk) N (wG _) ⟨by simp;exact d,j.toList,c',j9 hi,by rw[hS]⟩,rfl,zo A dd (Pst.from q q1) _ M⟩
    .subst e
     .refine qiU (I.ok.hd W) Y Z sz d λh' tk j N hi=>?_
      have I2:=L.kept (h':=h') (t':=tk) N;have B:r h'.objs.size=none:=I2.hok.fresh (wG _);refine⟨.ref _,upd r h'.objs.size (.t _),I2.laid (t':=tk) (λb o e=>wB _ e) (wG _) ⟨by simp;exact d,j.toList,j9 hi,⟨_,wE _ rfl,rfl,0,by simp⟩,λo q=>by rw[wE _ rfl]at q;cases q;rfl⟩,rfl,zq A dd ?_ _ B⟩;exact λv O H' s' P dv=>q v O H' (q1.trans s') P dv
   .rw [wN i]at q;exact q.elim
end
def SI(b:Bool)(h:Heap)(it l:Addr)(k:Nat):Prop:=match b with
 |true=>h.IsTupleIter it l k
 |false=>h.IsListIter it l k
def SQ(b:Bool)(h:Heap)(l:Addr)(xs:Array Value):Prop:=match b with
 |true=>h.IsTuple l xs
 |false=>h.IsList l xs
def SI.at{h h':Heap}{k:Nat}(x:SI b h it l k)(e:∀o,h.get? it=some o->h'.get? it=some o):SI b h' it l k:=by
 cases b with
 |true=>exact Heap.IsTupleIter.at x e
 |false=>exact Heap.IsListIter.at x e
def SQ.at{h h':Heap}(x:SQ b h l xs)(e:∀o,h.get? l=some o->h'.get? l=some o):SQ b h' l xs:=by
 cases b with
 |true=>exact Heap.IsTuple.at x e
 |false=>exact Heap.IsList.at x e
def SI.obj{k:Nat}(x:SI b h it l k):∃o,h.get? it=some o/\(∀v,o.data≠.cell v):=by
 cases b with
 |true=>obtain⟨o,e,_,d⟩:=x;exact⟨o,e,λv z=>by rw[d]at z;cases z⟩
 |false=>obtain⟨o,e,_,d⟩:=x;exact⟨o,e,λv z=>by rw[d]at z;cases z⟩
section
variable{prog:Program}{w:World}{A:Around}{E:Value->Shared->Prop}{s:Shared}
theorem qgH{i:Nat}(hi:s.heap.IsTupleIter it l i)(c:s.heap.IsTuple l xs)(hx:xs[i]?=some x)(e:∀h',h'.IsTupleIter it l (i+1)->Heap.SameBut it s.heap h'->Q x {s with heap:=h' }):wpAny 08 A (Builtin.SmallTypes.nextOf (.ref it)) Q E s:=by
 have b:=hi.typeIs;obtain⟨o,a,co,d⟩:=hi;obtain⟨u,eu,_,m,f⟩:=c;unfold Builtin.SmallTypes.nextOf;refine wA (wb (name:=Str.ofString "__next__") b ud (we ud b F.entry_tuple_iterator_next ?_ (F.args_tuple_iterator_next_1 _)));refine wA (m:=field (.ref it) 0) (vF a d (x:=.ref l) rfl (?_:wpAny _ _ (if(Value.ref l == Value.none)=true then _ else _) _ _ s));rw[wN (show ¬((Value.ref l == Value.none)=true)from wZ)];refine wA (m:=field (.ref it) 1) (vF a d (x:=.int i 0) rfl ?_);refine wA (m:=seqItems? (.ref l)) (vk eu f ?_);simp only[uC,hx];refine wA (vK a d 02 (wC ⟨x,rfl,wC (e _ ⟨_,w9 _ a (vV (wp d _)),(xA ..).trans co,?_⟩ (Heap.SameBut.update ..))⟩));rw[wp d];simp[rawInt]
theorem qbp{i:Nat}(f:A.handled=none)(hi:s.heap.IsTupleIter it l i)(h:s.heap.IsTuple l xs)(hx:xs[i]?=none)(j:∀h' e,Heap.ExtBut it s.heap h'->(∃o,h'.get? e=some o/\o.cls=.type "StopIteration")->E (.ref e) {s with heap:=h' }):wpAny 08 A (Builtin.SmallTypes.nextOf (.ref it)) Q E s:=by
 have c:=hi.typeIs;obtain⟨o,b,co,d⟩:=hi;obtain⟨u,eu,_,m,n⟩:=h;unfold Builtin.SmallTypes.nextOf;refine wA (wb (name:=Str.ofString "__next__") c ud (we ud c F.entry_tuple_iterator_next ?_ (F.args_tuple_iterator_next_1 _)));refine wA (m:=field (.ref it) 0) (vF b d (x:=.ref l) rfl (?_:wpAny _ _ (if(Value.ref l == Value.none)=true then _ else _) _ _ s));rw[wN (show ¬((Value.ref l == Value.none)=true)from wZ)];refine wA (m:=field (.ref it) 1) (vF b d (x:=.int i 0) rfl ?_);refine wA (m:=seqItems? (.ref l)) (vk eu n ?_);simp only[uC,hx];refine wA (uB (wA (vK b d 02 (?_:wpAny _ _ (newExc (.type "StopIteration") [] >>= _) _ _ _))));refine wA ?_;unfold newExc newTuple;refine wA (wR (wA (uj (t:=firstArgMember _ _) (a:=Value.none) (by first|rfl|(simp only[firstArgMember];rfl)) (wR ?_ (by size_fits)))) (by size_fits));unfold raiseNew;refine wA (xo ?_);rw[show A.in1.handled=none from f];exact wA (wC (wpAny_throw (j _ _ (((Heap.SameBut.update ..).extBut.push _).push _) ⟨_,wE _ rfl,rfl⟩)))
theorem draw{i:Nat}(hi:SI b s.heap it l i)(a:SQ b s.heap l xs)(hx:xs[i]?=some x)(c:∀h',SI b h' it l (i+1)->Heap.SameBut it s.heap h'->Q x {s with heap:=h' }):wpAny 08 A (Builtin.SmallTypes.nextOf (.ref it)) Q E s:=by
 cases b with
 |true=>exact qgH hi a hx c
 |false=>exact wpAny_nextOf_list_item hi a hx c
theorem qch{i:Nat}(a:A.handled=none)(hi:SI b s.heap it l i)(c:SQ b s.heap l xs)(hx:xs[i]?=none)(d:∀h' e,Heap.ExtBut it s.heap h'->(∃o,h'.get? e=some o/\o.cls=.type "StopIteration")->E (.ref e) {s with heap:=h' }):wpAny 08 A (Builtin.SmallTypes.nextOf (.ref it)) Q E s:=by
 cases b with
 |true=>exact qbp a hi c hx d
 |false=>exact wpAny_nextOf_list_end a hi c hx d
structure ZA (z TI TO i j l m:Addr):Prop where
 zTI:TI≠z
 zTO:TO≠z
 zi:i≠z
 zj:j≠z
 TT:TI≠TO
 TIi:TI≠i
 TIj:TI≠j
 TOi:TO≠i
 TOj:TO≠j
 ij:i≠j
 lz:l≠z
 lT:l≠TO
 li:l≠i
 lj:l≠j
 mz:m≠z
 mT:m≠TO
 mi:m≠i
 mj:m≠j
structure ZS (b c:Bool) (h:Heap) (z TI TO i j l m:Addr) (k:Nat) (xs ys:Array Value) (f:Value):Prop where
 z:IsZip h z TI TO f
 ti:IsPair h TI (.ref i) (.ref j)
 to':∃a d,IsPair h TO a d
 i1:SI b h i l k
 i2:SI c h j m k
 q1:SQ b h l xs
 q2:SQ c h m ys
variable{b c:Bool}{z TI TO i j l m:Addr}{k:Nat}{xs ys:Array Value}
theorem qkP(D:ZA z TI TO i j l m)(st:ZS b c s.heap z TI TO i j l m k xs ys .none)(hx:xs[k]?=some x)(Y:ys[k]?=some y)(Z:∀h',ZS b c h' z TI TO i j l m (k+1) xs ys (rawInt s.heap.objs.size)->IsPair h' s.heap.objs.size x y->(∀a o,a≠z->a≠TO->a≠i->a≠j->s.heap.get? a=some o->h'.get? a=some o)->Q (some (.ref s.heap.objs.size)) {s with heap:=h' }):
  wpAny 08 A (pyNext (.ref z)) Q E s:=by
 obtain⟨oz,ti,⟨t0,t1,to'⟩,i1,i2,q1,q2⟩:=st;have M:s.TypeIs (.ref z) "zip":=⟨_,oz,rfl⟩;unfold pyNext;refine wA (vX (wb (name:=Str.ofString "__next__") M gF (we gF M F.entry_zip_next ?_ (F.args_zip_next_1 _))));refine wA (m:=field (.ref z) 2) (vF oz rfl (x:=.bool false) rfl (wA (m:=field (.ref z) 3) (vF oz rfl (x:=.ref TI) rfl (wA (vk ti rfl ?_)))));refine wA (m:=Builtin.SmallTypes.ownedTupleIsFree (.ref z)) ?_;unfold Builtin.SmallTypes.ownedTupleIsFree;refine wA (vF oz rfl (x:=.none) rfl (wC ?_));simp only[vo];refine wA (uB (wA (vF oz rfl (x:=.ref TO) rfl (wA (uY oz 02 λh1 z1 b1=>?_)))));have C:IsZip h1 z TI TO .ellipsis:=z1;refine wA ?_;simp only[List.zipIdx_cons,List.zipIdx_nil,u5,List.forIn_nil];refine wA (wA (wpAny_onRaise (wA (m:=Builtin.SmallTypes.nextOf (.ref i)) ?_)));refine draw (i1.at λo e=>b1.extBut _ o D.zi e) (q1.at λo e=>b1.extBut _ o D.lz e) hx λh2 H b2=>wC ?_
 have N:IsPair h2 TO t0 t1:=b2.extBut _ _ D.TOi (b1.extBut _ _ D.zTO to');refine wA (vk N rfl (wA (gH N λh3 o3 f=>wA (xT (wC ?_)))));have I:IsPair h3 TO x t1:=o3;refine wA (wA (wpAny_onRaise (wA (m:=Builtin.SmallTypes.nextOf (.ref j)) ?_)));refine draw (i2.at λo e=>f.extBut _ o D.TOj.symm (b2.extBut _ o D.ij.symm (b1.extBut _ o D.zj e))) (q2.at λo e=>f.extBut _ o D.mT (b2.extBut _ o D.mi (b1.extBut _ o D.mz e))) Y λh4 i4 h=>wC ?_
 have O:IsPair h4 TO x t1:=h.extBut _ _ D.TOj I;refine wA (vk O rfl (wA (gH O λd o5 p=>wA (xT (wC (wC ?_))))));have q:IsPair d TO x y:=o5;refine wA (vk q rfl (wA (wpAny_newTuple ?_)));have sz:d.objs.size=s.heap.objs.size:=by rw[p.1,h.1,f.1,b2.1,b1.1]
 have P:IsZip d z TI TO .ellipsis:=p.extBut _ _ D.zTO.symm (h.extBut _ _ D.zj.symm (f.extBut _ _ D.zTO.symm (b2.extBut _ _ D.zi.symm C)));have k5:∀a o,a≠z->a≠TO->a≠i->a≠j->s.heap.get? a=some o->d.get? a=some o:=λa o v B J K e=>p.extBut _ _ B (h.extBut _ _ K (f.extBut _ _ B (b2.extBut _ _ J (b1.extBut _ _ v e))))
 have S:z<d.objs.size:=wF P;refine wA (m:=Builtin.SmallTypes.ownedTupleHandOut (.ref z) (.ref d.objs.size)) ?_;unfold Builtin.SmallTypes.ownedTupleHandOut;have z6:IsZip (d.push {cls:=.type "tuple",data:=.seq #[x,y]}) z TI TO .ellipsis:=wB _ P;refine wA (uY z6 02 λh7 z7 U=>?_);have L:IsZip h7 z TI TO (rawInt d.objs.size):=z7;refine uY L 02 λr z8 W=>?_
 have u:IsZip r z TI TO (rawInt d.objs.size):=z8;have up:∀a o,a≠z->d.get? a=some o->r.get? a=some o:=λa o n e=>W.extBut _ _ n (U.extBut _ _ n (wB _ e))
 have X:IsPair r d.objs.size x y:=W.extBut _ _ (w1 S) (U.extBut _ _ (w1 S) (wE _ rfl));rw[sz]at u X;refine wC ⟨_,rfl,wC ?_⟩;have all:∀a o,a≠z->a≠TO->a≠i->a≠j->s.heap.get? a=some o->r.get? a=some o:=λa o v B J K e=>up a o v (k5 a o v B J K e)
 have fin:=Z r ⟨u,all _ _ D.zTI D.TT D.TIi D.TIj ti,⟨_,_,up _ _ D.zTO q⟩,H.at λo e=>up _ o D.zi (p.extBut _ o D.TOi.symm (h.extBut _ o D.ij (f.extBut _ o D.TOi.symm e))),i4.at λo e=>up _ o D.zj (p.extBut _ o D.TOj.symm e),
  q1.at λo e=>all _ o D.lz D.lT D.li D.lj e,q2.at λo e=>all _ o D.mz D.mT D.mi D.mj e⟩ X all
 rw[<-sz]at fin;exact fin
theorem qiW(B:A.handled=none)(D:ZA z TI TO i j l m)(st:ZS b c s.heap z TI TO i j l m k xs ys .none)(hx:xs[k]?=none\/ys[k]?=none)(N:∀h',(∀a o,a≠z->a≠TO->a≠i->a≠j->s.heap.get? a=some o->h'.get? a=some o)->Q none {s with heap:=h' }):wpAny 08 A (pyNext (.ref z)) Q E s:=by
 obtain⟨oz,ti,⟨O,t1,to'⟩,i1,i2,q1,q2⟩:=st;have C:s.TypeIs (.ref z) "zip":=⟨_,oz,rfl⟩;have d:∀(h':Heap) (e:Addr),(∀a o,a≠z->a≠TO->a≠i->a≠j->s.heap.get? a=some o->h'.get? a=some o)->(∃o,h'.get? e=some o/\o.cls=.type "StopIteration") ->
   wpAny 08 A (do if <-isInstance (.ref e) (.type "StopIteration")then pure none else throw (Value.ref e)) Q E {s with heap:=h' }:=λh' e P ⟨o,S,U⟩ =>
  wA (vn (T:="StopIteration") (b:=true) ⟨o,S,U⟩ xb (wC (N h' P)))
 unfold pyNext;refine wA (vX (wb (name:=Str.ofString "__next__") C gF (we gF C F.entry_zip_next ?_ (F.args_zip_next_1 _))));refine wA (m:=field (.ref z) 2) (vF oz rfl (x:=.bool false) rfl (wA (m:=field (.ref z) 3) (vF oz rfl (x:=.ref TI) rfl (wA (vk ti rfl ?_)))));refine wA (m:=Builtin.SmallTypes.ownedTupleIsFree (.ref z)) ?_;unfold Builtin.SmallTypes.ownedTupleIsFree;refine wA (vF oz rfl (x:=.none) rfl (wC ?_));simp only[vo];refine wA (uB (wA (vF oz rfl (x:=.ref TO) rfl (wA (uY oz 02 λW X b1=>?_)))));have n:IsZip W z TI TO .ellipsis:=X;refine wA ?_;simp only[List.zipIdx_cons,List.zipIdx_nil,u5,List.forIn_nil];refine wA (wA (wpAny_onRaise (wA (m:=Builtin.SmallTypes.nextOf (.ref i)) ?_)));cases ex:xs[k]? with
 |none =>
  refine qch B (i1.at λo e=>b1.extBut _ o D.zi e) (q1.at λo e=>b1.extBut _ o D.lz e) ex λu e b2 ⟨v,f,p⟩=>?_
  have H:IsZip u z TI TO .ellipsis:=b2 _ _ D.zi.symm n;have ne:e≠z:=λq=>by subst q;rw[H]at f;cases f;simp at p
  exact uY H 02 λI _ h=>d I e (λa o r _ y _ q=>h.extBut _ _ r (b2 _ _ y (b1.extBut _ _ r q))) ⟨v,h.extBut _ _ ne f,p⟩
 |some x =>
  have Y:ys[k]?=none:=by
   rcases hx with q|q
   .rw [ex]at q;cases q
   .exact q
  refine draw (i1.at λo e=>b1.extBut _ o D.zi e) (q1.at λo e=>b1.extBut _ o D.lz e) ex λu Z b2=>wC ?_
  have J:IsPair u TO O t1:=b2.extBut _ _ D.TOi (b1.extBut _ _ D.zTO to');refine wA (vk J rfl (wA (gH J λI o3 h=>wA (xT (wC ?_)))));refine wA (wA (wpAny_onRaise (wA (m:=Builtin.SmallTypes.nextOf (.ref j)) ?_)));refine qch B (i2.at λo e=>h.extBut _ o D.TOj.symm (b2.extBut _ o D.ij.symm (b1.extBut _ o D.zj e))) (q2.at λo e=>h.extBut _ o D.mT (b2.extBut _ o D.mi (b1.extBut _ o D.mz e))) Y λh4 e K ⟨v,f,p⟩=>?_
  have L:IsZip h4 z TI TO .ellipsis:=K _ _ D.zj.symm (h.extBut _ _ D.zTO.symm (b2.extBut _ _ D.zi.symm n));have ne:e≠z:=λq=>by subst q;rw[L]at f;cases f;simp at p
  exact uY L 02 λh5 _ M=>d h5 e (λa o r n2 y n4 q=>M.extBut _ _ r (K _ _ n4 (h.extBut _ _ n2 (b2.extBut _ _ y (b1.extBut _ _ r q))))) ⟨v,M.extBut _ _ ne f,p⟩
end
noncomputable def siO(b:Bool)(l:Addr):Obj:=match b with
 |true=>{cls:=.type "tuple_iterator",data:=.fields #[.ref l,.int 0 0]}
 |false=>{cls:=.type "list_iterator",data:=.fields #[.ref l,.int 0 0]}
def qgI{h:Heap}:SI b (h.push (siO b l)) h.objs.size l 0:=by
 cases b with
 |true=>exact⟨_,wE _ rfl,rfl,rfl⟩
 |false=>exact⟨_,wE _ rfl,rfl,rfl⟩
section
variable{prog:Program}{w:World}{A:Around}{E:Value->Shared->Prop}{s:Shared}
theorem qci(a:SQ b s.heap l xs)(c:Q (.ref s.heap.objs.size) {s with heap:=s.heap.push (siO b l)}):wpAny 08 A (pyIter (.ref l)) Q E s:=by
 cases b with
 |true=>exact xY a c
 |false=>exact wpAny_pyIter_list a c
end
noncomputable def zh1(b:Bool)(h:Heap)(l:Addr):Heap:=h.push (siO b l)
noncomputable def zh2(b c:Bool)(h:Heap)(l m:Addr):Heap:=(zh1 b h l).push (siO c m)
noncomputable def zh3(b c:Bool)(h:Heap)(l m:Addr):Heap:=(zh2 b c h l m).push {cls:=.type "tuple",data:=.seq #[.ref h.objs.size,.ref (zh1 b h l).objs.size]}
noncomputable def zh4(b c:Bool)(h:Heap)(l m:Addr):Heap:=(zh3 b c h l m).push {cls:=.type "tuple",data:=.seq #[.none,.none]}
noncomputable def zh5(b c:Bool)(h:Heap)(l m:Addr):Heap:=(zh4 b c h l m).push {cls:=.type "zip",data:=.fields #[.none,.bool false,.bool false,.ref (zh2 b c h l m).objs.size,.ref (zh3 b c h l m).objs.size]}
def qiX(b c:Bool)(l m:Addr)(xs ys:Array Value):Meets (Builtin.«zip.__new__» ⟨[.type "zip",.ref l,.ref m],[]⟩) (λ_ R s=>SQ b s.heap l xs/\SQ c s.heap m ys/\R (.ok (.ret (.ref (zh4 b c s.heap l m).objs.size))) {s with heap:=zh5 b c s.heap l m}) :=
 .of_wp λprog w A R s h=>by
  obtain⟨a,g,d,tk,os⟩:=s;obtain⟨f,i,h⟩:=h;have k0:=sub_zip;have e1:SQ b (Shared.heap ⟨a,g,d,tk,os⟩) l xs:=f;have j:SQ c (Shared.heap ⟨a.push (siO b l),g,d,tk,os⟩) m ys:=SQ.at i λo e=>wB _ e
  wp_walk using qci e1,qci j;exact⟨_,rfl,h⟩
section
variable{prog:Program}{w:World}{A:Around}{E:Value->Shared->Prop}{s:Shared}
theorem qgJ(n:SQ b s.heap l xs)(p:SQ c s.heap m ys)(h:∀h':Heap,ZS b c h' (s.heap.objs.size+4) (s.heap.objs.size+2) (s.heap.objs.size+3) s.heap.objs.size (s.heap.objs.size+1) l m 0 xs ys .none->(∀a o,s.heap.get? a=some o->h'.get? a=some o)->Q (.ref (s.heap.objs.size+4)) {s with heap:=h' }):
  wpAny 08 A (call (.type "zip") [.ref l,.ref m]) Q E s:=by
 have d:(zh1 b s.heap l).objs.size=s.heap.objs.size+1:=ww ..;have f:(zh2 b c s.heap l m).objs.size=s.heap.objs.size+2:=by unfold zh2;rw[ww,d]
 have i:(zh3 b c s.heap l m).objs.size=s.heap.objs.size+3:=by unfold zh3;rw[ww,f]
 have r:(zh4 b c s.heap l m).objs.size=s.heap.objs.size+4:=by unfold zh4;rw[ww,i]
 have kp:∀a o,s.heap.get? a=some o->(zh5 b c s.heap l m).get? a=some o:=λa o e=>by
  unfold zh5 zh4 zh3 zh2 zh1;exact wB _ (wB _ (wB _ (wB _ (wB _ e))))
 have j:IsZip (zh5 b c s.heap l m) (zh4 b c s.heap l m).objs.size (zh2 b c s.heap l m).objs.size (zh3 b c s.heap l m).objs.size .none:=wE _ rfl;have u:IsPair (zh5 b c s.heap l m) (zh3 b c s.heap l m).objs.size .none .none:=by
  have q:(zh4 b c s.heap l m).get? (zh3 b c s.heap l m).objs.size=some _:=wE _ rfl;exact wB _ q
 have v:IsPair (zh5 b c s.heap l m) (zh2 b c s.heap l m).objs.size (.ref s.heap.objs.size) (.ref (zh1 b s.heap l).objs.size):=by
  have q:(zh3 b c s.heap l m).get? (zh2 b c s.heap l m).objs.size=some _:=wE _ rfl;exact wB _ (wB _ q)
 have i2:SI c (zh5 b c s.heap l m) (zh1 b s.heap l).objs.size m 0:=SI.at (qgI (b:=c) (h:=zh1 b s.heap l) (l:=m)) λo e=>wB _ (wB _ (wB _ e))
 have i1:SI b (zh5 b c s.heap l m) s.heap.objs.size l 0:=SI.at (qgI (b:=b) (h:=s.heap) (l:=l)) λo e=>wB _ (wB _ (wB _ (wB _ e)))
 refine callType_new F.called_zip 01 (F.typeCall_zip_2 _ _) (F.newCall_zip_2 _ _) (λobj=>F.args_object_init_3 obj _ _) F.entry_zip_new (qiX b c l m xs ys) ⟨n,p,?_⟩;rw[r,i,f]at j;rw[i]at u;rw[f,d]at v;rw[d]at i2;rw[r];exact⟨⟨_,j,rfl⟩,h _ ⟨j,v,⟨_,_,u⟩,i1,i2,n.at λo e=>kp _ o e,p.at λo e=>kp _ o e⟩ kp⟩
end
def SqB(b:Bool)(K:07)(H:Hp)(l:Addr)(xs:List V):Prop:=match b with
 |true=>SqT K H l xs
 |false=>SqL K H l xs
noncomputable def ItZ(K:07)(b c:Bool)(l m:Addr):It:=⟨λi H=>∃xs ys u v,SqB b K H l xs/\SqB c K H m ys/\xs[i]?=some u/\ys[i]?=some v,
 λi H x H'=>∃p u v,x=.ref p/\H p=none/\H'=upd H p (.t [u,v])/\(∀xs,SqB b K H l xs->xs[i]?=some u)/\∀ys,SqB c K H m ys->ys[i]?=some v,λi H=>∃xs ys,SqB b K H l xs/\SqB c K H m ys/\(xs.length<=i\/ys.length<=i)⟩
section
variable{X:Cx}{pos:Pos}
theorem jv(I:Inv X pins c H s)(h:SqB b X.K H l xs):∃a:List Value,Vals xs a/\SQ b s.heap l a.toArray:=by
 cases b with
 |true=>obtain⟨a,r,p,_⟩:=I.tuple h;exact⟨a,r,p⟩
 |false=>obtain⟨a,r,p,_⟩:=I.list h;exact⟨a,r,p.isList⟩
theorem qd0(I:Inv X pins a H s)(h:SqB b X.K H l xs)(h':SqB b X.K H l ys):xs=ys:=by
 cases b with
 |true=>exact I.tuple_inj h h'
 |false=>exact I.list_inj h h'
def ztn(b c:Bool)(z TI TO i j l m:Addr)(k:Nat)(h:Heap):Prop:=IsZip h z TI TO .none/\IsPair h TI (.ref i) (.ref j)/\(∃a d,IsPair h TO a d)/\SI b h i l k/\SI c h j m k
theorem qgK{P:Program}{w:World}{K:07}{es:List Expr}{n:Nat}{tp:Pos}{b c:Bool}{z TI TO i j l m:Addr}(D:ZA z TI TO i j l m):Turn P w K (.Tuple es n tp) (ItZ K b c l m) [z,TI,TO,i,j] z (ztn b c z TI TO i j l m) where
 mem:=by simp
 obj:=λk h ⟨U,A,⟨a,d,Y⟩,Z,h5⟩ x hx=>by
  simp only[wQ,vO,xB]at hx;rcases hx with rfl|rfl|rfl|rfl|rfl
  .exact ⟨_,U,λv q=>by cases (show Data.fields _=Data.cell v from q)⟩
  .exact ⟨_,A,λv q=>by cases (show Data.seq _ _=Data.cell v from q)⟩
  .exact ⟨_,Y,λv q=>by cases (show Data.seq _ _=Data.cell v from q)⟩
  .exact Z.obj
  .exact h5.obj
 keep:=λk h h' ⟨U,A,⟨a,d,Y⟩,Z,h5⟩ kp=>⟨kp z 02 _ U,kp TI 02 _ A,⟨a,d,kp TO 02 _ Y⟩,Z.at λo e=>kp i 02 o e,h5.at λo e=>kp j 02 o e⟩
 item:=by
  intro X hP hw hK hc k pins s σ H E I p st hg;subst hP hw hK;obtain⟨xs,ys,u,v,hx,N,eu,ev⟩:=hg;obtain⟨s1,s2,O,Q,S⟩:=st;obtain⟨F,rx,qx⟩:=jv I hx;obtain⟨J,ry,qy⟩:=jv I N;obtain⟨x,ex,a0⟩:=rx.get eu;obtain⟨y,ey,a1⟩:=ry.get ev;refine qkP D ⟨s1,s2,O,Q,S,qx,qy⟩ (by simpa using ex) (by simpa using ey) λh' zs pr kp=>⟨_,rfl,?_⟩
  obtain⟨t1,t2,t3,t4,t5,t6,t7⟩:=zs;refine wpAny_letOwnedTupleGo_zip (s:={s with heap:=h' }) t1 λA z2 b2=>?_
  have L:H s.heap.objs.size=none:=I.hok.fresh (wG _);have nz:s.heap.objs.size≠z:=w1 (wF s1);have all:∀a o,a∉[z,TI,TO,i,j]->s.heap.get? a=some o->A.get? a=some o:=λa o f e=>by
   simp only[wQ,vO,xB,not_or]at f;exact b2.extBut _ _ f.1 (kp a o f.1 f.2.2.1 f.2.2.2.1 f.2.2.2.2 e)
  have ne:∀a o,s.heap.get? a=some o->a≠s.heap.objs.size:=λa o e=>wT (wF e)
  have nt:∀{a:Addr} {q:HO},H a=some q->a∉[z,TI,TO,i,j]:=λ{a q} e hm=>by rw[(p a hm).1]at e;cases e
  have M:∀{a:Addr} {q:HO},H a=some q->a≠s.heap.objs.size:=λ{a q} e z'=>by subst z';rw[L]at e;cases e
  have B:HOk X.prog X.w (upd H s.heap.objs.size (.t [u,v])) A:=λa q e=>by
   by_cases qa:a=s.heap.objs.size
   .subst qa
    rw[qA]at e;cases e;exact⟨(show(2:Nat)<=sizeLine by decide),[x,y],.cons a0 (.cons a1 .nil),⟨_,b2.extBut _ _ nz pr,rfl,0,rfl⟩,λo q=>by rw[b2.extBut _ _ nz pr]at q;cases q;rfl⟩
   .rw [qk qa]at e
    refine(I.hok a q e).stay (λd o hd eo=>all d o ?_ eo) (λd e'=>by rw[qk (M e')];exact e') λd xs e'=>by rw[qk (M e')];exact e'
    rcases hd with C|C
    .subst C;exact nt e
    .exact nt C
  have I2:Inv X pins σ (upd H s.heap.objs.size (.t [u,v])) {s with heap:=A}:=by
   refine I.step (g':=s.gens) (d':=s.drawn) (t':=s.toks) (ch:=[z,TI,TO,i,j]) (λa ha=>⟨(p a ha).2.2.2.1,(p a ha).2.1,(p a ha).2.2.2.2.1,(p a ha).2.2.2.2.2⟩) (λa o _ _ f e _=>all a o f e) (λa o _ _ f e _=>⟨o.slots,all a o f e⟩)
    (λa o _ e n=>by rw[qk (ne a o e)];exact n) (λa o f e=>⟨o,all a o f e⟩) (λa xs e=>by rw[qk (M e)];exact e) (λa o q e=>by rw[qk (M e)];exact e) (λa ps e=>⟨#[],by rw[qk (M e),e];simp⟩) (λmm hm=>?_) B I.bare.self
   obtain⟨o,es,ep,ho,r⟩:=hm;exact⟨o,es,ep,all _ o (λq=>(p _ q).2.1 rfl) ho,r⟩
  refine⟨.ref s.heap.objs.size,_,I2,rfl,⟨_,u,v,rfl,L,rfl,λa3 q=>by rw[qd0 I q hx];exact eu,λa4 q=>by rw[qd0 I q N];exact ev⟩,⟨z2,b2.extBut _ _ D.zTI t2,?_,t4.at λo e=>b2.extBut _ o D.zi e,t5.at λo e=>b2.extBut _ o D.zj e⟩,λa ha=>?_⟩
  .obtain ⟨a,d,t3⟩:=t3
   exact⟨a,d,b2.extBut _ _ D.zTO t3⟩
  .rw [qk]
   .exact (p a ha).1
   .intro q
    have:∃o,s.heap.get? a=some o:=by
     obtain⟨a',d',a2⟩:=O;simp only[wQ,vO,xB]at ha;rcases ha with rfl|rfl|rfl|rfl|rfl
     .exact ⟨_,s1⟩
     .exact ⟨_,s2⟩
     .exact ⟨_,a2⟩
     .exact ⟨_,Q.obj.choose_spec.1⟩
     .exact ⟨_,S.obj.choose_spec.1⟩
    obtain⟨o,e⟩:=this;exact ne a o e q
 done:=by
  intro X hP hw hK hc k pins s σ H E I p st hg;subst hP hw hK;obtain⟨xs,ys,hx,N,hl⟩:=hg;obtain⟨s1,s2,O,Q,S⟩:=st;obtain⟨F,rx,qx⟩:=jv I hx;obtain⟨J,ry,qy⟩:=jv I N;have hn:F.toArray[k]?=none\/J.toArray[k]?=none:=by
   rcases hl with q|q
   .left;simp;rw[<-rx.length];exact q
   .right;simp;rw[<-ry.length];exact q
  refine qiW (I.ok.hd hc) D ⟨s1,s2,O,Q,S,qx,qy⟩ hn λh' kp=>⟨rfl,?_⟩
  have nt:∀{a:Addr} {q:HO},H a=some q->a∉[z,TI,TO,i,j]:=λ{a q} e hm=>by rw[(p a hm).1]at e;cases e
  have all:∀a o,a∉[z,TI,TO,i,j]->s.heap.get? a=some o->h'.get? a=some o:=λa o f e=>by
   simp only[wQ,vO,xB,not_or]at f;exact kp a o f.1 f.2.2.1 f.2.2.2.1 f.2.2.2.2 e
  have B:HOk X.prog X.w H h':=λa q e=>by
   refine(I.hok a q e).stay (λd o hd eo=>all d o ?_ eo) (λd e'=>e') λd xs e'=>e'
   rcases hd with C|C
   .subst C;exact nt e
   .exact nt C
  refine I.step (g':=s.gens) (d':=s.drawn) (t':=s.toks) (ch:=[z,TI,TO,i,j]) (λa ha=>⟨(p a ha).2.2.2.1,(p a ha).2.1,(p a ha).2.2.2.2.1,(p a ha).2.2.2.2.2⟩) (λa o _ _ f e _=>all a o f e) (λa o _ _ f e _=>⟨o.slots,all a o f e⟩)
   (λa o _ e n=>n) (λa o f e=>⟨o,all a o f e⟩) (λa xs e=>e) (λa o q e=>e) (λa ps e=>⟨#[],by rw[e];simp⟩) (λmm hm=>?_) B I.bare.self
  obtain⟨o,es,ep,ho,r⟩:=hm;exact⟨o,es,ep,all _ o (λq=>(p _ q).2.1 rfl) ho,r⟩
 self:=λ_ _ _ _ _ st h=>wpAny_pyIter_zip st.1 h
end
section
variable{X:Cx}{pos:Pos}
theorem qaR(e:walkF d=some l)(h:Den ι H d v):∃b a xs,v=.ref a/\a∉ι/\Dens ι H l xs/\(if b=true then H a=some (.t xs)else Rd H a (.l xs)):=by
 cases d with
 |t f=>cases e;obtain⟨a,xs,e1,n,ha,c⟩:=h;exact⟨true,a,xs,e1,n,c,by simpa using ha⟩
 |l f=>cases e;obtain⟨a,xs,e1,n,ha,c⟩:=h;exact⟨false,a,xs,e1,n,c,by simpa using ha⟩
 |_=>cases e
def AtB(b:Bool)(H:Hp)(a:Addr)(xs:List V):Prop:=if b=true then H a=some (.t xs)else Rd H a (.l xs)
theorem AtB.sq{b:Bool}{H:Hp}{K:07}{a:Addr}{xs:List V}(h:AtB b H a xs):SqB b K H a xs:=by
 cases b with
 |true=>exact .inl (.inl h)
 |false=>exact .inl h
theorem AtB.mono(h:AtB b H a xs)(n:a∉ι)(s:Stp ι H c H'):AtB b H' a xs:=by
 cases b with
 |true=>exact s.keep _ _ h n trivial
 |false=>exact(s.rd h n).1
theorem qkQ{ι:List Addr}{H:Hp}{K:07}{b c:Bool}{l m:Addr}{xs ys:List V}{ds es:List D}(r:l∉ι)(nm:m∉ι)(w:AtB b H l xs)(y:AtB c H m ys)(A:Dens ι H ds xs)(B:Dens ι H es ys):ItOk ι H (ItZ K b c l m) ((ds.zip es).map λp=>.t [p.1,p.2]) where
 go:=λi d a H2 s e=>by
  rw[wU]at e;cases z:(ds.zip es)[i]? with
  |none=>rw[z]at e;cases e
  |some p =>
   rw[z]at e;cases e;obtain⟨e1,E⟩:=List.getElem?_zip_eq_some.mp z;obtain⟨u,C,F⟩:=(Dens.mono s ds A).get e1;obtain⟨v,v1,v2⟩:=(Dens.mono s es B).get E;have f:=(w.mono r s).sq (K:=K);have h:=(y.mono nm s).sq (K:=K);refine⟨⟨xs,ys,u,v,f,h,C,v1⟩,λx H3 I=>?_⟩;obtain⟨q,J,L,rfl,o,rfl,j,n⟩:=I;have j:=j xs f;have n:=n ys h;rw[C]at j;cases j;rw[v1]at n;cases n;have g:=Stp.laid (ι:=a) o (.t [u,v]);exact⟨g,λS st=>⟨st.laid o _,q,[u,v],rfl,st.fresh o,qA,u,[v],rfl,Den.mono g _ F,v,[],rfl,Den.mono g _ v2,rfl⟩⟩
 stop:=λa H2 s=>by
  refine⟨xs,ys,(w.mono r s).sq,(y.mono nm s).sq,?_⟩;rw[wH,List.length_zip,A.length,B.length];lia
theorem qmI(N l m:Nat)(a:l<N)(b:m<N):ZA (N+4) (N+2) (N+3) N (N+1) l m :=
 ⟨(by lia:N+2≠N+4),(by lia:N+3≠N+4),(by lia:N≠N+4),(by lia:N+1≠N+4),(by lia:N+2≠N+3),(by lia:N+2≠N),(by lia:N+2≠N+1),(by lia:N+3≠N),(by lia:N+3≠N+1),(by lia:N≠N+1),
  (by lia:l≠N+4),(by lia:l≠N+3),(by lia:l≠N),(by lia:l≠N+1),(by lia:m≠N+4),(by lia:m≠N+3),(by lia:m≠N),(by lia:m≠N+1)⟩
theorem qgL:bootBuiltins "zip"=some (.type "zip"):=by decide +kernel
theorem qmJ{es:List Expr}{n:Nat}{tp:Pos}{p:Pos}(hg:Gl X "zip")(hm:X.mg "zip"=none)(h1:PE X e1 (T m1))(h2:PE X j (T m2))(M:starEach [e1,j] X.env=(false,eval e1 X.env)::starEach [j] X.env)(u:starEach [j] X.env=(false,eval j X.env)::starEach [] X.env):
  PI X (.Tuple es n tp) (.Call (.Name "zip" p) [e1,j] [] pos) (TIt λρ S=>(m1 ρ S).bind λx S1=>(m2 ρ S1).bind λy S2=>match walkF x,walkF y with
   |some l,some m=>.ok ((l.zip m).map λp=>.t [p.1,p.2]) S2
   |_,_=>.no):=by
 intro pins s C H R I hw;obtain⟨ι,S,ρ,O,st,q⟩:=hw;dsimp only at q;cases z1:m1 ρ S with
 |no=>rw[z1]at q;exact q.elim
 |err=>rw[z1]at q;exact q.elim
 |ok x S1 =>
  rw[z1,Res.bind_ok]at q;cases z2:m2 ρ S1 with
  |no=>rw[z2]at q;exact q.elim
  |err=>rw[z2]at q;exact q.elim
  |ok y S2 =>
   rw[z2,Res.bind_ok]at q;cases z3:walkF x with
   |none=>simp only[z3]at q
   |some l =>
    cases z4:walkF y with
    |none=>simp only[z3,z4]at q
    |some m =>
     simp only[z3,z4]at q;refine Call_ (zT I hg hm qgL (vY (e:=e1) (rest:=[j]) ?_ M (by rw[u];rfl)));rw[M,u];refine uI (thn (h1 pins s C H (λv i=>∃d,Stp ι H d i/\Sto d i S1/\Den d i x v) I ⟨ι,S,ρ,O,st,by rw[z1];exact λv d i a b c=>⟨d,a,b,c⟩⟩) λu1 s1 ⟨v1,i,I1,r1,d,q1,E,d1⟩=>?_);refine uI (thn (h2 pins s1 C i (λv H2=>∃f,Stp d i f H2/\Sto f H2 S2/\Den f H2 y v) I1 ⟨d,S1,ρ,O.mono q1,E,by rw[z2];exact λv d i a b c=>⟨d,a,b,c⟩⟩) λu2 s2 ⟨v2,H2,A,r2,f,q2,F,d2⟩=>ua ?_);obtain⟨b,J,xs,rfl,nl,dl,P⟩:=qaR z3 (Den.mono q2 x d1);obtain⟨c,L,ys,rfl,nm,dm,Q⟩:=qaR z4 d2;cases r1;cases r2;obtain⟨a0,rx,U⟩:=jv A (AtB.sq P);obtain⟨a1,ry,W⟩:=jv A (AtB.sq Q);have lt:∀{b:Bool} {a:Addr} {w:Array Value},SQ b s2.heap a w->a<s2.heap.objs.size:=λ{b a w} h=>by
      cases b with
      |true=>obtain⟨o,e,_⟩:=h;exact wF e
      |false=>obtain⟨o,e,_⟩:=h;exact wF e
     have Y:=lt U;have Z:=lt W;refine qgJ U W λh' r kp=>wpAny_pyIter_zip r.z ?_
     have I3:Inv X pins C H2 {s2 with heap:=h' }:=A.kept (t':=s2.toks) kp;generalize hN:s2.heap.objs.size=N at Y Z r;have D:ZA (N+4) (N+2) (N+3) N (N+1) J L:=qmI N J L Y Z;refine⟨N+4,[N+4,N+2,N+3,N,N+1],_,ItZ X.K b c J L,H2,rfl,I3,qgK D,⟨r.z,r.ti,r.to',r.i1,r.i2⟩,λa ha=>?_,q f H2 _ (q1.trans q2) F (qkQ nl nm P Q dl dm)⟩;have B:s2.heap.objs.size<=a:=by
      rw[hN];simp only[wQ,vO,xB]at ha;rcases ha with rfl|rfl|rfl|rfl|rfl
      .exact xJ _ _
      .exact xJ _ _
      .exact xJ _ _
      .exact wG _
      .exact xJ _ _
     exact A.fpOk B (A.hok.fresh B)
end
end R
namespace R
open PySem PySem.Spec L2 SeqAt
open PyProof.Rows hiding St
open PySem.W (KasT kas_rev kas_asc kas_desc kas_tail3 kas_descPart kas_count kas_place kas_bin kas_sort)
noncomputable def evT{b:Type}(lt:Nat->Nat->Bool):KasT b->b
 | .ret a=>a
 | .ask i j k=>evT lt (k (lt i j))
def zZ{a b:Type}(lt:Nat->Nat->Bool)(f:a->KasT b):∀t:KasT a,evT lt (t.bind f)=evT lt (f (evT lt t))
 | .ret _=>rfl
 | .ask i j k=>zZ lt f (k (lt i j))
structure Ord (lt:Nat->Nat->Bool) (n:Nat):Prop where
 irr:∀a,a<n->lt a a=false
 tr:∀a b c,a<n->b<n->c<n->lt a b=true->lt b c=true->lt a c=true
 tot:∀a b,a<n->b<n->a≠b->lt a b=true\/lt b a=true
noncomputable def gt(p:Array Nat)(k:Nat):Nat:=p.getD k 0
def Pm(n:Nat)(p:Array Nat):Prop:=p.toList.Perm (List.range n)
section
variable{lt:Nat->Nat->Bool}{n:Nat}{p:Array Nat}
theorem Pm.size(h:Pm n p):p.size=n:=by
 have:=h.length_eq;simpa using this
theorem qcj{k:Nat}(a:k<p.size):gt p k=p[k]:=by simp[gt,Array.getD,a]
theorem jd{k j:Nat}(h:q[k]?=p[j]?):gt q k=gt p j:=by
 unfold gt;rw[Array.getD_eq_getD_getElem?,Array.getD_eq_getD_getElem?,h]
theorem Pm.bd(h:Pm n p){k:Nat}(a:k<n):gt p k<n:=by
 have b:k<p.size:=by rw[h.size];exact a
 rw[qcj b];have hm:p[k]∈p.toList:=by simp
 exact uA.mp (h.mem_iff.mp hm)
theorem Pm.inj(h:Pm n p){i j:Nat}(hi:i<n)(c:j<n)(e:gt p i=gt p j):i=j:=by
 have nd:p.toList.Nodup:=h.nodup_iff.mpr List.nodup_range;have a:i<p.size:=by rw[h.size];exact hi
 have b:j<p.size:=by rw[h.size];exact c
 rw[qcj a,qcj b]at e;have e':p.toList[i]'(by simpa using a)=p.toList[j]'(by simpa using b):=by simpa using e
 exact(xx nd).mp e'
def Srt(lt:Nat->Nat->Bool)(p:Array Nat)(m:Nat):Prop:=∀i j,i<j->j<m->lt (gt p i) (gt p j)=true
theorem Srt.one:Srt lt p 1:=λi j a b=>by lia
theorem Srt.snoc(O:Ord lt n)(h:Pm n p){m:Nat}(hm:1<=m)(hn:m<n)(s:Srt lt p m)(q:lt (gt p (m-1)) (gt p m)=true):Srt lt p (m+1):=λi j a c=>by
 by_cases b:j<m
 .exact s i j a b
 .have e:j=m:=by lia
  subst e;by_cases hi:i=j-1
  .subst hi;exact q
  .exact O.tr _ _ _ (h.bd 00) (h.bd 00) (h.bd hn) (s i (j-1) 00 00) q
theorem qbq(O:Ord lt n)(h:Pm n p):∀(f k:Nat),1<=k->k+f=n->Srt lt p k->(k<=evT lt (kas_asc p f k)/\evT lt (kas_asc p f k)<=n/\Srt lt p (evT lt (kas_asc p f k)))/\(evT lt (kas_asc p f k)<n->lt (gt p (evT lt (kas_asc p f k))) (gt p (evT lt (kas_asc p f k)-1))=true)
 |0,k,h1,h2,s=>⟨⟨wG _,by show k<=n;lia,s⟩,λq=>by have j:k<n:=q;lia⟩
 |f+1,k,h1,h2,s=>by
  unfold kas_asc;simp only[evT];cases z:lt (p.getD k 0) (p.getD (k-1) 0)with
  |true =>
   rw[wM rfl];exact⟨⟨wG _,by show k<=n;lia,s⟩,λ_=>z⟩
  |false =>
   rw[wN 01];have a:gt p k≠gt p (k-1):=λe=>by
    have:=h.inj 00 00 e;lia
   have q:lt (gt p (k-1)) (gt p k)=true:=by
    rcases O.tot _ _ (h.bd (show k<n by lia)) (h.bd (show k-1<n by lia)) a with y|y
    .have b:lt (gt p k) (gt p (k-1))=false:=z
     rw[b]at y;cases y
    .exact y
   obtain⟨⟨l,c,d⟩,i⟩:=qbq O h f (k+1) 00 00 (s.snoc O h h1 00 q);exact⟨⟨by lia,c,d⟩,i⟩
def Fal(lt:Nat->Nat->Bool)(p:Array Nat)(m:Nat):Prop:=∀i j,i<j->j<m->lt (gt p j) (gt p i)=true
theorem Fal.snoc(O:Ord lt n)(h:Pm n p){m:Nat}(hm:1<=m)(hn:m<n)(s:Fal lt p m)(q:lt (gt p m) (gt p (m-1))=true):Fal lt p (m+1):=λi j a c=>by
 by_cases b:j<m
 .exact s i j a b
 .have e:j=m:=by lia
  subst e;by_cases hi:i=j-1
  .subst hi;exact q
  .exact O.tr _ _ _ (h.bd hn) (h.bd 00) (h.bd 00) q (s i (j-1) 00 00)
theorem qbr(O:Ord lt n)(h:Pm n p):∀(f k:Nat),1<=k->k+f=n->Fal lt p k->∃m,evT lt (kas_desc f p k 0)=(p,m,0)/\k<=m/\m<=n/\Fal lt p m
 |0,k,h1,h2,s=>⟨k,rfl,wG _,by lia,s⟩
 |f+1,k,h1,h2,s=>by
  unfold kas_desc;simp only[evT];cases z:lt (p.getD k 0) (p.getD (k-1) 0)with
  |true =>
   rw[wM rfl,wN 00];obtain⟨m,e,i,b,c⟩:=qbr O h f (k+1) 00 00 (s.snoc O h h1 00 z);exact⟨m,e,by lia,b,c⟩
  |false =>
   rw[wN 01];simp only[evT];have a:gt p k≠gt p (k-1):=λe=>by
    have:=h.inj 00 00 e;lia
   have q:lt (p.getD (k-1) 0) (p.getD k 0)=true:=by
    rcases O.tot _ _ (h.bd (show k<n by lia)) (h.bd (show k-1<n by lia)) a with y|y
    .have d:lt (gt p k) (gt p (k-1))=false:=z
     rw[d]at y;cases y
    .exact y
   rw[q,wM rfl];exact⟨k,rfl,wG _,by lia,s⟩
theorem qgM(h:Pm n p)(i j:Nat):Pm n (kas_rev p i j):=(mirror_perm p i j _).toList.trans h
theorem qiY(O:Ord lt n)(h:Pm n p){k:Nat}(b:1<=k)(c:k<=n)(s:Fal lt p k):∃m q,evT lt (kas_tail3 k n p)=(m,q)/\Pm n q/\1<=m/\m<=n/\Srt lt q m:=by
 have a:Pm n (kas_rev p 0 k):=qgM h 0 k;have d:Srt lt (kas_rev p 0 k) k:=λi j u f=>by
  have e:∀x,x<k->gt (kas_rev p 0 k) x=gt p (k-1-x):=λx hx=>by
   have:=getElem?_mirror_all (xs:=p) (i:=0) (j:=k) (by rw[h.size];exact c) x;rw[wM ⟨vN _,hx⟩]at this;have q:=jd this;have l:0+k-1-x=k-1-x:=by lia
   rw[l]at q;exact q
  rw[e i 00,e j f];exact s (k-1-j) (k-1-i) 00 00
 unfold kas_tail3;rw[zZ];obtain⟨⟨v,o,r⟩,_⟩:=qbq O a (n-k) k b 00 d;exact⟨_,_,rfl,a,by lia,o,r⟩
theorem qck(O:Ord lt n)(hn:1<=n)(h:Pm n p):∃m q,evT lt (kas_count n p)=(m,q)/\Pm n q/\1<=m/\m<=n/\Srt lt q m:=by
 unfold kas_count;rw[zZ];obtain⟨⟨c,d,a⟩,f⟩:=qbq O h (n-1) 1 (wG _) 00 Srt.one;generalize evT lt (kas_asc p (n-1) 1)=m at *;by_cases e:m=n
 .subst e
  rw[wM 02];exact⟨m,p,rfl,h,c,d,a⟩
 .rw [wN (by simpa using e)]
  by_cases b:m>1
  .rw [wM b]
   simp only[evT];have q:lt (p.getD 0 0) (p.getD (m-1) 0)=true:=a 0 (m-1) 00 00;rw[q,wM rfl];exact⟨m,p,rfl,h,c,d,a⟩
  .rw [wN b]
   have e1:m=1:=by lia
   subst e1;have q:=f 00;unfold kas_descPart;rw[zZ];have l:Fal lt p 2:=Fal.snoc (m:=1) O h (wG _) 00 (λi j b r=>by lia) q;obtain⟨k,e,b1,b2,o⟩:=qbr O h (n-(1+1)) (1+1) 00 00 l;rw[e];rw[wN 02];exact qiY (k:=k) O h 00 b2 o
theorem qaa(O:Ord lt n)(h:Pm n p){k:Nat}(c:k<n)(s:Srt lt p k):∀(f l r:Nat),l<=r->r<=k->r-l<=f->(∀i,i<l->lt (gt p i) (gt p k)=true)->(∀i,r<=i->i<k->lt (gt p k) (gt p i)=true) ->
  evT lt (kas_place p k f l r)<=k/\(∀i,i<evT lt (kas_place p k f l r)->lt (gt p i) (gt p k)=true)/\∀i,evT lt (kas_place p k f l r)<=i->i<k->lt (gt p k) (gt p i)=true
 |0,l,r,h1,h2,h3,a,b=>⟨by show l<=k;lia,a,λi d j=>b i (by have m:l<=i:=d;lia) j⟩
 |f+1,l,r,h1,h2,h3,a,b=>by
  unfold kas_place;by_cases u:l>=r
  .rw [wM u]
   exact⟨by show l<=k;lia,a,λi d j=>b i (by have m:l<=i:=d;lia) j⟩
  .rw [wN u]
   simp only[evT];have hm:(l+r) / 2<k:=by lia
   cases z:lt (p.getD k 0) (p.getD ((l+r) / 2) 0)with
   |true =>
    rw[wM rfl];refine qaa O h c s f l ((l+r) / 2) 00 00 00 a λi d j=>?_
    by_cases e:i=(l+r) / 2
    .subst e;exact z
    .exact O.tr _ _ _ (h.bd c) (h.bd 00) (h.bd 00) z (s ((l+r) / 2) i 00 j)
   |false =>
    rw[wN 01];have o:gt p k≠gt p ((l+r) / 2):=λe=>by
     have:=h.inj c 00 e;lia
    have q:lt (gt p ((l+r) / 2)) (gt p k)=true:=by
     rcases O.tot _ _ (h.bd c) (h.bd (show(l+r) / 2<n by lia)) o with y|y
     .have v:lt (gt p k) (gt p ((l+r) / 2))=false:=z
      rw[v]at y;cases y
     .exact y
    refine qaa O h c s f ((l+r) / 2+1) r 00 h2 00 (λi d=>?_) b;by_cases e:i=(l+r) / 2
    .subst e;exact q
    .exact O.tr _ _ _ (h.bd 00) (h.bd 00) (h.bd c) (s i ((l+r) / 2) 00 hm) q
theorem qgN(O:Ord lt n):∀(f k:Nat) (p:Array Nat),Pm n p->k+f=n->Srt lt p k->Pm n (evT lt (kas_bin f p k))/\Srt lt (evT lt (kas_bin f p k)) n
 |0,k,p,h,h1,s=>by
  have e:k=n:=by lia
  subst e;exact⟨h,s⟩
 |f+1,k,p,h,h1,s=>by
  unfold kas_bin;rw[zZ];obtain⟨u,d,m⟩:=qaa O h (k:=k) 00 s k 0 k (vN _) (wG _) 00 (λi hi=>by lia) λi a o=>by lia
  generalize evT lt (kas_place p k k 0 k)=l at *;have q:Pm n (bubble p k (k-l)):=(bubble_perm p k (k-l)).toList.trans h;refine qgN O f (k+1) _ q 00 λi j a o=>?_
  have ev:∀x,gt (bubble p k (k-l)) x=if x=l then gt p k else if l<x/\x<=k then gt p (x-1)else gt p x:=λx=>by
   have e:=getElem?_bubble (xs:=p) (src:=k) (by rw[h.size];lia) (k-l) 00 x;have r:k-(k-l)=l:=by lia
   rw[r]at e;by_cases q1:x=l
   .rw [wM q1]at e ⊢;exact jd e
   .rw [wN q1]at e ⊢
    by_cases q2:l<x/\x<=k
    .rw [wM q2]at e ⊢;exact jd e
    .rw [wN q2]at e ⊢;exact jd e
  rw[ev i,ev j];by_cases i1:i=l
  .rw [wM i1,wN 00,wM ⟨by lia,by lia⟩]
   exact m (j-1) 00 00
  .rw [wN i1]
   by_cases b:j=l
   .rw [wM b,wN 00]
    exact d i 00
   .rw [wN b]
    by_cases i2:l<i/\i<=k
    .rw [wM i2,wM ⟨by lia,by lia⟩]
     exact s (i-1) (j-1) 00 00
    .rw [wN i2]
     by_cases c:l<j/\j<=k
     .rw [wM c]
      exact s i (j-1) 00 00
     .rw [wN c]
      exact s i j a 00
theorem qd1(O:Ord lt n)(hn:1<=n):Pm n (evT lt (kas_sort n))/\Srt lt (evT lt (kas_sort n)) n:=by
 unfold kas_sort;rw[zZ];have d:Pm n (List.toArray (List.range n)):=by
  show(List.toArray (List.range n)).toList.Perm _;simp
 obtain⟨m,q,e,b,f,h,c⟩:=qck O hn d;rw[e];by_cases hm:m<n
 .rw [wM hm]
  have a:max m 1=m:=by lia
  show Pm n (evT lt (kas_bin (n-max m 1) q (max m 1)))/\_;rw[a];exact qgN O (n-m) m q b 00 c
 .rw [wN hm]
  have a:m=n:=by lia
  subst a;exact⟨b,c⟩
end
end R
namespace R
open PySem PySem.Spec L2 SeqAt
open PyProof.Rows hiding St
open PySem.W (KasT kas_rev kas_asc kas_desc kas_tail3 kas_descPart kas_count kas_place kas_bin kas_sort kas_cmp kas_item kas_item_eq kas_runs kas_st kas_range KatLex kat_lt KatTups kat_kind)
def InT{a:Type}(lt:Nat->Nat->Bool)(n:Nat):KasT a->Prop
 | .ret _=>True
 | .ask i j k=>i<n/\j<n/\InT lt n (k (lt i j))
section
variable{lt:Nat->Nat->Bool}{n:Nat}{p:Array Nat}
theorem z0{a b:Type}{f:a->KasT b}:∀{t:KasT a},InT lt n t->InT lt n (f (evT lt t))->InT lt n (t.bind f)
 | .ret _,_,h=>h
 | .ask i j k,h,h'=>⟨h.1,h.2.1,z0 h.2.2 h'⟩
theorem qdf(h:Pm n p):∀(f k:Nat),1<=k->k+f=n->InT lt n (kas_asc p f k)
 |0,_,_,_=>trivial
 |f+1,k,h1,h2=>by
  refine⟨h.bd (show k<n by lia),h.bd (show k-1<n by lia),?_⟩;dsimp only;split
  .trivial
  .exact qdf h f (k+1) 00 00
theorem qd2(O:Ord lt n)(h:Pm n p):∀(f k:Nat),1<=k->k+f=n->InT lt n (kas_desc f p k 0)
 |0,_,_,_=>trivial
 |f+1,k,h1,h2=>by
  refine⟨h.bd (show k<n by lia),h.bd (show k-1<n by lia),?_⟩;cases z:lt (p.getD k 0) (p.getD (k-1) 0)with
  |true =>
   dsimp only;rw[wM rfl,wN 00];exact qd2 O h f (k+1) 00 00
  |false =>
   dsimp only;rw[wN 01];refine⟨h.bd (show k-1<n by lia),h.bd (show k<n by lia),?_⟩;have a:gt p k≠gt p (k-1):=λe=>by
    have:=h.inj 00 00 e;lia
   have q:lt (p.getD (k-1) 0) (p.getD k 0)=true:=by
    rcases O.tot _ _ (h.bd (show k<n by lia)) (h.bd (show k-1<n by lia)) a with y|y
    .have b:lt (gt p k) (gt p (k-1))=false:=z
     rw[b]at y;cases y
    .exact y
   rw[q];dsimp only;rw[wM rfl];trivial
theorem qiZ(h:Pm n p){k:Nat}(a:1<=k)(b:k<=n):InT lt n (kas_tail3 k n p):=z0 (qdf (qgM h 0 k) (n-k) k a 00) trivial
theorem qgO(O:Ord lt n)(hn:1<=n)(h:Pm n p):InT lt n (kas_count n p):=by
 unfold kas_count;obtain⟨⟨f,l,b⟩,c⟩:=qbq O h (n-1) 1 (wG _) 00 Srt.one;refine z0 (qdf h (n-1) 1 (wG _) 00) ?_;generalize evT lt (kas_asc p (n-1) 1)=m at *;by_cases e:m=n
 .subst e;rw[wM 02];trivial
 .rw [wN (by simpa using e)]
  by_cases a:m>1
  .rw [wM a]
   refine⟨h.bd (show 0<n by lia),h.bd (show m-1<n by lia),?_⟩;have q:lt (p.getD 0 0) (p.getD (m-1) 0)=true:=b 0 (m-1) 00 00;rw[q];dsimp only;rw[wM rfl];trivial
  .rw [wN a]
   have e1:m=1:=by lia
   subst e1;have q:=c 00;unfold kas_descPart;have d:Fal lt p 2:=Fal.snoc (m:=1) O h (wG _) 00 (λi j a o=>by lia) q;obtain⟨k,e,b1,b2,r⟩:=qbr O h (n-(1+1)) (1+1) 00 00 d;refine z0 (qd2 O h (n-(1+1)) (1+1) 00 00) ?_;rw[e,wN 02];exact qiZ (k:=k) h 00 b2
theorem qab(h:Pm n p){k:Nat}(a:k<n):∀(f l r:Nat),r<=k->InT lt n (kas_place p k f l r)
 |0,_,_,_=>trivial
 |f+1,l,r,h2=>by
  unfold kas_place;by_cases b:l>=r
  .rw [wM b];trivial
  .rw [wN b]
   refine⟨h.bd a,h.bd (show(l+r) / 2<n by lia),?_⟩;dsimp only;split
   .exact qab h a f l _ 00
   .exact qab h a f _ r h2
theorem qgP(O:Ord lt n):∀(f k:Nat) (p:Array Nat),Pm n p->k+f=n->InT lt n (kas_bin f p k)
 |0,_,_,_,_=>trivial
 |f+1,k,p,h,h1=>z0 (qab h 00 k 0 k (wG _)) (qgP O f (k+1) _ ((bubble_perm p k _).toList.trans h) 00)
theorem qi0(O:Ord lt n)(hn:1<=n):InT lt n (kas_sort n):=by
 have a:Pm n (List.toArray (List.range n)):=by
  show(List.toArray (List.range n)).toList.Perm _;simp
 obtain⟨m,q,e,b,d,f,h⟩:=qck O hn a;refine z0 (qgO O hn a) ?_;rw[e];by_cases hm:m<n
 .rw [wM hm]
  have c:max m 1=m:=by lia
  show InT lt n (kas_bin (n-max m 1) q (max m 1));rw[c];exact qgP O (n-m) m q b 00
 .rw [wN hm];trivial
theorem qd3{a:Type}{cmp:Nat->Nat->(Bool->Shared->Prop)->Shared->Prop}{s:Shared}(b:∀i j C,i<n->j<n->C (lt i j) s->cmp i j C s){Q:a->Shared->Prop}:∀{t:KasT a},InT lt n t->Q (evT lt t) s->t.kasWp cmp Q s
 | .ret _,_,h=>h
 | .ask i j k,h,q=>b i j _ h.1 h.2.1 (qd3 b h.2.2 q)
end
section
variable{prog:Program}{w:World}{A:Around}{E:Value->Shared->Prop}{s:Shared}
theorem qkR{x y:Int}(h:Q (decide (x<y)) s):wpAny 08 A (oneLt' b (.int x t) (.int y u)) Q E s:=by
 cases b with
 |true=>exact oneLt_int h
 |false=>exact PySem.W.kat_one _ _ (PySem.P.lt_int h)
theorem qgQ:∀{xs ys:03} {us vs:List Value} {i:Nat},IntsAre us xs->IntsAre vs ys->Q (HT.lexLt xs ys) s->KatLex prog w A b (decide (xs.length<ys.length)) Q (us.zip vs) i s:=by
 intro xs;induction xs with
 |nil =>
  intro ys us vs i a c h;cases a;cases c with
  |nil=>exact h
  |cons =>
   show Q _ s;simpa[HT.lexLt]using h
 |cons x xs d =>
  intro ys us vs i a c h;cases a with
  |cons _ t rx =>
  cases c with
  |nil =>
   show Q _ s;simpa[HT.lexLt]using h
  |cons _ u f =>
  refine wpAny_eqBool_int ?_;rw[HT.qX]at h;split at h
  .rename_i e
   subst e;rw[wM 02];have:=d (i:=i+1) rx f h;simpa[List.zip]using this
  .rename_i e
   rw[wN (by simpa using e)];exact qkR h
noncomputable def TupsAt(h:Heap):List Value->List (List Int)->Prop
 |[],ks=>ks=[]
 |v::vs,ks=>∃a b k r,v=.ref a/\ks=k::r/\IsTup h a b.toArray/\IntsAre b k/\TupsAt h vs r
theorem TupsAt.len:∀{vs:List Value} {ks:List (List Int)},TupsAt h vs ks->vs.length=ks.length
 |[],_,e=>by cases (show _=[]from e);rfl
 |_::_,_,e=>by obtain⟨a,b,k,r,_,rfl,_,_,t⟩:=e;simp[TupsAt.len t]
theorem TupsAt.get:∀{vs:List Value} {ks:List (List Int)} (i:Nat),TupsAt h vs ks->i<ks.length->∃a b,vs.getD i .none=.ref a/\IsTup h a b.toArray/\IntsAre b (ks.getD i [])
 |[],_,_,e,hi=>by cases (show _=[]from e);simp at hi
 |_::vs,_,0,e,hi=>by obtain⟨a,b,k,r,rfl,rfl,c,d,_⟩:=e;exact⟨a,b,rfl,c,by simpa using d⟩
 |_::vs,_,i+1,e,hi=>by
  obtain⟨a,b,k,r,rfl,rfl,c,d,t⟩:=e;obtain⟨f,its',e1,j,l⟩:=TupsAt.get i t (by simpa using hi);exact⟨f,its',by simpa using e1,j,by simpa using l⟩
theorem TupsAt.keep{h h':Heap}:∀{vs:List Value} {ks:List (List Int)},TupsAt h vs ks->(∀a o,Value.ref a∈vs->h.get? a=some o->h'.get? a=some o)->TupsAt h' vs ks
 |[],_,e,_=>e
 |_::_,_,e,hk=>by
  obtain⟨a,d,k,r,rfl,rfl,⟨o,f,c⟩,i,t⟩:=e;exact⟨a,d,k,r,rfl,rfl,⟨o,hk a o wL f,c⟩,i,t.keep λb u j=>hk b u (wO _ j)⟩
theorem TupsAt.firsts:∀{vs:List Value} {ks:List (List Int)},TupsAt h vs ks->(∀k∈ks,k≠[])->∃fs:List Value,KatTups h vs fs/\fs.length=vs.length/\∀f∈fs,∃x t,f=.int x t
 |[],_,e,_=>⟨[],trivial,rfl,λf b=>by cases b⟩
 |_::_,_,e,hn=>by
  obtain⟨a,j,k,r,rfl,rfl,⟨o,l,c,m,d⟩,i,t⟩:=e;obtain⟨fs,k1,k2,k3⟩:=t.firsts λk n=>hn k (wO _ n)
  cases i with
  |nil=>exact absurd rfl (hn [] wL)
  |cons x tx i =>
   refine⟨.int x tx::fs,⟨⟨a,o,_,m,rfl,l,c,d,by simp⟩,k1⟩,by simp[k2],λf b=>?_⟩;rcases wQ.mp b with z|z
   .exact ⟨x,tx,z⟩
   .exact k3 f z
noncomputable def ltK(ks:List (List Int))(i j:Nat):Bool:=HT.lexLt (ks.getD i []) (ks.getD j [])
theorem qi1(t:TupsAt s.heap vs ks){i j:Nat}(hi:i<ks.length)(f:j<ks.length)(h:C (ltK ks i j) s):kas_cmp prog w A (tuples' true) (pairsOf vs) i j C s:=by
 unfold kas_cmp;rw[kas_item_eq,kas_item_eq];obtain⟨a,xs,e1,⟨o,l,_,m,d⟩,c⟩:=t.get i hi;obtain⟨b,ys,n,⟨u,eu,_,r,d'⟩,e⟩:=t.get j f;dsimp only;rw[e1,n];have:=qgQ (prog:=prog) (w:=w) (A:=A) (s:=s) (b:=true) (i:=0) (Q:=C) c e h;refine kat_lt l d eu d' ?_;have p:=c.length;have q:=e.length;simpa[p,q]using this
theorem qgR(t:TupsAt s.heap vs ks)(hn:∀k∈ks,k≠[])(b:2<=vs.length){Q:SortKind->Shared->Prop}(h:Q (tuples' true) s):wpAny 08 A (keyKind' vs.toArray) Q E s:=by
 obtain⟨fs,k1,k2,k3⟩:=t.firsts hn;refine kat_kind (T:=Value.type "int") k1 00 (λv a=>?_) 01 h;obtain⟨x,tx,rfl⟩:=k3 v a;exact .now
end
end R
namespace R
open PySem PySem.Spec L2 SeqAt
open PyProof.Rows hiding St
open PySem.W (KasT kas_sort kas_cmp kas_item kas_item_eq kas_runs kas_st kas_range KdlSrc kdl_extend kdl_hint_dict)
section
variable{prog:Program}{w:World}{A:Around}{E:Value->Shared->Prop}{s:Shared}
structure Answers (prog:Program) (w:World) (A:Around) (vs:List Value) (s:Shared) (κ:SortKind) (lt:Nat->Nat->Bool):Prop where
 kind:∀(E:Value->Shared->Prop) (Q:SortKind->Shared->Prop),Q κ s->wpAny 08 A (keyKind' vs.toArray) Q E s
 ord:Ord lt vs.length
 cmp:∀i j C,i<vs.length->j<vs.length->C (lt i j) s->kas_cmp prog w A κ (pairsOf vs) i j C s
noncomputable def outOf(lt:Nat->Nat->Bool)(vs:List Value):List Value:=if vs.length<2 then vs else(evT lt (kas_sort vs.length)).toList.map λi=>vs.getD i Value.none
theorem lsort{D:Addr}{vs:List Value}{n:Nat}{κ:SortKind}{lt:Nat->Nat->Bool}{P:PySem.Fin->Shared->Prop}(r:s.heap.get? D=some (seqObj "list" vs.toArray n))(v:vs.length<64)(x:2<=vs.length->∀h':Heap,(∀b o,b≠D->s.heap.get? b=some o->h'.get? b=some o)->Answers prog w A vs {s with heap:=h' } κ lt)(h:∀(h':Heap) (c:Nat),(∀b o,b≠D->s.heap.get? b=some o->h'.get? b=some o)->h'.get? D=some (seqObj "list" (outOf lt vs).toArray c)->P (.done (.ret .none)) {s with heap:=h' }):
  wpAny 08 A (Builtin.«list.sort» ⟨[.ref D],[]⟩) P E s:=by
 have J:D<s.heap.objs.size:=wF r;obtain⟨e1,z⟩:∃e1,(s.heap.update D (Obj.mapSeq λ_=>(#[]:Array Value))).get? D=some (seqObj "list" #[] e1):=⟨_,ut r λ_=>#[]⟩;have k1:∀b o,b≠D->s.heap.get? b=some o->(((s.heap.update D (Obj.mapSeq λ_=>(#[]:Array Value))).push (seqObj "tuple" vs.toArray 0)).push (seqObj "list" #[] 0)).get? b=some o:=λb o u e =>
  wB _ (wB _ ((wJ _ _ (Ne.symm u)).trans e))
 have j:(((s.heap.update D (Obj.mapSeq λ_=>(#[]:Array Value))).push (seqObj "tuple" vs.toArray 0)).push (seqObj "list" #[] 0)).get? D=some (seqObj "list" #[] e1):=wB _ (wB _ z);rw[list_sort_plain];refine wA (listItems_at r rfl (wA (listUpdate_at r rfl (wA (seqEpoch_at z rfl (wA (wpAny_newTuple (wA (wpAny_newList (wj ?_) (vN _))) (by show vs.length<=_;rw[vM];lia)))))
  (by rw[wI,vM];lia) (vN _))))
 generalize K:((s.heap.update D (Obj.mapSeq λ_=>(#[]:Array Value))).push (seqObj "tuple" vs.toArray 0)).push (seqObj "list" #[] 0)=h3 at k1 j;show wpAny 08 A _ P E {s with heap:=h3};dsimp only;have fin:∀(xs:Array Value),xs=(outOf lt vs).toArray->P (.done (.ret .none)) {s with heap:=h3.update D (Obj.mapSeq λ_=>xs)}:=λxs ex=>by
  subst ex;exact h _ _ (λb o u e=>(wJ _ _ (Ne.symm u)).trans (k1 b o u e)) (ut j λ_=>(outOf lt vs).toArray)
 by_cases l:vs.toArray.size<2
 .have f:vs.length<2:=by simpa using l
  rw[wM l,wM l];refine wA (wC ?_);rw[StateT.run_pure];refine wA (wC (?_:wpAny _ A _ _ _ _));dsimp only;refine wA (seqEpoch_at j rfl (wA (listUpdate_at j rfl ?_ (vN _) (by rw[Array.size_map];show(pairsOf vs).size<=_;rw[pairsOf_size,vM];lia))));simp only[xh,wz,uG];refine wC (fin _ ?_);unfold outOf;rw[wM f];apply Array.toList_inj.mp;show((vs.toArray.zip vs.toArray).map (·.2)).toList=_;simp[List.map_snd_zip]
 .have f:2<=vs.length:=by
   have:¬vs.length<2:=by simpa using l
   lia
  have a:=x f h3 k1;rw[wN l,wN l];refine wA (a.kind _ _ ?_);have y:SortSt.mk' κ (vs.toArray.zip vs.toArray) #[] 7 none=kas_st κ (pairsOf vs) (List.toArray (List.range vs.length)):=by
   have e:=kas_range (pairsOf vs);rw[pairsOf_size]at e;show SortSt.mk' κ (pairsOf vs) #[] 7 none=SortSt.mk' κ ((List.toArray (List.range vs.length)).map (kas_item (pairsOf vs))) #[] 7 none;rw[e]
  have run:=kas_runs (prog:=prog) (w:=w) (A:=A) (E:=E) (κ:=κ) (it:=pairsOf vs) (s:={s with heap:=h3}) (Q:=λ_ d s'=>s'={s with heap:=h3}/\failedOf d=none/\∃p:Array Nat,p=evT lt (kas_sort vs.length)/\p.size=vs.length/\arrOf d=p.map (kas_item (pairsOf vs)))
   (G:=λp s'=>s'={s with heap:=h3}/\p=evT lt (kas_sort vs.length)) f v (λC d s' b1 b2 F B=>⟨B.1,F,C,B.2,b1,b2⟩) (qd3 a.cmp (qi0 a.ord 00) ⟨rfl,rfl⟩)
  rw[<-y]at run;refine wA (wv run ?_ λ_ _ e=>e);rintro⟨⟨⟩,d⟩ s' ⟨rfl,H,p,ep,I,m⟩;dsimp only;have q:(arrOf d).map (·.2)=(outOf lt vs).toArray:=by
   unfold outOf;rw[wN 00,<-ep];apply Array.toList_inj.mp;rw[m,Array.map_map,Array.toList_map];exact vT λi _=>by show(kas_item (pairsOf vs) i).2=_;rw[kas_item_eq]
  have hsz:((arrOf d).map (·.2)).size=vs.length:=by rw[m,Array.map_map,Array.size_map,I]
  refine wA (seqEpoch_at j rfl (wA (listUpdate_at j rfl ?_ (vN _) (by show((arrOf d).map (·.2)).size<=_;rw[hsz,vM];lia))));rw[H];simp only[xh,wz,uG];exact wC (fin _ q)
theorem qfe{vs:List Value}{κ:SortKind}(d:vs.length<64)(col:∀(j:Value->Shared->Prop) (Q':List Value->Shared->Prop),(∀(h':Heap) (tk:Nat),s.heap.objs.size<=h'.objs.size->(∀b o,s.heap.get? b=some o->h'.get? b=some o)->Q' vs {s with heap:=h',toks:=tk})->wpAny 08 A.in1 (collect x) Q' j s)(f:2<=vs.length->∀(h':Heap) (tk:Nat),(∀b o,s.heap.get? b=some o->h'.get? b=some o)->Answers prog w A.in1.in1 vs {s with heap:=h',toks:=tk} κ lt)(h:∀(h':Heap) (tk:Nat) (D:Addr) (c:Nat),s.heap.objs.size<=D->(∀b o,s.heap.get? b=some o->h'.get? b=some o)->h'.get? D=some (seqObj "list" (outOf lt vs).toArray c)->Q (.ref D) {s with heap:=h',toks:=tk}):
  wpAny 08 A (call (.builtin "sorted") [x]) Q E s:=by
 refine xc kind_sorted plain_sorted entry_sorted (args_sorted1 _) ?_;unfold Builtin.«sorted»;refine wA (m:=checkCount "sorted" 1 1 _) (wC (wA (col _ _ λa tk sz k1=>wA (wpAny_newList ?_ (by rw[vM];lia)))));have i:(a.push (seqObj "list" vs.toArray 0)).get? a.objs.size=some (seqObj "list" vs.toArray 0):=wE _ rfl;have up:∀b o,s.heap.get? b=some o->(a.push (seqObj "list" vs.toArray 0)).get? b=some o:=λb o e=>wB _ (k1 b o e)
 have ne:∀b o,s.heap.get? b=some o->b≠a.objs.size:=λb o e=>wT (wF (k1 b o e))
 show wpAny _ _ _ _ _ {s with heap:=a.push (seqObj "list" vs.toArray 0),toks:=tk};refine wA (wj (we slot_list_sort ⟨_,i,rfl⟩ entry_list_sort ?_ (args_list_sort _)));refine lsort (κ:=κ) (lt:=lt) (s:={s with heap:=a.push (seqObj "list" vs.toArray 0),toks:=tk}) i d (λl h' kp=>f l h' tk λb o e=>kp b o (ne b o e) (up b o e)) λh' c kp n=>?_
 exact⟨_,rfl,wC ⟨_,rfl,h h' tk a.objs.size c sz (λb o e=>kp b o (ne b o e) (up b o e)) n⟩⟩
def EsAt(h:Heap)(d:Addr)(es:Array DictEntry)(ep:Nat):Prop:=∃o,h.get? d=some o/\o.ExactDict/\o.data=.dict es ep
theorem EsAt.at{h h':Heap}{ep:Nat}(x:EsAt h d es ep)(e:∀o,h.get? d=some o->h'.get? d=some o):EsAt h' d es ep:=let ⟨o,a,r⟩:=x;⟨o,e o a,r⟩
theorem EsAt.typeIs{s:Shared}{ep:Nat}(x:EsAt s.heap d es ep):s.TypeIs (.ref d) "dict":=let ⟨o,a,c,_⟩:=x;⟨o,a,c.1⟩
theorem qff{ep:Nat}(hd:(d == sysModules)=false)(hm:EsAt s.heap d es ep)(e:Q (.ref s.heap.objs.size) {s with heap:=s.heap.push {cls:=.type "dict_keyiterator",data:=.fields #[.ref d,.int 0 0,.int es.size 0,.int ep 0]}}):wpAny 08 A (pyIter (.ref d)) Q E s:=by
 have b:=hm.typeIs;obtain⟨o,c,f,a⟩:=hm;refine wpAny_pyIter_slot b F.slot_dict_iter (we F.slot_dict_iter b F.entry_dict_iter ?_ (F.args_dict_iter_1 _));unfold Builtin.«dict.__iter__»;refine wA ?_;unfold Builtin.Dict.dictSlotNone;refine wA (wpAny_notOrdered_dict b (wC (?_:wpAny _ _ (Builtin.Dict.showsAll d >>= _) _ _ s)));unfold Builtin.Dict.showsAll;rw[wN (by rw[hd];exact wZ)];refine wA (wC (wA (xf c a (wA (wpAny_dictEpoch c a ?_)))));refine wA (wR (wC ⟨_,rfl,"dict_keyiterator",_,⟨_,wE _ rfl,rfl⟩,vz.lookup,?_⟩));simpa[rawInt]using e
theorem qfg{i ep:Nat}{es:Array DictEntry}(c:s.heap.IsKeyIter it d i es.size ep)(hm:EsAt s.heap d es ep)(hx:es[i]?=some e)(l:∀h',h'.IsKeyIter it d (i+1) es.size ep->Heap.SameBut it s.heap h'->Q (some e.key) {s with heap:=h' }):wpAny 08 A (pyNext (.ref it)) Q E s:=by
 have b:=c.typeIs;obtain⟨o,j,m,hd⟩:=c;obtain⟨od,f,n,h⟩:=hm;unfold pyNext;refine wA (vX (wb (name:=Str.ofString "__next__") b vz (we vz b F.entry_dict_keyiterator_next ?_ (F.args_dict_keyiterator_next_1 _))));refine wA (wC (wA (wA ?_)))
 first|refine wA (uU b (wC (wA (uW j hd ?_))))|refine wA (ul b (wC (wA (uW j hd ?_))))
 have own:Builtin.Dict_items.ownsTuple "dict_keyiterator"=false:=by decide
 simp only[own,wz,uG];show wpAny _ _ (if(Value.ref d == Value.none)=true then _ else _) _ _ s;rw[wN (show ¬((Value.ref d == Value.none)=true)from wZ)];refine wA (wC (wA (xf f h ?_)));rw[wN 02];refine wA (wC (wA (wpAny_dictEpoch f h ?_)));rw[wN 02];refine wC ?_;obtain⟨p,q⟩:=vR.mp hx;simp only[show ¬((i:Int)<0)from by lia,uG,uC,hx];refine wA ?_
 first|refine wA (uU b (wC ?_))|refine wA (ul b (wC ?_))
 refine wA (wpAny_isOneOf_keyiter b (?_:wpAny _ _ (setField (.ref it) 1 (rawInt ((i:Int)+1)) >>= _) _ _ s));refine wA (vK j hd 02 ?_);have a:(s.heap.update it (Obj.mapFields (·.setIfInBounds 1 (rawInt ((i:Int)+1))))).IsKeyIter it d (i+1) es.size ep :=
  ⟨_,w9 _ j (vV (wp hd _)),(xA ..).trans m,by rw[wp hd];simp[rawInt]⟩
 refine wA (wj (wA (wpAny_isOneOf_keyiter (s:={s with heap:=s.heap.update it (Obj.mapFields (·.setIfInBounds 1 (rawInt ((i:Int)+1))))}) a.typeIs (?_:wpAny _ _ (pure e.key) _ _ _))));exact wC (wC ⟨_,rfl,wC (l _ a (Heap.SameBut.update ..))⟩)
theorem qgS{i ep:Nat}{es:Array DictEntry}(l:A.handled=none)(e:s.heap.IsKeyIter it d i es.size ep)(hm:EsAt s.heap d es ep)(hx:es[i]?=none)(n:∀h',Heap.ExtBut it s.heap h'->Q none {s with heap:=h' }):wpAny 08 A (pyNext (.ref it)) Q E s:=by
 have c:=e.typeIs;obtain⟨o,j,q,hd⟩:=e;obtain⟨od,f,p,h⟩:=hm;unfold pyNext;refine wA (vX (wb (name:=Str.ofString "__next__") c vz (we vz c F.entry_dict_keyiterator_next ?_ (F.args_dict_keyiterator_next_1 _))));refine wA (wC (wA (wA ?_)))
 first|refine wA (uU c (wC (wA (uW j hd ?_))))|refine wA (ul c (wC (wA (uW j hd ?_))))
 have own:Builtin.Dict_items.ownsTuple "dict_keyiterator"=false:=by decide
 simp only[own,wz,uG];show wpAny _ _ (if(Value.ref d == Value.none)=true then _ else _) _ _ s;rw[wN (show ¬((Value.ref d == Value.none)=true)from wZ)];refine wA (wC (wA (xf f h ?_)));rw[wN 02];refine wA (wC (wA (wpAny_dictEpoch f h ?_)));rw[wN 02];refine wC ?_;simp only[show ¬((i:Int)<0)from by lia,uG,uC,hx];refine wA ?_
 first|refine wA (uU c (wC ?_))|refine wA (ul c (wC ?_))
 refine wA (m:=setField (.ref it) 0 .none) (vK j hd 02 (?_:wpAny _ _ (newExc (.type "StopIteration") [] >>= _) _ _ _));refine wA ?_;unfold newExc newTuple;refine wA (wR (wA (uj (t:=firstArgMember _ _) (a:=Value.none) (by first|rfl|(simp only[firstArgMember];rfl)) (wR ?_ (by size_fits)))) (by size_fits));unfold raiseNew;refine wA (xo ?_);rw[show A.in1.handled=none from l];refine wA (wC (wpAny_throw ?_));refine wA (vn (T:="StopIteration") (b:=true) ⟨_,wE _ rfl,rfl⟩ xb ?_);exact wC (n _ (((Heap.SameBut.update ..).extBut.push _).push _))
theorem qfh(m:A.handled=none)(I d:Addr)(f:d≠I)(es:Array DictEntry)(ep:Nat):Walks prog w A I [I,d] [I] es.size (λi v=>(es[i]?).map (·.key)=some v) (λi h=>h.IsKeyIter I d i es.size ep/\EsAt h d es ep) where
 sub:=λb a=>by simp at a;simp[a]
 frame:=λ_ _ _ st j=>⟨st.1.at λo e=>j I 02 o e,st.2.at λo e=>j d 02 o e⟩
 item:=λi s Q E hi st c=>by
  have hx:es[i]?=some es[i]:=wo hi;exact qfg st.1 st.2 hx λh' n l=>c _ h' s.toks (by rw[hx];rfl) ⟨n,st.2.at λo e=>l.extBut _ o f e⟩ λb o a e=>l.extBut b o (λz=>a (by simp[z])) e
 done:=λs Q E st c=>qgS m st.1 st.2 (uF (wG _)) λh' p=>c h' s.toks λb o a e=>p b o (λz=>a (by simp[z])) e
 self:=λ_ _ _ _ st c=>wpAny_pyIter_keyiter st.1 c
theorem qgT{es:Array DictEntry}{ep:Nat}(lo:(d == sysModules)=false):KdlSrc prog w "dict" d d es.size (λi v=>(es[i]?).map (·.key)=some v) (λh=>EsAt h d es ep) where
 type:=λ_ hm=>hm.typeIs
 there:=λ_ hm=>let ⟨o,a,_⟩:=hm;⟨wF a,wF a⟩
 keep:=λ_ _ hm c=>hm.at λo e=>c d (.inl rfl) o e
 notList:=by decide
 notTuple:=by decide
 hint:=λ_ _ _ _ hm b=>kdl_hint_dict hm.typeIs b
 iter:=λA s f hm=>⟨_,_,(λ_ _ b=>qff lo hm b),qfh f _ d (by obtain⟨o,a,_⟩:=hm;exact wT (wF a)) es ep,⟨⟨_,wE _ rfl,rfl,rfl⟩,hm.at λo e=>wB _ e⟩⟩
theorem qaS{ep:Nat}(n:A.handled=none)(lo:(d == sysModules)=false)(hm:EsAt s.heap d es ep)(hn:es.size<=sizeLine)(p:∀(h':Heap) (tk:Nat),s.heap.objs.size<=h'.objs.size->(∀b o,s.heap.get? b=some o->h'.get? b=some o)->Q (es.toList.map (·.key)) {s with heap:=h',toks:=tk}):wpAny 08 A (collect (.ref d)) Q E s:=by
 have hd:d≠s.heap.objs.size:=by obtain⟨o,q,_⟩:=hm;exact wT (wF q)
 have c:∀R:Result->Shared->Prop,(∀(h':Heap) (tk:Nat) (a:Array Value) (f:Nat),(∀b o,s.heap.get? b=some o->h'.get? b=some o)->h'.get? s.heap.objs.size=some {cls:=.type "list",dict:=none,data:=.seq a f,slots:=#[]}->ItemsOf (λi v=>(es[i]?).map (·.key)=some v) a es.size ->
   R (.ok (.ret (.ref s.heap.objs.size))) {s with heap:=h',toks:=tk})->codeAny (model prog w) A (.builtin "proto.collect" ⟨[.ref d],[]⟩) R s:=by
  intro R r;refine wu xH ?_;rw[wc xG];refine wA (m:=newList []) (wR (wC ⟨vE uD _,wu xm ?_⟩));rw[wc uD];have u:(s.heap.push {cls:=.type "list",data:=.seq ([]:List Value).toArray}).get? s.heap.objs.size=some {cls:=.type "list",data:=.seq #[] 0}:=wE _ rfl;exact kdl_extend (R:=R) (s:={s with heap:=s.heap.push {cls:=.type "list",data:=.seq ([]:List Value).toArray}}) (qgT lo) n (hm.at λo e=>wB _ e) s.heap.objs.size (Ne.symm hd) (Ne.symm hd) (.ref s.heap.objs.size) 0 u (λh' tk a f j h hi =>
   r h' tk a f (λb o e=>j b o (wT (wF e)) (wB _ e)) h hi) hn
 unfold collect;refine wA (x9 (c _ λh' tk a f j h hi=>?_));refine wA (m:=load s.heap.objs.size) (wpAny_load h (wC ?_));have e:a.toList=es.toList.map (·.key):=by
  apply u8;intro i;rw[wU];cases z:a[i]? with
  |none =>
   have l:a.size<=i:=by simpa using z
   rw[hi.1]at l;have x:es[i]?=none:=uF l;rw[vI,vI,z,x];rfl
  |some v =>
   have:=hi.2 i v z;rw[vI,vI,z,this]
 rw[e];exact p h' tk (x4 (wF h)) j
end
end R
namespace R
open PySem PySem.Spec L2 SeqAt
open PyProof.Rows hiding St
open PySem.W (KasT kas_sort)
def qbs:∀a:List Int,HT.lexLt a a=false
 |[]=>rfl
 |x::a=>by rw[HT.qX,wM rfl];exact qbs a
def lex_tr:∀{a b c:03},HT.lexLt a b=true->HT.lexLt b c=true->HT.lexLt a c=true
 |[],[],_,h,_=>by cases h
 |[],_::_,[],_,h=>by cases h
 |[],_::_,_::_,_,_=>rfl
 |_::_,[],_,h,_=>by cases h
 |_::_,_::_,[],_,h=>by cases h
 |x::a,y::b,z::c,h,k=>by
  rw[HT.qX]at h k ⊢;by_cases e1:x=y
  .subst e1
   rw[wM rfl]at h;by_cases d:x=z
   .subst d
    rw[wM rfl]at k ⊢;exact lex_tr h k
   .rw [wN d]at k ⊢;exact k
  .rw [wN e1]at h
   have h':=vc h;by_cases d:y=z
   .subst d
    rw[wN e1];exact h
   .rw [wN d]at k
    have e:=vc k;rw[wN 00];exact w4 00
def lex_tot:∀{a b:03},a≠b->HT.lexLt a b=true\/HT.lexLt b a=true
 |[],[],h=>absurd rfl h
 |[],_::_,_=>.inl rfl
 |_::_,[],_=>.inr rfl
 |x::a,y::b,h=>by
  rw[HT.qX,HT.qX];by_cases e:x=y
  .subst e
   rw[wM rfl,wM rfl];exact lex_tot λz=>h (by rw[z])
  .rw [wN e,wN (Ne.symm e)]
   rcases Int.lt_or_gt_of_ne e with z|z
   .exact .inl (w4 z)
   .exact .inr (w4 z)
def jw(x:03):∀l:List (List Int),(insT x l).Perm (x::l)
 |[]=>.refl _
 |y::r=>by
  unfold insT;split
  .exact ((jw x r).cons y).trans (.swap ..)
  .exact .refl _
def qS:∀l:List (List Int),(sortT l).Perm l
 |[]=>.refl _
 |x::r=>(jw x (sortT r)).trans ((qS r).cons x)
def Ris(l:List (List Int)):Prop:=l.Pairwise λa b=>HT.lexLt a b=true
def qcl:∀{l:List (List Int)},x∉l->Ris l->Ris (insT x l)
 |[],_,_=>uu _ _
 |y::r,hn,h=>by
  obtain⟨f,i⟩:=wq.mp h;unfold insT;split
  .rename_i d
   refine wq.mpr ⟨λz hz=>?_,qcl (λm=>hn (wO _ m)) i⟩;rcases wQ.mp ((jw x r).mem_iff.mp hz)with e|e
   .rw [e];exact d
   .exact f z e
  .rename_i d
   have c:HT.lexLt x y=true:=by
    rcases lex_tot (a:=x) (b:=y) λe=>hn (by rw[e];exact wL)with z|z
    .exact z
    .rw [z]at d;exact absurd rfl d
   refine wq.mpr ⟨λz hz=>?_,h⟩;rcases wQ.mp hz with e|e
   .rw [e];exact c
   .exact lex_tr c (f z e)
def jx:∀{l:List (List Int)},l.Nodup->Ris (sortT l)
 |[],_=>.nil
 |x::r,h=>by
  obtain⟨a,b⟩:=u4.mp h;exact qcl (λm=>a ((qS r).mem_iff.mp m)) (jx b)
def qcm:∀{a b:List (List Int)},a.Perm b->Ris a->Ris b->a=b
 |[],b,p,_,_=>(List.nil_perm.mp p).symm
 |x::a,[],p,_,_=>absurd (List.perm_nil.mp p) 02
 |x::a,y::b,p,h,k=>by
  obtain⟨d,f⟩:=wq.mp h;obtain⟨k1,k2⟩:=wq.mp k;have e:x=y:=by
   rcases wQ.mp (p.mem_iff.mp wL)with z|z
   .exact z
   .rcases wQ.mp (p.symm.mem_iff.mp wL)with c|c
    .exact c.symm
    .have:=lex_tr (d y c) (k1 x z)
     rw[qbs]at this;cases this
  subst e;rw[qcm (List.Perm.cons_inv p) f k2]
def jy(x:Int):∀l:List Int,(insI x l).Perm (x::l)
 |[]=>.refl _
 |y::r=>by
  unfold insI;split
  .exact .refl _
  .exact ((jy x r).cons y).trans (.swap ..)
def qT:∀l:List Int,(sortI l).Perm l
 |[]=>.refl _
 |x::r=>(jy x (sortI r)).trans ((qT r).cons x)
def qd4{x:Int}:∀{l:03},l.Pairwise (·<=·)->(insI x l).Pairwise (·<=·)
 |[],_=>uu _ _
 |y::r,h=>by
  obtain⟨b,c⟩:=wq.mp h;unfold insI;split
  .rename_i a
   refine wq.mpr ⟨λz hz=>?_,h⟩;rcases wQ.mp hz with e|e
   .rw [e];exact a
   .exact Int.le_trans a (b z e)
  .rename_i a
   refine wq.mpr ⟨λz hz=>?_,qd4 c⟩;rcases wQ.mp ((jy x r).mem_iff.mp hz)with e|e
   .rw [e];lia
   .exact b z e
def je:∀l:List Int,(sortI l).Pairwise (·<=·)
 |[]=>.nil
 |x::r=>qd4 (je r)
def qdg{ks:List (List Int)}(nd:ks.Nodup):Ord (ltK ks) ks.length where
 irr:=λa _=>qbs _
 tr:=λa b c _ _ _ h k=>lex_tr h k
 tot:=λa b ha d h=>lex_tot λe=>h (by
  rw[wt,wt,wD ha,wD d]at e;exact(xx nd).mp e)
def qcn{ks:List (List Int)}(nd:ks.Nodup)(c:1<=ks.length):(evT (ltK ks) (kas_sort ks.length)).toList.map (λi=>ks.getD i [])=sortT ks:=by
 obtain⟨pm,d⟩:=qd1 (qdg nd) c;generalize evT (ltK ks) (kas_sort ks.length)=p at *;have f:(p.toList.map λi=>ks.getD i []).Perm ks:=by
  have e:(List.range ks.length).map (λi=>ks.getD i [])=ks:=by
   apply u8;intro i;rw[wU];by_cases hi:i<ks.length
   .rw [wD (by simpa using hi),wD hi]
    simp[hi]
   .rw [vW (by simpa using hi),vW 00];rfl
  have:=pm.map λi=>ks.getD i []
  rwa [e]at this
 refine qcm (f.trans (qS ks).symm) ?_ (jx nd);show(p.toList.map λi=>ks.getD i []).Pairwise _;rw[List.pairwise_map,ue];intro i j hi b a;have hsz:=pm.size;have:=d i j a (by simpa[hsz]using b);rw[qcj (by simpa using hi),qcj (by simpa using b)]at this;simpa[ltK]using this
section
variable{X:Cx}{pins:List (Addr×Obj)}{σ:St}{H:Hp}{s:Shared}{ι:List Addr}{S:Sr}
theorem qd5(I:000):∀{l:List D} {ks:List (List Int)} {xs:List V} {vs:List Value},tupsOf l=some ks->Dens ι H l xs->Vals xs vs->TupsAt s.heap vs ks/\l=ks.map tupI
 |[],ks,xs,vs,e,hd,r=>by
  cases e;cases (show xs=[]from hd);cases r;exact⟨rfl,rfl⟩
 | .t a::l,ks,xs,vs,e,hd,r=>by
  obtain⟨x,d,rfl,hx,f⟩:=hd;obtain⟨b,ys,rfl,_,h,i⟩:=hx;simp only[tupsOf]at e;cases z1:intsOf a with
  |none=>rw[z1]at e;cases e
  |some k =>
   rw[z1,w5]at e;cases z2:tupsOf l with
   |none=>rw[z2]at e;cases e
   |some j =>
    rw[z2]at e;cases e;cases r with
    |cons m n =>
     cases m;obtain⟨t1,t2⟩:=qd5 I z2 f n;obtain⟨c,o,p,_⟩:=jt I h;have q:=intsOf_eq z1;subst q;cases dens_ints i;refine⟨⟨b,c,k,j,rfl,rfl,p,zg o,t1⟩,?_⟩;rw[t2];rfl
 | .non::_,_,_,_,e,_,_=>by cases e
 | .bl _::_,_,_,_,e,_,_=>by cases e
 | .int _::_,_,_,_,e,_,_=>by cases e
 | .str _::_,_,_,_,e,_,_=>by cases e
 | .l _::_,_,_,_,e,_,_=>by cases e
 | .emp::_,_,_,_,e,_,_=>by cases e
 | .exc _::_,_,_,_,e,_,_=>by cases e
 | .ref _::_,_,_,_,e,_,_=>by cases e
theorem qco(r:Vals xs vs):∀p:List Nat,(∀i∈p,i<vs.length)->Vals (p.map λi=>xs.getD i .non) (p.map λi=>vs.getD i .none)
 |[],_=>.nil
 |i::p,h=>by
  refine .cons ?_ (qco r p λj a=>h j (wO _ a));have hi:=h i wL;obtain⟨x,e1,b⟩:=Vals.at r hi;dsimp only;rw[wt,wt,e1,wD hi];exact b
theorem qcp(h:Dens ι H l xs):∀p:List Nat,(∀i∈p,i<l.length)->Dens ι H (p.map λi=>l.getD i .non) (p.map λi=>xs.getD i .non)
 |[],_=>rfl
 |i::p,hp=>by
  have hi:=hp i wL;obtain⟨x,e1,a⟩:=h.get (wD hi);refine⟨_,_,rfl,?_,qcp h p λj b=>hp j (wO _ b)⟩;dsimp only;rw[wt,wt,e1,wD hi];exact a
theorem zP(I:000)(st:Sto ι H S)(N:X.calm=true)(n:Dens ι H l xs)(p:Vals xs vs)(e:tupsOf l=some ks)(z:l.length<64)(nd:ks.Nodup)(ne:∀k∈ks,k≠[])(col:∀(v:Value->Shared->Prop) (Q':List Value->Shared->Prop),(∀(h':Heap) (tk:Nat),s.heap.objs.size<=h'.objs.size->(∀b o,s.heap.get? b=some o->h'.get? b=some o)->Q' vs {s with heap:=h',toks:=tk})->wpAny 05 X.A.in1 (collect x) Q' v s)(q:Pst Den (newL m ((sortT ks).map tupI) S) ι H Q):wpAny 05 X.A (call (.builtin "sorted") [x]) (EP X pins σ Q) X.xe s:=by
 obtain⟨y,r⟩:=qd5 I e n p;have len:vs.length=ks.length:=y.len;have B:l.length=ks.length:=by rw[r];simp
 refine qfe (κ:=tuples' true) (lt:=ltK ks) 00 col (λh h' tk kp=>?_) λh' tk D c sz kp E=>?_
 .have t':TupsAt h' vs ks:=y.keep λa o _ F=>kp a o F
  exact⟨λv Q' J=>qgR (s:={s with heap:=h',toks:=tk}) t' ne h J,by rw[len];exact qdg nd,λi j C hi O K=>qi1 (s:={s with heap:=h',toks:=tk}) t' 00 00 K⟩
 .
  have fin:∃f,Vals f (outOf (ltK ks) vs)/\Dens ι H ((sortT ks).map tupI) f:=by
   unfold outOf;by_cases h:vs.length<2
   .rw [wM h]
    refine⟨xs,p,?_⟩;have:sortT ks=ks:=by
     match ks,len with
     |[],_=>rfl
     |[k],_=>rfl
     |_::_::_,len=>simp at len;lia
    rw[this,<-r];exact n
   .rw [wN h]
    rw[len];obtain⟨pm,_⟩:=qd1 (qdg nd) (show 1<=ks.length by lia);have u:∀i∈(evT (ltK ks) (kas_sort ks.length)).toList,i<ks.length:=λi hi=>uA.mp (pm.mem_iff.mp hi)
    refine⟨_,qco p _ λi hi=>by rw[len];exact u i hi,?_⟩;have d:=qcp n _ λi hi=>by rw[B];exact u i hi
    have L:(sortT ks).map tupI=(evT (ltK ks) (kas_sort ks.length)).toList.map λi=>l.getD i .non:=by
     rw[<-qcn nd 00,vH];refine vT λi hi=>?_
     have:=u i hi;rw[r];simp[this]
    rw[L];exact d
  obtain⟨f,M,d'⟩:=fin;have fr:H D=none:=I.hok.fresh sz;have hz:f.length<=sizeLine:=by
   rw[<-d'.length,wH,(qS ks).length_eq,vM];lia
  exact⟨.ref D,upd H D (.l f),I.laid (o:=.l f) (t':=tk) kp sz ⟨hz,outOf (ltK ks) vs,c,M,E⟩,rfl,zo st d' q D fr⟩
theorem qgU(I:000)(h:Rd H a (.l xs)):∃vs:List Value,Vals xs vs/\s.heap.IsList a vs.toArray/\(∀(A:Around) (c:Value->Shared->Prop) (Q':List Value->Shared->Prop),(∀(h':Heap) (tk:Nat),s.heap.objs.size<=h'.objs.size->(∀b o,s.heap.get? b=some o->h'.get? b=some o)->Q' vs {s with heap:=h',toks:=tk})->wpAny 05 A (collect (.ref a)) Q' c s):=by
 obtain⟨vs,r,p,hz⟩:=qbf I h;refine⟨vs,r,p,λA c Q' d=>collect_list p (d _ s.toks ?_ λb o e=>?_) (by rw[<-r.length];exact hz)⟩
 .rw [vS,size_push'];lia
 .exact (wJ _ _ (w1 (wF e))).trans (wB _ e)
theorem qfi{ns:03}(I:000)(st:Sto ι H S)(h:Rd H a (.l xs))(y:Dens ι H (ns.map .int) xs)(z:ns.length<64)(q:Pst Den (newL m ((sortI ns).map .int) S) ι H Q):
  wpAny 05 X.A (call (.builtin "sorted") [.ref a]) (EP X pins σ Q) X.xe s:=by
 obtain⟨vs,r,p,hz⟩:=qbf I h;cases dens_ints y;have v:IntsAre vs ns:=zg r;have K:=v.length;refine sorted_ints p v 00 λd f i1 i2 B=>?_
 have C:f=sortI ns:=PySem.W.lks_uniq (i2.trans (qT ns).symm) B (je ns);have up:∀b o,s.heap.get? b=some o->(sortedAll s.heap vs d).get? b=some o:=λb o e=>by
  have j:b<s.heap.objs.size:=wF e;unfold sortedAll sortedHeap;refine(wJ _ _ (w1 (vf j))).trans (wB _ (wB _ ((wJ _ _ (w1 (vf j))).trans (wB _ ?_))));exact(wJ _ _ (w1 j)).trans (wB _ e)
 have E:(((s.heap.push (seqObj "list" #[] 0)).update s.heap.objs.size (Obj.mapSeq (·++vs.toArray))).push (seqObj "list" vs.toArray 0)).get? (s.heap.objs.size+1)=some (seqObj "list" vs.toArray 0):=by
  have:((s.heap.push (seqObj "list" #[] 0)).update s.heap.objs.size (Obj.mapSeq (·++vs.toArray))).objs.size=s.heap.objs.size+1:=by rw[vS,size_push']
  rw[<-this];exact wE _ rfl
 obtain⟨c,at'⟩:∃c,(sortedAll s.heap vs d).get? (s.heap.objs.size+1)=some (seqObj "list" d c):=by
  unfold sortedAll sortedHeap;have e1:=ut E λ_=>(#[]:Array Value)
  have F:=wB (seqObj "list" #[] 0) (wB (seqObj "tuple" vs.toArray 0) e1);exact⟨_,ut F λ_=>d⟩
 have sz:s.heap.objs.size<=s.heap.objs.size+1:=u0 _;have fr:H (s.heap.objs.size+1)=none:=I.hok.fresh sz;have J:Vals (f.map V.int) d.toList:=by
  have:∀{us:List Value} {i:03},IntsAre us i->Vals (i.map V.int) us:=λ{us i} h=>by
   induction h with
   |nil=>exact .nil
   |cons n t _ l=>exact .cons ⟨t,rfl⟩ l
  exact this i1
 have dd:Dens ι H ((sortI ns).map .int) (f.map V.int):=by
  rw[C];have:∀i:List Int,Dens ι H (i.map .int) (i.map V.int):=λi=>by
   induction i with
   |nil=>rfl
   |cons x r l=>exact⟨_,_,rfl,rfl,l⟩
  exact this _
 have u:(f.map V.int).length<=sizeLine:=by rw[wH,i2.length_eq,vM];lia
 refine⟨.ref _,upd H (s.heap.objs.size+1) (.l (f.map V.int)),I.laid (o:=.l (f.map V.int)) (t':=s.toks) up sz ⟨u,d.toList,c,J,by rw[at']⟩,rfl,zo st dd q _ fr⟩
theorem qgV(m:Bool)(n:X.calm=true):CallR X (.builtin "sorted") (Gn (one (bSorted m))):=by
 intro pins s σ H xs us Q I r h;obtain⟨ι,S,ds,st,hd,p⟩:=h;obtain⟨d,rfl,p⟩:=qbh p
 .skip
  obtain⟨x,rfl,hx⟩:=dens1 hd;obtain⟨u,rfl,P⟩:=vals1 r;simp only[one,bSorted]at p;have f:∀{l:List D},lstOf S d=some l->walkD S d=some l->wpAny 05 X.A (call (.builtin "sorted") [u]) (EP X pins σ Q) X.xe s:=λ{l} hl hw=>by
   obtain⟨a,xs,rfl,ha,B⟩:=zk st hl hx;cases P;rw[hw,w5]at p;unfold sortL at p;by_cases c:l.length<64
   .rw [wM c]at p
    cases z:intsOf l with
    |some ns =>
     rw[z]at p;have:=intsOf_eq z;subst this;exact qfi I st ha B (by simpa using c) p
    |none =>
     rw[z]at p;cases z2:tupsOf l with
     |none=>simp only[z2,xu]at p;exact p.elim
     |some ks =>
      simp only[z2,w5]at p;by_cases i:ks.Nodup/\∀t∈ks,t≠[]
      .rw [wM i]at p
       obtain⟨vs,K,_,col⟩:=qgU I ha;exact zP I st n B K z2 c i.1 i.2 (col _) p
      .rw [wN i]at p;exact p.elim
   .rw [wN c]at p;exact p.elim
  cases d with
  |l l=>exact f rfl rfl
  |ref k =>
   cases z:S[k]? with
   |none=>simp only[walkD,z,xu]at p;exact p.elim
   |some so =>
    cases so with
    |l l=>exact f (by unfold lstOf;dsimp only;rw[z]) (by unfold walkD;dsimp only;rw[z])
    |dis l=>simp only[walkD,z,xu]at p;exact p.elim
    |dic l =>
     obtain⟨a,rfl,ha⟩:=hx;cases P;obtain⟨_,kvs,e1,dk⟩:=st.obj k a _ ha z;obtain⟨hz,lo,ys,E,o,es,ep,U,ex,W,Y,Z⟩:=I.hok a _ e1;simp only[walkD,z,w5]at p;have F:∀{l:List (List Int×D)} {kvs:List (List Key×V)} {ys:List (List Key×Addr×Value)},DGs keyT ι H l kvs->Paired (λ(p:List Key×V) (q:List Key×Addr×Value)=>p.1=q.1/\H q.2.1=some (.t (p.1.map kV))/\RelV p.2 q.2.2) kvs ys ->
       Dens ι H (l.map λp=>tupI p.1) (ys.map λq=>V.ref q.2.1):=λ{l}=>by
      induction l with
      |nil=>intro kvs ys L M;cases (show kvs=[]from L);cases M;rfl
      |cons q l J =>
       intro kvs ys L M;obtain⟨v,r',rfl,_,a0⟩:=L;cases M with
       |cons y t =>
        rename_i q2 a1;obtain⟨ya,N,yc⟩:=y;refine⟨_,_,rfl,⟨q2.2.1,_,rfl,λhm=>?_,N,?_⟩,J a0 t⟩
        .obtain ⟨j,hj,ej⟩:=vh hm
         have hs:j<S.length:=by rw[<-st.len];exact hj
         have C:=st.obj j _ S[j] (by rw[wD hj,ej]) (wD hs);cases e:S[j]with
         |l _=>rw[e]at C;obtain⟨_,_,k2,_⟩:=C;rw[N]at k2;cases k2
         |dic _=>rw[e]at C;obtain⟨_,_,k2,_⟩:=C;rw[N]at k2;cases k2
         |dis _=>rw[e]at C;obtain⟨_,_,k2,_⟩:=C;rw[N]at k2;cases k2
        .show Dens ι H (q.1.map .int) ((keyT q.1).map kV)
         unfold keyT;rw[vH];have:∀O:List Int,Dens ι H (O.map .int) (O.map (kV∘Sum.inl)):=λO=>by
          induction O with
          |nil=>rfl
          |cons x r J=>exact⟨_,_,rfl,rfl,J⟩
         exact this _
     have B:=F dk E;have K:Vals (ys.map λq=>V.ref q.2.1) (ys.map λq=>Value.ref q.2.1):=by
      clear E Y B Z;induction ys with
      |nil=>exact .nil
      |cons q r J=>exact .cons rfl J
     have ev:es.toList.map (·.key)=ys.map λq=>Value.ref q.2.1:=by rw[Y,vH];rfl
     have hsz:es.size<=sizeLine:=by
      have L:es.toList.length=ys.length:=by rw[Y];simp
      have M:kvs.length=ys.length:=Paired.length E;have:es.size=es.toList.length:=by simp
      lia
     have col:∀(E':Value->Shared->Prop) (Q':List Value->Shared->Prop),(∀(h':Heap) (tk:Nat),s.heap.objs.size<=h'.objs.size->(∀b o,s.heap.get? b=some o->h'.get? b=some o)->Q' (ys.map λq=>Value.ref q.2.1) {s with heap:=h',toks:=tk})->wpAny 05 X.A.in1 (collect (.ref a)) Q' E' s:=λE' Q' hq =>
      qaS (A:=X.A.in1) (I.ok.hd n) lo ⟨o,U,ex,W⟩ hsz (by rw[ev];exact hq)
     unfold sortL at p;by_cases c:(l.map λp=>tupI p.1).length<64
     .rw [wM c]at p
      cases z1:intsOf (l.map λp=>tupI p.1)with
      |some ns =>
       rw[z1]at p;cases l with
       |nil =>
        cases z1;exact zP (ks:=[]) I st n B K rfl 02 02 02 col p
       |cons q l=>cases z1
      |none =>
       rw[z1]at p;cases z2:tupsOf (l.map λp=>tupI p.1)with
       |none=>simp only[z2,xu]at p;exact p.elim
       |some ks =>
        simp only[z2,w5]at p;by_cases i:ks.Nodup/\∀t∈ks,t≠[]
        .rw [wM i]at p
         exact zP I st n B K z2 c i.1 i.2 col p
        .rw [wN i]at p;exact p.elim
     .rw [wN c]at p;exact p.elim
  |emp =>
   obtain⟨a,rfl,_,ha⟩:=hx;cases P;obtain⟨hz,lo,ys,E,o,es,ep,U,ex,W,eK,eP,_⟩:=I.hok a _ ha;cases E;have e0:es.toList.map (·.key)=[]:=by
    cases eP' :es.toList with
    |nil=>rfl
    |cons q r=>rw[eP']at eP;cases eP
   have hsz:es.size<=sizeLine:=by
    have:es.toList=[]:=by simpa using e0
    have:es.size=es.toList.length:=by simp
    simp_all
   simp only[walkD,w5]at p;refine zP (l:=[]) (ks:=[]) (xs:=[]) (vs:=[]) I st n rfl .nil rfl 02 02 02 (λE' Q' hq=>qaS (A:=X.A.in1) (I.ok.hd n) lo ⟨o,U,ex,W⟩ hsz (by rw[e0];exact hq)) p
  |_=>exact p.elim
end
end R
namespace R
open PySem PySem.Spec L2 SeqAt
open PyProof.Rows hiding St
noncomputable def CEs.len:CEs->Nat
 | .nil=>0
 | .cons _ r=>r.len+1
def yJ:∀{es:CEs} {ρ:En} {S:Sr} {l:List D} {a:Sr},evs F es ρ S=.ok l a->l.length=es.len
 | .nil,_,_,_,_,h=>by cases h;rfl
 | .cons e r,ρ,S,l,a,h=>by
  unfold evs at h;cases z:ev F e ρ S with
  |no=>rw[z]at h;cases h
  |err=>rw[z]at h;cases h
  |ok x S1 =>
   rw[z,Res.bind_ok]at h;cases z2:evs F r ρ S1 with
   |no=>rw[z2]at h;cases h
   |err=>rw[z2]at h;cases h
   |ok b S2 =>
    rw[z2,Res.bind_ok]at h;cases h;show b.length+1=r.len+1;rw[yJ z2]
noncomputable def CTs.len:CTs->Nat
 | .nil=>0
 | .cons _ r=>r.len+1
def qcq:∀{ts:CTs} {l:List D} {ρ:En} {S:Sr} {a:En} {b:Sr},asgs F ts l ρ S=.ok a b->l.length=ts.len
 | .nil,[],_,_,_,_,_=>rfl
 | .nil,_::_,_,_,_,_,h=>by unfold asgs at h;cases h
 | .cons t r,[],_,_,_,_,h=>by unfold asgs at h;cases h
 | .cons t r,d::l,ρ,S,a,b,h=>by
  unfold asgs at h;dsimp only at h;cases z:asg F t d ρ S with
  |no=>rw[z]at h;cases h
  |err=>rw[z]at h;cases h
  |ok ρ1 S1 =>
   rw[z,Res.bind_ok]at h;show l.length+1=r.len+1;rw[qcq h]
noncomputable def FnAt(P:Program)(w:World)(K:07)(mg:Str->Option Value)(base:Heap)(k:Nat)(F:Fs)(i:Nat)(x:Str)(ps:List Str):Prop :=
 ∃f fd,mg x=some (.ref f)/\PySem.W.keepIn K (.ref f)=true/\Binds K fd ps []/\FnOk P w K mg base CX0 k f fd ps (SpD ps.length (F i))
structure Gb (mg:Str->Option Value):Prop where
 len:mg "len"=none
 range:mg "range"=none
 list:mg "list"=none
 tuple:mg "tuple"=none
 sorted:mg "sorted"=none
 sum:mg "sum"=none
 all:mg "all"=none
 any:mg "any"=none
 zip:mg "zip"=none
 min:mg "min"=none
 max:mg "max"=none
 abs:mg "abs"=none
 divmod:mg "divmod"=none
 isinstance:mg "isinstance"=none
 int:mg "int"=none
 bool:mg "bool"=none
 str:mg "str"=none
 dict:mg "dict"=none
 set:mg "set"=none
def Gb.ty(g:Gb mg):∀t:Ty,mg (Str.ofString t.nm)=none
 | .int=>g.int|.bool=>g.bool|.tuple=>g.tuple|.list=>g.list|.str=>g.str|.dict=>g.dict
noncomputable def nodupB:List Str->Bool
 |[]=>true
 |x::r=>!(r.any λy=>y == x)&&nodupB r
def q9:∀{l:List Str},nodupB l=true->l.Nodup
 |[],_=>.nil
 |x::r,h=>by
  unfold nodupB at h;simp only[wK,uE,List.any_eq_false,vd]at h;exact u4.mpr ⟨λhm=>h.1 x hm rfl,q9 h.2⟩
@[irreducible] noncomputable def QE(X:Cx)(e:Expr)(t:TE):Prop:=PE X e t
@[irreducible] noncomputable def QT(X:Cx)(e:Expr)(t:TT):Prop:=PT X e t
@[irreducible] noncomputable def QW(X:Cx)(e:Expr)(t:TT):Prop:=PW X e t
@[irreducible] noncomputable def QA(X:Cx)(e:List Expr)(t:TA):Prop:=PA X e t
@[irreducible] noncomputable def QS(X:Cx)(e:Stmt)(t:TS):Prop:=PS X e t
@[irreducible] noncomputable def QSs(X:Cx)(e:List Stmt)(t:TS):Prop:=PSs X e t
@[irreducible] noncomputable def QG(X:Cx)(e:Expr)(t:L2.TG):Prop:=PG X e t
@[irreducible] noncomputable def QGs(X:Cx)(e:List Expr)(t:L2.TGs):Prop:=PGs X e t
@[irreducible] noncomputable def QI(X:Cx)(tg e:Expr)(t:TI):Prop:=PI X tg e t
@[irreducible] noncomputable def QO(X:Cx)(e:Option Expr)(t:TO):Prop:=PO X e t
@[irreducible] noncomputable def QTl(X:Cx)(e:List Expr)(t:TT):Prop:=PTl X e t
def Qpt(h:QW X e t):QT X e t:=by delta QW at h;delta QT;exact h.pt
def QSs.un(h:QSs X e t):PSs X e t:=by delta QSs at h;exact h
section
variable{X:Cx}{F:Fs}{pos:Pos}
theorem qc(i:Nat)(b:X.N[i]?=some x:=by rfl)(c:Vis X.env.scope x:=by first|exact Or.inl rfl|exact Or.inr (Or.inl rfl)|exact Or.inr (Or.inr rfl))(hd:dB x:=by decide)(a:(x == ("__classdict__":Str))=false:=by decide):QE X (.Name x pos) (T (ev F (.v i))):=by
 delta QE;exact(qma (qfB b c hd a))
theorem qg{n:Int}{j}:QE X (.Constant (.int n) j pos) (T (ev F (.k (.int n)))):=by
 delta QE;exact(qb6 qfC λ_ _=>rfl)
theorem qN{j}:QE X (.Constant (.bool b) j pos) (T (ev F (.k (.bl b)))):=by
 delta QE;exact(qb6 qlV λ_ _=>rfl)
theorem qdh{j}:QE X (.Constant .none j pos) (T (ev F (.k .non))):=by
 delta QE;exact(qb6 qj4 λ_ _=>rfl)
theorem zK{j}:QE X (.Constant (.str x) j pos) (T (ev F (.k (.str x)))):=by
 delta QE;exact(qb6 qj5 λ_ _=>rfl)
theorem qac{n:Int}(hm:X.mg x=some (.int n t))(a:Gl X x:=by rfl)(hd:dB x:=by decide):QE X (.Name x pos) (T (ev F (.k (.int n)))):=by
 delta QE;exact(qkv (qa5 (v:=.int n) a hm ⟨t,rfl⟩ hd) λ_ _=>rfl)
theorem qv(o:BOp)(ha:QE X a (T (ev F c)))(e:QE X b (T (ev F d))):QE X (.BinOp a (opOf o) b pos) (T (ev F (.bin o c d))):=by
 delta QE;delta QE at ha;delta QE at e;exact(qmc (qiB o) ha e)
theorem qd6(ha:QE X a (T (ev F b))):QE X (.UnaryOp .USub a pos) (T (ev F (.neg b))):=by
 delta QE;delta QE at ha;exact(qmh ha)
theorem qad(o:COp){k:Nat}(f:Room k X.A)(ha:QE X a (T (ev F c)))(e:QE X b (T (ev F d)))(hm:behindInMarks (cOf o) b=false:=by rfl):QE X (.Compare a [cOf o] [b] pos) (T (ev F (.cmp o c d))):=by
 delta QE;delta QE at ha;delta QE at e;exact(qmd (yH o (by have:=f.un;lia)) ha e hm)
theorem qd7(o o':COp){k:Nat}(h:Room k X.A)(ha:QE X a (T (ev F d)))(i:QE X b (T (ev F e)))(j:QE X c (T (ev F f)))(hm:lastMarks [cOf o,cOf o'] [b,c]=false:=by rfl):
  QE X (.Compare a [cOf o,cOf o'] [b,c] pos) (T (ev F (.chain o o' d e f))):=by
 delta QE;delta QE at ha;delta QE at i;delta QE at j;exact(qiG (yH o (by have:=h.un;lia)) (yH o' (by have:=h.un;lia)) ha i j hm)
theorem yw(ha:QE X a t):QE X (.BoolOp .And [a] pos) t:=by
 delta QE;delta QE at ha;exact(qfD ha)
theorem qmK(ha:QE X a t):QE X (.BoolOp .Or [a] pos) t:=by
 delta QE;delta QE at ha;exact(qfD ha)
theorem jf{a b:Expr}{rest:List Expr}{c d:CE}(ha:QE X a (T (ev F c)))(e:QE X (.BoolOp .And (b::rest) pos) (T (ev F d))):QE X (.BoolOp .And (a::b::rest) pos) (T (ev F (.and c d))):=by
 delta QE;delta QE at ha;delta QE at e;exact(qmf ha e)
theorem k_or{a b:Expr}{rest:List Expr}{c d:CE}(ha:QE X a (T (ev F c)))(e:QE X (.BoolOp .Or (b::rest) pos) (T (ev F d))):QE X (.BoolOp .Or (a::b::rest) pos) (T (ev F (.or c d))):=by
 delta QE;delta QE at ha;delta QE at e;exact(r_or ha e)
theorem qjJ(ha:QE X a (T (ev F b))):QE X (.UnaryOp .Not a pos) (T (ev F (.not b))):=by
 delta QE;delta QE at ha;exact(qmg ha)
theorem qf :QA X [] (TL (evs F .nil)):=by
 delta QA;exact(qmb)
theorem qb(a:QE X e (T (ev F c)))(b:QA X es (TL (evs F cs)))(d:sE X e es:=by rfl):QA X (e::es) (TL (evs F (.cons c cs))):=by
 delta QA;delta QE at a;delta QA at b;exact(qkw a b d)
theorem qU{k:Nat}(h:QA X es (TL (evs F cs))):QE X (.Tuple es k pos) (T (ev F (.t cs))):=by
 delta QE;delta QA at h;exact(qmi h)
theorem zz(m:Bool)(h:QA X es (TL (evs F cs))):QE X (.List es pos) (T (ev F (.l m cs))):=by
 delta QE;delta QA at h;exact(qmj h)
theorem qd8(m:Bool):QE X (.Dict [] [] pos) (T (ev F (.dic m))):=by
 delta QE;exact(qmk)
theorem qi{k i:Nat}(h:FnAt X.prog X.w X.K X.mg X.base k F i x ps)(c:Room k X.A)(ha:QA X (e::es) (TL (evs F cs)))(d:Gl X x:=by rfl)(j:cs.len=ps.length:=by rfl)(a:dB x:=by decide)(m:sE X e es:=by rfl)(b:bT X es pos:=by rfl):QE X (.Call (.Name x p) (e::es) [] pos) (T (ev F (.call i cs))):=by
 delta QE;delta QA at ha;obtain⟨f,fd,hm,n,o,q⟩:=h;exact qkD q c d hm n o pass0 ha (λρ S l r z=>(yJ z).trans j) a m b
theorem qae(b:Blt){x:Str}{id:String}{e:Expr}{es:List Expr}{cs:CEs}{p:Pos}(d:CallR X (.builtin id) (Gn (bltD b)))(hm:X.mg x=none)(f:bootBuiltins x=some (.builtin id))(ha:PA X (e::es) (TL (evs F cs)))(h:Gl X x:=by rfl)(hn:x≠"__name__":=by decide)(a:dB x:=by decide)(i:sE X e es:=by rfl)(c:bT X es pos:=by rfl):PE X (.Call (.Name x p) (e::es) [] pos) (T (ev F (.blt b cs))):=qiI d h hm f ha hn a i c
theorem qgW(b:Blt)(d:CallR X (.type ty) (Gn (bltD b)))(hm:X.mg x=none)(f:bootBuiltins x=some (.type ty))(ha:PA X (e::es) (TL (evs F cs)))(h:Gl X x:=by rfl)(hn:x≠"__name__":=by decide)(a:dB x:=by decide)(i:sE X e es:=by rfl)(c:bT X es pos:=by rfl):PE X (.Call (.Name x p) (e::es) [] pos) (T (ev F (.blt b cs))):=qgn d h hm f ha hn a i c
theorem zQ(t:Ty){p b:Pos}(gb:Gb X.mg)(ha:QE X a (T (ev F f)))(h:Gl X "isinstance":=by rfl)(c:Gl X (Str.ofString t.nm):=by rfl)(i:starEach [a,.Name (Str.ofString t.nm) b] X.env=(false,eval a X.env)::starEach [.Name (Str.ofString t.nm) b] X.env:=by rfl)(d:starEach [.Name (Str.ofString t.nm) b] X.env=(false,eval (.Name (Str.ofString t.nm) b) X.env)::starEach [] X.env:=by rfl)(e:(backTo pos (starEach [.Name (Str.ofString t.nm) b] X.env)).any (·.1)=false:=by rfl):
  QE X (.Call (.Name "isinstance" p) [a,.Name (Str.ofString t.nm) b] [] pos) (T (ev F (.isi t f))):=by
 delta QE;delta QE at ha;exact(qmn h gb.isinstance c (gb.ty t) ha i d e)
theorem qmL{b:Pos}(j:QE X o (T (ev F co)))(l:QE X e (T (ev F i)))(h:starEach [e] X.env=(false,eval e X.env)::starEach [] X.env:=by rfl)(c:attributeBase o "pop" X.env (eval o X.env)=eval o X.env:=by rfl)(d:(b.endLine == pos.line)=true:=by rfl)(f:((backTo pos (starEach [e] X.env)).all (λx=>!x.1)&&(backToKw pos (keywordEach [] X.env)).all (λx=>x.1.isSome)&&decide ([e].length+([]:List Keyword).length+(if([]:List Keyword).isEmpty then 0 else 1)<30))=true:=by rfl)(a:(backTo pos (starEach [] X.env)).any (·.1)=false:=by rfl):QE X (.Call (.Attribute o "pop" b) [e] [] pos) (T (ev F (.popAt co i))):=by
 delta QE;delta QE at j;delta QE at l;exact(qda PySem.F.slot_list_pop PySem.F.type_list_pop qfY (λι S x y v u H Q st hx m p=>qmv st hx m p) j l h c d f a)
theorem qjK{b:Pos}(j:QE X o (T (ev F co)))(l:QE X e (T (ev F i)))(h:starEach [e] X.env=(false,eval e X.env)::starEach [] X.env:=by rfl)(c:attributeBase o "append" X.env (eval o X.env)=eval o X.env:=by rfl)(d:(b.endLine == pos.line)=true:=by rfl)(f:((backTo pos (starEach [e] X.env)).all (λx=>!x.1)&&(backToKw pos (keywordEach [] X.env)).all (λx=>x.1.isSome)&&decide ([e].length+([]:List Keyword).length+(if([]:List Keyword).isEmpty then 0 else 1)<30))=true:=by rfl)(a:(backTo pos (starEach [] X.env)).any (·.1)=false:=by rfl):QE X (.Call (.Attribute o "append" b) [e] [] pos) (T (ev F (.app co i))):=by
 delta QE;delta QE at j;delta QE at l;exact(qda PySem.F.slot_list_append PySem.F.type_list_append qaL (λι S x y v u H Q st hx m p=>qjG st hx m p) j l h c d f a)
theorem qw{k:Nat}(f:Room k X.A)(ha:QE X a (T (ev F c)))(e:QE X b (T (ev F d)))(h:PlainIx b:=by exact λ_ _=>rfl):QE X (.Subscript a b pos) (T (ev F (.idx c d))):=by
 delta QE;delta QE at ha;delta QE at e;exact(qmm (qdL f) ha e h)
theorem k_on :QO X none (TOp (evO F .none)):=by
 delta QO;exact(qgm)
theorem k_os(h:QE X e (T (ev F c))):QO X (some e) (TOp (evO F (.some c))):=by
 delta QO;delta QE at h;exact(qgl h)
theorem ym{e:Expr}{lo hi:Option Expr}{f:Pos}{c:CE}{cl ch:CO}(a:QE X e (T (ev F c)))(b:QO X lo (TOp (evO F cl)))(d:QO X hi (TOp (evO F ch))):QE X (.Subscript e (.Slice lo hi none f) pos) (T (ev F (.slc c cl ch))):=by
 delta QE;delta QE at a;delta QO at b;delta QO at d;exact(qmo a b d)
theorem qdi(m:Bool)(gb:Gb X.mg)(ha:QA X (a::es) (TL (evs F cs)))(h:X.calm=true:=by rfl)(i:Gl X "range":=by rfl)(c:Gl X "list":=by rfl)(j:sE X a es:=by rfl)(d:(backTo b (starEach es X.env)).any (·.1)=false:=by rfl):QE X (.Call (.Name "list" e) [.Call (.Name "range" f) (a::es) [] b] [] pos) (T (ev F (.rng (some m) cs))):=by
 delta QE;delta QA at ha;exact(qmH (k:=some m) (.inl ⟨rfl,rfl,m,rfl⟩) h i gb.range c gb.list ha j d)
theorem qG(h:QE X e (T (ev F c)))(b:∀a,isTrue e X.env a=(do let v <-a;standAt e.pos;holding [v] (truthy v)):=by intro _;rfl):QT X e (TB (tst F (.val c))):=by
 delta QT;delta QE at h;exact(qky h b)
theorem zr(o:COp){k:Nat}(f:Room k X.A)(ha:QE X a (T (ev F c)))(e:QE X b (T (ev F d)))(hm:behindInMarks (cOf o) b=false:=by rfl):QT X (.Compare a [cOf o] [b] pos) (TB (tst F (.val (.cmp o c d)))):=by
 delta QT;delta QE at ha;delta QE at e;exact(qkz (yH o (by have:=f.un;lia)) ha e hm)
theorem qbt(o o':COp){k:Nat}(h:Room k X.A)(ha:QE X a (T (ev F d)))(i:QE X b (T (ev F e)))(j:QE X c (T (ev F f)))(hm:lastMarks [cOf o,cOf o'] [b,c]=false:=by rfl):
  QT X (.Compare a [cOf o,cOf o'] [b,c] pos) (TB (tst F (.val (.chain o o' d e f)))):=by
 delta QT;delta QE at ha;delta QE at i;delta QE at j;exact(qgj (yH o (by have:=h.un;lia)) (yH o' (by have:=h.un;lia)) ha i j hm)
theorem qQ(ha:QT X a (TB (tst F b))):QT X (.UnaryOp .Not a pos) (TB (tst F (.not b))):=by
 delta QT;delta QT at ha;exact(qkB ha)
theorem qdj(ha:QT X a t):QW X (.BoolOp .And [a] pos) t:=by
 delta QW;delta QT at ha;exact(qih ha)
theorem yR(ha:QT X a t):QW X (.BoolOp .Or [a] pos) t:=by
 delta QW;delta QT at ha;exact(qj6 ha)
theorem qgX{a b:Expr}{rest:List Expr}{c d:CB}(ha:QT X a (TB (tst F c)))(e:QW X (.BoolOp .And (b::rest) pos) (TB (tst F d))):QW X (.BoolOp .And (a::b::rest) pos) (TB (tst F (.and c d))):=by
 delta QW;delta QT at ha;delta QW at e;exact(qkA ha e)
theorem w_or{a b:Expr}{rest:List Expr}{c d:CB}(ha:QT X a (TB (tst F c)))(e:QW X (.BoolOp .Or (b::rest) pos) (TB (tst F d))):QW X (.BoolOp .Or (a::b::rest) pos) (TB (tst F (.or c d))):=by
 delta QW;delta QT at ha;delta QW at e;exact(qme ha e)
theorem qZ :QTl X [] (TB (tsts F .nil)):=by
 delta QTl;exact(qkK)
theorem qdk(b:QT X c (TB (tst F a)))(d:QTl X ifs (TB (tsts F cs))):QTl X (c::ifs) (TB (tsts F (.cons a cs))):=by
 delta QTl;delta QT at b;delta QTl at d;exact(qiN b d)
theorem zm(h:QE X e (T (ev F c))):QI X tg e (TIt (evI F (.seq c))):=by
 delta QI;delta QE at h;exact(qmC h)
theorem yx{tg a:Expr}{p:Pos}(gb:Gb X.mg)(ha:QA X (a::es) (TL (evs F cs)))(c:Gl X "range":=by rfl)(d:sE X a es:=by rfl)(b:bT X es pos:=by rfl):
  QI X tg (.Call (.Name "range" p) (a::es) [] pos) (TIt (evI F (.rng cs))):=by
 delta QI;delta QA at ha;exact(i_rng c gb.range ha d b)
theorem qmM{n:Nat}(gb:Gb X.mg)(c:QE X e1 (T (ev F c1)))(d:QE X a (T (ev F c2)))(f:Gl X "zip":=by rfl)(h:starEach [e1,a] X.env=(false,eval e1 X.env)::starEach [a] X.env:=by rfl)(b:starEach [a] X.env=(false,eval a X.env)::starEach [] X.env:=by rfl):QI X (.Tuple es n e) (.Call (.Name "zip" p) [e1,a] [] pos) (TIt (evI F (.zip c1 c2))):=by
 delta QI;delta QE at c;delta QE at d;exact(qmJ f gb.zip c d h b)
theorem qp(i:Nat)(a:nodupB X.N=true:=by rfl)(hi:X.N[i]?=some x:=by rfl)(hx:Loc X.env.scope x:=by first|exact Or.inl rfl|exact Or.inr rfl)(b:X.fn x=true\/X.env.scope.names.lookup x=some .local:=by first|exact .inl rfl|exact .inr rfl):QG X (.Name x pos) (TGt (asg F (.v i))):=by
 delta QG;exact(qmw (qdC (q9 a) hi hx b))
theorem zL :QGs X [] (TGts (asgs F .nil)):=by
 delta QGs;exact(qmx)
theorem qC(a:QG X e (TGt (asg F c)))(b:QGs X es (TGts (asgs F cs)))(d:(assignEach (e::es) X.env).map (·.2)=assign e X.env::(assignEach es X.env).map (·.2):=by rfl):QGs X (e::es) (TGts (asgs F (.cons c cs))):=by
 delta QGs;delta QG at a;delta QGs at b;exact(qkG a b d)
theorem zM{k:Nat}(h:QGs X es (TGts (asgs F cs)))(b:X.calm=true:=by rfl)(hn:(assignEach es X.env).length=cs.len:=by rfl)(a:(assignEach es X.env).findIdx? (·.1)=none:=by rfl):QG X (.Tuple es k pos) (TGt (asg F (.t cs))):=by
 delta QG;delta QGs at h;exact(qmy b h hn a λl ρ S c d z=>qcq z)
theorem qd9{k:Nat}{o i:Expr}{co c:CE}(e:Room k X.A)(d:QE X o (T (ev F co)))(hi:QE X i (T (ev F c)))(ha:∀v,assign (.Subscript o i pos) X.env v=(do
   let a <-holding [v] (eval o X.env)
   let b <-holding [v,a] (eval i X.env)
   standAt pos
   holding [v,a,b] (setItem a b v)
   release [v,a,b] []):=by intro _;rfl):QG X (.Subscript o i pos) (TGt (asg F (.sub co c))):=by
 delta QG;delta QE at d;delta QE at hi;exact(qmz (qdL e) d hi ha)
end
section
variable{X:Cx}{F:Fs}{N:Nat}{pos:Pos}
theorem qh :QSs X [] (TSm (exs F N .nil)):=by
 delta QSs;exact(qmA)
theorem qe{st:Stmt}{rest:List Stmt}{c:CS}{cs:CSs}(a:QS X st (TSm (ex F N c)))(b:QSs X rest (TSm (exs F N cs))):QSs X (st::rest) (TSm (exs F N (.cons c cs))):=by
 delta QSs;delta QS at a;delta QSs at b;exact(qkH a b)
theorem yV(a:QE X e (T (ev F c)))(b:swapsWith e none pos.line X.env=pure false:=by rfl):QS X (.Expr e pos) (TSm (ex F N (.expr c))):=by
 delta QS;delta QE at a;exact(qkI a b)
theorem qr(a:QE X e (T (ev F c))):QS X (.Return (some e) pos) (TSm (ex F N (.ret c))):=by
 delta QS;delta QE at a;exact(qmB a)
theorem z_if(h:QT X c (TB (tst F d)))(ha:QSs X a (TSm (exs F N e)))(i:QSs X b (TSm (exs F N f))):QS X (.If c a b pos) (TSm (ex F N (.ifs d e f))):=by
 delta QS;delta QT at h;delta QSs at ha;delta QSs at i;exact(s_if h ha i)
theorem yy(a:QE X e (T (ev F c)))(b:QG X tg (TGt (asg F t)))(d:swapsWithSole [tg] e pos.line X.env=pure false:=by rfl)(f:swappedStores [tg] e X.env=pure none:=by rfl)(h:(assignEach [tg] X.env).map (·.2)=[assign tg X.env]:=by rfl):
  QS X (.Assign [tg] e pos) (TSm (ex F N (.set t c))):=by
 delta QS;delta QE at a;delta QG at b;exact(qjH (qfG a b d f h))
theorem qz(i:Nat)(n:QE X e (T (ev F c)))(q:nodupB X.N=true:=by rfl)(hi:X.N[i]?=some x:=by rfl)(hx:Loc X.env.scope x:=by first|exact Or.inl rfl|exact Or.inr rfl)(r:swapsWith e (some (.Name x a)) pos.line X.env=pure false:=by rfl)(s:X.fn x=true\/X.env.scope.names.lookup x=some .local:=by first|exact .inl rfl|exact .inr rfl):QS X (.Assign [.Name x a] e pos) (TSm (ex F N (.set (.v i) c))):=by
 delta QS;delta QE at n;refine qjH (g:=λd ρ S=>.ok (ρ.set i (some d)) S) (PSimp (qfH (q9 q) hi hx n r s) λD C H u=>?_);obtain⟨ι,S,ρ,w,st,p⟩:=u;refine⟨ι,S,ρ,w,st,?_⟩;cases z:ev F c ρ S with
 |no=>rw[z]at p;exact p
 |err=>rw[z]at p;exact p
 |ok d S1 =>
  rw[z]at p;intro v b o s1 f y;obtain⟨h,S2,A,d2,j,l,m,B⟩:=p v b o s1 f y;exact B _ h o (Stp.refl _ _) l (j.set m)
theorem yz(hi:QI X tg iter (TIt (evI F it)))(b:QG X tg (TGt (asg F t)))(c:QSs X body (TSm (exs F N a)))(d:PassesOwn 05 X.A X.env X.xe:=by exact PassesOwn.never)(e:X.calm=true:=by rfl)(f:∀x,foldedSetIterable iter X.env x=pure x:=by intro _;rfl):QS X (.For tg iter body [] pos) (TSm (ex F N (.forS t it a))):=by
 delta QS;delta QI at hi;delta QG at b;delta QSs at c;exact(qmD d e hi b c f)
theorem qbu(d:QT X c (TB (tst F a)))(e:QSs X body (TSm (exs F N b)))(f:PassesOwn 05 X.A X.env X.xe:=by exact PassesOwn.never):QS X (.While c body [] pos) (TSm (ex F N (.whileS a b))):=by
 delta QS;delta QT at d;delta QSs at e;exact(qiK f d e)
noncomputable def cscB(O:List (Str×NameKind))(N':List Str)(sc:Scope)(fr:List Nat)(xs ts:List Str):Bool :=
 (sc.kind == .function)&&sc.names.all (λy=>y.2 != .cell)&&sc.names.all (λy=>y.2 != .local || sc.names.lookup y.1 == some .local)&&sc.names.all (λy=>y.2 != .free || O.lookup y.1 == some .cell || O.lookup y.1 == some .free) &&
 decide (fr.length=xs.length)&&(fr.zip xs).all (λp=>N'[p.1]? == some p.2)&&xs.all (λx=>sc.names.lookup x == some .free&&(O.lookup x == some .cell || O.lookup x == some .free))&&ts.all (λx=>sc.names.lookup x == some .local)&&decide (xs++ts).Nodup
theorem jz(h:cscB X.env.scope.names X.N sc fr xs ts=true):CSc X sc fr xs ts:=by
 unfold cscB at h;simp only[wK,wy,Bool.or_eq_true,bne_iff_ne,vd,w6]at h;obtain⟨⟨⟨⟨⟨⟨⟨⟨b,c⟩,d⟩,e⟩,f⟩,l⟩,m⟩,n⟩,o⟩:=h;refine⟨b,c,λy a p=>?_,λy a q=>?_,⟨f,λi j x e1 r=>?_,m,n,o⟩⟩
 .rcases d y a with z|z
  .exact absurd p z
  .exact z
 .rcases e y a with (z|z)|z
  .exact absurd q z
  .exact .inl z
  .exact .inr z
 .have hm:(j,x)∈fr.zip xs:=by
   apply vL (i:=i);rw[List.getElem?_zip_eq_some];exact⟨e1,r⟩
  exact l (j,x) hm
theorem qK{k:Nat}{sc:Scope}{cl:List (Str×Addr)}{C:Addr}{code:Value}{N':List Str}{fp:List Addr}{tg elt iter:Expr}{ifs:List Expr}{a:Pos}{it:Addr}{o:Addr×Obj}{s:Shared}{H:Hp}(r:Room (k+1) X.A):
  Room k (genCx X sc cl C code N' fp (.GeneratorExp elt [⟨tg,iter,ifs,0⟩] sc a) it o s H).A:=by
 have c:=r.hd;have d:=r.dp;have e:=r.un;refine⟨c,?_,?_⟩
 .show X.A.depth+frameCount ([].map Frame.where_)+Code.weight _+3*k+5<_
  have:Code.weight (.compLoop (.GeneratorExp elt [⟨tg,iter,ifs,0⟩] sc a) 0 (.ref it) .none (genEnv sc cl C code builtinsNs X.env))<=1:=Nat.le_of_ble_eq_true rfl;have b:frameCount (([]:List Frame).map Frame.where_)=0:=rfl;rw[b];lia
 .show X.A.units+1+1+1+1+1+unitsOf ([].map Frame.where_)+Code.cUnits _+16*k+200<_
  have:Code.cUnits (.compLoop (.GeneratorExp elt [⟨tg,iter,ifs,0⟩] sc a) 0 (.ref it) .none (genEnv sc cl C code builtinsNs X.env))<=3:=Nat.le_of_ble_eq_true rfl;have b:unitsOf (([]:List Frame).map Frame.where_)=0:=rfl;rw[b];lia
theorem k_lc(m:Bool)(fr:List Nat)(xs ts:List Str)(hi:QI X tg iter (TIt (evI F it)))(rt:∀cl C fp s H,QG (compCx X sc cl C (xs++ts) fp s H) tg (TGt (asg F t)))(ri:∀cl C fp s H,QTl (compCx X sc cl C (xs++ts) fp s H) ifs (TB (tsts F a)))(re:∀cl C fp s H,QE (compCx X sc cl C (xs++ts) fp s H) elt (T (ev F b)))(c:X.calm=true:=by rfl)(d:∀x,foldedSetIterable iter X.env x=pure x:=by intro _;rfl)(h:cscB X.env.scope.names X.N sc fr xs ts=true:=by rfl):QE X (.ListComp elt [⟨tg,iter,ifs,0⟩] sc pos) (T (ev F (.lc m fr ts.length b t it a))):=by
 delta QE;delta QI at hi;delta QG at rt;delta QTl at ri;delta QE at re;exact(r_lc c hi d (jz h) ⟨rt,ri,re⟩)
theorem qea(i:Nat)(m:Bool)(fr:List Nat)(xs ts:List Str){e a:Pos}(hi:QI X tg iter (TIt (evI F it)))(rt:∀cl C fp s H,QG (compCx X sc cl C (xs++ts) fp s H) tg (TGt (asg F t)))(ri:∀cl C fp s H,QTl (compCx X sc cl C (xs++ts) fp s H) ifs (TB (tsts F c)))(re:∀cl C fp s H,QE (compCx X sc cl C (xs++ts) fp s H) elt (T (ev F d)))(f:X.calm=true:=by rfl)(j:∀x,foldedSetIterable iter X.env x=pure x:=by intro _;rfl)(h:cscB X.env.scope.names X.N sc fr xs ts=true:=by rfl)(l:nodupB X.N=true:=by rfl)(n:X.N[i]?=some y:=by rfl)(o:X.env.scope.names.lookup y=some .local:=by rfl)(b:swapsWith (.ListComp elt [⟨tg,iter,ifs,0⟩] sc pos) (some (.Name y e)) a.line X.env=pure true:=by rfl):
  QS X (.Assign [.Name y e] (.ListComp elt [⟨tg,iter,ifs,0⟩] sc pos) a) (TSm (ex F N (.set (.v i) (.lc m fr ts.length d t it c)))):=by
 delta QS;delta QI at hi;delta QG at rt;delta QTl at ri;delta QE at re;exact(qiP f hi j (jz h) ⟨rt,ri,re⟩ (q9 l) n o b)
theorem qjL(w:GW)(fr:List Nat)(xs ts:List Str){id:String}{f:Str}{p d:Pos}{tg elt iter:Expr}{ifs:List Expr}{sc:Scope}{k:Nat}{c T':Addr}{t:CT}{it:CI}{l:CBs}{m:CE}(n:Room k X.A)(q:GCall X w (.builtin id))(hm:X.mg f=none)(r:bootBuiltins f=some (.builtin id))(a:X.env.code=.ref c)(b:codeTab X.K c T'=true)(hi:PI X tg iter (TIt (evI F it)))(rt:∀cl C code fp it o s H,PG 002 tg (TGt (asg F t)))(ri:∀cl C code fp it o s H,PTl 002 ifs (TB (tsts F l)))(re:∀cl C code fp it o s H,PE 002 elt (T (ev F m)))(u:X.calm=true:=by rfl)(e:Gl X f:=by rfl)(hn:f≠"__name__":=by decide)(i:dB f:=by decide)(v:∀x,genFold iter X.env x=pure x:=by intro _;rfl)(h:cscB X.env.scope.names X.N sc fr xs ts=true:=by rfl)(hz:sc.names.lookup (".0":Str)=some NameKind.local:=by rfl)(j:sc.isCoroutine=false:=by rfl):PE X (.Call (.Name f p) [.GeneratorExp elt [⟨tg,iter,ifs,0⟩] sc d] [] pos) (T (ev F (.gen w fr ts.length m t it l))) :=
 qmG u n.depth q e hm r hn i hi v (jz h) hz j a b ⟨rt,ri,re⟩
theorem qaf(fr:List Nat)(xs ts:List Str){k:Nat}(e:Room k X.A)(gb:Gb X.mg)(a:X.env.code=.ref c)(b:codeTab X.K c T'=true)(hi:QI X tg iter (TIt (evI F it)))(rt:∀cl C code fp it o s H,QG 002 tg (TGt (asg F t)))(ri:∀cl C code fp it o s H,QTl 002 ifs (TB (tsts F j)))(re:∀cl C code fp it o s H,QE 002 elt (T (ev F l)))(m:X.calm=true:=by rfl)(f:Gl X "all":=by rfl)(n:∀x,genFold iter X.env x=pure x:=by intro _;rfl)(h:cscB X.env.scope.names X.N sc fr xs ts=true:=by rfl)(hz:sc.names.lookup (".0":Str)=some NameKind.local:=by rfl)(i:sc.isCoroutine=false:=by rfl):QE X (.Call (.Name "all" p) [.GeneratorExp elt [⟨tg,iter,ifs,0⟩] sc d] [] pos) (T (ev F (.gen .all fr ts.length l t it j))):=by
 delta QE;delta QI at hi;delta QG at rt;delta QTl at ri;delta QE at re;exact(qjL .all fr xs ts e (qkN m e.depth λ_=>e.hd) gb.all (by decide +kernel) a b hi rt ri re m f 01 01 n h hz i)
theorem qgY(fr:List Nat)(xs ts:List Str){k:Nat}(e:Room k X.A)(gb:Gb X.mg)(a:X.env.code=.ref c)(b:codeTab X.K c T'=true)(hi:QI X tg iter (TIt (evI F it)))(rt:∀cl C code fp it o s H,QG 002 tg (TGt (asg F t)))(ri:∀cl C code fp it o s H,QTl 002 ifs (TB (tsts F j)))(re:∀cl C code fp it o s H,QE 002 elt (T (ev F l)))(m:X.calm=true:=by rfl)(f:Gl X "sum":=by rfl)(n:∀x,genFold iter X.env x=pure x:=by intro _;rfl)(h:cscB X.env.scope.names X.N sc fr xs ts=true:=by rfl)(hz:sc.names.lookup (".0":Str)=some NameKind.local:=by rfl)(i:sc.isCoroutine=false:=by rfl):QE X (.Call (.Name "sum" p) [.GeneratorExp elt [⟨tg,iter,ifs,0⟩] sc d] [] pos) (T (ev F (.gen .sum fr ts.length l t it j))):=by
 delta QE;delta QI at hi;delta QG at rt;delta QTl at ri;delta QE at re;exact(qjL .sum fr xs ts e (qgC m e.depth λ_=>e.hd) gb.sum (by decide +kernel) a b hi rt ri re m f 01 01 n h hz i)
end
structure FunT (K:07) (x:Str) (st:Stmt) (f:Addr) (fd:FuncData) (c T':Addr):Prop where
 ex:∃(oc:Value) (od:Option Addr) (kV doc pm:Value) (an:Option Addr) (ct:Value) (osl:Array (Option Value)),
  fd=PySem.W.fnOf x x (defArgs st) (defBody st) (defScope st) .none kV doc pm an (.ref c) ct/\K.lookup f=some ⟨oc,od,.func fd,osl⟩/\PySem.W.codeIn K (.ref c) x=true
 tab:codeTab K c T'=true
 kp:PySem.W.keepIn K (.ref f)=true
mutual
def Den.frz{n:Nat}(st:Sto ι H S):∀(d:D) {d':D} {v:V},R.frz S n d=some d'->Den ι H d v->Den (ι.take n) H d' v
 | .non,d',v,e,h=>by cases e;exact h
 | .bl b,d',v,e,h=>by cases e;exact h
 | .int b,d',v,e,h=>by cases e;exact h
 | .str b,d',v,e,h=>by cases e;exact h
 | .exc _,d',v,e,h=>by cases e
 | .emp,d',v,e,h=>by
  cases e;obtain⟨a,e1,e2,e3⟩:=h;exact⟨a,e1,λm=>e2 (vt m),e3⟩
 | .t l,d',v,e,h=>by
  unfold R.frz at e;cases z:R.frzs S n l with
  |none=>rw[z]at e;cases e
  |some l' =>
   rw[z]at e;cases e;obtain⟨a,xs,e1,e2,e3,e4⟩:=h;exact⟨a,xs,e1,λm=>e2 (vt m),e3,Dens.frz st l z e4⟩
 | .l l,d',v,e,h=>by
  unfold R.frz at e;cases z:R.frzs S n l with
  |none=>rw[z]at e;cases e
  |some l' =>
   rw[z]at e;cases e;obtain⟨a,xs,e1,e2,e3,e4⟩:=h;exact⟨a,xs,e1,λm=>e2 (vt m),e3,Dens.frz st l z e4⟩
 | .ref m,d',v,e,h=>by
  obtain⟨a,e1,e2⟩:=h;unfold R.frz at e;split at e
  .rename_i hm
   cases e;exact⟨a,e1,by rw[List.getElem?_take];rw[wM hm];exact e2⟩
  .rename_i hm
   split at e
   .rename_i l hl
    split at e
    rotate_left
    .cases e
    rename_i f;cases e;obtain⟨_,xs,h1,h2⟩:=st.obj m a _ e2 hl;refine⟨a,xs,e1,λhmem=>?_,.inl h1,Dens.less l f h2⟩;obtain⟨i,hi,ei⟩:=List.mem_iff_getElem?.mp hmem |>.elim λi hi=>(⟨i,by
     have:=(wP.mp hi).1;rw[vP]at this;lia,hi⟩:∃i,i<n/\(ι.take n)[i]?=some a)
    rw[List.getElem?_take,wM hi]at ei;have hlt:=(wP.mp ei).1;have:=(List.getElem?_inj hlt st.nd).mp (ei.trans e2.symm);lia
   .cases e
def Dens.frz{n:Nat}(st:Sto ι H S):∀(ds:List D) {ds':List D} {xs:List V},R.frzs S n ds=some ds'->Dens ι H ds xs->Dens (ι.take n) H ds' xs
 |[],ds',xs,e,h=>by cases e;exact h
 |d::r,ds',xs,e,h=>by
  unfold R.frzs at e;split at e
  .rename_i a b h1 h2
   cases e;obtain⟨x,t,e1,e2,e3⟩:=h;exact⟨x,t,e1,Den.frz st d h1 e2,Dens.frz st r h2 e3⟩
  .cases e
end
def qi2{N:Nat}{c:CF}{ns ps:List Str}(o:ps.length=c.np)(hn:ns.length=c.nn)(s:c.np<=c.nn)(h:SpD ps.length (callC F N c) vs H Q E0):TSm (exs F N c.body) {nx:=λ_ H'=>Q .non H',rt:=Q} (start ns vs) H:=by
 obtain⟨r,ι,S,ds,st,l,p⟩:=h;have m:ds.length=c.np:=by rw[l.length,r,o]
 unfold callC at p;rw[wM m]at p;have u:EnR ι H (ds.map some++List.replicate (c.nn-c.np) none) (start ns vs):=by
  unfold L2.start;have e1:ns.length-vs.length=c.nn-c.np:=by rw[hn,r,o]
  rw[e1];refine⟨by simp[l.length],λi d e=>?_⟩;by_cases hi:i<ds.length
  .rw [wW (by simpa using hi),wU,wD hi]at e
   cases e;obtain⟨x,w,y⟩:=l.get (wD hi);refine⟨x,?_,y⟩;rw[wW (by rw[wH,<-l.length];exact hi),wU,w];rfl
  .rw [wk (by simpa using hi),vw]at e
   split at e <;> cases e
 refine⟨ι,S,_,u,st,?_⟩;have lv:∀{d:D} {S1:Sr},Pst Den (leave c.keeps S.length d S1) ι H Q->∀a H',Stp ι H a H'->Sto a H' S1->∀v,Den a H' d v->Q v H':=by
  intro d S1 q a H' s1 b v j;unfold leave at q;split at q
  .exact q v a H' s1 b j
  .split at q
   .exact q v a H' s1 b j
   .split at q
    .rename_i A
     have e:=s1.take_eq;have n:ι.length=S.length:=st.len;refine q v (a.take S.length) H' (by rw[<-n];exact s1.less) (b.less _) (Den.less d A j)
    .split at q
     .rename_i d' hd
      have n:ι.length=S.length:=st.len;exact q v (a.take S.length) H' (by rw[<-n];exact s1.less) (b.less _) (Den.frz b d hd j)
     .exact q.elim
 cases z:exs F N c.body (ds.map some++List.replicate (c.nn-c.np) none) S with
 |no=>rw[z]at p;exact p.elim
 |err=>rw[z]at p;exact p.elim
 |ok f S1 =>
  rw[z,Res.bind_ok]at p;intro a H' s1 b;cases f with
  |nx ρ=>exact λB _=>lv p a H' s1 b .non rfl
  |rt d=>exact λv j=>lv p a H' s1 b v j
  |bk ρ=>exact p.elim
  |ct ρ=>exact p.elim
noncomputable def isFields:Data->Bool
 | .fields _=>true
 |_=>false
noncomputable def plainK(K:07):Bool:=K.all λp=>p.2.cls != .type "list"&&!(p.2.cls == .none&&isFields p.2.data)
noncomputable def sameData:Data->Bool
 | .fields vs=>sameName vs
 |_=>false
noncomputable def codesK(q:Program)(K:07):Bool:=K.all λp=>p.2.cls != .type "code" || !(sameData p.2.data) || (recsOf q).any λd=>match PySem.W.nsIn K mainGlobals d.name with
 |some (some (.ref a))=>(match K.lookup a with
  |some ⟨_,_,.func fd,_⟩=>fd.code == .ref p.1
  |_=>false)
 |_=>false
def yh:∀{K:07} {a:Addr} {o:Obj},K.lookup a=some o->(a,o)∈K
 |[],_,_,h=>by cases h
 | (b,u)::K,a,o,h=>by
  rw[vq]at h;cases z:a == b with
  |true=>rw[z]at h;cases h;rw[vd.mp z];exact wL
  |false=>rw[z]at h;exact wO _ (yh h)
def qgZ{K:07}(h:plainK K=true){a:Addr}{o:Obj}(e:K.lookup a=some o):o.cls≠.type "list"/\¬(o.cls=.none/\isFields o.data=true):=by
 unfold plainK at h;rw[wy]at h;have:=h _ (yh e);simp only[wK,bne_iff_ne,uE,uK,vA]at this;refine⟨this.1,λ⟨b,c⟩=>?_⟩;rcases this.2 with z|z
 .exact z b
 .rw [c]at z;cases z
def qag{K:07}{c t:Addr}(h:codeTab K c t=true):∃o vs,K.lookup c=some o/\o.cls=.type "code"/\o.data=.fields vs/\vs[11]?=some (.ref t)/\sameName vs=true:=by
 unfold codeTab at h;split at h
 .rename_i cls d vs sl i
  simp only[wK,vd]at h;obtain⟨⟨e1,j⟩,f⟩:=h;split at f
  .rename_i a b q r s u x5 x6 v l e m w x n
   simp only[wK,vd,bne_iff_ne]at f;obtain⟨⟨y,p⟩,ne⟩:=f;subst p;exact⟨_,vs,i,e1,rfl,e,j⟩
  .cases f
 .cases h
def qi3{K:07}(T:Top q b i mg mb h)(j:K.In h)(l:codesK q K=true)(e:codeTab K c t=true):
  h.get? t=some {cls:=.none,data:=.fields #[]}/\isCodeTable h t:=by
 obtain⟨o,vs,n,cl,m,p,sn⟩:=qag e;unfold codesK at l;rw[wy]at l;have:=l _ (yh n);simp only[Bool.or_eq_true,bne_iff_ne,vr]at this;rcases this with (z|z)|⟨d,hd,hz⟩
 .exact absurd cl z
 .rw [m]at z;rw[show sameData (.fields vs)=true from sn]at z;cases z
 .split at hz
  .rename_i a hn
   split at hz
   .rename_i oc od fd sl w
    have f:fd.code=.ref c:=by simpa using hz
    obtain⟨H,o',x,I,J,e1,y,A,r,L,B⟩:=T.tab d hd;have C:=PySem.W.mg_of j T.g hn;rw[C]at e1;cases e1;have:=j _ _ w;rw[y]at this;cases this;cases A;rw[f]at r;cases r;obtain⟨⟨E,M,s,N,u,v⟩,F⟩:=B;have:=j _ _ n;rw[s]at this;cases this;rw[m]at u;cases u;rw[p]at v;cases v;exact⟨F,c,_,_,s,cl,m,p⟩
   .cases hz
  .cases hz
noncomputable def tabOf(K:07)(b:Addr):Bool:=K.any λp=>codeTab K p.1 b
def qaT{K:07}{b:Addr}:tabOf K b=true ↔ ∃c,codeTab K c b=true:=by
 unfold tabOf;rw[vr];constructor
 .rintro ⟨p,_,h⟩;exact⟨p.1,h⟩
 .rintro ⟨c,h⟩
  obtain⟨o,vs,a,_⟩:=qag h;exact⟨(c,o),yh a,h⟩
noncomputable def entryH(K:07)(a:Addr)(vs:List Value)(ns:03):Hp:=λb=>if b=a then some (.frz {cls:=.type "list",data:=.seq vs.toArray} (.l (ns.map V.int)))else if tabOf K b=true then some (.tbl #[])else none
def qfj{K:07}{k:Nat}{f:Shared}{vs:List Value}(T:Top q A J mg mb f.heap)(N:K.In f.heap)(hp:plainK K=true)(O:codesK q K=true)(hg:f.gens=#[])(ha:f.heap.get? a=some {cls:=.type "list",data:=.seq vs.toArray})(hi:IntsAre vs ns)(hl:ns.length<=sizeLine)(hr:Room k callerA)(F:∀base:Heap,K.In base->base.Ns mainGlobals mg->FnOk P w K mg base CX0 k fa fd [x] sp)(B:∀(s:Shared) (u:Value),BindsTo s fd ⟨[u],[]⟩ [(x,u)])(Q:∀H:Hp,H a=some (.frz {cls:=.type "list",data:=.seq vs.toArray} (.l (ns.map V.int)))->sp [.ref a] H (λv _=>v=.bl true) λ_ _ _=>False):
  codeAny (model P w) callerA (.call (.ref fa) ⟨[.ref a],[]⟩) (λr s'=>r=.ok (.ret (.bool true))/\OldK f.heap s'.heap/\s'.os=f.os/\AllBare s'.gens) f:=by
 have rv:=vals_ints hi;have I:∀{b:Addr},tabOf K b=true->f.heap.get? b=some {cls:=.none,data:=.fields #[]}/\isCodeTable f.heap b:=λ{b} h=>by
  obtain⟨c,e⟩:=qaT.mp h;exact qi3 T N O e
 have na:tabOf K a≠true:=λh=>by
  have:=(I h).1;rw[ha]at this;cases this
 generalize S:entryH K a vs ns=H;have U:H a=some (.frz {cls:=.type "list",data:=.seq vs.toArray} (.l (ns.map V.int))):=by rw[<-S];unfold entryH;rw[wM rfl]
 have X:∀{b:Addr},tabOf K b=true->H b=some (.tbl #[]):=λ{b} h=>by
  rw[<-S];unfold entryH;rw[wN (λ(z:b=a)=>na (by rw[<-z];exact h)),wM h]
 have j:∀{b:Addr} {u:HO},H b=some u->(b=a/\u=.frz {cls:=.type "list",data:=.seq vs.toArray} (.l (ns.map V.int)))\/(tabOf K b=true/\u=.tbl #[]):=λ{b u} e=>by
  rw[<-S]at e;unfold entryH at e;split at e
  .rename_i z;cases e;exact .inl ⟨z,rfl⟩
  .split at e
   .rename_i z;cases e;exact .inr ⟨z,rfl⟩
   .cases e
 have hok:HOk P w H f.heap:=λb u e=>by
  rcases j e with ⟨rfl,rfl⟩|⟨h,rfl⟩
  .exact ⟨ha,by rw[wH];exact hl,vs,_,rv,ha⟩
  .exact ⟨(I h).1,trivial⟩
 have i:∀{b:Addr} {o:Obj},f.heap.get? b=some o->H b=none->(hidT f.heap H).get? b=some o:=λe n=>qfA e n
 have Y:∀{b:Addr} {o:Obj} {es:Array DictEntry} {ep:Nat},f.heap.get? b=some o->o.data=.dict es ep->H b=none:=λ{b o es ep} e d=>by
  cases z:H b with
  |none=>rfl
  |some u =>
   rcases j z with ⟨rfl,rfl⟩|⟨h,rfl⟩
   .rw [ha]at e;cases e;cases (show Data.seq vs.toArray _=Data.dict es ep from d)
   .rw [(I h).1]at e;cases e;cases (show Data.fields #[]=Data.dict es ep from d)
 have l:∀{b:Addr} {m:Str->Option Value},f.heap.Ns b m->(hidT f.heap H).Ns b m:=λ{b m} ⟨o,es,ep,e,d,r⟩=>⟨o,es,ep,i e (Y e d),d,r⟩
 have L:K.In (hidT f.heap H):=λb o e=>i (N b o e) (by
  cases z:H b with
  |none=>rfl
  |some u =>
   obtain⟨p1,p2⟩:=qgZ hp e;have e':=N b o e;rcases j z with ⟨rfl,rfl⟩|⟨h,rfl⟩
   .rw [ha]at e';cases e';exact absurd rfl p1
   .rw [(I h).1]at e';cases e';exact absurd ⟨rfl,rfl⟩ p2)
 have bm:∃bm ob,mg "__builtins__"=some (.ref bm)/\bm≠builtinsNs/\(hidT f.heap H).get? bm=some ob/\ob.cls=.type "module"/\ob.dict=some builtinsNs/\ob.data=.plain:=by
  obtain⟨bm,ob,e1,C,E,M,e5,e6⟩:=T.bmain;refine⟨bm,ob,e1,C,i E ?_,M,e5,e6⟩;cases z:H bm with
  |none=>rfl
  |some u =>
   rcases j z with ⟨rfl,rfl⟩|⟨h,rfl⟩
   .rw [ha]at E;cases E;exact absurd (show Value.type "list"=Value.type "module" from M) 01
   .rw [(I h).1]at E;cases E;exact absurd M 01
 have hM:Mod K mg (hidT f.heap H):=⟨L,l T.g,⟨mb,l T.b,T.builtins⟩,(let ⟨mc,h1,h2⟩:=T.nolimit;⟨mc,l h1,h2⟩),bm⟩;have e0:Env0 P w K mg (hidT f.heap H) callerA [] f H:=⟨rfl,hM,λb o e=>qig e,x8 (qeO _ _),trivial,λb hb=>absurd (show b∈([]:List Addr)from hb) 02,hok,.of_eq hg,λc t z=>⟨_,X (qaT.mpr ⟨c,z⟩)⟩⟩;refine xZ ((F _ L (l T.g)).run callerA [] f H ⟨[.ref a],[]⟩ [.ref a] [.ref a] _ _ hr e0 (B f (.ref a)) (.cons rfl .nil) (Q H U)) λr s' h=>?_
 cases r with
 |error e=>exact(show False from h).elim
 |ok fl =>
  cases fl with
  |next=>exact False.elim h
  |brk=>exact False.elim h
  |cont=>exact False.elim h
  |ret u =>
   obtain⟨v,H',os,bare,un,p,r',Z⟩:=h;have Z:v=.bl true:=Z;subst Z;obtain rfl:u=Value.bool true:=r';have old:∀b o,f.heap.get? b=some o->asItWas f.heap s'.heap b o/\∃o',s'.heap.get? b=some o':=λb o e=>by
    cases z:H b with
    |none =>
     have:=un.keep b o e z (by intro y;exact absurd (show b∈([]:List Addr)from y) 02) 02;exact⟨.inl this,_,this⟩
    |some u =>
     rcases j z with ⟨rfl,rfl⟩|⟨h,rfl⟩
     .have z2:=un.frzs _ _ _ z
      obtain⟨C,_⟩:=p _ _ z2;rw[ha]at e;cases e;exact⟨.inl C,_,C⟩
     .obtain ⟨more,z2⟩:=un.tbls _ _ z
      obtain⟨C,_⟩:=p _ _ z2;obtain⟨E,M⟩:=I h;rw[E]at e;cases e;exact⟨.inr (.inl ⟨M,rfl,#[],more,rfl,C⟩),_,C⟩
   exact⟨rfl,⟨λb o e=>(old b o e).1,λb o e=>(old b o e).2⟩,os,bare.bare⟩
def qkS{l:PySem.W.OpenLaw}{n k:Nat}{q:Program}{c:List Str}{XP:(Str->Option Value)->Heap->Prop}{C:World->Heap->Prop}{d:DefRec}{K:Params->PySem.W.Frag}{x:Str}{g:List D->Sr->Res D}(hn:l.most=some n)(y:n<=sizeLine)(z:d.params.defaults=[])(M:Room k callerA)(N:∀(w:World) (h:Heap),C w h->(K w.params).In h)(O:∀P,plainK (K P)=true)(A:∀P,codesK q (K P)=true)(F:∀(w:World) (mg:Str->Option Value) (m:Addr) (h:Heap),(K w.params).In h->h.Ns mainGlobals mg->mg d.name=some (.ref m) ->
   ∃fd:FuncData,(∀(s:Shared) (u:Value),BindsTo s fd ⟨[u],[]⟩ [(x,u)])/\∀base:Heap,(K w.params).In base->base.Ns mainGlobals mg->FnOk l.prog w (K w.params) mg base CX0 k m fd [x] (SpD 1 g))(Q:∀ns:List Int,ns.length<=n->∃E,g [.l (ns.map .int)] []=.ok (.bl true) E):
  PySem.W.WalkO q c XP C l.row.toRowW d [] (λf vs=>PySem.call f vs):=by
 refine Att.attach_call hn z λw s₀ I mg mb m o pm cd doc a vs ns G Y ho hd J B j i b S=>?_
 have L:=N w _ Y;obtain⟨fd,U,X⟩:=F w mg m _ L G.T.g B;refine qfj G.T L (O _) (A _) S j i (vG b y) M X U λH Z=>?_
 obtain⟨E,e⟩:=Q ns b;have dd:∀p:List Int,Dens [] H (p.map .int) (p.map V.int):=λp=>by
  induction p with
  |nil=>rfl
  |cons x r ih=>exact⟨_,_,rfl,rfl,ih⟩
 refine⟨rfl,[],[],[.l (ns.map .int)],⟨rfl,.nil,λn a so e1 _=>by simp at e1⟩,⟨_,_,rfl,⟨a,ns.map V.int,rfl,by simp,.inr ⟨_,Z⟩,dd ns⟩,rfl⟩,?_⟩;rw[e];exact λv a0 H' _ _ hv=>hv
def m2{k:Nat}(r:Room (k+2) A):Room k A:=r.mono 00
def m1{k:Nat}(r:Room (k+1) A):Room k A:=r.mono 00
def qkT:bootBuiltins "len"=some (.builtin "len"):=by decide +kernel
def qkU:bootBuiltins "min"=some (.builtin "min"):=by decide +kernel
def qkV:bootBuiltins "max"=some (.builtin "max"):=by decide +kernel
def qkW:bootBuiltins "abs"=some (.builtin "abs"):=by decide +kernel
def qfk:bootBuiltins "divmod"=some (.builtin "divmod"):=by decide +kernel
def qaU:bootBuiltins "sorted"=some (.builtin "sorted"):=by decide +kernel
def qkX:bootBuiltins "all"=some (.builtin "all"):=by decide +kernel
def qi4:bootBuiltins "list"=some (.type "list"):=by decide +kernel
def qg0:bootBuiltins "tuple"=some (.type "tuple"):=by decide +kernel
def qkY:bootBuiltins "int"=some (.type "int"):=by decide +kernel
section
variable{X:Cx}{F:Fs}{pos p:Pos}{e:Expr}{es:List Expr}{cs:CEs}
theorem qW(gb:Gb X.mg)(ha:QA X (e::es) (TL (evs F cs)))(b:Gl X "len":=by rfl)(c:sE X e es:=by rfl)(a:bT X es pos:=by rfl):QE X (.Call (.Name "len" p) (e::es) [] pos) (T (ev F (.blt .len cs))):=by
 delta QE;delta QA at ha;exact(qae .len qmp gb.len qkT ha b 01 01 c a)
theorem qjM(gb:Gb X.mg)(ha:QA X (e::es) (TL (evs F cs)))(b:X.calm=true:=by rfl)(c:Gl X "min":=by rfl)(d:sE X e es:=by rfl)(a:bT X es pos:=by rfl):QE X (.Call (.Name "min" p) (e::es) [] pos) (T (ev F (.blt .min2 cs))):=by
 delta QE;delta QA at ha;exact(qae .min2 (qms b) gb.min qkU ha c 01 01 d a)
theorem qmN(gb:Gb X.mg)(ha:QA X (e::es) (TL (evs F cs)))(b:X.calm=true:=by rfl)(c:Gl X "max":=by rfl)(d:sE X e es:=by rfl)(a:bT X es pos:=by rfl):QE X (.Call (.Name "max" p) (e::es) [] pos) (T (ev F (.blt .max2 cs))):=by
 delta QE;delta QA at ha;exact(qae .max2 (qmt b) gb.max qkV ha c 01 01 d a)
theorem qmO(gb:Gb X.mg)(ha:QA X (e::es) (TL (evs F cs)))(b:Gl X "abs":=by rfl)(c:sE X e es:=by rfl)(a:bT X es pos:=by rfl):QE X (.Call (.Name "abs" p) (e::es) [] pos) (T (ev F (.blt .abs cs))):=by
 delta QE;delta QA at ha;exact(qae .abs qmr gb.abs qkW ha b 01 01 c a)
theorem qg1(gb:Gb X.mg)(ha:QA X (e::es) (TL (evs F cs)))(b:Gl X "divmod":=by rfl)(c:sE X e es:=by rfl)(a:bT X es pos:=by rfl):QE X (.Call (.Name "divmod" p) (e::es) [] pos) (T (ev F (.blt .divmod cs))):=by
 delta QE;delta QA at ha;exact(qae .divmod qgp gb.divmod qfk ha b 01 01 c a)
theorem qcr(m:Bool)(gb:Gb X.mg)(ha:QA X (e::es) (TL (evs F cs)))(b:X.calm=true:=by rfl)(c:Gl X "sorted":=by rfl)(d:sE X e es:=by rfl)(a:bT X es pos:=by rfl):QE X (.Call (.Name "sorted" p) (e::es) [] pos) (T (ev F (.blt (.sorted m) cs))):=by
 delta QE;delta QA at ha;exact(qae (.sorted m) (qgV m b) gb.sorted qaU ha c 01 01 d a)
theorem qcs(gb:Gb X.mg)(ha:QA X (e::es) (TL (evs F cs)))(b:X.calm=true:=by rfl)(c:Gl X "all":=by rfl)(d:sE X e es:=by rfl)(a:bT X es pos:=by rfl):QE X (.Call (.Name "all" p) (e::es) [] pos) (T (ev F (.blt .all cs))):=by
 delta QE;delta QA at ha;exact(qae .all (qmu b) gb.all qkX ha c 01 01 d a)
theorem qdl(m:Bool)(gb:Gb X.mg)(ha:QA X (e::es) (TL (evs F cs)))(b:Gl X "list":=by rfl)(c:sE X e es:=by rfl)(a:bT X es pos:=by rfl):QE X (.Call (.Name "list" p) (e::es) [] pos) (T (ev F (.blt (.list m) cs))):=by
 delta QE;delta QA at ha;exact(qgW (.list m) (qkF m) gb.list qi4 ha b 01 01 c a)
theorem yi(gb:Gb X.mg)(ha:QA X (e::es) (TL (evs F cs)))(b:Gl X "tuple":=by rfl)(c:sE X e es:=by rfl)(a:bT X es pos:=by rfl):QE X (.Call (.Name "tuple" p) (e::es) [] pos) (T (ev F (.blt .tuple cs))):=by
 delta QE;delta QA at ha;exact(qgW .tuple qiJ gb.tuple qg0 ha b 01 01 c a)
end
def qmP{P:Program}{w:World}{K:07}{mg:Str->Option Value}{base:Heap}{k N i:Nat}{F G:Fs}{x:Str}{st:Stmt}{f c T':Addr}{fd:FuncData}{a:CF}{ns ps:List Str}(U:FunT K x st f fd c T')(S:FnScope ns ps (defScope st))(e:ps.length=a.np)(hn:ns.length=a.nn)(b:a.np<=a.nn)(j:G i=callC F N a)(body:∀(A:Around) (outer:List Env) (s:Shared) (H:Hp) (E:XK),Room k (A.deeper (envOfC x (defScope st) s.heap.objs.size f (.ref c)))->QSs (cxOf CX0 P w K mg base ns x (defScope st) f (.ref c) A outer s H E).nox (defBody st) (TSm (exs F N a.body))):
  FnOk P w K mg base CX0 (k+1) f fd ps (SpD ps.length (G i)):=by
 obtain⟨oc,od,kV,doc,pm,an,ct,osl,rfl,l,d⟩:=U.ex;refine qjA l d S (λvs H Q E h=>h.1) λA outer s H vs Q E m h=>⟨_,(body A outer s H E m).un.nox,?_⟩
 rw[j]at h;exact qi2 e hn b h
def qmQ{P:Program}{w:World}{K:07}{mg:Str->Option Value}{base:Heap}{i:Nat}{G:Fs}{f:Addr}{fd:FuncData}{ps:List Str}(a:G i=λ_ _=>.no){k:Nat}:
  FnOk P w K mg base CX0 k f fd ps (SpD ps.length (G i)):=by
 refine⟨λvs H Q E h=>h.1,λA outer s H args us vs Q E _ _ _ _ h=>?_⟩;obtain⟨_,ι,S,ds,_,_,p⟩:=h;rw[a]at p;exact p.elim
def DefIn(K:07)(mg:Str->Option Value)(x:Str)(st:Stmt)(ps:List Str):Prop:=∃(f:Addr) (fd:FuncData) (c t:Addr),mg x=some (.ref f)/\FunT K x st f fd c t/\Binds K fd ps []
def DefIn.fn{P:Program}{w:World}{K:07}{mg:Str->Option Value}{base:Heap}{k i:Nat}{F:Fs}{x:Str}{st:Stmt}{ps:List Str}(u:DefIn K mg x st ps)(h:∀f fd c t,FunT K x st f fd c t->FnOk P w K mg base CX0 k f fd ps (SpD ps.length (F i))):FnAt P w K mg base k F i x ps:=by
 obtain⟨f,fd,c,t,hm,U,a⟩:=u;exact⟨f,fd,hm,U.kp,a,h f fd c t U⟩
def len0{us:List Value}(h:us.length=0):us=[]:=xM h
def lenS{us:List Value}{n:Nat}(h:us.length=n+1):∃a r,us=a::r/\r.length=n:=by
 cases us with
 |nil=>cases h
 |cons a r=>exact⟨a,r,rfl,Nat.succ.inj h⟩
def len1{us:List Value}(h:us.length=1):∃b,us=[b]:=by
 obtain⟨a,_,rfl,q⟩:=lenS h;cases len0 q;exact⟨a,rfl⟩
def len2{us:List Value}(h:us.length=2):∃b c,us=[b,c]:=by
 obtain⟨a,r,rfl,q⟩:=lenS h;obtain⟨d,rfl⟩:=len1 q;exact⟨a,d,rfl⟩
def len3{us:List Value}(h:us.length=3):∃b c d,us=[b,c,d]:=by
 obtain⟨a,r,rfl,q⟩:=lenS h;obtain⟨e,b1,rfl⟩:=len2 q;exact⟨a,e,b1,rfl⟩
noncomputable def tabIn(vs:Array Value)(c T':Addr):Bool:=match(vs.getD 11 Value.none:Value),(vs.getD 18 Value.none:Value),(vs.getD 7 Value.none:Value),(vs.getD 9 Value.none:Value),(vs.getD 10 Value.none:Value)with
  | .ref a,.str _ _,.int _ _,.bool _,.int _ _=>(a == T'&&c != T')&&sameName vs
  |_,_,_,_,_=>false
def qkZ{K:07}(e:K.lookup c=some ⟨.type "code",d,.fields vs,sl⟩)(b:vs[11]?=some (.ref t))(h:tabIn vs c t=true):codeTab K c t=true:=by
 unfold codeTab;rw[e];simp only[b];unfold tabIn at h;split at h
 .rename_i a m n o p x5 x6 e1 f i j l
  simp only[e1,f,i,j,l];simpa[and_comm]using h
 .cases h
def qk0{K:07}{h:Heap}{mg:Str->Option Value}(X:K.In h)(G:h.Ns mainGlobals mg){x:Str}{st:Stmt}{ps:List Str}{f c t:Addr}{oc kV doc pm ct:Value}{od an:Option Addr}{osl:Array (Option Value)}{d2:Option Addr}{vs:Array Value}{b:Array (Option Value)}(a:PySem.W.nsIn K mainGlobals x=some (some (.ref f)))(l:K.lookup f=some ⟨oc,od,.func (PySem.W.fnOf x x (defArgs st) (defBody st) (defScope st) .none kV doc pm an (.ref c) ct),osl⟩)(i:PySem.W.codeIn K (.ref c) x=true)(j:K.lookup c=some ⟨.type "code",d2,.fields vs,b⟩)(d:vs[11]?=some (.ref t))(m:tabIn vs c t=true)(kp:PySem.W.keepIn K (.ref f)=true)(n:∀(kV doc pm:Value) (an:Option Addr) (e ct:Value) (us:List Value),us.length=ps.length->bindArgs (PySem.W.fnOf x x (defArgs st) (defBody st) (defScope st) .none kV doc pm an e ct) ⟨us,[]⟩=pure (ps.zip us)):DefIn K mg x st ps :=
 ⟨f,_,c,t,PySem.W.mg_of X G a,⟨⟨oc,od,kV,doc,pm,an,ct,osl,rfl,l,i⟩,qkZ j d m,kp⟩,.all (n kV doc pm an (.ref c) ct)⟩
def qk1{K:07}(X:K.In h)(G:h.Ns mainGlobals mg){i:Int}(a:PySem.W.nsIn K mainGlobals x=some (some v))(e:v=.int i t):∃t:Tok,mg x=some (.int i t):=⟨t,by rw[PySem.W.mg_of X G a,e]⟩
section
variable{X:Cx}{F:Fs}{N:Nat}{pos:Pos}
theorem qg2(i j:Nat){kt k2 pt2}(ha:QA X [a,b] (TL (evs F (.cons d (.cons e .nil)))))(C:X.calm=true:=by rfl)(E:nodupB X.N=true:=by rfl)(hi:X.N[i]?=some x:=by rfl)(I:X.N[j]?=some y:=by rfl)(n:i≠j:=by decide)(hx:X.env.scope.names.lookup x=some .local:=by rfl)(J:X.env.scope.names.lookup y=some .local:=by rfl)(K:swappedStores [.Tuple [.Name x f,.Name y m] kt pt] (.Tuple [a,b] k2 pt2) X.env=pure (some [x,y]):=by rfl)(o:swapsWithSole [.Tuple [.Name x f,.Name y m] kt pt] (.Tuple [a,b] k2 pt2) pos.line X.env=pure false:=by rfl):
  QS X (.Assign [.Tuple [.Name x f,.Name y m] kt pt] (.Tuple [a,b] k2 pt2) pos) (TSm (ex F N (.set (.t (.c (.v i) (.c (.v j) .n))) (.t (.cons d (.cons e .nil)))))):=by
 delta QS;delta QA at ha;refine PSimp (qke C (q9 E) hi I n hx J ha K o) λD0 P H h=>?_
 obtain⟨ι,S,ρ,B,st,p⟩:=h;refine⟨ι,S,ρ,B,st,?_⟩;have c:∀{l S'},evs F (.cons d (.cons e .nil)) ρ S=.ok l S'->l.length=2:=λz=>yJ z
 simp only[ex,ev]at p;cases z:evs F (.cons d (.cons e .nil)) ρ S with
 |no=>rw[z]at p;exact p
 |err=>rw[z]at p;exact p
 |ok l S1 =>
  rw[z]at p;have L:=c z
  match l,L with
  |[d1,d2],_ =>
   have o:([d1,d2]:List D).length<=sizeLine:=by simp[sizeLine]
   simp only[Res.bind,o,vo,asg,asgs]at p;intro vs q M s1 s O;obtain⟨v,r,rfl,u,w,Q,rfl,A,rfl⟩:=O;exact⟨v,w,rfl,p q M s1 s _ (((B.mono s1).set u).set A)⟩
theorem qg3(gb:Gb X.mg)(ha:QA X (e::es) (TL (evs F cs)))(b:Gl X "int":=by rfl)(c:sE X e es:=by rfl)(a:bT X es pos:=by rfl):QE X (.Call (.Name "int" p) (e::es) [] pos) (T (ev F (.blt .int cs))):=by
 delta QE;delta QA at ha;exact(qgW .int qmq gb.int qkY ha b 01 01 c a)
end
end R
namespace R
open PySem PySem.Spec L2 SeqAt
open PyProof.Rows hiding St
noncomputable def accL(us:Array Value)(c:Nat):Obj:={cls:=.type "list",dict:=none,data:=.seq us c,slots:=#[]}
section
variable{X:Cx}{sc:Scope}{cl:List (Str×Addr)}{C:Addr}{code:Value}{N':List Str}{fp:List Addr}{ge:Expr}{it a:Addr}{o:Obj}{s4:Shared}{H4:Hp}{J:It}{tn:Nat->Heap->Prop}{ds:List D}{gu:Sr->Prop}{g:D->En->Sr->Res En}{mt:En->Sr->Res Bool}{me:En->Sr->Res D}
theorem qi5{R:Result->Shared->Prop}(hh:X.A.handled=none)(hd:X.A.depth<recursionLimit)(hg:∀h:Heap,h.get? a=some o->h.IsGen a s4.gens.size)(tk:∀i h h',tn i h->(∀b∈fp,∀o,h.get? b=some o->h'.get? b=some o)->tn i h'){p:Addr}(hp:s4.heap.objs.size<=p)(M:a≠p):∀(k i:Nat) (ρ:En) (l:List D) (xs:List V) (us:Array Value) (S:Sr) (ι:List Addr) (H:Hp) (s:Shared) (c:Nat) {d:D} {K:Sr},l.length<=sizeLine->ds.length<k+i->Dens ι H l xs->Vals xs us.toList ->
  Cs (genCx X sc cl C code N' fp ge it (a,o) s4 H4) J tn fp ds gu X.A.in4.in1 g mt me s4.gens.size k i ρ S ι H [(p,accL us c)] s->genLoopG gu g mt me (stepG .tuple) (finG .tuple) (ds.drop i) ρ (.t l) S=.ok d K ->
  (∀j f H' z N n r c',d=.t N->N.length<=sizeLine->Dens f H' N n->Vals n (Array.toList r)->Inv (genCx X sc cl C code N' fp ge it (a,o) s4 H4) [(p,accL r c')] j H' (z.setGen s4.gens.size .running)->GK s4.gens z.gens->Stp ι H f H'->Sto f H' K->R (.ok (.ret (.ref p))) z) ->
  codeAny 05 X.A.in1.in1 (.builtin "list.extend.loop" ⟨[.ref p,.ref a,.ref p],[]⟩) R s:=by
 intro k;induction k with
 |zero =>
  intro i ρ l xs us S ι H s c d K _ hk _ _ O _ _;have:=O.sus.le;lia
 |succ k ih =>
  intro i ρ l xs us S ι H s c d K hl hk P Q O e hR;refine wu F.entry_extend_loop ?_;rw[wc F.plain_extend_loop];refine wA (m:=pyNext (.ref a)) (wpAny_of_in1 (qbm (X:=genCx X sc cl C code N' fp ge it (a,o) s4 H4) (A:=X.A.in4) hh hd wL hg rfl rfl O (qde e) (λS2 f H' j z L Iz U q st=>?_) λi' W v S2 f H' y u z L q dv ry Cz=>?_))
  .have q2:=zJ e
   rw[L]at q2;cases q2;exact wC (hR j f H' z l xs us c rfl hl (Dens.mono q l P) Q Iz U q st)
  .have q2:=zJ e
   have hi:=ju _ _ _ _ L;rw[L]at q2;simp only[gen1,stepG]at q2;by_cases B:l.length<sizeLine
   .rw [wM B]at q2
    have E:z.heap.get? p=some (accL us c):=by
     obtain⟨σ,I,_⟩:=Cz.sus.inv;exact(I.pin (p,accL us c) (wV _ (wY.mpr rfl))).1
    have hsz:us.size=l.length:=by rw[P.length,Q.length,wg]
    show wpAny _ _ (updateSeq p (·.push u) >>= _) _ _ _;refine wA (vl E rfl (wC ⟨vE F.plain_extend_loop _,?_⟩) (by rw[hsz];exact hl) (by show(us.push u).size<=sizeLine+1;rw[Array.size_push,hsz];lia));refine ih i' W (l++[v]) (xs++[y]) (us.push u) S2 f H' _ _ (by rw[wm,xE];lia) 00 ((Dens.mono q l P).snoc dv) ?_ (qbn (t:=z.toks) Cz tk hp (λq hq=>?_) (λb x hb ex=>(wJ _ _ (Ne.symm hb)).trans ex) (w9 _ E rfl) λv z=>by cases z) q2 λY Z H2 z2 l2 x2 u2 c2 ec el d2 v2 I2 U s2 a0=>hR Y Z H2 z2 l2 x2 u2 c2 ec el d2 v2 I2 U (q.trans s2) a0
    .rw [xn]
     exact Vals.append Q (.cons ry .nil)
    .have a1:q=(a,o):=by
      have:q∈[(a,o)]:=hq;simpa using this
     subst a1;exact M
   .rw [wN B]at q2
    cases q2
end
section
variable{X:Cx}{pos gp:Pos}
theorem qk2(hc:X.calm=true)(hd:X.A.depth<recursionLimit)(hok:X.calm=true->X.A.handled=none):GCall X .tuple (.type "tuple"):=by
 intro pins s σ H ι a ds gu g mt me ρ S Q gh h;obtain⟨sc,cl,C,code,N',fp,ge,it,o,Y,H4,J,tn,Z,cs,hf,tk,a0⟩:=gh;obtain⟨d,S',e,q⟩:=qbo h;have hh:=(cs 0).sus.inv;obtain⟨i,I,_⟩:=hh;have ha:s.heap.get? a=some o:=(I.pin (a,o) (vu _ wL)).1;have lt:Y.heap.objs.size<=s.heap.objs.size:=I.sz;have B:a≠s.heap.objs.size:=wT (wF ha);have O:∀(Q2:List Value->Shared->Prop) (E:Value->Shared->Prop),(∀i j H' z K l c N,d=.t K->K.length<=sizeLine->Dens j H' K l->Vals l (Array.toList c)->Inv (genCx X sc cl C code N' fp ge it (a,o) Y H4) [(s.heap.objs.size,accL c N)] i H' (z.setGen Y.gens.size .running)->GK Y.gens z.gens->Stp ι H j H'->Sto j H' S'->Q2 c.toList z) ->
   wpAny 05 X.A.in1.in1 (collect (.ref a)) Q2 E s:=by
  intro Q2 E hQ;unfold collect;refine wA (x9 (wu xH ?_));rw[wc xG _];refine wA (m:=newList []) (wR (wC ⟨vE uD _,wu xm ?_⟩));rw[wc uD _];have P:(s.heap.push {cls:=.type "list",data:=.seq ([]:List Value).toArray}).get? a=some o:=wB _ ha;have U:({s with heap:=s.heap.push {cls:=.type "list",data:=.seq ([]:List Value).toArray}}:Shared).TypeIs (.ref a) "generator":=(Z _ P).typeIs;show wpAny _ X.A.in1.in1.in1 (Builtin.List.listExtendWith (.ref s.heap.objs.size) (.ref a) (.ref s.heap.objs.size)) _ _ _;unfold Builtin.List.listExtendWith;refine wA (uk U ?_);have h1:Builtin.List.listSameRef (.ref s.heap.objs.size) (.ref a)=false:=by simp[Builtin.List.listSameRef,Ne.symm B]
  have h2:(Value.type "generator" == Value.type "list")=false:=by decide
  have h3:(Value.type "generator" == Value.type "tuple")=false:=by decide
  simp only[h1,h2,h3,Bool.or_false,wz,uG];refine wA (wpAny_pyIter_gen (Z _ P) ?_);refine wA (wj ?_);unfold Builtin.List.listLengthHint;refine wA (gA U F.gen_no_len ?_);show wpAny _ X.A.in1.in1.in1 (specialOf (Value.ref a) (Str.ofString "__length_hint__") >>= _) _ _ _;refine wA (gA U F.gen_no_hint ?_);refine wC ?_;show wpAny _ X.A.in1.in1.in1 (rule "list.extend.makes-room" >>= λ_=>Builtin.List.listTouch (.ref s.heap.objs.size) >>= λ_ =>
   again (.builtin "list.extend.loop" ⟨[.ref s.heap.objs.size,.ref a,.ref s.heap.objs.size],[]⟩)) _ _ _
  refine wA (uB ?_);have n:(s.heap.push {cls:=.type "list",data:=.seq ([]:List Value).toArray}).get? s.heap.objs.size=some {cls:=.type "list",data:=.seq ([]:List Value).toArray}:=wE _ rfl;refine wA ?_;show wpAny _ X.A.in1.in1.in1 (updateSeq s.heap.objs.size (·.push .none) >>= λ_=>updateSeq s.heap.objs.size (·.pop)) _ _ _;refine wA (vl n rfl ?_);have r:=w9 (Obj.mapSeq (·.push Value.none)) n rfl;refine vl r rfl ?_;have L:=w9 (Obj.mapSeq (·.pop)) r rfl;refine wC ⟨vE F.plain_extend_loop _,?_⟩;have C1:=qdZ (t:=s.toks) (cs (ds.length+1)) tk hf (u:={cls:=.type "list",data:=.seq ([]:List Value).toArray}) (wE _ rfl) λv z=>by cases z
  have C2:=qbn (t:=s.toks) C1 tk lt (λq hq=>by
   have a1:q=(a,o):=by
    have:q∈[(a,o)]:=hq;simpa using this
   subst a1;exact B) (λb x hb ex=>(wJ _ _ (Ne.symm hb)).trans ((wJ _ _ (Ne.symm hb)).trans ex)) L λv z=>by cases z
  refine qi5 (hok hc) hd Z tk (p:=s.heap.objs.size) lt B (ds.length+1) 0 ρ [] [] #[] S ι H _ _ (vN _) 00 rfl .nil C2 e λi j H' z K l c N ed el dd vv Iz gk s1 M=>?_
  have a2:z.heap.get? s.heap.objs.size=some (accL c N):=(Iz.pin (s.heap.objs.size,accL c N) (wV _ (wY.mpr rfl))).1;show wpAny _ _ (load s.heap.objs.size >>= _) _ _ z;exact wA (wpAny_load a2 (wC (hQ i j H' z K l c N ed el dd vv Iz gk s1 M)))
 have new:codeAny 05 X.A.in1 (.call (.builtin "tuple.__new__") ⟨[.type "tuple",.ref a],[]⟩) (wants (λobj f=>f.TypeIs obj "tuple"/\EP X pins σ Q obj f) X.xe) s:=by
  refine gB (?_:wpAny _ X.A.in1.in1 (do checkBuiltinCall "tuple.__new__" ⟨[.type "tuple",.ref a],[]⟩;again (.builtin "tuple.__new__" ⟨[.type "tuple",.ref a],[]⟩)) _ _ s);refine wA (uj (F.newCall_tuple_1 _) (wC ⟨vE xl _,wu F.entry_tuple_new ?_⟩));rw[wc xl];have k1:=sub_tuple_self;have k2:=init_tuple_lookup;have k3:=madeHere_tuple;have U:s.TypeIs (.ref a) "generator":=(Z _ ha).typeIs;wp_walk using uk U,O;intro i j H' z K l c N ed el dd vv Iz gk s1 M;refine wA (m:=Builtin.Tuple.tupleExact c.toList.toArray) ?_;unfold Builtin.Tuple.tupleExact;have hsz:c.size=K.length:=by rw[dd.length,vv.length,wg]
  refine wR (wC ?_) (by
   have:c.toList.toArray.size<=sizeLine:=by rw[xP,hsz];exact el
   exact this)
  have e2:c.toList.toArray=c:=xP ..;rw[e2];subst ed;have I2:=a0 _ i H' z Iz gk;have W:H' z.heap.objs.size=none:=I2.hok.fresh (wG _);refine⟨⟨_,wE _ rfl,rfl⟩,.ref _,upd H' z.heap.objs.size (.t l),I2.laid (t':=z.toks) (λb o e=>wB _ e) (wG _) ⟨?_,c.toList,vv,⟨_,wE _ rfl,rfl,0,by simp⟩,λo q=>by rw[wE _ rfl]at q;cases q;rfl⟩,rfl,zq M dd (λv a3 H2 s2 a4 dv=>q v a3 H2 (s1.trans s2) a4 dv) _ W⟩;rw[<-dd.length];exact el
 refine callType_codes xC (F.typeCall_tuple_1 _) F.entry_object_init new λobj f y=>?_
 exact⟨y.1,F.args_object_init_2 obj _,object_init_meets xC.init.lookup xC.made 01 X.prog X.w X.A.in1 _ f ⟨y.1,rfl,y.2⟩⟩
theorem qi6{p:Pos}{tg elt iter:Expr}{ifs:List Expr}{sc:Scope}{fr:List Nat}{xs ts:List Str}{mi:En->Sr->Res (List D×(Sr->Prop))}{g:D->En->Sr->Res En}{mt:En->Sr->Res Bool}{me:En->Sr->Res D}{c T':Addr}(m:X.calm=true)(b:X.A.depth<recursionLimit)(hok:X.calm=true->X.A.handled=none)(i:Gl X "tuple")(hm:X.mg "tuple"=none)(hi:PI X tg iter (TIg mi))(n:∀x,genFold iter X.env x=pure x)(C':CSc X sc fr xs ts)(hz:sc.names.lookup (".0":Str)=some NameKind.local)(j:sc.isCoroutine=false)(d:X.env.code=.ref c)(f:codeTab X.K c T'=true)(B:BlkG X sc (xs++ts) tg iter ifs elt gp g mt me):
  PE X (.Call (.Name "tuple" p) [.GeneratorExp elt [⟨tg,iter,ifs,0⟩] sc gp] [] pos) (T (mGenG .tuple fr ts.length mi g mt me)):=by
 intro pins s o H Q I r;have u:bootBuiltins "tuple"=some (.type "tuple"):=by decide +kernel
 refine Call_ (zT I i hm u ?_ 01 01);obtain⟨ι,S,ρ,w,st,h⟩:=r;dsimp only[mGenG]at h;cases z:mi ρ S with
 |no=>rw[z]at h;exact h.elim
 |err=>rw[z]at h;exact h.elim
 |ok y S1 =>
  obtain⟨ds,gu⟩:=y;rw[z,Res.bind_ok]at h;refine vY (e:=.GeneratorExp elt [⟨tg,iter,ifs,0⟩] sc gp) (rest:=[]) ?_ rfl rfl;refine uI (thn (qcd m b hi n C' hz j d f B I w st z) λv s' ⟨a,l,H',ev,q,C⟩=>?_);subst ev;exact ua (qk2 m b hok pins s' o H' l a ds gu g mt me _ S1 Q C (Pst.from h q))
theorem qk3{p:Pos}{tg elt iter:Expr}{ifs:List Expr}{sc:Scope}{fr:List Nat}{xs ts:List Str}{mi:En->Sr->Res (List D)}{g:D->En->Sr->Res En}{mt:En->Sr->Res Bool}{me:En->Sr->Res D}{c T':Addr}(h:X.calm=true)(a:X.A.depth<recursionLimit)(hok:X.calm=true->X.A.handled=none)(e:Gl X "tuple")(hm:X.mg "tuple"=none)(hi:PI X tg iter (TIt mi))(i:∀x,genFold iter X.env x=pure x)(C':CSc X sc fr xs ts)(hz:sc.names.lookup (".0":Str)=some NameKind.local)(f:sc.isCoroutine=false)(b:X.env.code=.ref c)(d:codeTab X.K c T'=true)(B:BlkG X sc (xs++ts) tg iter ifs elt gp g mt me):
  PE X (.Call (.Name "tuple" p) [.GeneratorExp elt [⟨tg,iter,ifs,0⟩] sc gp] [] pos) (T (mGen .tuple fr ts.length mi g mt me)):=by
 rw[<-qgB];exact qi6 h a hok e hm (pi_g hi) i C' hz f b d B
end
section
variable{X:Cx}{F:Fs}{N:Nat}{pos:Pos}
theorem jg(fr:List Nat)(xs ts:List Str){k:Nat}(l:Room k X.A)(gb:Gb X.mg)(a:X.env.code=.ref c)(b:codeTab X.K c T'=true)(hi:QI X tg iter (TIt (evI F it)))(rt:∀cl C code fp it o s H,QG 002 tg (TGt (asg F t)))(ri:∀cl C code fp it o s H,QTl 002 ifs (TB (tsts F i)))(re:∀cl C code fp it o s H,QE 002 elt (T (ev F j)))(m:X.calm=true:=by rfl)(e:Gl X "tuple":=by rfl)(n:∀x,genFold iter X.env x=pure x:=by intro _;rfl)(h:cscB X.env.scope.names X.N sc fr xs ts=true:=by rfl)(hz:sc.names.lookup (".0":Str)=some NameKind.local:=by rfl)(f:sc.isCoroutine=false:=by rfl):QE X (.Call (.Name "tuple" p) [.GeneratorExp elt [⟨tg,iter,ifs,0⟩] sc d] [] pos) (T (ev F (.gen .tuple fr ts.length j t it i))):=by
 delta QE;delta QI at hi;delta QG at rt;delta QTl at ri;delta QE at re;exact(qk3 m l.depth (λ_=>l.hd) e gb.tuple hi n (jz h) hz f a b ⟨rt,ri,re⟩)
end
section
variable{X:Cx}{pos:Pos}
variable{F:Fs}
theorem qjN:QE X (.Dict [] [] pos) (T (ev F .dis)):=by
 delta QE;exact qml
end
section
variable{X:Cx}{pos:Pos}{tg:Expr}
noncomputable def mX(m:En->Sr->Res D):En->Sr->Res (List D×(Sr->Prop)):=λρ S=>(m ρ S).bind λx S1=>match refX x S1 with
 |some p=>.ok p S1
 |none=>.no
theorem i_X(h:PE X e (T m)):PI X tg e (TIg (mX m)):=PIimp (qdb h) λr H R o=>by
 obtain⟨ι,S,ρ,q,st,p⟩:=o;refine⟨ι,S,ρ,q,st,?_⟩;dsimp only[mX]at p;cases z:m ρ S with
 |no=>rw[z]at p;exact p
 |err=>rw[z]at p;exact p
 |ok d S1 =>
  rw[z,Res.bind_ok]at p;intro v c f s1 b i;cases d with
  |ref n =>
   obtain⟨a,rfl,ha⟩:=i;cases zn:S1[n]? with
   |none=>simp only[refX,zn]at p
   |some so =>
    cases so with
    |l l =>
     simp only[refX,zn]at p;obtain⟨_,xs,hx,_⟩:=b.obj n a _ ha zn;exact .inl ⟨a,rfl,⟨xs,.inl (.inl hx)⟩,p c f _ s1 b (qiL ha)⟩
    |dic l=>simp only[refX,zn]at p
    |dis l=>simp only[refX,zn]at p
  |t l =>
   obtain⟨a,xs,rfl,hn,ha,j⟩:=i;exact .inr ⟨a,rfl,⟨xs,.inl (.inl ha)⟩,p c f _ s1 b (qgt hn ha j).g⟩
  |l l =>
   obtain⟨a,xs,rfl,hn,ha,j⟩:=i;exact .inl ⟨a,rfl,⟨xs,.inl ha⟩,p c f _ s1 b (qgs hn ha j).g⟩
  |_=>exact p.elim
end
section
variable{X:Cx}{F:Fs}{N:Nat}{pos:Pos}
theorem qi7{nt:Nat}:mGenG w fr nt (mX (ev F c)) (asg F t) (tsts F b) (ev F a)=ev F (.genX w fr nt a t c b):=by
 funext ρ S;unfold mGenG mX;simp only[ev];cases ev F c ρ S with
 |ok d S1 =>
  cases hr:refX d S1 <;> simp only[Res.bind,hr]
 |err=>rfl
 |no=>rfl
theorem qk4(w:GW)(fr:List Nat)(xs ts:List Str){id:String}{f:Str}{p d:Pos}{tg elt iter:Expr}{ifs:List Expr}{sc:Scope}{k:Nat}{c T':Addr}{t:CT}{l:CE}{m:CBs}{n:CE}(q:Room k X.A)(r:GCall X w (.builtin id))(hm:X.mg f=none)(u:bootBuiltins f=some (.builtin id))(a:X.env.code=.ref c)(b:codeTab X.K c T'=true)(hi:PE X iter (T (ev F l)))(rt:∀cl C code fp it o s H,PG 002 tg (TGt (asg F t)))(ri:∀cl C code fp it o s H,PTl 002 ifs (TB (tsts F m)))(re:∀cl C code fp it o s H,PE 002 elt (T (ev F n)))(v:X.calm=true:=by rfl)(e:Gl X f:=by rfl)(hn:f≠"__name__":=by decide)(i:dB f:=by decide)(y:∀x,genFold iter X.env x=pure x:=by intro _;rfl)(h:cscB X.env.scope.names X.N sc fr xs ts=true:=by rfl)(hz:sc.names.lookup (".0":Str)=some NameKind.local:=by rfl)(j:sc.isCoroutine=false:=by rfl):PE X (.Call (.Name f p) [.GeneratorExp elt [⟨tg,iter,ifs,0⟩] sc d] [] pos) (T (ev F (.genX w fr ts.length n t l m))):=by
 rw[<-qi7];exact qgD v q.depth r e hm u hn i (i_X hi) y (jz h) hz j a b ⟨rt,ri,re⟩
theorem qeb(fr:List Nat)(xs ts:List Str){k:Nat}(e:Room k X.A)(gb:Gb X.mg)(a:X.env.code=.ref c)(b:codeTab X.K c T'=true)(hi:QE X iter (T (ev F j)))(rt:∀cl C code fp it o s H,QG 002 tg (TGt (asg F t)))(ri:∀cl C code fp it o s H,QTl 002 ifs (TB (tsts F l)))(re:∀cl C code fp it o s H,QE 002 elt (T (ev F m)))(n:X.calm=true:=by rfl)(f:Gl X "sum":=by rfl)(q:∀x,genFold iter X.env x=pure x:=by intro _;rfl)(h:cscB X.env.scope.names X.N sc fr xs ts=true:=by rfl)(hz:sc.names.lookup (".0":Str)=some NameKind.local:=by rfl)(i:sc.isCoroutine=false:=by rfl):QE X (.Call (.Name "sum" p) [.GeneratorExp elt [⟨tg,iter,ifs,0⟩] sc d] [] pos) (T (ev F (.genX .sum fr ts.length m t j l))):=by
 delta QE;delta QE at hi;delta QG at rt;delta QTl at ri;delta QE at re;exact(qk4 .sum fr xs ts e (qgC n e.depth λ_=>e.hd) gb.sum (by decide +kernel) a b hi rt ri re n f 01 01 q h hz i)
end
section
variable{X:Cx}{F:Fs}{N:Nat}{pos:Pos}
theorem qk5(i:Nat)(a:nodupB X.N=true:=by rfl)(hi:X.N[i]?=some x:=by rfl)(hx:Loc X.env.scope x:=by first|exact Or.inl rfl|exact Or.inr rfl)(b:X.fn x=true\/X.env.scope.names.lookup x=some .local:=by first|exact .inl rfl|exact .inr rfl):PG X (.Name x pos) (gName i):=qdC (q9 a) hi hx b
end
def qec:∀(l:03) (i:Nat),(l.map V.int).eraseIdx i=(l.eraseIdx i).map V.int
 |[],_=>by simp
 |a::r,0=>by simp
 |a::r,i+1=>by simp[qec r i]
def qg4(k:Int):∀ns:List Int,ns.eraseIdx (ns.idxOf k)=ns.erase k
 |[]=>by simp
 |a::r=>by
  rw[List.idxOf_cons,List.erase_cons];by_cases h:a=k
  .subst h;simp
  .have b:(a == k)=false:=by simpa using h
   rw[b];simp[qg4 k r]
noncomputable def eqK(k:Int):Value->Bool
 | .int i _=>i == k
 |_=>false
def rRemove:V->List V->Hp->VK->Prop:=λx vs H Q=>∃(l:Addr) (ns:03) (k:Int),x=.ref l/\vs=[.int k]/\H l=some (.l (ns.map .int))/\k∈ns/\Q .non (upd H l (.l ((ns.erase k).map .int)))
def qfl:MtM X "list.remove" rRemove:=by
 intro pins s M H x vs v us Q I rx E h;obtain⟨l,ns,k,rfl,rfl,o,A,q⟩:=h;cases rx;obtain⟨u,rfl,J⟩:=E.one;obtain⟨t,rfl⟩:=J;obtain⟨z,a,n,r,c,e⟩:=I.lstM o;have at':∀i (hi:i<a.length),∃t,a[i]=.int (ns[i]'(by rw[<-c,wH]at hi;exact hi)) t:=λi hi=>by
  have d:i<ns.length:=by rw[<-c,wH]at hi;exact hi
  obtain⟨w,B,f⟩:=r.get (show(ns.map V.int)[i]?=some (.int ns[i]) by rw[wU,wD d];rfl);rw[wD hi]at B;cases B;exact f
 have K:ns.idxOf k<ns.length:=List.idxOf_lt_length_of_mem A;have b:ns.idxOf k<a.length:=by rw[<-c,wH];exact K
 refine uN F.slot_list_remove ⟨_,e,rfl⟩ F.entry_list_remove (F.args_list_remove_2 _ _)
  (MeetsSeq.list_remove l a.toArray n (.int k t) (eqK k) (λy C=>?_) (ns.idxOf k) (by rw[wI];exact b) ?_ (λm hm j=>?_) (by rw[wI];lia)) ⟨e,?_⟩
 .rw [List.mem_toArray]at C
  obtain⟨i,hi,L⟩:=vh C;obtain⟨t',e'⟩:=at' i hi;rw[<-L,e'];exact MeetsSeq.EqGives.int _ _ _ _
 .obtain ⟨t',e'⟩:=at' _ b
  rw[gJ,e'];show(ns[ns.idxOf k] == k)=true;rw[List.getElem_idxOf];simp
 .rw [wI]at hm
  obtain⟨t',e'⟩:=at' m hm;rw[gJ,e'];exact List.not_of_lt_findIdx (xs:=ns) (p:=(· == k)) j
 refine⟨.non,_,I.lset (its':=a.eraseIdx (ns.idxOf k)) o e ?_ (by rw[<-qg4,<-qec];exact r.eraseIdx _) ?_,rfl,q⟩
 .show a.toArray.eraseIdxIfInBounds _=(a.eraseIdx _).toArray
  rw[List.eraseIdxIfInBounds_toArray]
 .have:=xk A
  rw[wH]at c ⊢;lia
def qaV:∀m:List Int,Dens ι H (m.map .int) (m.map .int)
 |[]=>rfl
 |a::r=>⟨_,_,rfl,rfl,qaV r⟩
def refsZ:∀m:List Int,refsLts 0 (m.map .int)=true
 |[]=>rfl
 |a::r=>by rw[wS,refsLts,refsZ r];rfl
def qmR(st:Sto ι H S)(hx:Den ι H x v)(d:Den ι H y u)(p:Pst Den (remD S x y) ι H Q):rRemove v [u] H Q:=by
 unfold remD at p;split at p
 .rename_i n k
  split at p
  .rename_i l e
   split at p
   .rename_i ns b
    split at p
    .rename_i f
     obtain⟨a,rfl,ha⟩:=hx;cases (show u=_ from d);obtain⟨_,xs,h,i⟩:=st.obj n a _ ha e;cases intsOf_eq b;cases dens_ints i;obtain⟨g,c⟩:=jL st ha (qR _ (refsZ (ns.erase k))) (qaV (ns.erase k));exact⟨a,ns,k,rfl,rfl,h,f,p .non ι _ g c rfl⟩
    .exact p.elim
   .exact p.elim
  .exact p.elim
 .exact p.elim
section
variable{X:Cx}{F:Fs}{pos:Pos}
theorem qjO{b:Pos}(j:QE X o (T (ev F co)))(l:QE X e (T (ev F i)))(h:starEach [e] X.env=(false,eval e X.env)::starEach [] X.env:=by rfl)(c:attributeBase o "remove" X.env (eval o X.env)=eval o X.env:=by rfl)(d:(b.endLine == pos.line)=true:=by rfl)(f:((backTo pos (starEach [e] X.env)).all (λx=>!x.1)&&(backToKw pos (keywordEach [] X.env)).all (λx=>x.1.isSome)&&decide ([e].length+([]:List Keyword).length+(if([]:List Keyword).isEmpty then 0 else 1)<30))=true:=by rfl)(a:(backTo pos (starEach [] X.env)).any (·.1)=false:=by rfl):QE X (.Call (.Attribute o "remove" b) [e] [] pos) (T (ev F (.rem co i))):=by
 delta QE;delta QE at j;delta QE at l;exact(qda PySem.F.slot_list_remove PySem.F.type_list_remove qfl (λι S x y v u H Q st hx m p=>qmR st hx m p) j l h c d f a)
end
def qed(st:Sto ι H S)(e:idkD S x y=some d)(hx:Den ι H x v)(b:Den ι H y u):∃a w,v=.ref a/\DGet H a u (some w)/\Den ι H d w:=by
 unfold idkD at e;split at e
 .rename_i n
  split at e
  .rename_i l c
   cases z:keyD y with
   |none=>rw[z]at e;cases e
   |some k =>
    rw[z,w5]at e;obtain⟨a,rfl,ha⟩:=hx;obtain⟨_,kvs,h,i⟩:=st.obj n a _ ha c;obtain⟨w,e1,j⟩:=j4 (f:=id) Iff.rfl i e;cases key_den z b;refine⟨a,w,rfl,?_,j⟩;have:=DGet.k (k:=k) h;rw[show valV kvs k=some w from e1]at this;exact this
  .cases e
 .cases e
section
variable{X:Cx}{pos:Pos}
theorem qmS(l:X.A.units+1<cLine)(ha:PE X a (T j))(m:PE X b (T mb))(n:PlainIx b):
  PE X (.Subscript a b pos) (T λρ S=>(j ρ S).bind λx S1=>(mb ρ S1).bind λy S2=>ofO (idkD S2 x y) S2) :=
 PEimp (qfU (qdU l) ha m n) λB H Q o=>by
  refine TG.b1 o λι S ρ a b C r st s p=>Pst.tg p r st λE S2 h H2 b2 s2 u f i v=>?_
  obtain⟨d,e,q⟩:=Pst.ofO v f;obtain⟨c,w,e1,g,z⟩:=qed f e (Den.mono s2 a s) i;exact⟨c,w,e1,g,q w h H2 (Stp.refl _ _) f z⟩
def dGet:V->V->Hp->VK->Prop:=λo i H Q=>∃a v,o=.ref a/\DGet H a i (some v)/\Q v H
theorem qg5(c:X.A.units+1<cLine):PGet X dGet:=by
 intro pins s j H o i d l Q I e ri h;obtain⟨a,v,rfl,g,q⟩:=h;obtain rfl:d=Value.ref a:=e;exact qaN c I g ri λm s' f b=>⟨v,H,f,b,q⟩
theorem qk6{o i e:Expr}{mo mi me:En->Sr->Res D}{d:Pos}(L:X.A.units+1<cLine)(N:PE X o (T mo))(hi:PE X i (T mi))(O:PE X e (T me))(ha:∀m n new,augStore i m n new=(do holding [new,m,n] (setItem m n new);release [new,m,n] [];pure .next)):
  PS X (.AugAssign (.Subscript o i d) .Add e pos) (TSm λρ S=>(mo ρ S).bind λx S1=>(mi ρ S1).bind λy S2=>match idkD S2 x y with
  |some (.int a)=>(me ρ S2).bind λz q=>match z with
   | .int b=>match putE q x y (.int (a+b))with
    |some r=>.ok (.nx ρ) r
    |none=>.no
   |_=>.no
  |_=>.no):=PSimp (qij N hi (qg5 L) O qkf (qdV L) ha) λD P H Q=>by
 obtain⟨ι,S,ρ,s,st,p⟩:=Q;refine⟨ι,S,ρ,s,st,PsF.bind p λx S1 u H1 vx s1 v rx U=>?_⟩;refine⟨u,S1,ρ,s.mono s1,v,PsF.bind U λy S2 B H2 vy s2 f M C=>?_⟩;have h:=(s.mono s1).mono s2;have j:=Den.mono s2 x rx;split at C
 .rename_i a W
  obtain⟨c,w,e1,g,Y⟩:=qed f W j M;cases (show w=_ from Y);refine⟨c,.int a,e1,g,B,S2,ρ,h,f,PsF.bind C λz q E H3 Z F I rz l=>?_⟩;split at l
  .rename_i b
   cases (show Z=_ from rz);split at l
   .rename_i r e4
    exact⟨a,b,rfl,rfl,E,q,x,y,.int (a+b),r,I,Den.mono F x j,Den.mono F y M,rfl,e4,λJ H' s' K=>l J H' s' K P ((h.mono F).mono s')⟩
   .exact l.elim
  .exact l.elim
 .exact C.elim
end
section
variable{X:Cx}{F:Fs}{N:Nat}{pos:Pos}
theorem qee{k:Nat}(f:Room k X.A)(ha:QE X a (T (ev F c)))(e:QE X b (T (ev F d)))(h:PlainIx b:=by exact λ_ _=>rfl):QE X (.Subscript a b pos) (T (ev F (.idk c d))):=by
 delta QE;delta QE at ha;delta QE at e;exact(qmS (qdL f) ha e h)
theorem qk7{k:Nat}(l:Room k X.A)(h:QE X o (T (ev F co)))(hi:QE X i (T (ev F d)))(j:QE X e (T (ev F f)))(ha:∀b c new,augStore i b c new=(do holding [new,b,c] (setItem b c new);release [new,b,c] [];pure .next):=by intros;rfl):QS X (.AugAssign (.Subscript o i a) .Add e pos) (TSm (ex F N (.augK co d f))):=by
 delta QS;delta QE at h;delta QE at hi;delta QE at j;exact(qk6 (qdL l) h hi j ha)
end
noncomputable def dcKV(d:Int)(ns:03):List (Key×V):=ns.foldl (λl k=>putK l (.inl k:Key) (.int d)) []
def qfm(d:Int)(ns:03)(k:Int):dcKV d (ns++[k])=putK (dcKV d ns) (.inl k) (.int d):=by simp[dcKV]
def qct(d:Int):∀(ns:03) (l:List (Key×D)) (kvs:List (Key×V)),DGs id ι H l kvs->DGs id ι H (ns.foldl (λl k=>putT (.inl k:Key) (.int d) l) l) (ns.foldl (λl k=>putK l (.inl k:Key) (.int d)) kvs)
 |[],_,_,h=>h
 |k::r,l,kvs,h=>qct d r _ _ (qbg (f:=id) Iff.rfl (d:=.int d) (v:=.int d) rfl h)
def qi8(d:Int)(ns:03):DGs id ι H (dcKL d ns) (dcKV d ns):=qct d ns [] [] rfl
def qg6(d:Int)(ns:03):refsLts 0 ((dcKL d ns).map (·.2))=true:=by
 have:∀(ns:03) (l:List (Key×D)),refsLts 0 (l.map (·.2))=true->refsLts 0 ((ns.foldl (λl k=>putT (.inl k:Key) (.int d) l) l).map (·.2))=true:=by
  intro ns;induction ns with
  |nil=>exact λl h=>h
  |cons k r a=>exact λl h=>a _ (j5 rfl h)
 exact this ns [] rfl
def qg7(d:Int)(ns:03):(dcKV d ns).length<=ns.length:=by
 have:∀(ns:03) (l:List (Key×V)),(ns.foldl (λl k=>putK l (.inl k:Key) (.int d)) l).length<=l.length+ns.length:=by
  intro ns;induction ns with
  |nil=>exact λl=>wG _
  |cons k r a =>
   intro l;have b:=a (putK l (.inl k) (.int d));have c:=zO l (.inl k:Key) (V.int d);rw[xW,w8];lia
 have:=this ns [];simpa[dcKV]using this
structure SrcI (J:It) (H0:Hp) (xs:List V):Prop where
 go:∀(D:Addr) (o:HO),H0 D=none->∀(i:Nat) (x:V),xs[i]?=some x->J.go i (upd H0 D o)/\∀y H3,J.yld i (upd H0 D o) y H3->H3=upd H0 D o/\y=x
 stop:∀(D:Addr) (o:HO),H0 D=none->J.stop xs.length (upd H0 D o)
def qbv{H0:Hp}{a D:Addr}{u o:HO}(h:Rd H0 a u)(c:H0 D=none):Rd (upd H0 D o) a u:=by
 have b:a≠D:=λz=>by
  rcases h with h|⟨_,h⟩ <;> (rw[z,c]at h;cases h)
 rcases h with h|⟨ob,h⟩
 .exact .inl (by rw[qk b];exact h)
 .exact .inr ⟨ob,by rw[qk b];exact h⟩
def srcL{K:07}{H0:Hp}{a:Addr}{xs:List V}(h:Rd H0 a (.l xs)):SrcI (Itl K a) H0 xs where
 go:=λD o b i x e=>by
  have r:=qbv (o:=o) h b;refine⟨⟨xs,x,.inl r,e⟩,λy H3 c=>⟨c.1,?_⟩⟩;have:=c.2 xs (.inl r);rw[e]at this;cases this;rfl
 stop:=λD o b=>⟨xs,.inl (qbv h b),wG _⟩
def srcT{K:07}{H0:Hp}{a:Addr}{xs:List V}(h:H0 a=some (.t xs)):SrcI (Itt K a) H0 xs where
 go:=λD o b i x e=>by
  have r:=qbv (o:=o) (.inl h) b;refine⟨⟨xs,x,.inl r,e⟩,λy H3 c=>⟨c.1,?_⟩⟩;have:=c.2 xs (.inl r);rw[e]at this;cases this;rfl
 stop:=λD o b=>⟨xs,.inl (qbv (.inl h) b),wG _⟩
noncomputable def mDck(a:Int)(m:En->Sr->Res D):En->Sr->Res D:=λρ S=>(m ρ S).bind λx S1=>match refX x S1 with
 |some p=>match intsOf p.1 with
  |some ns=>if ns.length<1000 then .ok (.ref S1.length) (S1++[.dis (dcKL a ns)])else .no
  |none=>.no
 |none=>.no
section
variable{X:Cx}{pos:Pos}
theorem qfn{A:Around}{E:Value->Shared->Prop}(I:Inv X pins d H s)(e:H a=some (.dK kvs))(l:kvs.length<sizeLine)(f:RelV (kV k) u)(i:RelV v r)(h:∀s',Inv X pins d (upd H a (.dK (putK kvs k v))) s'->Q () s'):
  wpAny 05 A (dictSet a u r) Q E s:=by
 obtain⟨z,hd,vs,b,dd⟩:=qjC I.hok e;have hz:vs.length<=sizeLine:=by rw[<-b.length];exact z
 have j:(putK kvs k v).length<=sizeLine:=by have:=zO kvs k v;lia
 refine wpAny_dictSet_pairs (hsz:=hz) (qdI f) dd λh' c m=>h _ ?_
 have n:∃q,h'.get? a=some q:=let ⟨q,_,_,o,_⟩:=c;⟨q,o⟩;exact qba I (by rw[e];exact True.intro) m n (qfZ j hd (b.put k i) c)
theorem qg8{L kp N:Pos}{O:Nat}{a:Int}{iter:Expr}{sc:Scope}{ns:03}(m:X.xe=λ_ _=>False)(hc:X.calm=true)(P:X.ex=fp)(Q:X.pn=[])(T':Turn X.prog X.w X.K (.Name t L) J fp it tn)(hg:PG X (.Name t L) (gName 0))(hk:PE X (.Name t kp) (tVar 0))(q:H0 c=none)(hJ:SrcI J H0 (ns.map V.int))(hl:ns.length<=1000)(I:Inv X [] S (upd H0 c (.dK [])) s)(h0:tn 0 s.heap)(U:∀b∈fp,upd H0 c (.dK []) b=none)(W:S.length=1)(fin:∀(f:St) (s':Shared),Inv X [] f (upd H0 c (.dK (dcKV a ns))) s'->R (.ok .next) s'):
  codeAny 05 X.A (.compLoop (.DictComp (.Name t kp) (.Constant (.int a) O N) [⟨.Name t L,iter,[],0⟩] sc pos) 0 (.ref it) (.ref c) X.env) R s:=by
 have B:∀b∈fp,b≠c/\H0 b=none:=λb n=>by
  have M:=U b n;have C:b≠c:=λz=>by rw[z,qA]at M;cases M
  rw[qk C]at M;exact⟨C,M⟩
 refine codeAny_loop rfl (λk s'=>∃(i:Nat) (f:St),k=ns.length-i/\i<=ns.length/\Inv X [] f (upd H0 c (.dK (dcKV a (ns.take i)))) s'/\tn i s'.heap/\f.length=1) ?_
  ns.length ⟨0,S,by simp,vN _,I,h0,W⟩
 rintro k s1 ⟨i,d,rfl,hi,I1,t1,l⟩;have e:∀{o:HO},∀b∈fp,FpOk X [] (upd H0 c o) b:=λb n=>by
  have h:b∈X.ex:=by rw[P];exact n
  exact⟨by rw[qk (B b n).1];exact(B b n).2,(I.ok.exf b h).1,λz=>I.ok.exfs b h z,.inl h,(I.ok.exf b h).2,λp hp=>by rw[Q]at hp;exact absurd hp 02⟩
 show wpAny _ X.A ((compTurn (.DictComp (.Name t kp) (.Constant (.int a) O N) [⟨.Name t L,iter,[],0⟩] sc pos) 0 (.ref it) (.ref c) X.env).onRaise (λx=>do noteFrame x X.env;theTreesLotGoes x)) _ _ s1;refine wpAny_noted ?_;rw[compTurn_dict];refine wA (vi (wA ?_));by_cases E:i<ns.length
 .obtain ⟨go,yl⟩:=hJ.go c (.dK (dcKV a (ns.take i))) q i (.int ns[i]) (by rw[wU,wD E];rfl)
  refine thnF (T'.item X rfl rfl rfl hc i [] s1 d _ _ I1 e t1 go) λr s2 ⟨u,Y,h2⟩=>?_
  subst Y;refine wA (thnF h2 λ_ s3 ⟨x,H3,I3,r3,y3,t3,f3⟩=>?_);obtain⟨e3,ex⟩:=yl x H3 y3;subst e3 ex;have Z:=I3.pinned e (T'.obj _ _ t3);refine wA (wv (hg _ s3 d _ (.int ns[i]) u (λF H4=>F=d.set 0 (some (.int ns[i]))/\H4=upd H0 c (.dK (dcKV a (ns.take i)))) Z r3 ⟨rfl,rfl⟩) (λ_ s4 ⟨F,H4,I4,e4,e5⟩=>?_) λ_ _ z=>by rw[m]at z;exact z.elim);subst e4 e5;refine wA (wC ?_);refine wA (wA (wv (hk _ s4 _ _ (λy H6=>y=.int ns[i]/\H6=upd H0 c (.dK (dcKV a (ns.take i)))) I4 ⟨.int ns[i],by rw[wd (by rw[l];decide)],rfl,rfl⟩) (λy' s6 ⟨y,H6,I6,ry,ey,e6⟩=>?_) λ_ _ z=>by rw[m]at z;exact z.elim));subst ey e6;refine wA (wj (wv (qfC (pos:=N) (j:=O) _ s6 _ _ (λy H7=>y=.int a/\H7=upd H0 c (.dK (dcKV a (ns.take i)))) I6 ⟨rfl,rfl⟩) (λz' s7 ⟨y,H7,I7,rz,ey,e7⟩=>?_) λ_ _ z=>by rw[m]at z;exact z.elim));subst ey e7;have H:=qg7 a (ns.take i);rw[vP]at H;refine wA (vi (wj (qfn (k:=.inl ns[i]) (v:=.int a) I7 qA (by rw[vM];lia) ry rz λs8 I8=>?_)));rw[qif]at I8;have et:dcKV a (ns.take (i+1))=putK (dcKV a (ns.take i)) (.inl ns[i]) (.int a):=by rw[<-qfm,List.take_append_getElem]
  refine wC ⟨rfl,ns.length-(i+1),by lia,i+1,_,rfl,E,by rw[et];exact I8.unpinned,?_,by rw[List.length_set];exact l⟩;exact T'.keep _ _ _ t3 λb n o eo=>(I8.pin (b,o) (wV _ (wV _ (zf n eo)))).1
 .have a0:i=ns.length:=by lia
  subst a0;have st:=hJ.stop c (.dK (dcKV a (ns.take ns.length))) q;rw[wH]at st;refine thnF (T'.done X rfl rfl rfl hc ns.length [] s1 d _ _ I1 e t1 st) λr s2 ⟨Y,I2⟩=>?_
  subst Y;rw[xK]at I2;exact wC (fin d s2 I2)
theorem qg9{L kp vp:Pos}{vj:Nat}{u:Int}(hc:X.calm=true)(hi:PE X iter (T m))(hs:∀x,foldedSetIterable iter X.env x=pure x)(C':CSc X sc [] [] [t])(hg:∀cl C fp s H,PG (compCx X sc cl C ([]++[t]) fp s H) (.Name t L) (gName 0))(hk:∀cl C fp s H,PE (compCx X sc cl C ([]++[t]) fp s H) (.Name t kp) (tVar 0))(I:Inv X pins M H s)(hw:T (mDck u m) M H Q)(fin:∀(D C:Addr) (H':Hp) (s':Shared) (m:Str->Option Value),s'.heap.Ns C m->C≠X.env.locals->(∀x c,X.env.cells.lookup x=some c->c≠C)->(H' C=none/\X.s₀.heap.objs.size<=C/\∀p∈X.pn++pins,p.1≠C)->(∀h',Heap.SameBut C s'.heap h'->Inv X pins M H' {s' with heap:=h' })->Q (.ref D) H'->compPost 05 X.A X.xe use Q' (.ref D) C (.ok .next) s'):
  wpAny 05 X.A (comprehension (.DictComp (.Name t kp) (.Constant (.int u) vj vp) [⟨.Name t L,iter,[],0⟩] sc pos) sc X.env (firstIterPos [⟨.Name t L,iter,[],0⟩] pos) newDict false (eval iter X.env) use) Q' X.xe s:=by
 obtain⟨ι,S,ρ,er,st,p⟩:=hw;dsimp only[mDck]at p;cases z:m ρ S with
 |no=>rw[z]at p;exact p.elim
 |err=>rw[z]at p;exact p.elim
 |ok dx S1 =>
 rw[z,Res.bind_ok]at p;split at p
 rotate_left
 .exact p.elim
 rename_i lg d;split at p
 rotate_left
 .exact p.elim
 rename_i ns a0;split at p
 rotate_left
 .exact p.elim
 rename_i N;have N:ns.length<1000:=N;obtain⟨cl,CL⟩:=qbk (X:=X) (sc:=sc) λx hx hf=>I.ok.has x.1 (C'.frees x hx hf)
 refine wpAny_comprehension_free rfl hs CL.eq C'.kind C'.names ?_;refine thn (qdb (tg:=.Name t L) hi pins s M H (λJ H2=>∃j,Stp ι H j H2/\Sto j H2 S1/\SrcI J H2 (ns.map V.int)) I ⟨ι,S,ρ,er,st,?_⟩) λxv s1 h1=>thn h1 λa5 s2 h2=>?_
 .rw [z]
  intro v B H' q r hv;have E:lg.1=ns.map .int:=intsOf_eq a0;cases dx with
  |ref n =>
   obtain⟨a,rfl,ha⟩:=hv;cases zn:S1[n]? with
   |none=>simp only[refX,zn]at d;cases d
   |some so =>
    cases so with
    |l l =>
     simp only[refX,zn]at d;cases d;obtain⟨_,xs,hx,O⟩:=r.obj n a _ ha zn;cases (show l=_ from E);cases dens_ints O;exact .inl ⟨a,rfl,⟨_,.inl (.inl hx)⟩,B,q,r,srcL (.inl hx)⟩
    |dic l=>simp only[refX,zn]at d;cases d
    |dis l=>simp only[refX,zn]at d;cases d
  |t l =>
   cases d;obtain⟨a,xs,rfl,hn,ha,O⟩:=hv;cases (show l=_ from E);cases dens_ints O;exact .inr ⟨a,rfl,⟨_,.inl (.inl ha)⟩,B,q,r,srcT ha⟩
  |l l =>
   cases d;obtain⟨a,xs,rfl,hn,ha,O⟩:=hv;cases (show l=_ from E);cases dens_ints O;exact .inl ⟨a,rfl,⟨_,.inl ha⟩,B,q,r,srcL ha⟩
  |_=>cases d
 obtain⟨it,fp,tn,J,H2,e,I2,T',t2,f2,j,q2,P,hJ⟩:=h2;subst e;refine wR ?_;have F:H2 s2.heap.objs.size=none:=I2.hok.fresh (wG _);have U:∀b∈fp,b<s2.heap.objs.size:=λb f=>by
  obtain⟨o,h,_⟩:=T'.obj _ _ t2 b f;exact wF h
 have K:Inv X pins M (upd H2 s2.heap.objs.size (.dK [])) {s2 with heap:=s2.heap.push {cls:=.type "dict",data:=.dict #[]}} :=
  I2.laid (t':=s2.toks) (λb o e=>wB _ e) (wG _) (qbV s2.heap I2.big)
 have f3:∀b∈fp,FpOk X pins (upd H2 s2.heap.objs.size (.dK [])) b:=λb f=>⟨by rw[qk (wT (U b f))];exact(f2 b f).1,(f2 b f).2⟩
 generalize W:({s2 with heap:=s2.heap.push {cls:=.type "dict",data:=.dict #[]}}:Shared)=s3 at K ⊢;have Y:∀b∈fp,b<s3.heap.objs.size:=λb f=>by
  rw[<-W];show b<(s2.heap.push _).objs.size;rw[ww];exact vf (U b f)
 have t3:tn 0 s3.heap:=T'.keep _ _ _ t2 λb f o h=>by rw[<-W];exact wB _ h
 refine wpAny_newFunctionEnv C'.nocell (by intro y hy;simp at hy) (λh4 a1 a2=>?_) C'.kind;have i:∀b o,s3.heap.get? b=some o->h4.get? b=some o:=λb o h=>a2.extBut b o (wT (wF h)) (wB _ h)
 have I4:=j7 (tk:=s3.toks+([]:List (Str×Value)).length) K C'.kind C'.nocell CL f3 Y C'.frs a1 i;have t4:tn 0 h4:=T'.keep _ _ _ t3 λb f o h=>i b o h
 have loop:codeAny 05 X.A (.compLoop (.DictComp (.Name t kp) (.Constant (.int u) vj vp) [⟨.Name t L,iter,[],0⟩] sc pos) 0 (.ref it) (.ref s2.heap.objs.size) (compEnvC sc cl s3.heap.objs.size X.env)) (compPost 05 X.A X.xe use Q' (.ref s2.heap.objs.size) s3.heap.objs.size) {s3 with heap:=h4,toks:=s3.toks+([]:List (Str×Value)).length}:=by
  refine qg8 (X:=compCx X sc cl s3.heap.objs.size ([]++[t]) fp s3 (upd H2 s2.heap.objs.size (.dK []))) (pos:=pos) rfl hc rfl rfl T' (hg _ _ _ _ _) (hk _ _ _ _ _) F hJ 00 I4 t4 (λb f=>(f3 b f).1) (by simp[frS]) λa6 s' J'=>?_
  obtain⟨H',Z⟩:∃H',H'=upd H2 s2.heap.objs.size (.dK (dcKV u ns)):=⟨_,rfl⟩;rw[<-Z]at J';obtain⟨m',a3,_⟩:=J'.loc;refine fin s2.heap.objs.size s3.heap.objs.size H' s' m' a3 (w1 K.lt) (λx c ec ez=>?_) ⟨J'.free,K.sz,λq hq ez=>by have:=wF (K.pin q hq).1;rw[ez]at this;exact absurd this (vZ _)⟩ (λh5 a4=>j8 K f3 J' a4) ?_
  .obtain ⟨v,o,h,_⟩:=K.cell x c ec
   rw[ez]at h;exact absurd (wF h) (vZ _)
  .subst Z
   have gg:=Stp.grow (ι:=j) F (.dK (dcKV u ns));refine p (.ref s2.heap.objs.size) _ _ (q2.trans gg) (P.grow F ⟨qg6 u ns,_,qA,qi8 u ns⟩) ⟨_,rfl,?_⟩;rw[<-P.len];simp
 exact codeAny_compStart_dict loop (T'.self _ 0 _ _ _ t4 loop)
theorem qha{w:Nat}{h:Int}{i:Nat}{j c:Pos}(Z:X.calm=true)(hi:PE X iter (T B))(hs:∀x,foldedSetIterable iter X.env x=pure x)(C':CSc X sc [] [] [t])(hg:∀cl C fp s H,PG (compCx X sc cl C ([]++[t]) fp s H) (.Name t r) (gName 0))(hk:∀cl C fp s H,PE (compCx X sc cl C ([]++[t]) fp s H) (.Name t kp) (tVar 0))(hN:X.N.Nodup)(hy:X.N[i]?=some y)(U:X.env.scope.names.lookup y=some .local)(E:swapsWith (.DictComp (.Name t kp) (.Constant (.int h) w u) [⟨.Name t r,iter,[],0⟩] sc pos) (some (.Name y j)) c.line X.env=pure true):
  PS X (.Assign [.Name y j] (.DictComp (.Name t kp) (.Constant (.int h) w u) [⟨.Name t r,iter,[],0⟩] sc pos) c) (TSm λρ S=>(mDck h B ρ S).bind λd S1=>.ok (.nx (ρ.set i (some d))) S1):=λpins s F H D I hw=>by
 obtain⟨ι,S,ρ,W,st,p⟩:=hw;rw[exec_Assign_Name_used _ _ _ _ E];refine wA (vi (wA ?_));show wpAny _ X.A (do let _ <-comprehension (.DictComp (.Name t kp) (.Constant (.int h) w u) [⟨.Name t r,iter,[],0⟩] sc pos) sc X.env _ newDict false (eval iter X.env) (some (assign (.Name y j) X.env))) _ _ s;have hT:T (mDck h B) F H (λv J=>D.nx (F.set i (some v)) J):=⟨ι,S,ρ,W,st,PsF.bind p λa S1 K J b s1 L ra p1=>p1 K J (Stp.refl _ _) L _ ((W.mono s1).set ra)⟩;refine wA (wv (qg9 (use:=some (assign (.Name y j) X.env)) (Q':=λ_ s'=>SP X pins D .next s') Z hi hs C' hg hk I hT λY C H' s' m hn l n f hI q=>?_) (λ_ s' hq=>wC (wC hq)) λ_ _ e=>e);show wpAny _ X.A (assign (.Name y j) X.env (.ref Y)) _ _ _;have I0:Inv X pins F H' s':=by
  have:=hI s'.heap (Heap.SameBut.refl ..);exact this
 refine wpAny_assign_Name (jo I0 hN hy (.inl U) (v:=.ref Y) rfl (λs'' M O=>?_) (.inr U));obtain⟨a,sb,ha⟩:=O;have P:C≠a:=by
  rcases ha with z|z
  .rw [z];exact l
  .exact λq=>n y a z q.symm
 refine⟨m,hn.sameBut sb P,λh' Q=>?_⟩;have I3:=M.turned (h':=h') (t':=s''.toks) (it:=C) (λb o hb e=>Q.extBut b o hb e) f.1 l (.inr f.2.1) n f.2.2;exact⟨_,H',I3,q⟩
end
section
variable{X:Cx}{F:Fs}{N:Nat}{pos:Pos}
theorem qk8(i:Nat)(b:X.N[i]?=some x:=by rfl)(c:Vis X.env.scope x:=by first|exact Or.inl rfl|exact Or.inr (Or.inl rfl)|exact Or.inr (Or.inr rfl))(hd:dB x:=by decide)(a:(x == ("__classdict__":Str))=false:=by decide):PE X (.Name x pos) (tVar i):=qfB b c hd a
theorem qhb(i:Nat)(b:Int){m:Nat}{n a:Pos}(hi:QE X iter (T (ev F c)))(o:∀cl C fp s H,PG (compCx X sc cl C ([]++[t]) fp s H) (.Name t f) (gName 0))(p:∀cl C fp s H,PE (compCx X sc cl C ([]++[t]) fp s H) (.Name t kp) (tVar 0))(q:X.calm=true:=by rfl)(r:∀x,foldedSetIterable iter X.env x=pure x:=by intro _;rfl)(h:cscB X.env.scope.names X.N sc [] [] [t]=true:=by rfl)(u:nodupB X.N=true:=by rfl)(v:X.N[i]?=some y:=by rfl)(w:X.env.scope.names.lookup y=some .local:=by rfl)(j:swapsWith (.DictComp (.Name t kp) (.Constant (.int b) m l) [⟨.Name t f,iter,[],0⟩] sc pos) (some (.Name y n)) a.line X.env=pure true:=by rfl):
  QS X (.Assign [.Name y n] (.DictComp (.Name t kp) (.Constant (.int b) m l) [⟨.Name t f,iter,[],0⟩] sc pos) a) (TSm (ex F N (.set (.v i) (.dcK b c)))):=by
 have e:ex F N (.set (.v i) (.dcK b c))=λρ S=>(mDck b (ev F c) ρ S).bind λd S1=>.ok (.nx (ρ.set i (some d))) S1:=by
  funext ρ S;unfold mDck;simp only[ex,asg,ev]
  all_goals (cases ev F c ρ S <;> rfl)
 rw[e];delta QS;delta QE at hi;exact(qha q hi r (jz h) o p (q9 u) v w j)
end
variable{X:Cx}
end R
namespace R
open PySem PySem.Spec L2 SeqAt
open PyProof.Rows hiding St
section
variable{X:Cx}{pins:List (Addr×Obj)}{σ:List (Option V)}{H:Hp}{s:Shared}
theorem qfo(I:000):Inv X pins σ H {s with drawn:=d' }:=⟨I.ok,I.os,I.bare,I.base,I.loc,I.cell,I.free,I.freeC,I.pin,I.hok,I.len⟩
theorem jE{ns:03}:firstMet (λi=>ns.getD i 0) ns.length=ddI ns:=by
 unfold firstMet ddI;have:(List.range ns.length).map (λi=>ns.getD i 0)=ns:=by
  apply u8;intro i;rw[wU];by_cases h:i<ns.length
  .rw [List.getElem?_range h,wD h];simp[h]
  .rw [vW (by simpa using h),vW 00];rfl
 rw[this]
theorem qk9(ns:03):(ddI ns).length<=ns.length:=by rw[<-jE];exact firstMet_length_le _ _
theorem qla:bootBuiltins "set"=some (.type "set"):=by decide +kernel
theorem vals_ints:∀{us:List Value} {a:03},IntsAre us a->Vals (a.map V.int) us
 |_,_,.nil=>.nil
 |_,_,.cons n t r=>.cons ⟨t,rfl⟩ (vals_ints r)
theorem jh:∀a:List Int,Dens ι H (a.map .int) (a.map V.int)
 |[]=>rfl
 |_::r=>⟨_,_,rfl,rfl,jh r⟩
theorem qlb{J K pos h:Pos}(m:Bool)(Z:X.calm=true)(hg:Gl X "sorted")(hm:X.mg "sorted"=none)(M:Gl X "set")(N:X.mg "set"=none)(ha:PA X [e] (TL L))(hs:starEach [e] X.env=(false,eval e X.env)::starEach [] X.env):
  PE X (.Call (.Name "sorted" J) [.Call (.Name "set" K) [e] [] h] [] pos) (T λρ S=>(L ρ S).bind λl S1=>bltD (.sset m) l S1):=by
 intro pins s σ H Q I hw;obtain⟨ι,S,ρ,er,st,q⟩:=hw;dsimp only at q;cases z:L ρ S with
 |no=>rw[z]at q;exact q.elim
 |err=>rw[z]at q;exact q.elim
 |ok l S1 =>
  rw[z,Res.bind_ok]at q;obtain⟨d,rfl,q⟩:=qbh q;have q2:Pst Den (bSset m d S1) ι H Q:=q;clear q;cases d with
  |t l =>
   unfold bSset at q2;dsimp only at q2;cases zi:intsOf l with
   |none=>rw[zi]at q2;exact q2.elim
   |some ns =>
    rw[zi]at q2;dsimp only at q2;by_cases y:ns.length<4000/\(ddI ns).length<64
    .rw [wM y]at q2
     have:=intsOf_eq zi;subst this;refine Call_ (zT I hg hm qaU ?_);refine xD (e:=.Call (.Name "set" K) [e] [] h) (rest:=[]) ?_ rfl rfl;have B:wpAny 05 X.A (eval (.Call (.Name "set" K) [e] [] h) X.env) (λv s'=>∃E H' a,v=.ref a/\Stp ι H E H'/\Sto E H' S1/\Inv X pins σ H' s'/\SN.SetL s'.heap a (SN.ledW X.w) (ddI ns)) X.xe s:=by
      refine Call_ (zT I M N qla (vY (thn (ha h pins s σ H (λvs j=>∃f,Stp ι H f j/\Sto f j S1/\Dens f j [.t (ns.map .int)] vs) I ⟨ι,S,ρ,er,st,?_⟩) λus s1 ⟨vs,j,C,r1,f,q1,i,d1⟩=>?_) hs rfl))
      .rw [z];exact λvs f j q1 i d1=>⟨f,q1,i,d1⟩
      .obtain ⟨x,rfl,hx⟩:=dens1 d1
       obtain⟨u,rfl,ru⟩:=vals1 r1;obtain⟨p,xs,rfl,_,hp,dx⟩:=hx;cases ru;cases dens_ints dx;obtain⟨r,rv,t1,hz⟩:=jt C hp;have ia:IntsAre r ns:=zg rv;have hl:=ia.length;have t2:s1.heap.IsTuple p r.toArray:=let ⟨o,a,b,n,d⟩:=t1;⟨o,a,b,n,d⟩;refine SN.set_tup (items:=r.toArray) (ns:=ns) (C.ok.hd Z) t2 (by simpa using ia) (by rw[wI];unfold scanBound;lia) λh' tk F hk=>?_
       have I2:=C.kept (h':=h') (t':=tk) λb u e=>hk b u (wF e) e
       have e3:r.toArray.size=ns.length:=by rw[wI,hl]
       rw[e3,jE]at F;exact⟨f,j,_,rfl,q1,i,I2,F⟩
     refine uI (thn B λv s1 ⟨f,j,a,ev,q1,i,C,F⟩=>ua ?_);subst ev;refine SN.sorted_set (by have:=C.ok.hd Z;simpa using this) F y.2 λh' tk d' D O c P sz k1 i1 J U hD=>?_
     have en:P=sortI (ddI ns):=PySem.W.lks_uniq (J.trans (qT (ddI ns)).symm) U (je (ddI ns));subst en;have fr:j D=none:=C.hok.fresh sz;have hl:=qk9 ns;have Y:((sortI (ddI ns)).map V.int).length<=sizeLine:=by rw[wH,(qT (ddI ns)).length_eq,vM];lia
     exact⟨.ref D,upd j D (.l ((sortI (ddI ns)).map V.int)),qfo (C.laid (o:=.l ((sortI (ddI ns)).map V.int)) (t':=tk) k1 sz ⟨Y,O.toList,c,vals_ints i1,by rw[hD]⟩),rfl,zo i (jh _) (Pst.from q2 q1) D fr⟩
    .rw [wN y]at q2;exact q2.elim
  |_=>exact q2.elim
end
section
variable{X:Cx}{F:Fs}{pos p p2 pos2:Pos}{e:Expr}{c:CE}
theorem qlc(m:Bool)(gb:Gb X.mg)(ha:QA X [e] (TL (evs F (.cons c .nil))))(b:X.calm=true:=by rfl)(d:Gl X "sorted":=by rfl)(a:Gl X "set":=by rfl)(f:starEach [e] X.env=(false,eval e X.env)::starEach [] X.env:=by rfl):
  QE X (.Call (.Name "sorted" p) [.Call (.Name "set" p2) [e] [] pos2] [] pos) (T (ev F (.blt (.sset m) (.cons c .nil)))):=by
 delta QE;delta QA at ha;exact(qlb m b d gb.sorted a gb.set ha f)
end
end R
namespace R
open PySem PySem.Spec L2
open PyProof.Rows hiding St
namespace EX
noncomputable abbrev fr1(l:List Env):List Addr:=l.filterMap (·.frame)
structure Kpt (S:List Addr) (e:Addr) (T:Option Addr) (h h':Heap):Prop where
 size:h.objs.size<=h'.objs.size
 slot:∀b o,b≠e->some b≠T->h.get? b=some o->∃sl,h'.get? b=some {o with slots:=sl}
 keep:∀b o,b≠e->some b≠T->b∉S->h.get? b=some o->h'.get? b=some o
def Fl(h:Heap)(e:Addr)(c:Value)(T:Addr):Prop:=∃a vs b ts,h.get? e=some a/\a.cls=c/\a.data=.fields vs/\vs[1]?=some (.ref T)/\T≠e/\h.get? T=some b/\b.data=.fields ts/\ts[3]?=some .none
section
variable{M:Model}{A:Around}{E:Value->Shared->Prop}{s:Shared}{base:Heap}
theorem jA{i:Value}{j:Bool}(C:A.frames=some (env::outer))(J:s.heap.FunFrames base (env::outer))(O:env.frame=some L)(K:s.heap.get? e=some z)(hd:z.data=.fields vs)(hsz:1<vs.size)(h:∀h' T,s.heap.objs.size<=T->Kpt (fr1 (env::outer)) e none s.heap h'->Fl h' e z.cls T->Q () {s with heap:=h' }):
  wpAny M A (do let a <-frameOf env;let pl <-entryPlaceOf L j;let b <-EntryCells.newEntry i a .none (rawInt L) .none pl;setField (.ref e) 1 b) (λ_ s'=>wpAny M A (setFlight (.ref e) none) Q E s') E s:=by
 have v:e∉(env::outer).filterMap (·.frame):=λhm=>by
  obtain⟨_,o,B,F⟩:=J.mem hm;rw[K]at B;injection B with B;subst B;exact F vs hd
 refine wA (wpAny_frameOf_fun C J O λc d=>?_);refine wA (wpAny_entryPlaceOf λpl w=>?_);unfold EntryCells.newEntry newFields;refine wA (wR ?_ (w.sizeOk5 _ _ _ _ _));have l:c.get? e=some z:=(d.2.1 e v).trans K;have m:=wB (h:=c) {cls:=.type "traceback",dict:=none,data:=.fields ([i,.ref L,.none,rawInt L,.none]++(if pl.isEmpty then List.replicate 6 Value.none else pl)).toArray} l;refine vK m hd hsz ?_;have q:c.objs.size≠e:=w1 (wF l);have f:=wp hd (·.setIfInBounds 1 (Value.ref c.objs.size));have n:=w9 (Obj.mapFields (·.setIfInBounds 1 (Value.ref c.objs.size))) m (vV f);have p:=(wJ (c.push {cls:=.type "traceback",dict:=none,data:=.fields ([i,.ref L,.none,rawInt L,.none]++(if pl.isEmpty then List.replicate 6 Value.none else pl)).toArray})
  (Obj.mapFields (·.setIfInBounds 1 (Value.ref c.objs.size))) (Ne.symm q)).trans (wE c rfl)
 unfold setFlight;refine wA (vF n f (x:=.ref c.objs.size) (by simp[hsz]) ?_);rw[wM (show(Value.ref c.objs.size != Value.none)=true from by simp)];refine vK p rfl (by simp only[wI,wm,w8,ws] <;> omega) (h _ c.objs.size (x8 d.1.symm) ⟨?_,λb o r _ H=>?_,λb o r _ I H=>?_⟩ ?_)
 .rw [vS,vS,ww,d.1];exact u0 _
 .obtain ⟨sl,N⟩:=d.2.2 b o H
  have u:c.objs.size≠b:=w1 (wF N);exact⟨sl,by rw[wJ _ _ u,wJ _ _ (Ne.symm r)];exact wB _ N⟩
 .have y:c.get? b=some o:=(d.2.1 b I).trans H
  have u:c.objs.size≠b:=w1 (wF y);rw[wJ _ _ u,wJ _ _ (Ne.symm r)];exact wB _ y
 .refine ⟨_,_,_,_,?_,xA _ _,f,by simp[hsz],q,w9 _ p (vV (wp rfl _)),wp rfl _,by first|(simp;done)|(rcases w with rfl|⟨_,_,_,_,_,_,_,rfl⟩ <;> simp)⟩
  rw[wJ _ _ q];exact n
theorem leave1(b:A.frames=some (env::outer))(i:s.heap.FunFrames base (env::outer))(c:env.frame=some L)(d:s.heap.get? e=some a)(hd:a.data=.fields vs)(f:vs[1]?=some .none)(h:∀h' T,s.heap.objs.size<=T->Kpt (fr1 (env::outer)) e none s.heap h'->Fl h' e a.cls T->Q () {s with heap:=h' }):wpAny M A (leaving env (.ref e)) Q E s:=by
 unfold leaving noteFrame;simp only[c];refine wA (wA (vF d hd f ?_));rw[wN 01];exact jA b i c d hd (vR.mp f).1 h
theorem leave2(r:A.frames=some (env::outer))(H:s.heap.FunFrames base (env::outer))(x:env.frame=some L)(I:Fl s.heap e c n)(h:∀h' T,s.heap.objs.size<=T->Kpt (fr1 (env::outer)) e (some n) s.heap h'->Fl h' e c T->Q () {s with heap:=h' }):wpAny M A (leaving env (.ref e)) Q E s:=by
 obtain⟨J,vs,K,ts,y,p,hd,B,u,v,j,C⟩:=I;subst p;unfold leaving noteFrame;simp only[x];refine wA (wA (vF y hd B ?_));rw[wM (show(Value.ref n != Value.none)=true from by simp)];refine wA (vF v j C ?_);rw[wN (show ¬((Value.none == rawInt L)=true)from by simp[rawInt])];refine wA (vK v j (vR.mp C).1 ?_);have a:∀b,b≠n->(s.heap.update n (Obj.mapFields (·.setIfInBounds 3 Value.none))).get? b=s.heap.get? b:=λb d=>wJ _ _ (Ne.symm d)
 have i:∀b o,s.heap.get? b=some o->(∀vs,o.data≠.fields vs)->b≠n:=λb o d l q=>by
  rw[q,v]at d;injection d with d;subst d;exact l ts j
 refine jA r (H.of_keeps λb o d l=>⟨o,(a b (i b o d l)).trans d,rfl⟩) x ((a e (Ne.symm u)).trans y) hd (vR.mp B).1 λh' T F k f=>h h' T ?_ ⟨?_,λb o d m e=>?_,λb o d m w e=>?_⟩ f
 .rw [vS]at F;exact F
 .have:=k.size;rw[vS]at this;exact this
 .exact k.slot b o d 02 ((a b λz=>m (by rw[z])).trans e)
 .exact k.keep b o d 02 w ((a b λz=>m (by rw[z])).trans e)
end
end EX
namespace EX
def qhc{h h':Heap}(x:HOk P w H h)(k:∀b o,H b≠none->h.get? b=some o->h'.get? b=some o):HOk P w H h':=λa o e =>
 (x a o e).stay (λb u q z=>k b u (by rcases q with rfl|q <;> simp[*]) z) (λ_ q=>q) λ_ _ q=>q
def there(x:ObjOk P w H h a o):∃u,h.get? a=some u:=by
 cases o with
 |l xs=>obtain⟨_,_,_,_,e⟩:=x;exact⟨_,e⟩
 |t xs=>obtain⟨_,_,_,p,_⟩:=x;obtain⟨_,e,_⟩:=p;exact⟨_,e⟩
 |dK kvs=>obtain⟨_,_,_,_,o,_,_,e,_⟩:=x;exact⟨_,e⟩
 |dT kvs=>obtain⟨_,_,_,_,o,_,_,e,_⟩:=x;exact⟨_,e⟩
 |set S n=>obtain⟨o,_,_,_,e,_⟩:=x;exact⟨_,e⟩
 |ins C dx fs=>obtain⟨_,_,_,e,_⟩:=x;exact⟨_,e⟩
 |own y=>obtain⟨_,e⟩:=x;exact⟨_,e⟩
 |xd fs=>obtain⟨_,⟨_,_,_,e,_⟩,_⟩:=x;exact⟨_,e⟩
 |rng lo hi=>obtain⟨_,_,_,e⟩:=x;exact⟨_,e⟩
 |frz ob u=>obtain⟨e,_⟩:=x;exact⟨_,e⟩
 |tbl ps=>exact⟨_,(show h.get? a=some _ from x.1)⟩
 |met f y=>exact⟨_,(show h.get? a=some _ from x)⟩
 |ext b=>obtain⟨_,⟨_,e⟩,_⟩:=x;exact⟨_,e⟩
def gone(x:HOk P w H h)(e:h.get? a=none):H a=none:=by
 cases q:H a with
 |none=>rfl
 |some o =>
  obtain⟨u,z⟩:=there (x a o q);rw[e]at z;cases z
noncomputable def CXR(P:Program)(w:World):CXT:=λouter H s E e s'=>∃a C T H',e=.ref a/\s'.os=s.os/\GK s.gens s'.gens/\Un (frs outer) [] H H' s.heap s'.heap/\HOk P w H' s'.heap /\
 Fl s'.heap a (.ref C) T/\s.heap.get? a=none/\s.heap.get? T=none/\H' a=none/\H' T=none/\E (.ref a) (some C) H'
structure IsDef (X:Cx) (E:XK):Prop where
 xe:∀e s',X.xe e s'=wpAny 05 X.A (leaving X.env e) (λ_ s''=>CXR X.prog X.w X.outer X.H₀ X.s₀ E e s'') (λe' s''=>CXR X.prog X.w X.outer X.H₀ X.s₀ E e' s'') s'
 stk:X.stack=X.env::X.outer
 fr:X.env.frame=some X.env.locals
 ex:X.ex=[]
def isDef{P:Program}{w:World}{K:07}{mg:Str->Option Value}{base:Heap}{N:List Str}{a:Str}{scope:Scope}{f:Addr}{b:Value}{A:Around}{outer:List Env}{s:Shared}{H:Hp}{E:XK}:
  IsDef (cxOf (CXR P w) P w K mg base N a scope f b A outer s H E) E:=⟨λ_ _=>rfl,rfl,rfl,rfl⟩
section
variable{X:Cx}{E:XK}{pins:List (Addr×Obj)}{σ:St}{H:Hp}{s:Shared}
theorem qcu(D:IsDef X E)(I:000){a C T:Addr}{i:Option Addr}{l h':Heap}(un:∀b o,s.heap.get? b=some o->l.get? b=some o)(k:Kpt (fr1 (X.env::X.outer)) a i l h')(f:Fl h' a (.ref C) T)(p:X.s₀.heap.get? a=none)(v:∀b,i=some b->X.s₀.heap.get? b=none)(r:H a=none)(x:∀b,i=some b->H b=none)(y:l.objs.size<=T)(e:E (.ref a) (some C) H):
  CXR X.prog X.w X.outer X.H₀ X.s₀ E (.ref a) {s with heap:=h' }:=by
 have c:∀b o,X.s₀.heap.get? b=some o->b≠a/\some b≠i:=λb o q=>⟨λz=>by subst z;exact absurd (p.symm.trans q) 02,λz=>absurd ((v b z.symm).symm.trans q) 02⟩
 have d:∀b,b∉X.ex:=λb z=>by rw[D.ex]at z;cases z
 have A:∀b o,X.s₀.heap.get? b=some o->b∉frs X.outer->b∉fr1 (X.env::X.outer):=λb o q n z=>by
  unfold fr1 at z;rw[uR,D.fr]at z;rcases wQ.mp z with z|z
  .subst z;exact absurd (wF q) (xS.mpr I.ok.above)
  .exact n z
 have B:=I.base;have u:s.heap.get? T=none:=by
  cases q:s.heap.get? T with
  |none=>rfl
  |some o=>exact absurd (wF (un _ _ q)) (xS.mpr y)
 refine⟨a,C,T,H,rfl,I.os,I.bare,⟨?_,?_,?_,?_,B.tups,B.frzs,B.tbls⟩,?_,f,p,?_,r,gone I.hok u,e⟩
 .exact λb o q n j _=>k.keep b o (c b o q).1 (c b o q).2 (A b o q j) (un _ _ (B.keep b o q n j (d b)))
 .intro b o q n j _
  obtain⟨sl,z⟩:=B.slot b o q n j (d b);obtain⟨h,m⟩:=k.slot b _ (c b o q).1 (c b o q).2 (un _ _ z);exact⟨h,m⟩
 .exact λb o q n _=>B.free b o q n (d b)
 .intro b o q _
  obtain⟨o',z⟩:=B.there b o q (d b);obtain⟨h,m⟩:=k.slot b _ (c b o q).1 (c b o q).2 (un _ _ z);exact⟨_,m⟩
 .refine qhc I.hok λb o n q=>k.keep b o (λz=>n (z ▸ r)) (λz=>n (x b z.symm)) (λz=>n (I.stkFree b (by rw[D.stk];exact z))) (un _ _ q)
 .cases q:X.s₀.heap.get? T with
  |none=>rfl
  |some o =>
   obtain⟨o',z⟩:=B.there T o q (d T);rw[u]at z;cases z
theorem qhd(D:IsDef X E)(I:000)(hm:Heap.MadeExcOf s.heap a e (.ref C) args)(d:E (.ref e) (some C) H):
  X.xe (.ref e) {s with heap:=a}:=by
 rw[D.xe];obtain⟨t,h,_,_⟩:=hm.there;have i:s.heap.FunFrames X.base (X.env::X.outer):=D.stk ▸ I.stack;have c:a.FunFrames X.base (X.env::X.outer):=i.of_keeps λb o j _=>⟨o,hm.keeps b o j,rfl⟩
 have l:X.s₀.heap.get? e=none:=by
  cases q:X.s₀.heap.get? e with
  |none=>rfl
  |some o =>
   obtain⟨o',z⟩:=I.base.there e o q (by rw[D.ex];simp);rw[hm.new]at z;cases z
 have m:H e=none:=gone I.hok hm.new;exact leave1 (s:={s with heap:=a}) (by rw[I.ok.frames,D.stk]) c D.fr h rfl 02 λh' T n k f =>
  qcu D I hm.keeps k f l (λ_ z=>by cases z) m (λ_ z=>by cases z) n d
theorem passR(D:IsDef X E)(j:∀a C H',h a C H'->E a C H'):Passes (CXR X.prog X.w) X h:=by
 intro pins σ H s e s' I l;obtain⟨a,C,A,H',rfl,os,m,un,hok,p,r,u,v,HT,q⟩:=l;obtain⟨x,g,d,t,c⟩:=s';obtain rfl:c=s.os:=os;have i:=I.call (h':=x) (g':=g) (d':=d) (t':=t) (ch:=[]) un hok m (λb z=>absurd z 02);rw[D.xe];have up:∀b,s.heap.get? b=none->X.s₀.heap.get? b=none:=λb n=>by
  cases q:X.s₀.heap.get? b with
  |none=>rfl
  |some o =>
   obtain⟨o',z⟩:=I.base.there b o q (by rw[D.ex];simp);rw[n]at z;cases z
 exact leave2 (by rw[I.ok.frames,D.stk]) (D.stk ▸ i.stack) D.fr p λh' T y k f =>
  qcu D i (λ_ _ z=>z) k f (up _ r) (λb z=>by cases z;exact up _ u) v (λb z=>by cases z;exact HT) y (j _ _ _ q)
end
end EX
namespace EX
section
variable{X:Cx}{E:XK}{x:Str}{C:Addr}{e:Expr}{es:List Expr}{t:TA}{p cpos pos:Pos}{B Bn newId nid initId inN:String}{bm bmN:List Value}
noncomputable def tRaise(E:XK)(C:Addr)(t:TA):TS:=λ_ c H=>t c H λvs b=>vs.length<=sizeLine/\∀a,b a=none->E (.ref a) (some C) b
theorem qhe(D:IsDef X E)(n:X.calm=true)(u:Gl X x)(O:OwnCls x C bm newId X.mg X.base)(v:ExcBaseFacts Bn newId inN bmN)(c:bm.contains (.type Bn)=true)(l:ExcBaseFacts B nid initId bm)(ha:PA X (e::es) t)(d:dB x:=by decide)(m:sE X e es:=by rfl)(f:(backTo cpos (starEach es X.env)).any (·.1)=false:=by rfl):
  PS X (.Raise (some (.Call (.Name x p) (e::es) [] cpos)) none pos) (tRaise E C t):=by
 intro pins s w H Q I h;have L:OwnCls x C bm newId X.mg s.heap:=O.keeps λb o q=>(I.bs b o q).1
 obtain⟨tl,N,nm,q,bs,hdct,sn,sub,ab,col,dd,k0,k1,k2,k3,k5,mN,z,A,i,T⟩:=O.obj;refine wpAny_Raise_call_subU (C:=C) (nm:=nm) (q:=q) (N:=N) (bs:=bs) (bm:=tl) (hdct:=hdct) (sn:=sn) (sub:=sub) (ab:=ab) (col:=col) (dd:=dd) (k0:=k0) (k1:=k1) (k2:=k2) (k3:=k3) (k5:=k5)
  v c l (mN:=mN) (T.hasType l.hasBase) (I.ok.hd n) (by rw[m];show(false || (backTo cpos (starEach es X.env)).any (·.1))=false;rw[f];rfl) i (yY I u O.bound ⟨rfl,?_⟩ d)
 have h':=ha cpos pins s w H _ I h;rw[m]at h' ⊢;refine Calls.evalArgs_plain (wv h' (λus s1 F=>?_) λ_ _ y=>y);obtain⟨vs,M,j,r,J,K⟩:=F;have kp:∀b o,X.base.get? b=some o->s1.heap.get? b=some o:=λb o q=>(j.bs b o q).1
 exact⟨rfl,by have:=r.length;simp only[<-this]at *;exact J,kp _ _ z,A.keeps kp,T.keeps kp,λP a hm=>qhd D j hm (K a (gone j.hok hm.new))⟩
end
end EX
namespace EX
section
variable{M:Model}{A:Around}{E:Value->Shared->Prop}{s:Shared}{base:Heap}
theorem note2(r:A.frames=some (env::outer))(H:s.heap.FunFrames base (env::outer))(x:env.frame=some L)(I:Fl s.heap e c n)(h:∀h' T,s.heap.objs.size<=T->Kpt (fr1 (env::outer)) e (some n) s.heap h'->Fl h' e c T->Q () {s with heap:=h' }):
  wpAny M A (noteFrame (.ref e) env) (λ_ s'=>wpAny M A (setFlight (.ref e) none) Q E s') E s:=by
 obtain⟨J,vs,K,ts,y,p,hd,B,u,v,j,C⟩:=I;subst p;unfold noteFrame;simp only[x];refine wA (vF y hd B ?_);rw[wM (show(Value.ref n != Value.none)=true from by simp)];refine wA (vF v j C ?_);rw[wN (show ¬((Value.none == rawInt L)=true)from by simp[rawInt])];refine wA (vK v j (vR.mp C).1 ?_);have a:∀b,b≠n->(s.heap.update n (Obj.mapFields (·.setIfInBounds 3 Value.none))).get? b=s.heap.get? b:=λb d=>wJ _ _ (Ne.symm d)
 have i:∀b o,s.heap.get? b=some o->(∀vs,o.data≠.fields vs)->b≠n:=λb o d l q=>by
  rw[q,v]at d;injection d with d;subst d;exact l ts j
 refine jA r (H.of_keeps λb o d l=>⟨o,(a b (i b o d l)).trans d,rfl⟩) x ((a e (Ne.symm u)).trans y) hd (vR.mp B).1 λh' T F k f=>h h' T ?_ ⟨?_,λb o d m e=>?_,λb o d m w e=>?_⟩ f
 .rw [vS]at F;exact F
 .have:=k.size;rw[vS]at this;exact this
 .exact k.slot b o d 02 ((a b λz=>m (by rw[z])).trans e)
 .exact k.keep b o d 02 w ((a b λz=>m (by rw[z])).trans e)
end
end EX
end R
namespace R
open PySem PySem.Calls PySem.Spec
open PyProof.Rows hiding St
namespace EX
section
variable{M:Model}{A:Around}{E:Value->Shared->Prop}
variable{nm q nm' q':Str}{C N C' N':Addr}{bs bm bs' bm':List Value}{hdct hdct':Bool}{sn sn':List Str}{sub sub':List Value}{ab ab':Bool}{col col':Option Bool}{dd dd':Option Addr}{k0 k1 k2 k3 k5 k0' k1' k2' k3' k5':Option Value}{newId newId':String}
theorem qcv{b:Bool}{h:Heap}{g:Array GenState}{d:Drawn}{t:Nat}{os:OsState}{e:Addr}{l:Obj}{Q:Bool->Shared->Prop}(m:h.get? C=some (excClassObj nm q C N bs bm hdct sn sub ab col dd k0 k1 k2 k3 k5 newId))(c:h.get? C'=some (excClassObj nm' q' C' N' bs' bm' hdct' sn' sub' ab' col' dd' k0' k1' k2' k3' k5' newId'))(n:h.get? e=some l)(i:l.cls=.ref C)(a:bm'.contains (.type "BaseException")=true)(o:(Value.ref C::bm).contains (.ref C')=b)(p:Q b ⟨h,g,d,t,os⟩):wpAny M A (excMatches (.ref e) (.ref C')) Q E ⟨h,g,d,t,os⟩:=by
 have j:(Value.ref C'::bm').contains (.type "BaseException")=true:=by rw[List.contains_cons,a,Bool.or_true]
 have f:=tc_notTuple;unfold excMatches;cases b <;> (repeat (first|(with_reducible refine wpAny_loadPart_at n ?_;rw[i])|with_reducible refine wpAny_loadPart_at c ?_|(with_reducible refine wpAny_isSubtype_exc c ?_;rw[j])|(with_reducible refine wpAny_isSubtype_exc m ?_;rw[o])|wp_step)) <;> exact p
end
end EX
namespace EX
def IsExc(h:Heap)(C:Addr)(bm:List Value):Prop:=bm.contains (.type "BaseException")=true /\
 ∃N nm q bs hdct sn sub ab col dd k0 k1 k2 k3 k5 a,h.get? C=some (excClassObj nm q C N bs bm hdct sn sub ab col dd k0 k1 k2 k3 k5 a)
def IsExc.keeps{h h':Heap}(x:IsExc h C bm)(k:∀b o,h.get? b=some o->h'.get? b=some o):IsExc h' C bm:=by
 obtain⟨a,N,nm,q,bs,hdct,sn,sub,ab,col,dd,k0,k1,k2,k3,k5,c,e⟩:=x;exact⟨a,N,nm,q,bs,hdct,sn,sub,ab,col,dd,k0,k1,k2,k3,k5,c,k _ _ e⟩
section
variable{prog:Program}{w:World}{A:Around}{E:Value->Shared->Prop}{s:Shared}{env:Env}
theorem qbw{e C C':Addr}{bm bm':List Value}{b:Bool}{t:Expr}{n:Str}{j:Stmt}{i:List Stmt}{pos:Pos}{rest:List ExceptHandler}{Q:Flow->Shared->Prop}(J:(Value.ref C::bm).contains (.ref C')=b)(h:wpAny 08 (A.mark (some (.ref e))) (eval t env) (λc a=>c=.ref C'/\IsExc a.heap C bm/\IsExc a.heap C' bm'/\(∃x,a.heap.get? e=some x/\x.cls=.ref C) /\
   if b then wpAny 08 (A.mark (some (.ref e))) (setFlight (.ref e) none) (λ_ m =>
     wpAny 08 (A.mark (some (.ref e))) (storeName env n (.ref e)) (λ_ o =>
      wpAny 08 (A.mark (some (.ref e))) (execs (j::i) env)
       (λf p=>wpAny 08 A (do bindName env n .none;unbindBehindTheSuite env n pos) (λ_ r=>Q f r) E p)
       (AsSuiteRaised 08 (A.mark (some (.ref e))) env n pos (notedBy 08 (A.mark (some (.ref e))) env (cameBackBy 08 A env E))) o) (notedBy (model prog w) (A.mark (some (.ref e))) env (cameBackBy (model prog w) A env E)) m) (notedBy (model prog w) (A.mark (some (.ref e))) env (cameBackBy (model prog w) A env E)) a
   else wpAny 08 A (handleBy (.ref e) env rest) Q E a) (notedBy (model prog w) (A.mark (some (.ref e))) env (cameBackBy (model prog w) A env E)) s):
  wpAny 08 A (handleBy (.ref e) env (.ExceptHandler (some t) (some n) (j::i) pos::rest)) Q E s:=by
 refine wpAny_handleBy_cons (codeAny_handlers_test (wv h (λc a u=>?_) λ_ _ y=>y)) (by intro q;cases q);obtain⟨rfl,⟨_,N,nm,q,bs,hdct,sn,sub,ab,col,dd,k0,k1,k2,k3,k5,ni,K⟩,⟨l,N',L,q',M,z,O,F,P,H,S,U,W,X,Y,Z,a0,B⟩,⟨x,he,v⟩,I⟩:=u;obtain⟨hh,g,d,tk,os⟩:=a;refine qcv K B he v l J ?_;cases b with
 |true=>exact codeAny_handlers_suite_as I
 |false=>exact I
end
end EX
end R
namespace R
open PySem PySem.Spec L2
open PyProof.Rows hiding St
namespace EX
section
variable{X:Cx}{pins:List (Addr×Obj)}{σ:St}{H0 H:Hp}{s0 s:Shared}
theorem qef(P:X.stack=X.env::X.outer)(hx:X.ex=[])(F:X.env.frame=some X.env.locals)(J:Inv X pins σ H0 s0)(I:000)(Q:Fl s.heap a c d)(K:s0.heap.get? a=none)(L:s0.heap.get? d=none)(S:H a=none)(HT:H d=none)(k:Kpt (fr1 (X.env::X.outer)) a (some d) s.heap h'):
  Inv X pins σ H {s with heap:=h' }:=by
 obtain⟨oe,vs,oT,ts,U,_,hd,_,_,W,A,_⟩:=Q;have f:∀b o,s.heap.get? b=some o->(∀vs,o.data≠.fields vs)->∃sl,h'.get? b=some {o with slots:=sl}:=λb o q n =>
  k.slot b o (λz=>by subst z;rw[U]at q;cases q;exact n _ hd) (λz=>by cases z;rw[W]at q;cases q;exact n _ A) q
 have h:∀b v,s.heap.IsCell b v->h'.IsCell b v:=λb v ⟨o,q,e⟩=>by
  obtain⟨sl,z⟩:=f b o q (λvs z=>by rw[e]at z;cases z);exact⟨_,z,e⟩
 have up:∀b o,X.s₀.heap.get? b=some o->b≠a/\some b≠some d:=λb o q=>by
  obtain⟨o',z⟩:=J.base.there b o q (by rw[hx];simp);exact⟨λy=>(by subst y;rw[K]at z;cases z),λy=>(by cases y;rw[L]at z;cases z)⟩
 have Y:∀b o,X.s₀.heap.get? b=some o->b∉frs X.outer->b∉fr1 (X.env::X.outer):=λb o q n z=>by
  unfold fr1 at z;rw[uR,F]at z;rcases wQ.mp z with z|z
  .subst z;exact absurd (wF q) (xS.mpr I.ok.above)
  .exact n z
 have xi:∀b,b∉X.ex:=λb z=>by rw[hx]at z;cases z
 have B:=I.base;refine⟨I.ok,I.os,I.bare,⟨?_,?_,?_,?_,B.tups,B.frzs,B.tbls⟩,?_,?_,I.free,I.freeC,?_,?_,I.len⟩
 .exact λb o q n r nx=>k.keep b o (up b o q).1 (up b o q).2 (Y b o q r) (B.keep b o q n r nx)
 .intro b o q n r nx
  obtain⟨sl,z⟩:=B.slot b o q n r nx;obtain⟨j,C⟩:=k.slot b _ (up b o q).1 (up b o q).2 z;exact⟨j,C⟩
 .exact B.free
 .intro b o q nx
  obtain⟨o',z⟩:=B.there b o q nx;obtain⟨j,C⟩:=k.slot b _ (up b o q).1 (up b o q).2 z;exact⟨_,C⟩
 .obtain ⟨m,⟨o,es,ep,q,l,Z,r2⟩,lk⟩:=I.loc
  obtain⟨sl,z⟩:=f _ o q (λvs z=>by rw[l]at z;cases z);refine⟨m,⟨_,es,ep,z,l,Z,r2⟩,λi x v a1 a2 a3=>?_⟩;obtain⟨u,rv,lo⟩:=lk i x v a1 a2 a3;refine⟨u,rv,?_⟩;rcases lo with y|⟨y,E,y1,y2⟩
  .exact .inl y
  .exact .inr ⟨y,E,y1,h _ _ y2⟩
 .intro x E q
  obtain⟨v,z⟩:=I.cell x E q;exact⟨v,h _ _ z⟩
 .intro p M
  obtain⟨w,_⟩:=J.pin p M;obtain⟨q,n1,N,O,n4⟩:=I.pin p M;refine⟨k.keep _ _ (λy=>?_) (λy=>?_) (λz=>?_) q,n1,N,O,n4⟩
  .rw [y,K]at w;cases w
  .rw [Option.some.inj y,L]at w;cases w
  .unfold fr1 at z
   rw[uR,F]at z;rcases wQ.mp z with z|z
   .exact N z
   .exact O z
 .exact qhc I.hok λb o n q=>k.keep b o (λz=>n (z ▸ S)) (λz=>n (by cases z;exact HT)) (λz=>n (I.stkFree b (by rw[P];exact z))) q
theorem caught(c:X.stack=X.env::X.outer)(hx:X.ex=[])(l:X.env.frame=some X.env.locals){E:Value->Shared->Prop}(I:000)(B:CXR X.prog X.w X.stack H s m e s')(h:∀a C T H' s'',e=.ref a->Inv X pins σ H' s''->Fl s''.heap a (.ref C) T->H' a=none->H' T=none->s.heap.get? a=none->s.heap.get? T=none->m (.ref a) (some C) H'->Q () s''):
  wpAny 05 X.A (noteFrame e X.env) (λ_ s2=>wpAny 05 X.A (setFlight e none) Q E s2) E s':=by
 obtain⟨a,C,M,H',rfl,os,F,un,hok,n,p,J,r,HT,q⟩:=B;obtain⟨u,g,d,t,i⟩:=s';obtain rfl:i=s.os:=os;have j:=I.call (h':=u) (g':=g) (d':=d) (t':=t) (ch:=[]) un hok F (λb z=>absurd z 02);refine note2 (by rw[I.ok.frames,c]) (c ▸ j.stack) l n λh' T K k f=>?_
 have L:=qef c hx l I j n p J r HT k;have v:∀x:Heap,(∀b o,x.get? b=some o->∃o',u.get? b=some o')->x.get? T=none:=λx up=>by
  cases y:x.get? T with
  |none=>rfl
  |some o =>
   obtain⟨o',z⟩:=up _ _ y;exact absurd (wF z) (xS.mpr K)
 exact h a C T H' _ rfl L f r (gone j.hok (v _ λb o y=>⟨o,y⟩)) p (v _ λb o y=>un.there b o y 02) q
end
end EX
namespace EX
section
variable{X:Cx}{pins:List (Addr×Obj)}{σ:St}{H:Hp}{s:Shared}
theorem goes{i:Nat}(I:000)(P:X.N.Nodup)(hi:X.N[i]?=some n)(S:X.env.kindOf n=some .local)(h:∀s',Inv X pins (σ.set i none) H s'->Heap.SameBut X.env.locals s.heap s'.heap->Q () s'):wpAny M A (do bindName X.env n .none;unbindBehindTheSuite X.env n pos) Q E s:=by
 obtain⟨m,hn,U⟩:=id I.loc;have u:(X.env.scope.kind == .class || (X.env.scope.kind == .module&&X.env.locals != X.env.globals))=false:=by rw[I.ok.kind];rfl
 have x:i<σ.length:=by rw[I.len];exact(wP.mp hi).1
 have cne:=I.cne;have f:∀{a:Addr} {h':Heap},(∃o,s.heap.get? a=some o/\H a=none)->Heap.SameBut a s.heap h'->HOk X.prog X.w H h':=λ{a h'} ha r b ob e=>by
  obtain⟨_,_,l⟩:=ha;refine(I.hok b ob e).stay (λc O B q=>(r.2 c ?_).trans q) (λ_ q=>q) λ_ _ q=>q
  rintro rfl;rcases B with rfl|B
  .rw [l]at e;cases e
  .rw [l]at B;cases B
 refine wpAny_nameGoes_keeps S hn u λh' v F r=>?_
 obtain⟨W,_,_,J,_⟩:=id hn;refine h _ ⟨I.ok,I.os,I.bare,⟨λb o e n K hx=>?_,λb o e n K hx=>?_,I.base.free,λb o e hx=>?_,I.base.tups,I.base.frzs,I.base.tbls⟩,⟨_,F,λj y Y e1 C Z=>?_⟩,λy c e=>?_,I.free,I.freeC,λp hp=>?_,f ⟨W,J,I.free⟩ r,by simpa using I.len⟩ r
 .exact (r.2 b (wT (wX (wF e) I.ok.above))).trans (I.base.keep b o e n K hx)
 .obtain ⟨sl,e1⟩:=I.base.slot b o e n K hx
  exact⟨sl,(r.2 b (wT (wX (wF e) I.ok.above))).trans e1⟩
 .obtain ⟨o',e1⟩:=I.base.there b o e hx
  exact⟨o',(r.2 b (wT (wX (wF e) I.ok.above))).trans e1⟩
 .by_cases L:j=i
  .subst L
   rw[wd x]at C;cases C
  .rw [uM (Ne.symm L)]at C
   obtain⟨u',r',q⟩:=U j y Y e1 C Z;refine⟨u',r',?_⟩;rcases q with ⟨k,e⟩|⟨k,c,e,z⟩
   .refine .inl ⟨k,?_⟩
    have:y≠n:=λe=>L (jR P e1 (e ▸ hi))
    simp[this,e]
   .exact .inr ⟨k,c,e,z.sameBut r (cne y c e)⟩
 .obtain ⟨O,z⟩:=I.cell y c e
  exact⟨O,z.sameBut r (cne y c e)⟩
 .obtain ⟨e,n,ne,nf,d⟩:=I.pin p hp
  exact⟨(r.2 p.1 ne).trans e,n,ne,nf,d⟩
end
end EX
namespace EX
def XP(X:Cx)(pins:001)(E:St->XK)(e:Value)(s':Shared):Prop:=∃a H s,Inv X pins a H s/\CXR X.prog X.w X.stack H s (E a) e s'
noncomputable abbrev TX:=Ends->(St->XK)->St->Hp->Prop
noncomputable def PX(X:Cx)(st:Stmt)(t:TX):Prop :=
 ∀(pins:001) (s:Shared) (a:St) (H:Hp) (D:Ends) (E:St->XK),Inv X pins a H s->t D E a H->wpAny 05 X.A (exec st X.env) (SP X pins D) (XP X pins E) s
noncomputable def PXs(X:Cx)(st:List Stmt)(t:TX):Prop :=
 ∀(pins:001) (s:Shared) (a:St) (H:Hp) (D:Ends) (E:St->XK),Inv X pins a H s->t D E a H->wpAny 05 X.A (execs st X.env) (SP X pins D) (XP X pins E) s
section
variable{X:Cx}{k:Nat}{f:Addr}{fd:FuncData}{ps:List Str}{sp:Sp}{dvs:List V}{ds:List Value}{x:Str}{p pos pos':Pos}{e:Expr}{es:List Expr}{t:TA}
theorem qmT(F:FnOk X.prog X.w X.K X.mg X.base (CXR X.prog X.w) k f fd ps sp)(d:Room k X.A)(i:Binds X.K fd ps ds)(hd:Vals dvs ds)(I:Inv X pins b H s)(r:Vals vs us)(h:sp (vs++dvs) H Q E):wpAny 05 X.A (call (.ref f) us) (EP X pins b Q) (λe s'=>CXR X.prog X.w X.stack H s E e s') s:=by
 have c:Vals (vs++dvs) (us++ds):=r.append hd;have j:(us++ds).length=ps.length:=by rw[<-c.length];exact F.len _ _ _ _ h
 refine wpAny_call (xZ (F.run X.A X.stack s H ⟨us,[]⟩ (us++ds) (vs++dvs) Q E d I.env0 (i s us I.kIn j) c h) λr s' a=>?_);cases r with
 |error e=>exact a
 |ok l =>
  cases l with
  |ret u=>exact I.after a
  |next=>exact False.elim a
  |brk=>exact False.elim a
  |cont=>exact False.elim a
noncomputable def tCallX(sp:Sp)(dvs:List V)(t:TA):TX:=λD E a H=>t a H λvs b=>sp (vs++dvs) b (λ_ H2=>D.nx a H2) (E a)
theorem qi9(F:FnOk X.prog X.w X.K X.mg X.base (CXR X.prog X.w) k f fd ps sp)(j:Room k X.A)(l:Gl X x)(hm:X.mg x=some (.ref f))(m:PySem.W.keepIn X.K (.ref f)=true)(n:Binds X.K fd ps ds)(hd:Vals dvs ds)(ha:PA X.nox (e::es) t)(c:dB x:=by decide)(o:sE X e es:=by rfl)(d:bT X es pos:=by rfl)(u:swapsWith (.Call (.Name x p) (e::es) [] pos) none pos'.line X.env=pure false:=by rfl):
  PX X (.Expr (.Call (.Name x p) (e::es) [] pos) pos') (tCallX sp dvs t):=by
 intro pins s a H D E I h;refine wpAny_Expr_any (Q:=SP X pins D) ?_ I.quiet u;refine wv (Q:=EP X pins a (λ_ H2=>D.nx a H2)) ?_ (λv s1 ⟨x,i,b,y,q1⟩=>⟨a,i,b,q1⟩) (λ_ _ z=>z);refine ur (yY I l hm ?_ c);refine PySem.W.callWith_K (h₀:=X.base) I.ok.mod.kin m (wv (ha pos pins s a H _ (I.wish _) h) (λus s1 ⟨vs,i,b,r,q⟩=>⟨b.unwish.kIn,?_⟩) λ_ _ z=>False.elim z) o d;exact wv (qmT F j n hd b.unwish r q) (λ_ _ z=>z) λe s' z=>⟨a,i,s1,b.unwish,z⟩
theorem qja{st:Stmt}{t:TX}(h:PX X st t):PXs X [st] t:=by
 intro pins s a H D E I b;refine wpAny_execs_cons (wv (h pins s a H D E I b) (λf s' q=>?_) λ_ _ z=>z);cases f with
 |next=>exact xU q
 |brk=>exact q
 |cont=>exact q
 |ret u=>exact q
end
end EX
namespace EX
section
variable{X:Cx}{pins:List (Addr×Obj)}{σ:St}{H H0:Hp}{s s0:Shared}
theorem track(i:Inv X pins σ H0 s0)(hx:X.ex=[])(I:000){a C T:Addr}(F:Fl s.heap a (.ref C) T)(j:s0.heap.get? a=none)(J:H a=none):Inv X pins σ (upd H a (.ext (Errs a C))) s:=by
 obtain⟨l,vs,P,ts,f,d,hd,_⟩:=F;have nd:∀b o,s.heap.get? b=some o->(∀vs,o.data≠.fields vs)->b≠a:=λb o q n z=>by subst z;rw[f]at q;cases q;exact n _ hd
 have up:∀b,b≠a->upd H a (.ext (Errs a C)) b=H b:=λb n=>by simp[upd,n]
 have K:∀b o,X.s₀.heap.get? b=some o->b≠a:=λb o q z=>by
  subst z;obtain⟨o',y⟩:=i.base.there b o q (by rw[hx];simp);rw[j]at y;cases y
 have B:=I.base;have old:∀b o,H b=some o->upd H a (.ext (Errs a C)) b=some o:=λb o q=>by rw[up b λz=>by subst z;rw[J]at q;cases q];exact q
 refine⟨I.ok,I.os,I.bare,⟨B.keep,B.slot,?_,B.there,?_,?_,?_⟩,I.loc,I.cell,?_,?_,?_,?_,I.len⟩
 .exact λb o q n nx=>by rw[up b (K b o q)];exact B.free b o q n nx
 .exact λb xs q=>old _ _ (B.tups b xs q)
 .exact λb o u q=>old _ _ (B.frzs b o u q)
 .exact λb ps q=>let ⟨m,z⟩:=B.tbls b ps q;⟨m,old _ _ z⟩
 .obtain ⟨m,⟨o,es,ep,q,h,_⟩,_⟩:=I.loc
  rw[up _ (nd _ o q λvs z=>by rw[h]at z;cases z)];exact I.free
 .intro x c q
  obtain⟨v,o,z,e⟩:=I.cell x c q;rw[up _ (nd _ o z λvs y=>by rw[e]at y;cases y)];exact I.freeC x c q
 .intro p w
  obtain⟨A,_⟩:=i.pin p w;obtain⟨q,L,M,N,O⟩:=I.pin p w;exact⟨q,by rw[up _ λz=>by rw[z,j]at A;cases A];exact L,M,N,O⟩
 .intro b o q
  by_cases E:b=a
  .subst E
   have:o=.ext (Errs b C):=by simp[upd]at q;exact q.symm
   subst this;exact⟨⟨l,vs,f,d,hd⟩,⟨l,f⟩,λQ S ⟨o,vs,e,r⟩ k=>⟨o,vs,k _ e,r⟩⟩
  .rw [up b E]at q
   exact(I.hok b o q).stay (λ_ _ _ z=>z) (λc z=>old _ _ z) λc xs z=>old _ _ z
theorem landed{M:Model}{A:Around}{E:Value->Shared->Prop}{Q:Unit->Shared->Prop}(u:X.stack=X.env::X.outer)(hx:X.ex=[])(v:X.env.frame=some X.env.locals)(w:Inv X pins σ H0 s0)(I:000){a C T:Addr}(m:Fl s.heap a (.ref C) T)(x:s0.heap.get? a=none)(y:s0.heap.get? T=none)(B:H a=none)(HT:H T=none)(h:∀s',Inv X pins σ H s'->Fl s'.heap a (.ref C) T->Q () s'):wpAny M A (setFlight (.ref a) none) Q E s:=by
 obtain⟨F,vs,N,ts,n,f,hd,p,i,r,d,J⟩:=id m;unfold setFlight;refine wA (vF n hd p ?_);rw[wM (show(Value.ref T != Value.none)=true from by simp)];have j:=(vR.mp J).1;refine vK r d j ?_;have c:∀b,b≠T->(s.heap.update T (Obj.mapFields (·.setIfInBounds 3 Value.none))).get? b=s.heap.get? b:=λb K=>wJ _ _ (Ne.symm K)
 have l:=w9 (Obj.mapFields (·.setIfInBounds 3 Value.none)) r (vV (wp d _));refine h _ (qef u hx v w I m x y B HT ⟨?_,λb o L e q=>⟨o.slots,?_⟩,λb o L e _ q=>?_⟩) ?_
 .exact x8 (vS ..).symm
 .exact (c b λz=>e (by rw[z])).trans q
 .exact (c b λz=>e (by rw[z])).trans q
 .exact ⟨F,vs,_,_,(c a (Ne.symm i)).trans n,f,hd,p,i,l,wp d _,by simp[j]⟩
end
end EX
namespace EX
noncomputable abbrev inS(X:Cx)(A':Around)(xe':Value->Shared->Prop):Cx:={X with A:=A',calm:=false,xe:=xe' }
section
variable{X:Cx}{pins:List (Addr×Obj)}{σ:St}{H:Hp}{s:Shared}{A':Around}{xe':Value->Shared->Prop}
theorem okS(ok:X.Ok)(a:A'.frames=X.A.frames):(inS X A' xe').Ok :=
 ⟨ok.mod,ok.kind,ok.glob,ok.blt,ok.above,ok.inj,ok.has,ok.cab,nofun,a.trans ok.frames,ok.stk,ok.exf,ok.bs,ok.bsz,ok.noex,ok.exfs,ok.funs,ok.frf,ok.tab⟩
theorem toS(I:000)(a:A'.frames=X.A.frames):Inv (inS X A' xe') pins σ H s:=⟨okS I.ok a,I.os,I.bare,I.base,I.loc,I.cell,I.free,I.freeC,I.pin,I.hok,I.len⟩
theorem ofS(ok:X.Ok)(I:Inv (inS X A' xe') pins σ H s):Inv X pins σ H s:=⟨ok,I.os,I.bare,I.base,I.loc,I.cell,I.free,I.freeC,I.pin,I.hok,I.len⟩
end
section
variable{X:Cx}{C':Addr}{bm':List Value}{body suite:List Stmt}{b₀:Stmt}{n x:Str}{p hp pos:Pos}{i:Nat}{tb:TX}{ts:TS}
noncomputable def tTry(base:Heap)(C':Addr)(i:Nat)(tb:TX)(ts:TS):TS:=λD f H=>tb D (λb e c H'=>∃a C bm,e=.ref a/\c=some C/\IsExc base C bm/\(Value.ref C::bm).contains (.ref C')=true /\
 ts {nx:=λd H2=>D.nx (d.set i none) H2,rt:=λ_ _=>False} (b.set i (some (.ref a))) (upd H' a (.ext (Errs a C)))) f H
theorem qld(E:X.stack=X.env::X.outer)(hx:X.ex=[])(F:X.env.frame=some X.env.locals)(hc:X.calm=true)(J:X.N.Nodup)(hi:X.N[i]?=some n)(S:X.env.kindOf n=some .local)(K:X.env.scope.names.lookup n=some .local)(U:Gl X x)(hm:X.mg x=some (.ref C'))(d:IsExc X.base C' bm')(W:PXs X body tb)(j:∀L l,L.frames=X.A.frames->PSs (inS X L l) (b₀::suite) ts)(m:dB x:=by decide):
  PS X (.Try body [.ExceptHandler (some (.Name x p)) (some n) (b₀::suite) hp] [] [] pos) (tTry X.base C' i tb ts):=by
 intro pins s Y H D I h;refine wpAny_Try_except (wv (W pins s Y H D _ I h) (λf s1 q=>?_) λe s' q=>?_)
 .cases f with
  |next=>exact xU q
  |brk=>exact q
  |cont=>exact q
  |ret u=>exact q
 .obtain ⟨Z,H1,s1,o,q⟩:=q
  refine caught E hx F o q λa C T H2 s2 he c M O HT P nT w=>?_
  subst he;obtain⟨a',C1,bm,e1,e2,hC,r,ht⟩:=w;cases e1;cases e2;have y:(X.A.mark (some (.ref a))).frames=X.A.frames:=rfl;refine qbw (C:=C) (C':=C') (bm:=bm) (bm':=bm') (b:=true) r ?_;refine yY (X:=inS X (X.A.mark (some (.ref a))) X.xe) (toS c y) U hm ⟨rfl,hC.keeps c.bk,d.keeps c.bk,?_,?_⟩ m
  .obtain ⟨oe,vs,oT,tz,z1,z2,_⟩:=M
   exact⟨oe,z1,z2⟩
  .rw [wM rfl]
   refine landed E hx F o c M P nT O HT λs3 I3 B=>?_
   have I4:=track o hx I3 B P O;refine yo (v:=.ref a) I4 J hi (.inl K) rfl (λs5 Q=>?_) (.inr K);refine wv (j (X.A.mark (some (.ref a))) _ y pins s5 _ _ _ (toS Q y) ht) (λf s6 z=>?_) λ_ _ z=>z
   cases f with
   |next =>
    obtain⟨a0,H6,I6,q6⟩:=z;exact goes (ofS Q.ok I6) J hi S λs7 I7 _=>⟨_,_,I7,q6⟩
   |brk=>obtain⟨_,_,_,q⟩:=z;exact q.elim
   |cont=>obtain⟨_,_,_,q⟩:=z;exact q.elim
   |ret u=>obtain⟨_,_,_,_,_,q⟩:=z;exact q.elim
end
end EX
namespace EX
noncomputable def excRow(K:07)(C:Addr):Option (List Value):=match K.lookup C with
 |some ⟨.type "type",_,.cls cd,sl⟩=>(match cd.mro,sl.toList with
  | .ref C'::bm,[_,_,_,_,some (.builtin n),_]=>if C' == C&&!cd.hasDel&&bm.contains (.type "BaseException")then some bm else none
  |_,_=>none)
 |_=>none
def qah{K:07}(X:K.In h)(q:excRow K C=some bm):IsExc h C bm:=by
 unfold excRow at q;split at q
 .rename_i dd e sl f
  split at q
  .rename_i C' bm' k0 k1 k2 k3 n k5 hm c
   split at q
   .rename_i d
    cases q;simp only[wK,vd,uE]at d;obtain⟨⟨rfl,a⟩,i⟩:=d;obtain⟨nm,bs,j,ns,o,hd,sn,sub,ab,col,m⟩:=e;dsimp only at hm a;subst hm a;have b:sl=#[k0,k1,k2,k3,some (.builtin n),k5]:=by
     obtain⟨l⟩:=sl;simp only at c;rw[c]
    subst b;exact⟨i,_,_,_,_,_,_,_,_,_,_,_,_,_,_,_,_,X _ _ f⟩
   .cases q
  .cases q
 .cases q
end EX
namespace EX
section
variable{X:Cx}{st:Stmt}{rest a b:List Stmt}{c:Expr}{tc:TT}{t u:TX}{v:TS}{pos:Pos}
noncomputable def tIfX(c:TT)(t u:TX):TX:=λD E d H=>c d H λb e=>if b=true then t D E d e else u D E d e
theorem qmU(j:PT X.nox c tc)(ha:PXs X a t)(l:PXs X b u):PX X (.If c a b pos) (tIfX tc t u):=by
 intro pins s e H D E I h;refine wpAny_If (wv (j pins s e H _ (I.wish _) h) (λd s1 ⟨f,i,q1⟩=>?_) λ_ _ z=>False.elim z);cases d with
 |true=>exact ha pins s1 e f D E i.unwish q1
 |false=>exact l pins s1 e f D E i.unwish q1
end
end EX
namespace EX
open PySem.W PySem.Calls PySem.Builtin PySem.Builtin.ObjectAttr PySem.Builtin.Getset_descriptor
section
variable{prog:Program}{w:World}{A:Around}{E:Value->Shared->Prop}{s:Shared}{K:Frag}{a C:Addr}
theorem z9(I:Errs a C h):Looks M h (typeOf (.ref a)) (.ref C):=by
 obtain⟨o,vs,b,c,_⟩:=I;exact c ▸ (Looks.ld b).andThen .now
theorem qhf(X:K.In s.heap)(I:Errs a C s.heap)(hm:mroIn K C (.type "object")=some true)(h:R (.ok (.ret (.ref C))) s):codeAny 08 A (.call (.builtin "getset_descriptor.__get__") ⟨[.builtin "object.__class__",.ref a,b],[]⟩) R s:=by
 obtain⟨c,g,d,t,os⟩:=s;have e:=z9 (M:=model prog w) I;have f:=looks_mroIn (M:=model prog w) X hm;refine gI KF.slot_gs.plain KF.entry_gs (KF.slot_gs.check _ _ _ _ _ _ _ _ KF.type_class (KF.args_gs _ _ _) ?_);unfold Builtin.«getset_descriptor.__get__» descrGet;rw[dga_obj];refine wA (wC ?_);unfold descrGetter descrCheckInstance descrNameAndClass isInstance;simp only[KF.owner_class]
 repeat lk
 refine⟨Code.quiet_builtin _ (by decide +kernel),wu KF.entry_class ?_⟩;unfold Builtin.«object.__class__» shownTypeOf
 repeat lk
 exact h
structure ErrK (K:Frag) (C:Addr):Prop where
 ga:findIn K (.ref C) "__getattribute__"=some (some (.builtin "BaseException.__getattribute__"))
 no:findIn K (.ref C) "__getattr__"=some none
 cls:findIn K (.ref C) "__class__"=some (some (.builtin "object.__class__"))
 get:specialIn K (.builtin "object.__class__") "__get__"=some (some (.builtin "getset_descriptor.__get__"))
 tk:takesIn K (.builtin "object.__class__")=some true
 obj:mroIn K C (.type "object")=some true
 be:mroIn K C (.type "BaseException")=some true
 ic:(clsIn K C).isSome=true
theorem qfp(X:K.In h)(Z:ErrK K C):Looks M h (find (.ref a) (.ref C) "__class__") (.bind (.builtin "getset_descriptor.__get__") (.builtin "object.__class__")):=by
 refine(looks_findIn X Z.cls).andThen ((show Looks M h (getOf (some (.builtin "object.__class__"))) _ from looks_specialIn X Z.get).andThen ?_);exact(show Looks M h (dataDescriptor? (some (.builtin "object.__class__")) (some (.builtin "getset_descriptor.__get__"))) (some (.builtin "getset_descriptor.__get__",.builtin "object.__class__"))from(looks_takesIn X Z.tk).andThen .now).andThen (Looks.tag .now)
theorem qdm{tk:Tok}(X:K.In s.heap)(I:Errs a C s.heap)(Z:ErrK K C)(b:Q (.done (.ret (.ref C))) s):
  wpAny 08 A (Builtin.«object.__getattribute__» ⟨[.ref a,.str "__class__" tk],[]⟩) Q E s:=by
 have c:=z9 (M:=model prog w) I;have d:=qfp (a:=a) (M:=model prog w) X Z;obtain⟨e,g,f,t,os⟩:=s;unfold Builtin.«object.__getattribute__»;refine wA (wC (wA (wC (wA (c.at (wA (d.at ?_)))))));show wpAny _ _ (holding [.builtin "object.__class__"] (call (.builtin "getset_descriptor.__get__") [.builtin "object.__class__",.ref a,.ref C]) >>= ret) _ _ _;exact wA (wj (wpAny_call (qhf X I Z.obj (wC b))))
theorem qdn(X:K.In s.heap)(I:Errs a C s.heap)(Z:ErrK K C)(f:Q () s):wpAny M A (checkBuiltinCall "BaseException.__getattribute__" ⟨[.ref a,b],[]⟩) Q E s:=by
 have d:builtinKind "BaseException.__getattribute__"=some .slot:=by decide +kernel
 have c:splitId "BaseException.__getattribute__"=some ("BaseException","__getattribute__"):=by decide +kernel
 have ha:=F.args_bexc_ga (.ref a) b;have e:Looks M s.heap (isInstance (.ref a) (.type "BaseException")) true:=(z9 I).andThen (looks_mroIn X Z.be);obtain⟨h,g,i,t,os⟩:=s;simp only[checkBuiltinCall,d,c];refine wA (e.at ?_)
 repeat (any_goals (first|assumption|wp_step))
theorem qfq{tk:Tok}(X:K.In s.heap)(I:Errs a C s.heap)(Z:ErrK K C)(b:R (.ok (.ret (.ref C))) s):
  codeAny 08 A (.call (.builtin "BaseException.__getattribute__") ⟨[.ref a,.str "__class__" tk],[]⟩) R s :=
 gI PySem.F.attr_ValueError.ga.plain F.entry_bexc_ga (qdn X I Z (qdm X I Z b))
theorem qdo(X:K.In s.heap)(I:Errs a C s.heap)(Z:ErrK K C)(b:Q (some (.ref C)) {s with toks:=s.toks+1}):wpAny 08 A (getAttr? (.ref a) "__class__") Q E s:=by
 obtain⟨c,g,d,t,os⟩:=s;have e:=z9 (M:=model prog w) I;have f:=looks_findIn (M:=model prog w) X Z.ga;have h:=looks_findIn (M:=model prog w) X Z.no;have i:=PySem.F.attr_ValueError.ga.bind (.ref a);unfold getAttr? getAttrBy? getAttrBy;refine wA (wpAny_mkText (wA (vX (wj (wA (e.at (wA (f.at ?_))))))));have hx:(onTheHeap (Value.ref C)&&Value.builtin "BaseException.__getattribute__" == Value.builtin "object.__getattribute__")=false:=by
  have:(Value.builtin "BaseException.__getattribute__" == Value.builtin "object.__getattribute__")=false:=by decide +kernel
  rw[this];rfl
 show wpAny _ _ (if(onTheHeap (Value.ref C)&&Value.builtin "BaseException.__getattribute__" == Value.builtin "object.__getattribute__")=true then _ else _) _ _ _;rw[hx];refine wA (show wpAny _ _ (typeLookup (.ref C) "__getattr__") _ _ _ from h.at ?_);refine wA (vX (wj ?_));show wpAny _ _ (boundAndCalled _ _ _) _ _ _;unfold boundAndCalled;rw[i];refine wA (wC (wpAny_call (qfq (s:=⟨c,g,d,t+1,os⟩) X I Z ?_)));exact handed_on rfl (wC b)
theorem qcw(Z:ErrK K C):KitX K (.ref a) (.ref C) (λh=>Errs a C h) where
 ty:=λM h _ I=>z9 I
 it:=λ_ _ X _=>by
  have b:=Z.ic;unfold clsIn at b;split at b
  .rename_i j d' c d f
   intro o Q' p s' k q;unfold isType loadHead;exact wA (wpAny_loadPart (k _ _ (X _ _ f)) (wC q))
  .cases b
 ne:=λh l dd m n sl X i=>by
  have b:=Z.ic;refine Bool.eq_false_iff.mpr λq=>?_
  have e:C=l:=Value.ref.inj (vd.mp q);subst e;unfold clsIn at b;split at b
  .rename_i j d' c d f
   have z:=(X _ _ f).symm.trans i;cases z
  .cases b
 ca:=λX I k=>qdo X I Z k
end
end EX
end R
namespace R
open PySem PySem.Spec L2 SeqAt
open PyProof.Rows hiding St
namespace EX
def PsX{e f:Type}(R:List Addr->Hp->e->f->Prop)(r:Res e)(ι:List Addr)(H:Hp)(Q:f->Hp->Prop)(E:XK):Prop:=match r with
 | .ok a d=>∀b c H',Stp ι H c H'->Sto c H' d->R c H' a b->Q b H'
 | .err (.exc C) d=>∀a c H',Stp ι H c H'->Sto c H' d->H' a=none->E (.ref a) (some C) H'
 |_=>False
def PsX.from(h:PsX R r ι H Q E)(s:Stp ι H d H'):PsX R r d H' Q E:=by
 cases r with
 |ok a S=>exact λb c H2 t st q=>h b c H2 (s.trans t) st q
 |err x S =>
  cases x with
  |exc C=>exact λa c H2 t st q=>h a c H2 (s.trans t) st q
  |_=>exact h
 |no=>exact h
def PsFX(r:Res _root_.R.Fl)(ι:List Addr)(H:Hp)(D:Ends)(E:XK):Prop:=match r with
 | .ok f c=>PsF (.ok f c) ι H D
 | .err (.exc C) c=>∀a b H',Stp ι H b H'->Sto b H' c->H' a=none->E (.ref a) (some C) H'
 |_=>False
def PsFX.from{r:Res _root_.R.Fl}{ι b:List Addr}{H H':Hp}{D:Ends}{E:XK}(h:PsFX r ι H D E)(s:Stp ι H b H'):PsFX r b H' D E:=by
 cases r with
 |ok f S=>exact PsF.from (show PsF (.ok f S) ι H D from h) s
 |err x S =>
  cases x with
  |exc C=>exact λa c H2 t st q=>h a c H2 (s.trans t) st q
  |_=>exact h
 |no=>exact h
def PsFX.bind{d i:Type}{R:List Addr->Hp->d->i->Prop}{r:Res d}{f:d->Sr->Res _root_.R.Fl}{ι:List Addr}{H:Hp}{D:Ends}{K:i->Hp->Prop}{E:XK}(h:PsFX (r.bind f) ι H D E)(k:∀a j c H' b,Stp ι H c H'->Sto c H' j->R c H' a b->PsFX (f a j) c H' D E->K b H'):PsX R r ι H K E:=by
 cases r with
 |ok a S=>exact λb e H2 t st q=>k a S e H2 b t st q (PsFX.from h t)
 |err x S =>
  cases x with
  |exc C=>exact h
  |_=>exact h
 |no=>exact h
def PsFX.ok{r:Res _root_.R.Fl}{ι:List Addr}{H:Hp}{D:Ends}{E:XK}(h:PsFX (noE r) ι H D E):PsF r ι H D:=by
 cases r with
 |ok f S=>exact h
 |err x S=>exact h.elim
 |no=>exact h.elim
noncomputable def TGX{a b:Type}(R:List Addr->Hp->a->b->Prop)(m:En->Sr->Res a)(E:XK):St->Hp->(b->Hp->Prop)->Prop:=λc H Q=>∃ι S ρ,EnR ι H ρ c/\Sto ι H S/\PsX R (m ρ S) ι H Q E
noncomputable def TSX(m:En->Sr->Res _root_.R.Fl)(E:XK):TS:=λD a H=>∃ι S ρ,EnR ι H ρ a/\Sto ι H S/\PsFX (m ρ S) ι H D E
noncomputable def SpX(np:Nat)(g:List D->Sr->Res D):Sp:=λvs H Q E=>vs.length=np/\∃ι S ds,Sto ι H S/\Dens ι H ds vs/\PsX Den (g ds S) ι H Q E
noncomputable def FnAtX(P:Program)(w:World)(K:07)(mg:Str->Option Value)(base:Heap)(k:Nat)(F:Fs)(i:Nat)(x:Str)(ps:List Str):Prop :=
 ∃f fd,mg x=some (.ref f)/\PySem.W.keepIn K (.ref f)=true/\Binds K fd ps []/\FnOk P w K mg base (CXR P w) k f fd ps (SpX ps.length (F i))
section
variable{X:Cx}{F:Fs}{N:Nat}{pos:Pos}{E:XK}
theorem PAnox(h:PA X.nox es t):PA X es t:=λpos pins s a H Q I b=>wv (h pos pins s a H Q (I.wish _) b) (λus s1 ⟨vs,c,d,r,q⟩=>⟨vs,c,d.unwish,r,q⟩) λ_ _ z=>False.elim z
theorem PSnox{st:Stmt}{t:TS}(h:PS X.nox st t):PS X st t:=λpins s a H D I b=>wv (h pins s a H D (I.wish _) b) (λ_ _ q=>q.unwish) λ_ _ z=>False.elim z
theorem yj:PSs X [] (TSX (exs F N .nil) E):=PSsimp qdA λD a H b=>by
 obtain⟨ι,S,ρ,c,st,p⟩:=b;exact p ι H (Stp.refl _ _) st a c
theorem qH{st:Stmt}{rest:List Stmt}{c:CS}{cs:CSs}(j:PS X st (TSX (ex F N c) E))(l:PSs X rest (TSX (exs F N cs) E)):PSs X (st::rest) (TSX (exs F N (.cons c cs)) E):=PSsimp (qbQ j l) λD q H m=>by
 obtain⟨ι,S,ρ,n,st,p⟩:=m;refine⟨ι,S,ρ,n,st,?_⟩;unfold exs at p;cases z:ex F N c ρ S with
 |no=>rw[z]at p;exact p
 |err x S1 =>
  rw[z]at p;cases x with
  |exc C=>exact p
  |_=>exact p
 |ok f S1 =>
  rw[z]at p;intro b i s1 e;cases f with
  |nx ρ1=>exact λh a=>⟨b,S1,ρ1,a,e,PsFX.from p s1⟩
  |bk ρ1=>exact λh a=>p b i s1 e h a
  |ct ρ1=>exact λh a=>p b i s1 e h a
  |rt d=>exact λv o=>p b i s1 e v o
theorem yA{st:Stmt}{c:CS}(h:QS X.nox st (TSm (ex F N c))):PS X st (TSX (ex F N (.cal c)) E):=by
 delta QS at h;refine PSnox (PSimp h λD d H a=>?_);obtain⟨ι,S,ρ,b,st,p⟩:=a;unfold ex at p;exact⟨ι,S,ρ,b,st,PsFX.ok p⟩
theorem x_expr{e:Expr}{c:CE}(i:PE X e (TGX Den (ev F c) E))(j:swapsWith e none pos.line X.env=pure false:=by rfl):PS X (.Expr e pos) (TSX (ex F N (.expr c)) E):=PSimp (qdB i j) λD l H m=>by
 obtain⟨ι,S,ρ,h,st,p⟩:=m;unfold ex at p;exact⟨ι,S,ρ,h,st,PsFX.bind p λa S1 d n b s1 f q o=>o d n (Stp.refl _ _) f l (h.mono s1)⟩
theorem x_set(i:Nat){x:Str}{e:Expr}{c:CE}{d:Pos}(l:PE X e (TGX Den (ev F c) E))(m:nodupB X.N=true:=by rfl)(hi:X.N[i]?=some x:=by rfl)(hx:Loc X.env.scope x:=by first|exact Or.inl rfl|exact Or.inr rfl)(n:swapsWith e (some (.Name x d)) pos.line X.env=pure false:=by rfl)(o:X.fn x=true\/X.env.scope.names.lookup x=some .local:=by first|exact .inl rfl|exact .inr rfl):
  PS X (.Assign [.Name x d] e pos) (TSX (ex F N (.set (.v i) c)) E):=PSimp (qfH (q9 m) hi hx l n o) λD v H q=>by
 obtain⟨ι,S,ρ,j,st,p⟩:=q;unfold ex at p;exact⟨ι,S,ρ,j,st,PsFX.bind p λa S1 f r b s1 h s u=>u f r (Stp.refl _ _) h _ ((j.mono s1).set s)⟩
theorem x_if(m:PT X c (TGX EqR (tst F h) E))(ha:PSs X a (TSX (exs F N i) E))(n:PSs X b (TSX (exs F N j) E)):PS X (.If c a b pos) (TSX (ex F N (.ifs h i j)) E):=PSimp (qjz m ha n) λD r H o=>by
 obtain⟨ι,S,ρ,f,st,p⟩:=o;unfold ex at p;refine⟨ι,S,ρ,f,st,PsFX.bind p λa S1 d s b s1 e q l=>?_⟩;cases (show a=b from q);cases a with
 |true=>rw[wM rfl];exact⟨d,S1,ρ,f.mono s1,e,l⟩
 |false=>rw[wN 01];exact⟨d,S1,ρ,f.mono s1,e,l⟩
theorem qhg(h:QT X.nox c (TB (tst F a))):PT X c (TGX EqR (tst F (.cal a)) E):=by
 delta QT at h;refine(PTimp h λe H Q b=>?_).nox;obtain⟨ι,S,ρ,d,st,p⟩:=b;unfold tst at p;refine⟨ι,S,ρ,d,st,?_⟩;cases z:tst F a ρ S with
 |ok f S1=>rw[z]at p;exact p
 |err x S1=>rw[z]at p;exact p.elim
 |no=>rw[z]at p;exact p.elim
theorem qai(D:IsDef X E){k i:Nat}(h:FnAtX X.prog X.w X.K X.mg X.base k F i x ps)(n:Room k X.A)(ha:QA X.nox (e::es) (TL (evs F cs)))(a:∀ρ S,noE (evs F cs ρ S)=evs F cs ρ S)(o:Gl X x:=by rfl)(q:cs.len=ps.length:=by rfl)(b:dB x:=by decide)(r:sE X e es:=by rfl)(c:bT X es pos:=by rfl):PE X (.Call (.Name x p) (e::es) [] pos) (TGX Den (ev F (.call i cs)) E):=by
 delta QA at ha;obtain⟨f,fd,hm,s,u,v⟩:=h;refine PEimp (qdD v n o hm s u (dvs:=[]) .nil (passR D λ_ _ _ z=>z) (PAnox ha) b r c) λC H Q y=>?_
 obtain⟨ι,S,ρ,B,st,p⟩:=y;refine⟨ι,S,ρ,B,st,?_⟩;unfold ev at p;cases z:evs F cs ρ S with
 |no=>rw[z]at p;exact p.elim
 |err x S1=>have:=a ρ S;rw[z]at this;cases this
 |ok l S1 =>
  rw[z]at p;intro xs d I s1 j m;refine⟨?_,d,S1,l,j,by simpa using m,PsX.from p s1⟩;rw[uP,<-m.length];exact(yJ z).trans q
theorem qeg(D:IsDef X E){p d:Pos}(O:OwnCls x C bm b X.mg X.base)(v:ExcBaseFacts s b h i)(j:bm.contains (.type s)=true)(w:ExcBaseFacts B f c bm)(ha:QA X.nox (e::es) (TL (evs F cs)))(m:∀ρ S,∃l,evs F cs ρ S=.ok l S)(y:cs.len<=1000)(z:X.calm=true:=by rfl)(A:Gl X x:=by rfl)(n:dB x:=by decide)(I:sE X e es:=by rfl)(o:(backTo d (starEach es X.env)).any (·.1)=false:=by rfl):
  PS X (.Raise (some (.Call (.Name x p) (e::es) [] d)) none pos) (TSX (ex F N (.raise C)) E):=by
 delta QA at ha;refine PSimp (qhe D z A O v j w (PAnox ha) n I o) λD P H J=>?_
 obtain⟨ι,S,ρ,K,st,p⟩:=J;unfold ex at p;obtain⟨l,u⟩:=m ρ S;refine⟨ι,S,ρ,K,st,?_⟩;rw[u];intro xs q L s1 r M;refine⟨?_,λa ha=>p a q L s1 r ha⟩;rw[<-M.length,yJ u,vM];lia
end
def qhh{c:CF}{ns ps:List Str}{vs:List V}(b:ps.length=c.np)(hn:ns.length=c.nn)(f:vs.length=ps.length)(a:Dens ι H ds vs):EnR ι H (ds.map some++List.replicate (c.nn-c.np) none) (start ns vs):=by
 have h:ds.length=c.np:=by rw[a.length,f,b]
 unfold L2.start;have e1:ns.length-vs.length=c.nn-c.np:=by rw[hn,f,b]
 rw[e1];refine⟨by simp[a.length],λi d e=>?_⟩;by_cases hi:i<ds.length
 .rw [wW (by simpa using hi),wU,wD hi]at e
  cases e;obtain⟨x,j,l⟩:=a.get (wD hi);refine⟨x,?_,l⟩;rw[wW (by rw[wH,<-a.length];exact hi),wU,j];rfl
 .rw [wk (by simpa using hi),vw]at e
  split at e <;> cases e
def qeh(st:Sto ι H S)(q:PsX Den (leave keeps S.length d S1) ι H Q E):∀a H',Stp ι H a H'->Sto a H' S1->∀v,Den a H' d v->Q v H':=by
 intro a H' s1 b v c;unfold leave at q;split at q
 .exact q v a H' s1 b c
 .split at q
  .exact q v a H' s1 b c
  .split at q
   .rename_i h
    have e:=s1.take_eq;have f:ι.length=S.length:=st.len;refine q v (a.take S.length) H' (by rw[<-f];exact s1.less) (b.less _) (Den.less d h c)
   .split at q
    .rename_i d' hd
     have f:ι.length=S.length:=st.len;exact q v (a.take S.length) H' (by rw[<-f];exact s1.less) (b.less _) (Den.frz b d hd c)
    .exact q.elim
def qhi{N:Nat}{c:CF}{ns ps:List Str}(j:ps.length=c.np)(hn:ns.length=c.nn)(n:c.np<=c.nn)(h:SpX ps.length (callC F N c) vs H Q E):TSX (exs F N c.body) E {nx:=λ_ H'=>Q .non H',rt:=Q} (start ns vs) H:=by
 obtain⟨l,ι,S,ds,st,m,p⟩:=h;have e:ds.length=c.np:=by rw[m.length,l,j]
 unfold callC at p;rw[wM e]at p;refine⟨ι,S,_,qhh j hn l m,st,?_⟩;cases z:exs F N c.body (ds.map some++List.replicate (c.nn-c.np) none) S with
 |ok f S1 =>
  rw[z]at p;cases f with
  |nx ρ1=>exact λa i s1 b o q=>qeh st p a i s1 b .non rfl
  |rt d=>exact λa i s1 b v r=>qeh st p a i s1 b v r
  |bk _=>exact p.elim
  |ct _=>exact p.elim
 |err x S1 =>
  rw[z]at p;cases x with
  |exc C=>exact p
  |_=>exact p
 |no=>rw[z]at p;exact p.elim
def qle{P:Program}{w:World}{K:07}{mg:Str->Option Value}{base:Heap}{k N i:Nat}{F G:Fs}{x:Str}{st:Stmt}{f c T':Addr}{fd:FuncData}{a:CF}{ns ps:List Str}(U:FunT K x st f fd c T')(S:FnScope ns ps (defScope st))(e:ps.length=a.np)(hn:ns.length=a.nn)(b:a.np<=a.nn)(j:G i=callC F N a)(body:∀(A:Around) (outer:List Env) (s:Shared) (H:Hp) (E:XK),Room k (A.deeper (envOfC x (defScope st) s.heap.objs.size f (.ref c)))->PSs (cxOf (CXR P w) P w K mg base ns x (defScope st) f (.ref c) A outer s H E) (defBody st) (TSX (exs F N a.body) E)):
  FnOk P w K mg base (CXR P w) (k+1) f fd ps (SpX ps.length (G i)):=by
 obtain⟨oc,od,kV,doc,pm,an,ct,osl,rfl,l,d⟩:=U.ex;refine qjA l d S (λvs H Q E h=>h.1) λA outer s H vs Q E m h=>⟨_,body A outer s H E m,?_⟩
 rw[j]at h;exact qhi e hn b h
def qlf{P:Program}{w:World}{K:07}{mg:Str->Option Value}{base:Heap}{i:Nat}{G:Fs}{f:Addr}{fd:FuncData}{ps:List Str}(a:G i=λ_ _=>.no){k:Nat}:
  FnOk P w K mg base (CXR P w) k f fd ps (SpX ps.length (G i)):=by
 refine⟨λvs H Q E h=>h.1,λA outer s H args us vs Q E _ _ _ _ h=>?_⟩;obtain⟨_,ι,S,ds,_,_,p⟩:=h;rw[a]at p;exact p.elim
def DefIn.fnX{P:Program}{w:World}{K:07}{mg:Str->Option Value}{base:Heap}{k i:Nat}{F:Fs}{x:Str}{st:Stmt}{ps:List Str}(u:DefIn K mg x st ps)(h:∀f fd c t,FunT K x st f fd c t->FnOk P w K mg base (CXR P w) k f fd ps (SpX ps.length (F i))):FnAtX P w K mg base k F i x ps:=by
 obtain⟨f,fd,c,t,hm,U,a⟩:=u;exact⟨f,fd,hm,U.kp,a,h f fd c t U⟩
end EX
namespace EX
noncomputable def TXm(m:En->Sr->Res _root_.R.Fl):TX:=λD E a H=>∃ι S ρ,EnR ι H ρ a/\Sto ι H S/\PsFX (m ρ S) ι H D (E a)
def EnR.un(e:EnR ι H ρ a)(i:Nat):EnR ι H (ρ.set i none) (a.set i none):=by
 refine⟨by simp[e.len],λj x q=>?_⟩;by_cases z:i=j
 .subst z
  by_cases b:i<ρ.length
  .rw [wd b]at q;cases q
  .rw [vW (by simpa using b)]at q;cases q
 .rw [uM z]at q ⊢
  exact e.get j x q
section
variable{X:Cx}{F:Fs}{N:Nat}{pos:Pos}
theorem qdp{k i:Nat}{x:Str}{ps:List Str}{e:Expr}{es:List Expr}{cs:CEs}{p c:Pos}(h:FnAtX X.prog X.w X.K X.mg X.base k F i x ps)(B:Room k X.A)(ha:QA X.nox (e::es) (TL (evs F cs)))(d:∀ρ S,noE (evs F cs ρ S)=evs F cs ρ S)(C:Gl X x:=by rfl)(J:cs.len=ps.length:=by rfl)(j:dB x:=by decide)(L:sE X e es:=by rfl)(m:bT X es pos:=by rfl)(M:swapsWith (.Call (.Name x p) (e::es) [] pos) none c.line X.env=pure false:=by rfl):
  PX X (.Expr (.Call (.Name x p) (e::es) [] pos) c) (TXm (ex F N (.expr (.call i cs)))):=by
 delta QA at ha;obtain⟨f,fd,hm,O,P,Q⟩:=h;intro pins s u H D E I U;refine qi9 Q B C hm O P (dvs:=[]) .nil ha j L m M pins s u H D E I ?_;obtain⟨ι,S,ρ,v,st,p⟩:=U;refine⟨ι,S,ρ,v,st,?_⟩;unfold ex ev at p;cases z:evs F cs ρ S with
 |no=>rw[z]at p;exact p.elim
 |err x S1=>have:=d ρ S;rw[z]at this;cases this
 |ok l S1 =>
  rw[z]at p;intro xs n Y s1 o y;refine⟨?_,n,S1,l,o,by simpa using y,?_⟩
  .rw [uP,<-y.length]
   exact(yJ z).trans J
  .exact PsFX.bind (PsFX.from p s1) λa S2 q H2 b s2 r Z W=>W q H2 (Stp.refl _ _) r u (v.mono (s1.trans s2))
theorem qcx{st:Stmt}{c:CS}(h:PX X st (TXm (ex F N c))):PXs X [st] (TXm (exs F N (.cons c .nil))):=λpins s a H D E I b=>qja h pins s a H D E I (by
 obtain⟨ι,S,ρ,d,st,p⟩:=b;refine⟨ι,S,ρ,d,st,?_⟩;unfold exs at p;cases z:ex F N c ρ S with
 |no=>rw[z]at p;exact p
 |err x S1=>rw[z]at p;cases x <;> exact p
 |ok f S1=>rw[z]at p;cases f <;> exact p)
theorem y_if(n:QT X.nox c (TB (tst F i)))(ha:PXs X a (TXm (exs F N l)))(o:PXs X b (TXm (exs F N m))):PX X (.If c a b pos) (TXm (ex F N (.ifs (.cal i) l m))):=by
 delta QT at n;refine λpins s q H D E I r=>qmU n ha o pins s q H D E I ?_
 obtain⟨ι,S,ρ,j,st,p⟩:=r;refine⟨ι,S,ρ,j,st,?_⟩;unfold ex tst at p;cases z:tst F i ρ S with
 |no=>rw[z]at p;exact p.elim
 |err x S1=>rw[z]at p;exact p.elim
 |ok f S1 =>
  rw[z]at p;intro b d u s1 h e;cases (show f=b from e);cases f with
  |true=>rw[wM rfl];exact⟨d,S1,ρ,j.mono s1,h,PsFX.from p s1⟩
  |false=>rw[wN 01];exact⟨d,S1,ρ,j.mono s1,h,PsFX.from p s1⟩
theorem qmV{p L:Pos}(i:Nat)(hm:X.mg x=some (.ref C'))(s:IsExc X.base C' bm')(M:∀C,lookA C t=some true->∃bm,IsExc X.base C bm/\(Value.ref C::bm).contains (.ref C')=true)(O:PXs X body (TXm (exs F N r)))(u:∀o j,o.frames=X.A.frames->QSs (inS X o j) (e::c) (TSm (exs F N cs)))(P:X.stack=X.env::X.outer:=by rfl)(hx:X.ex=[]:=by rfl)(Q:X.env.frame=some X.env.locals:=by rfl)(U:X.calm=true:=by rfl)(W:nodupB X.N=true:=by rfl)(hi:X.N[i]?=some n:=by rfl)(Y:X.env.kindOf n=some .local:=by rfl)(Z:X.env.scope.names.lookup n=some .local:=by rfl)(hg:Gl X x:=by rfl)(v:dB x:=by decide):
  QS X (.Try body [.ExceptHandler (some (.Name x p)) (some n) (e::c) L] [] [] pos) (TSm (ex F N (.tryX t i r cs))):=by
 delta QS;refine PSimp (qld P hx Q U (q9 W) hi Y Z hg hm s O (ts:=TSm (exs F N cs)) (λo j h=>(u o j h).un) v) λD σ H hw=>?_
 obtain⟨ι,S,ρ,K,st,p⟩:=hw;refine⟨ι,S,ρ,K,st,?_⟩;unfold ex at p;cases z:exs F N r ρ S with
 |no=>rw[z]at p;exact p.elim
 |ok f S1=>rw[z]at p;exact p
 |err y S1 =>
  rw[z]at p;cases y with
  |exc C =>
   dsimp only at p;cases q:lookA C t with
   |none=>rw[q]at p;exact p.elim
   |some b =>
    rw[q]at p;cases b with
    |false=>exact p.elim
    |true =>
     dsimp only at p;intro a d w s1 m ha;obtain⟨bm,h1,h2⟩:=M C q;refine⟨a,C,bm,rfl,rfl,h1,h2,?_⟩;have na:a∉d:=m.fresh ha;have s2:Stp d w d (upd w a (.ext (Errs a C))):=Stp.laid ha _;have B:Sto d (upd w a (.ext (Errs a C))) S1:=m.laid ha _;refine⟨d,S1,ρ.set i (some (.exc C)),((K.mono s1).mono s2).set ⟨a,rfl,na,by simp[upd]⟩,B,?_⟩;have l:=PsF.from p (s1.trans s2);cases z2:exs F N cs (ρ.set i (some (.exc C))) S1 with
     |no=>rw[z2]at l;exact l.elim
     |err=>rw[z2]at l;exact l.elim
     |ok f S2 =>
      rw[z2]at l;cases f with
      |nx ρ1=>exact λE H3 s3 I a0 J=>l E H3 s3 I _ (EnR.un J i)
      |_=>exact l.elim
  |_=>exact p.elim
end
end EX
namespace EX
section
variable{X:Cx}{F:Fs}{N:Nat}{pos:Pos}
theorem qhj(d:∀u,RelV y u->u=c):CallR X (.builtin "isinstance") (λxs H Q=>∃a C b,xs=[.ref a,y]/\H a=some (.ext (Errs a C))/\ErrK X.K C/\PySem.W.kitOne X.K (.ref C) c=some b/\Q (.bl b) H):=by
 intro pins s n H xs us Q I r h;obtain⟨a,C,b,rfl,e,f,i,q⟩:=h;obtain⟨u,o,rfl,j,l⟩:=vals2 r;cases j;cases d _ l;obtain⟨m,_⟩:=(show ObjOk X.prog X.w H s.heap a (.ext (Errs a C))from I.hok a _ e);exact wh (qcw f) I.kIn m i (λz=>nomatch z) λtk=>⟨.bl b,H,I.tok _,rfl,q⟩
theorem qjP{p f:Pos}(s:Gl X "isinstance")(hm:X.mg "isinstance"=none)(hn:PE X (.Name nm f) (λ_ H Q=>Q y H))(v:∀u,RelV y u->u=m)(w:∀C b,lookA C t=some b->ErrK X.K C/\PySem.W.kitOne X.K (.ref C) m=some b)(ha:PE X a (T (ev F c)))(n:starEach [a,.Name nm f] X.env=(false,eval a X.env)::starEach [.Name nm f] X.env)(h:starEach [.Name nm f] X.env=(false,eval (.Name nm f) X.env)::starEach [] X.env)(i:(backTo pos (starEach [.Name nm f] X.env)).any (·.1)=false):
  PE X (.Call (.Name "isinstance" p) [a,.Name nm f] [] pos) (T (ev F (.isx t c))):=by
 refine PEimp (yZ (qhj v) s hm j6 (zB ha (zB hn jp h) n) 01 01 n i) λA H Q j=>?_
 have j:T (λρ S=>(ev F c ρ S).bind λx S1=>ofO ((isxD t x).map .bl) S1) A H Q:=by
  obtain⟨ι,S,ρ,o,st,p⟩:=j;unfold ev at p;exact⟨ι,S,ρ,o,st,p⟩
 refine TG.b1 j λι S ρ a b B o st E p=>?_
 obtain⟨d,e,q⟩:=Pst.ofO p st;cases a with
 |exc C =>
  obtain⟨r,z,rfl⟩:=uX.mp e;obtain⟨I,rfl,_,l⟩:=E;obtain⟨J,L⟩:=w C r z;exact⟨I,C,r,rfl,l,J,L,q _ ι B (Stp.refl _ _) st rfl⟩
 |_=>cases e
theorem qhk(t:List (Addr×Bool)){p c:Pos}(gb:Gb X.mg)(hm:X.mg nm=some (.ref C'))(i:∀C b,lookA C t=some b->ErrK X.K C/\PySem.W.kitOne X.K (.ref C) (.ref C')=some b)(ha:QE X a (T (ev F h)))(j:Gl X "isinstance":=by rfl)(d:Gl X nm:=by rfl)(hd:dB nm:=by decide)(l:starEach [a,.Name nm c] X.env=(false,eval a X.env)::starEach [.Name nm c] X.env:=by rfl)(e:starEach [.Name nm c] X.env=(false,eval (.Name nm c) X.env)::starEach [] X.env:=by rfl)(f:(backTo pos (starEach [.Name nm c] X.env)).any (·.1)=false:=by rfl):
  QE X (.Call (.Name "isinstance" p) [a,.Name nm c] [] pos) (T (ev F (.isx t h))):=by
 delta QE;delta QE at ha;exact qjP j gb.isinstance (qa5 (v:=.ref C') d hm rfl hd) (λu r=>by cases r;rfl) i ha l e f
theorem qlg(t:List (Addr×Bool)){p c:Pos}(gb:Gb X.mg)(hm:X.mg nm=none)(i:bootBuiltins nm=some (.type ty))(j:∀C b,lookA C t=some b->ErrK X.K C/\PySem.W.kitOne X.K (.ref C) (.type ty)=some b)(ha:QE X a (T (ev F h)))(l:Gl X "isinstance":=by rfl)(d:Gl X nm:=by rfl)(hn:nm≠"__name__":=by decide)(hd:dB nm:=by decide)(m:starEach [a,.Name nm c] X.env=(false,eval a X.env)::starEach [.Name nm c] X.env:=by rfl)(e:starEach [.Name nm c] X.env=(false,eval (.Name nm c) X.env)::starEach [] X.env:=by rfl)(f:(backTo pos (starEach [.Name nm c] X.env)).any (·.1)=false:=by rfl):
  QE X (.Call (.Name "isinstance" p) [a,.Name nm c] [] pos) (T (ev F (.isx t h))):=by
 delta QE;delta QE at ha;exact qjP l gb.isinstance (qdz (v:=.ty ty) d hm i rfl hn hd) (λu r=>by cases r;rfl) j ha m e f
end
end EX
end R
namespace R
open PySem PySem.Spec L2 SeqAt
open PyProof.Rows hiding St
open PySem.W (Frag excIn tailIn nsOkIn nsIn)
open EX
section
variable{X:Cx}{F:Fs}{N:Nat}{pos:Pos}
theorem qei{st:Stmt}{C:Addr}:QS X st (TSm (ex F N (.raise C))):=by
 delta QS;exact PSimp qfE λD b H a=>let ⟨_,_,_,_,_,p⟩:=a;p
theorem yB{st:Stmt}{c:CS}(h:QS X st (TSm (ex F N c))):QS X st (TSm (ex F N (.cal c))):=by
 delta QS;delta QS at h;refine PSimp h λD d H a=>?_
 obtain⟨ι,S,ρ,b,st,p⟩:=a;unfold ex at p;refine⟨ι,S,ρ,b,st,?_⟩;cases z:ex F N c ρ S with
 |ok f S1=>rw[z]at p;exact p
 |err x S1=>rw[z]at p;exact p.elim
 |no=>rw[z]at p;exact p.elim
theorem qjQ(h:QT X e (TB (tst F c))):QT X e (TB (tst F (.cal c))):=by
 delta QT;delta QT at h;refine PTimp h λd H Q a=>?_
 obtain⟨ι,S,ρ,b,st,p⟩:=a;unfold tst at p;refine⟨ι,S,ρ,b,st,?_⟩;cases z:tst F c ρ S with
 |ok f S1=>rw[z]at p;exact p
 |err x S1=>rw[z]at p;exact p.elim
 |no=>rw[z]at p;exact p.elim
theorem yC:∀(ρ:En) (S:Sr),noE (evs F .nil ρ S)=evs F .nil ρ S:=λ_ _=>rfl
theorem zV{i:Nat}(h:∀ρ S,noE (evs F cs ρ S)=evs F cs ρ S):∀ρ S,noE (evs F (.c (.v i) cs) ρ S)=evs F (.c (.v i) cs) ρ S:=by
 intro ρ S;unfold evs ev varE;have:=h ρ S;split
 .rw [Res.bind_ok]
  cases z:evs F cs ρ S with
  |ok l S1=>rfl
  |err x S1=>rw[z]at this;cases this
  |no=>rfl
 .rfl
variable{p:Pos}{e:Expr}{es:List Expr}{cs:CEs}
end
def jB{Q:Addr->Bool->Prop}:∀C b,lookA C []=some b->Q C b:=λ_ _ h=>by cases h
def ze{Q:Addr->Bool->Prop}{c:Addr}{b:Bool}{r:List (Addr×Bool)}(h:Q c b)(d:∀C b,lookA C r=some b->Q C b):∀C a,lookA C ((c,b)::r)=some a->Q C a:=λC a q=>by
 unfold lookA at q;split at q
 .rename_i z;cases q;subst z;exact h
 .exact d C a q
def qmW{Q:Addr->Prop}{r:List (Addr×Bool)}(h:∀C b,lookA C r=some b->b=true->Q C):∀C,lookA C r=some true->Q C:=λC q=>h C true q rfl
def qlh{K:Frag}(X:K.In h)(G:h.Ns mainGlobals mg)(a:nsIn K mainGlobals x=some (some v))(e:v=u):mg x=some u:=e ▸ PySem.W.mg_of X G a
def qhl{K:Frag}(X:K.In h)(hm:mg x=some (.ref C))(q:excIn K C b a=true):OwnCls x C b a mg h:=⟨hm,by
 revert q;unfold excIn;intro q;split at q
 .rename_i w i sl j
  split at q
  .rename_i D bm l m n o nn p d es
   cases i with|mk nm bs r ns y hd sn sub ab col s=>?_
   simp only[wK,vd,uE]at q;have u:sl=#[l,m,n,o,some (.builtin nn),p]:=by cases sl;exact congrArg _ es
   have q1:=q.1.1.1.1.1;have q2:=q.1.1.1.1.2;have e:=q.1.1.1.2;have v:=q.1.1.2;have c:=q.1.2;have f:=q.2;dsimp only at d e c f;subst q1 q2 e d u;exact⟨_,_,_,_,_,_,_,_,_,_,_,_,_,_,_,_,_,X _ _ j,.of_isNs (PySem.W.isNs_of_in X c),PySem.W.nsMap_none_of_in X c f,PySem.W.tail_of_in X v⟩
  .cases q
 .cases q⟩
end R
namespace R
open PySem PySem.Spec L2 SeqAt
open PyProof.Rows hiding St
namespace EX
section
variable{X:Cx}{F:Fs}{N:Nat}{pos:Pos}
theorem qfr:CallR X (.builtin "isinstance") (λxs H Q=>∃a c C b cs d,xs=[.ref a,.ref c]/\H a=some (.ext (Errs a C))/\H c=some (.t cs)/\(∀us,Vals cs us->us=d)/\ErrK X.K C/\PySem.W.kitAny X.K (.ref C) d=some b/\Q (.bl b) H):=by
 intro pins s J H xs us Q I r h;obtain⟨a,c,C,b,cs,d,rfl,i,j,l,m,o,q⟩:=h;obtain⟨u,L,rfl,v,x⟩:=vals2 r;cases v;cases x;obtain⟨y,_⟩:=(show ObjOk X.prog X.w H s.heap a (.ext (Errs a C))from I.hok a _ i);obtain⟨_,e,A,p,_⟩:=(show ObjOk X.prog X.w H s.heap c (.t cs)from I.hok c _ j);cases l e A;obtain⟨⟨oc,od,B,osl⟩,E,f,n,hd⟩:=p;dsimp only at f hd;subst f hd;exact PySem.W.kia_tup (qcw m) I.kIn y E o (λz=>nomatch z) λtk=>⟨.bl b,H,I.tok _,rfl,q⟩
noncomputable def tKs(cs:List V):TA:=λ_ H Q=>Q cs H
theorem qli:PA X [] (tKs []):=jp
theorem zE(hm:X.mg nm=some (.ref C))(h:PA X es (tKs cs))(a:Gl X nm:=by rfl)(hd:dB nm:=by decide)(b:starEach (.Name nm p::es) X.env=(false,eval (.Name nm p) X.env)::starEach es X.env:=by rfl):PA X (.Name nm p::es) (tKs (.ref C::cs)) :=
 zB (qa5 (v:=.ref C) a hm rfl hd) h b
theorem qaW:∀{l:List Addr} {us:List Value},Vals (l.map V.ref) us->us=l.map Value.ref
 |[],_,r=>by cases r;rfl
 |a::l,_,r=>by cases r with|cons b c=>cases b;rw[qaW c];rfl
theorem qlj(t:List (Addr×Bool))(l:List Addr){p h:Pos}{k:Nat}(gb:Gb X.mg)(j:PA X es (tKs (l.map V.ref)))(O:l.length<=1000)(A:∀C b,lookA C t=some b->ErrK X.K C/\PySem.W.kitAny X.K (.ref C) (l.map .ref)=some b)(ha:QE X a (T (ev F i)))(B:Gl X "isinstance":=by rfl)(u:starEach [a,.Tuple es k h] X.env=(false,eval a X.env)::starEach [.Tuple es k h] X.env:=by rfl)(m:starEach [.Tuple es k h] X.env=(false,eval (.Tuple es k h) X.env)::starEach [] X.env:=by rfl)(n:(backTo pos (starEach [.Tuple es k h] X.env)).any (·.1)=false:=by rfl):
  QE X (.Call (.Name "isinstance" p) [a,.Tuple es k h] [] pos) (T (ev F (.isx t i))):=by
 delta QE;delta QE at ha;refine PEimp (yZ qfr B gb.isinstance j6 (zB ha (zB (qfQ j) jp m) u) 01 01 u n) λE H Q o=>?_
 have o:T (λρ S=>(ev F i ρ S).bind λx S1=>ofO ((isxD t x).map .bl) S1) E H Q:=by
  obtain⟨ι,S,ρ,v,st,p⟩:=o;unfold ev at p;exact⟨ι,S,ρ,v,st,p⟩
 refine TG.b1 o λι S ρ a b I v st J p=>?_
 obtain⟨d,e,q⟩:=Pst.ofO p st;cases a with
 |exc C =>
  obtain⟨w,z,rfl⟩:=uX.mp e;obtain⟨y,rfl,P,c⟩:=J;obtain⟨L,M⟩:=A C w z;refine⟨by rw[wH,vM];lia,λr f=>?_⟩;have s:y≠r:=λz=>by rw[z,f]at c;cases c
  exact⟨y,r,C,w,l.map V.ref,l.map .ref,rfl,by simp[upd,s,c],by simp[upd],λus=>qaW,L,M,q _ ι (upd I r (.t (l.map V.ref))) (Stp.laid f _) (st.laid f _) rfl⟩
 |_=>cases e
end
end EX
namespace EX
def TR(m:En->Sr->Res D)(E:XK):St->Hp->Prop:=λa H=>TGX Den m E a H λ_ _=>False
def PsX.mono(h:PsX R r ι H Q E)(k:∀b H,Q b H->Q' b H):PsX R r ι H Q' E:=by
 cases r with
 |ok a S=>exact λb c H2 t st q=>k _ _ (h b c H2 t st q)
 |err x S =>
  cases x with
  |exc C=>exact h
  |_=>exact h
 |no=>exact h
def TR.up(h:TR m E a H)(Q:V->Hp->Prop):TGX Den m E a H Q:=by
 obtain⟨ι,S,ρ,b,st,p⟩:=h;exact⟨ι,S,ρ,b,st,PsX.mono p λ_ _ z=>z.elim⟩
section
variable{X:Cx}{F:Fs}{N:Nat}{pos:Pos}{E:XK}{m:En->Sr->Res D}
theorem q_of(h:PE X e (TGX Den m E)):PE X e (λa H _=>TR m E a H):=PEimp h λa H Q b=>TR.up b Q
theorem qmX(h:PE X e (λb H _=>TR m E b H))(c:swapsWithSole [tg] e pos.line X.env=pure false:=by rfl)(a:swappedStores [tg] e X.env=pure none:=by rfl)(d:(assignEach [tg] X.env).map (·.2)=[assign tg X.env]:=by rfl):PS X (.Assign [tg] e pos) (λ_ b H=>TR m E b H) :=
 PSimp (qfG (g:=λ_ _ _ _=>False) h (λ_ _ _ _ _ _ _ _ _ a=>a.elim) c a d) λD b H a=>a
theorem qmY{st:Stmt}{c:CE}{s:CS}(h:QS X.nox st (TSm (ex F N s)))(f:PS X st (λ_ a H=>TR (ev F c) E a H)):PS X st (TSX (ex F N (.grd c s)) E):=by
 delta QS at h;intro pins b a H D I i;obtain⟨ι,S,ρ,e,st,p⟩:=i;unfold ex at p;cases z:ev F c ρ S with
 |ok d S1 =>
  rw[z]at p;exact PSnox h pins b a H D I ⟨ι,S,ρ,e,st,PsFX.ok p⟩
 |err x S1 =>
  rw[z]at p;refine f pins b a H D I ⟨ι,S,ρ,e,st,?_⟩;rw[z];cases x with
  |exc C=>exact p
  |_=>exact p.elim
 |no=>rw[z]at p;exact p.elim
theorem qmZ{st:Stmt}{c:CE}{s:CS}(h:QS X st (TSm (ex F N s))):QS X st (TSm (ex F N (.grd c s))):=by
 delta QS;delta QS at h;refine PSimp h λD e H a=>?_
 obtain⟨ι,S,ρ,b,st,p⟩:=a;unfold ex at p;refine⟨ι,S,ρ,b,st,?_⟩;cases z:ev F c ρ S with
 |ok d S1 =>
  rw[z]at p;cases z2:ex F N s ρ S with
  |ok f S2=>rw[z2]at p;exact p
  |err x S2=>rw[z2]at p;exact p.elim
  |no=>rw[z2]at p;exact p.elim
 |err x S1=>rw[z]at p;exact p.elim
 |no=>rw[z]at p;exact p.elim
end
end EX
namespace EX
noncomputable def idxS(S:Sr)(x i:D):Option D:=match i with
 | .int k=>(seqOf S x).bind λl=>atI l k
 |_=>none
section
variable{X:Cx}{F:Fs}{pos:Pos}
theorem qlk(ha:PE X a (T j))(m:PE X b (T mb))(c:PlainIx b):
  PE X (.Subscript a b pos) (T λρ S=>(j ρ S).bind λx S1=>(mb ρ S1).bind λy S2=>ofO (idxS S2 x y) S2) :=
 PEimp (qfU (qdH.or qfV) ha m c) λB H Q n=>by
  refine TG.b1 n λι S ρ a b C o st r p=>Pst.tg p o st λE S2 h H2 b2 s2 s f i u=>?_
  obtain⟨d,e,q⟩:=Pst.ofO u f;unfold idxS at e;split at e
  .rename_i k
   cases (show b2=_ from i);cases z:seqOf S2 a with
   |none=>rw[z]at e;cases e
   |some l =>
    rw[z]at e;obtain⟨p,xs,rfl,c,w⟩:=zG f z (Den.mono s2 a r);obtain⟨v,e1,A⟩:=qdR w e;have fin:=q v h H2 (Stp.refl _ _) f A;rcases c with c|c
    .exact .inl ⟨p,xs,k,v,rfl,rfl,.inl c,e1,fin⟩
    .exact .inr ⟨p,xs,k,v,rfl,rfl,.inl (.inl c),e1,fin⟩
  .cases e
theorem qjb(ρ:En)(S:Sr):ev F (.idx (.l false cs) a) ρ S=(ev F (.l false cs) ρ S).bind λx S1=>(ev F a ρ S1).bind λy S2=>ofO (idxS S2 x y) S2:=by
 have h:ev F (.l false cs) ρ S=(evs F cs ρ S).bind λl S1=>if l.length<=PySem.sizeLine then newL false l S1 else .no:=by rw[ev]
 rw[show ev F (.idx (.l false cs) a) ρ S=(ev F (.l false cs) ρ S).bind λx S1=>(ev F a ρ S1).bind λy S2=>ofO (idxD S2 x y) S2 from by conv=>{lhs;rw[ev]},h];cases evs F cs ρ S with
 |no=>rfl
 |err=>rfl
 |ok l S1 =>
  rw[Res.bind_ok];by_cases b:l.length<=PySem.sizeLine
  .rw [wM b,show newL false l S1=.ok (.l l) S1 from rfl,Res.bind_ok,Res.bind_ok]
   congr 1;funext y S2
   try (cases y <;> rfl)
  .rw [wN b]
   try rfl
theorem qll(ha:QE X (.List es p) (T (ev F (.l false cs))))(c:QE X b (T (ev F a)))(d:PlainIx b:=by exact λ_ _=>rfl):QE X (.Subscript (.List es p) b pos) (T (ev F (.idx (.l false cs) a))):=by
 delta QE;delta QE at ha;delta QE at c;rw[show ev F (.idx (.l false cs) a)=_ from funext λρ=>funext λS=>qjb ρ S];exact qlk ha c d
end
end EX
end R
namespace RP
open R
def c_0:CF:=⟨1,1,false,.c (.ret (.and (.isi .int (.v 0)) (.not (.isi .bool (.v 0))))) .nil⟩
def c_1:CF:=⟨3,3,false,.c (.ret (.and (.call 0 (.c (.v 0) .n)) (.chain .le .le (.v 1) (.v 0) (.v 2)))) .nil⟩
def c_2:CF:=⟨2,2,false,.c (.whileS (.val (.v 1)) (.c (.set (.t (.c (.v 0) (.c (.v 1) .n))) (.t (.c (.v 1) (.c (.bin .mod (.v 0) (.v 1)) .n)))) .n)) (.c (.ret (.v 0)) .n)⟩
def c_3:CF:=⟨2,3,false,.c (.set (.v 2) (.call 2 (.c (.blt .abs (.c (.v 0) .n)) (.c (.v 1) .n)))) (.c (.ret (.t (.c (.bin .fdiv (.v 0) (.v 2)) (.c (.bin .fdiv (.v 1) (.v 2)) .n)))) .n)⟩
def c_4:CF:=⟨2,2,false,.c (.ret (.cmp .lt (.bin .mul (.idx (.v 0) 09) (.idx (.v 1) 06)) (.bin .mul (.idx (.v 1) 09) (.idx (.v 0) 06)))) .nil⟩
def c_5:CF:=⟨1,3,false,.c (.ifs (.or (.not (.val (.isi .tuple (.v 0)))) (.val (.cmp .ne (.blt .len (.c (.v 0) .n)) (.k (.int 2))))) (.c (.ret (.k (.bl false))) .n) .n) (.c (.set (.t (.c (.v 1) (.c (.v 2) .n))) (.v 0)) (.c (.ret (.and (.call 6 (.c (.v 1) .n)) (.call 7 (.c (.v 2) (.c (.blt .len (.c (.v 1) .n)) .n))))) .n))⟩
def c_6:CF:=⟨1,1,false,.c (.ifs (.or (.not (.val (.isi .tuple (.v 0)))) (.not (.val (.chain .le .le 06 (.blt .len (.c (.v 0) .n)) (.k (.int 12)))))) (.c (.ret (.k (.bl false))) .n) .n) (.c (.ret (.gen .all [] 1 (.call 1 (.c (.v 0) (.c 06 (.c (.k (.int 100)) .n)))) (.v 0) (.seq (.v 0)) .n)) .n)⟩
def c_7:CF:=⟨2,2,false,.c (.ifs (.or (.not (.val (.isi .tuple (.v 0)))) (.val (.cmp .gt (.blt .len (.c (.v 0) .n)) (.k (.int 30))))) (.c (.ret (.k (.bl false))) .n) .n) (.c (.ifs (.not (.val (.gen .all [1] 1 (.call 8 (.c (.v 1) (.c (.v 0) .n))) (.v 1) (.seq (.v 0)) .n))) (.c (.ret (.k (.bl false))) .n) .n) (.c (.ret (.call 11 (.c (.lc false [] 2 (.v 0) (.t (.c (.v 0) (.c (.v 1) .n))) (.seq (.v 0)) .n) .n))) .n))⟩
def c_8:CF:=⟨2,4,false,.c (.ifs (.or (.not (.val (.isi .tuple (.v 0)))) (.val (.cmp .ne (.blt .len (.c (.v 0) .n)) (.k (.int 2))))) (.c (.ret (.k (.bl false))) .n) .n) (.c (.set (.t (.c (.v 2) (.c (.v 3) .n))) (.v 0)) (.c (.ret (.and (.call 9 (.c (.v 2) (.c (.v 1) .n))) (.call 1 (.c (.v 3) (.c 06 (.c (.k (.int 1000000)) .n)))))) .n))⟩
def c_9:CF:=⟨2,2,false,.c (.ret (.and (.call 10 (.c (.v 0) (.c (.v 1) .n))) (.cmp .le (.blt .len (.c (.v 0) .n)) (.k (.int 4))))) .nil⟩
def c_10:CF:=⟨2,2,false,.c (.ifs (.or (.not (.val (.isi .tuple (.v 0)))) (.not (.val (.v 0)))) (.c (.ret (.k (.bl false))) .n) .n) (.c (.ret (.and (.gen .all [1] 1 (.call 1 (.c (.v 1) (.c 09 (.c (.bin .sub (.v 0) 06) .n)))) (.v 1) (.seq (.v 0)) .n) (.call 11 (.c (.v 0) .n)))) .n)⟩
def c_11:CF:=⟨1,1,false,.c (.ret (.gen .all [] 2 (.cmp .lt (.v 0) (.v 1)) (.t (.c (.v 0) (.c (.v 1) .n))) (.zip (.v 0) (.slc (.v 0) (.some 06) .none)) .n)) .nil⟩
def c_12:CF:=⟨1,1,false,.c (.ifs (.cal (.not (.val (.call 5 (.c (.v 0) .n))))) (.c (.raise 72) .n) .n) .nil⟩
def c_13:CF:=⟨2,2,false,.c (.ret (.call 1 (.c (.v 1) (.c 09 (.c (.bin .sub (.blt .len (.c (.idx (.v 0) 09) .n)) 06) .n))))) .nil⟩
def c_14:CF:=⟨2,2,false,.c (.ifs (.cal (.not (.val (.call 13 (.c (.v 0) (.c (.v 1) .n)))))) (.c (.raise 84) .n) .n) .nil⟩
def c_15:CF:=⟨2,2,false,.c (.ret (.lc false [1] 1 (.v 1) (.v 1) (.seq (.idx (.v 0) 06)) (.c (.val (.gen .all [0] 1 (.cmp .inn (.v 1) (.v 0)) (.v 1) (.seq (.idx (.v 1) 09)) .n)) .n))) .nil⟩
def c_16:CF:=⟨1,9,false,.c (.expr (.call 12 (.c (.v 0) .n))) (.c (.cal (.set (.v 1) (.idx (.v 0) 09))) (.c (.cal (.set (.v 2) (.rng (some true) (.c (.blt .len (.c (.v 1) .n)) .n)))) (.c (.cal (.set (.v 3) (.l true .nil))) (.c (.cal (.set (.t (.c (.v 4) (.c (.v 5) .n))) (.t (.c (.t .nil) (.c (.t (.c (.neg 06) (.c 06 .n))) .n))))) (.c (.cal (.whileS (.val (.v 2)) (.c (.set (.v 6) (.call 15 (.c (.v 0) (.c (.v 2) .n)))) (.c (.set (.v 7) (.call 3 (.c (.gen .sum [] 2 (.v 1) (.t (.c (.v 0) (.c (.v 1) .n))) (.seq (.v 6)) .n) (.c (.genX .sum [1] 1 (.idx (.v 0) (.v 1)) (.v 1) (.v 2) .n) .n)))) (.c (.ifs (.val (.call 4 (.c (.v 5) (.c (.v 7) .n)))) (.c (.set (.t (.c (.v 4) (.c (.v 5) .n))) (.t (.c (.blt .tuple (.c (.v 2) .n)) (.c (.v 7) .n)))) .n) .n) (.c (.set (.v 8) (.call 17 (.c (.v 1) (.c (.v 6) (.c (.v 2) .n))))) (.c (.expr (.app (.v 3) (.v 8))) (.c (.expr (.rem (.v 2) (.idx (.v 8) 09))) .n)))))))) (.c (.cal (.ret (.t (.c (.blt .tuple (.c (.v 3) .n)) (.c (.v 4) .n))))) .n))))))⟩
def c_17:CF:=⟨3,9,false,.c (.set (.v 3) (.dcK 0 (.v 2))) (.c (.forS (.t (.c (.v 5) (.c (.v 6) .n))) (.seq (.v 1)) (.c (.forS (.v 4) (.seq (.v 5)) (.c (.augK (.v 3) (.v 4) (.v 6)) .n)) .n)) (.c (.set (.v 7) (.t (.c (.idx (.v 2) 09) (.c (.call 3 (.c (.idk (.v 3) (.idx (.v 2) 09)) (.c (.idx (.v 0) (.idx (.v 2) 09)) .n))) .n)))) (.c (.forS (.v 4) (.seq (.slc (.v 2) (.some 06) .none)) (.c (.set (.v 8) (.call 3 (.c (.idk (.v 3) (.v 4)) (.c (.idx (.v 0) (.v 4)) .n)))) (.c (.ifs (.val (.call 4 (.c (.v 8) (.c (.idx (.v 7) 06) .n)))) (.c (.set (.v 7) (.t (.c (.v 4) (.c (.v 8) .n)))) .n) .n) .n))) (.c (.ret (.v 7)) .n))))⟩
def c_18:CF:=⟨1,7,false,.c (.grd (.call 16 (.c (.v 0) .n)) (.set (.t (.c (.v 1) (.c (.v 2) .n))) (.call 16 (.c (.v 0) .n)))) (.c (.cal (.set (.v 3) (.dis))) (.c (.cal (.set (.v 4) (.t (.c 09 (.c 06 .n))))) (.c (.cal (.forS (.t (.c (.v 5) (.c (.v 6) .n))) (.seq (.v 1)) (.c (.ifs (.val (.call 4 (.c (.v 4) (.c (.v 6) .n)))) (.c (.set (.v 4) (.v 6)) .n) .n) (.c (.set (.sub (.v 3) (.v 5)) (.v 4)) .n)))) (.c (.cal (.ret (.gen .tuple [3] 1 (.idk (.v 0) (.v 1)) (.v 1) (.rng (.c (.blt .len (.c (.v 1) .n)) .n)) .n))) .n))))⟩
def c_19:CF:=⟨2,3,false,.c (.expr (.call 12 (.c (.v 0) .n))) (.c (.expr (.call 14 (.c (.v 0) (.c (.v 1) .n)))) (.c (.set (.v 2) (.call 18 (.c (.v 0) .n))) (.c (.cal (.ret (.gen .tuple [2,1] 1 (.v 2) (.v 2) (.rng (.c (.blt .len (.c (.v 2) .n)) .n)) (.c (.not (.val (.call 4 (.c (.idx (.v 0) (.v 2)) (.c (.idx (.v 0) (.v 1)) .n))))) .n)))) .n)))⟩
def c_20:CF:=⟨1,1,false,.c (.ret (.bin .mod (.bin .mul (.bin .mod (.v 0) (.bin .pow (.k (.int 10)) (.k (.int 60)))) (.k (.int 845098040014256830712216258592636193483572396323965406503637))) (.bin .pow (.k (.int 10)) (.k (.int 60))))) .nil⟩
def c_21:CF:=⟨2,5,true,.c (.set (.v 2) 09) (.c (.forS (.v 3) (.seq (.l false (.c (.bin .add (.v 1) 06) (.c (.v 1) .n)))) (.c (.set (.v 4) (.idx (.bin .add (.slc (.v 0) (.some (.v 3)) (.some (.bin .add (.v 3) 06))) (.l false (.c (.bin .add (.bin .add (.bin .mul (.k (.int 5701)) (.v 3)) (.k (.int 43))) (.bin .mul (.k (.int 7)) (.idx (.bin .add (.v 0) (.l false (.c 09 .n))) 09))) .n))) 09)) (.c (.set (.v 2) (.bin .add (.bin .mul (.v 2) (.bin .pow (.k (.int 10)) (.k (.int 60)))) (.call 20 (.c (.v 4) .n)))) .n))) (.c (.ret (.l true (.c (.v 2) .n))) .n))⟩
def c_22:CF:=⟨2,3,false,.c (.set (.t (.c (.sub (.v 0) 09) (.c (.v 2) .n))) (.blt .divmod (.c (.idx (.v 0) 09) (.c (.v 1) .n)))) (.c (.ret (.v 2)) .n)⟩
def c_23:CF:=⟨2,5,false,.c (.set (.v 2) (.idx (.l false (.c (.k (.int 2)) (.c (.k (.int 2)) (.c (.k (.int 2)) (.c (.k (.int 3)) (.c (.k (.int 3)) (.c 06 (.c (.k (.int 4)) (.c (.k (.int 2)) .n))))))))) (.call 22 (.c (.v 0) (.c (.k (.int 8)) .n))))) (.c (.set (.v 3) (.rng (some true) (.c (.v 1) .n))) (.c (.set (.v 4) (.lc false [3,0] 1 (.popAt (.v 0) (.call 22 (.c (.v 1) (.c (.blt .len (.c (.v 0) .n)) .n)))) (.v 2) (.rng (.c (.blt .min2 (.c (.v 2) (.c (.v 1) .n))) .n)) .n)) (.c (.ret (.blt .tuple (.c (.blt (.sorted false) (.c (.v 4) .n)) .n))) .n)))⟩
def c_24:CF:=⟨3,8,false,.c (.set (.v 3) (.bin .add 06 (.call 22 (.c (.v 0) (.c (.v 1) .n))))) (.c (.set (.v 4) (.bin .mul (.l false (.c 06 .n)) (.v 3))) (.c (.ifs (.val (.cmp .eq (.call 22 (.c (.v 0) (.c (.k (.int 3)) .n))) 09)) (.c (.set (.v 4) (.lc false [0] 1 (.bin .add 06 (.call 22 (.c (.v 0) (.c (.k (.int 5)) .n)))) (.v 1) (.rng (.c (.v 3) .n)) .n)) .n) .n) (.c (.set (.v 5) (.dic true)) (.c (.forS (.v 6) (.rng (.c (.call 22 (.c (.v 0) (.c (.bin .add (.v 2) 06) .n))) .n)) (.c (.set (.v 7) (.call 23 (.c (.v 0) (.c (.v 3) .n)))) (.c (.set (.sub (.v 5) (.v 7)) (.bin .add 06 (.call 22 (.c (.v 0) (.c (.k (.int 9)) .n))))) .n))) (.c (.ret (.t (.c (.blt .tuple (.c (.v 4) .n)) (.c (.blt .tuple (.c (.lc false [5] 1 (.t (.c (.v 1) (.c (.idx (.v 0) (.v 1)) .n))) (.v 1) (.seq (.blt (.sorted false) (.c (.v 5) .n))) .n) .n)) .n)))) .n)))))⟩
def c_25:CF:=⟨3,3,false,.c (.ret (.and (.isi .int (.v 0)) (.and (.not (.isi .bool (.v 0))) (.chain .le .le (.v 1) (.v 0) (.v 2))))) .nil⟩
def c_26:CF:=⟨2,2,false,.c (.ifs (.or (.not (.val (.isi .tuple (.v 0)))) (.or (.val (.cmp .ne (.blt .len (.c (.v 0) .n)) (.k (.int 2)))) (.not (.val (.isi .tuple (.idx (.v 0) 09)))))) (.c (.ret (.k (.bl false))) .n) .n) (.c (.ifs (.or (.not (.val (.chain .le .le 06 (.blt .len (.c (.idx (.v 0) 09) .n)) (.k (.int 4))))) (.not (.val (.blt .all (.c (.lc false [1] 1 (.call 25 (.c (.v 1) (.c 09 (.c (.bin .sub (.v 0) 06) .n)))) (.v 1) (.seq (.idx (.v 0) 09)) .n) .n))))) (.c (.ret (.k (.bl false))) .n) .n) (.c (.ret (.and (.cmp .eq (.blt (.list false) (.c (.idx (.v 0) 09) .n)) (.blt (.sset false) (.c (.idx (.v 0) 09) .n))) (.call 25 (.c (.idx (.v 0) 06) (.c 06 (.c (.bin .pow (.k (.int 10)) (.k (.int 6))) .n)))))) .n))⟩
def c_27:CF:=⟨1,3,false,.c (.ifs (.or (.not (.val (.isi .tuple (.v 0)))) (.or (.val (.cmp .ne (.blt .len (.c (.v 0) .n)) (.k (.int 2)))) (.not (.val (.blt .all (.c (.lc false [] 1 (.isi .tuple (.v 0)) (.v 0) (.seq (.v 0)) .n) .n)))))) (.c (.ret (.k (.bl false))) .n) .n) (.c (.set (.t (.c (.v 1) (.c (.v 2) .n))) (.v 0)) (.c (.ifs (.or (.not (.val (.chain .le .le 06 (.blt .len (.c (.v 1) .n)) (.k (.int 12))))) (.or (.not (.val (.blt .all (.c (.lc false [] 1 (.call 25 (.c (.v 0) (.c 06 (.c (.k (.int 100)) .n)))) (.v 0) (.seq (.v 1)) .n) .n)))) (.val (.cmp .gt (.blt .len (.c (.v 2) .n)) (.k (.int 30)))))) (.c (.ret (.k (.bl false))) .n) .n) (.c (.ifs (.not (.val (.blt .all (.c (.lc false [1] 1 (.call 26 (.c (.v 1) (.c (.blt .len (.c (.v 0) .n)) .n))) (.v 1) (.seq (.v 2)) .n) .n)))) (.c (.ret (.k (.bl false))) .n) .n) (.c (.ret (.blt .all (.c (.lc false [2] 1 (.cmp .lt (.idx (.idx (.v 0) (.v 1)) 09) (.idx (.idx (.v 0) (.bin .add (.v 1) 06)) 09)) (.v 1) (.rng (.c (.bin .sub (.blt .len (.c (.v 2) .n)) 06) .n)) .n) .n))) .n))))⟩
def c_28:CF:=⟨3,6,false,.c (.ifs (.or (.val (.cmp .eq (.v 2) 09)) (.or (.not (.val (.isi .tuple (.v 1)))) (.or (.val (.cmp .eq (.v 1) (.t .nil))) (.val (.cmp .eq (.call 22 (.c (.v 0) (.c (.k (.int 5)) .n))) 09))))) (.c (.set (.v 3) (.l false (.c (.k .non) (.c (.k (.bl true)) (.c (.neg 06) (.c 09 (.c (.k (.int 101)) (.c (.bin .add (.bin .pow (.k (.int 10)) (.k (.int 6))) 06) (.c (.k (.str (PySem.Str.ofString "0"))) (.c (.l false .nil) (.c (.t .nil) (.c (.dic false) (.c (.t (.c (.v 1) .n)) (.c (.l false (.c (.v 1) .n)) (.c 06 (.c (.k (.int 12)) (.c (.k (.bl false)) .n))))))))))))))))) (.c (.ret (.idx (.v 3) (.call 22 (.c (.v 0) (.c (.k (.int 15)) .n))))) .n)) .n) (.c (.set (.v 4) (.call 22 (.c (.v 0) (.c (.blt .len (.c (.v 1) .n)) .n)))) (.c (.set (.v 5) (.call 22 (.c (.v 0) (.c (.k (.int 6)) .n)))) (.c (.ifs (.val (.cmp .eq (.v 5) 09)) (.c (.ret (.bin .add (.slc (.v 1) .none (.some (.v 4))) (.slc (.v 1) (.some (.bin .add (.v 4) 06)) .none))) .n) .n) (.c (.ifs (.val (.cmp .eq (.v 5) 06)) (.c (.ret (.bin .add (.bin .add (.slc (.v 1) .none (.some (.v 4))) (.slc (.v 1) (.some (.v 4)) (.some (.bin .add (.v 4) 06)))) (.slc (.v 1) (.some (.v 4)) .none))) .n) .n) (.c (.ifs (.val (.cmp .eq (.v 5) (.k (.int 2)))) (.c (.ret (.bin .add (.slc (.v 1) (.some (.v 4)) .none) (.slc (.v 1) .none (.some (.v 4))))) .n) .n) (.c (.ret (.bin .add (.bin .add (.slc (.v 1) .none (.some (.v 4))) (.t (.c (.call 28 (.c (.v 0) (.c (.idx (.v 1) (.v 4)) (.c (.bin .sub (.v 2) 06) .n)))) .n))) (.slc (.v 1) (.some (.bin .add (.v 4) 06)) .none))) .n))))))⟩
def c_29:CF:=⟨3,6,false,.c (.set (.v 3) (.k (.str (PySem.Str.ofString "told")))) (.c (.tryX [(84,true),(72,true)] 4 (.c (.ifs (.cal (.val (.cmp .eq (.v 0) 09))) (.c (.expr (.call 16 (.c (.v 1) .n))) .n) (.c (.ifs (.cal (.val (.cmp .eq (.v 0) 06))) (.c (.expr (.call 18 (.c (.v 1) .n))) .n) (.c (.expr (.call 19 (.c (.v 1) (.c (.v 2) .n)))) .n)) .n)) .n) (.c (.set (.v 5) (.isx [(84,false),(72,false)] (.v 4))) (.c (.set (.v 5) (.or (.v 5) (.isx [(84,false),(72,false)] (.v 4)))) (.c (.set (.v 3) (.k (.str (PySem.Str.ofString "other")))) (.c (.ifs (.and (.val (.isx [(84,true),(72,true)] (.v 4))) (.not (.val (.v 5)))) (.c (.set (.v 3) (.idx (.l false (.c (.k (.str (PySem.Str.ofString "other"))) (.c (.k (.str (PySem.Str.ofString "web"))) (.c (.k (.str (PySem.Str.ofString "part"))) (.c (.k (.str (PySem.Str.ofString "other"))) .n))))) (.bin .add (.blt .int (.c (.isx [(84,false),(72,true)] (.v 4)) .n)) (.bin .mul (.k (.int 2)) (.blt .int (.c (.isx [(84,true),(72,false)] (.v 4)) .n)))))) .n) .n) .n))))) (.c (.ret (.v 3)) .n))⟩
def c_30:CF:=⟨2,10,false,.c (.set (.v 2) (.t (.c (.call 16 (.c (.v 0) .n)) (.c (.call 18 (.c (.v 0) .n)) .n)))) (.c (.set (.v 3) (.blt .len (.c (.idx (.v 0) 09) .n))) (.c (.set (.v 4) (.l false (.c (.neg 06) (.c (.v 3) (.c (.k .non) (.c (.k (.bl true)) (.c (.k (.bl false)) (.c (.k (.str (PySem.Str.ofString "0"))) (.c (.t (.c 09 .n)) (.c (.l false (.c 09 .n)) (.c (.t .nil) (.c (.dic false) (.c (.bin .pow (.k (.int 10)) (.k (.int 9))) .n))))))))))))) (.c 004 (.c (.forS (.v 7) (.seq (.l false (.c (.k .non) (.c (.k (.int 7)) (.c (.k (.str (PySem.Str.ofString "1; 0:1"))) (.c (.l false .nil) (.c (.dic false) (.c (.blt (.list false) (.c (.v 0) .n)) (.c (.t (.c (.blt (.list false) (.c (.idx (.v 0) 09) .n)) (.c (.idx (.v 0) 06) .n))) (.c (.t (.c (.bin .mul (.idx (.v 0) 09) (.k (.int 13))) (.c (.idx (.v 0) 06) .n))) .n)))))))))) (.c (.ifs (.val (.cmp .ne (.call 29 (.c (.call 22 (.c (.v 1) (.c (.k (.int 3)) .n))) (.c (.v 7) (.c 09 .n)))) (.k (.str (PySem.Str.ofString "web"))))) (.c (.ret (.k (.bl false))) .n) .n) .n)) (.c (.ret (.cmp .eq (.t (.c (.call 16 (.c (.v 0) .n)) (.c (.call 18 (.c (.v 0) .n)) .n))) (.v 2))) .n)))))⟩
def qcy:CF:=⟨1,2,false,.c (.forS (.v 1) (.rng (.c 09 (.c (.blt .max2 (.c 06 (.c (.blt .min2 (.c (.blt .len (.c (.v 0) .n)) (.c (.k (.int 12)) .n))) .n))) (.c (.k (.int 2)) .n)))) (.c (.ifs (.not (.val (.call 30 (.c (.call 24 (.c (.call 21 (.c (.v 0) (.c (.v 1) .n))) (.c (.k (.int 9)) (.c (.k (.int 12)) .n)))) (.c (.call 21 (.c (.v 0) (.c (.bin .add (.v 1) (.k (.int 12))) .n))) .n))))) (.c (.ret (.k (.bl false))) .n) .n) .n)) (.c (.ret (.k (.bl true))) .n)⟩
noncomputable def prg:List CF:=[c_0,c_1,c_2,c_3,c_4,c_5,c_6,c_7,c_8,c_9,c_10,c_11,c_12,c_13,c_14,c_15,c_16,c_17,c_18,c_19,c_20,c_21,c_22,c_23,c_24,c_25,c_26,c_27,c_28,c_29,c_30,qcy]
end RP
namespace RP
open PySem PySem.Spec L2 SeqAt R R.EX
open PyProof.Rows hiding St
noncomputable def top(i:Nat):Stmt:=PySem.Challenge.pw_weblayers_k39_places_of_no_web.main.body.getD i (.Pass ⟨0,0,0,0⟩)
structure Df where
 (x:Str) (i:Nat) (N:List Str) (b:CF)
noncomputable abbrev Df.ps(m:Df):List Str:=m.N.take m.b.np
noncomputable abbrev M0:Df:=⟨"is_whole",1,["thing"],c_0⟩
noncomputable abbrev M1:Df:=⟨"is_whole_within",2,["thing","least","most"],c_1⟩
noncomputable abbrev M2:Df:=⟨"common_divisor",3,["one","other"],c_2⟩
noncomputable abbrev M3:Df:=⟨"lowest",4,["top","bottom","divisor"],c_3⟩
noncomputable abbrev M4:Df:=⟨"is_less",5,["one","other"],c_4⟩
noncomputable abbrev M5:Df:=⟨"is_web",26,["thing","costs","ties"],c_5⟩
noncomputable abbrev M6:Df:=⟨"are_costs",27,["thing"],c_6⟩
noncomputable abbrev M7:Df:=⟨"are_ties",28,["thing","many"],c_7⟩
noncomputable abbrev M8:Df:=⟨"is_tie",29,["thing","many","places","heavy"],c_8⟩
noncomputable abbrev M9:Df:=⟨"are_tied_places",30,["thing","many"],c_9⟩
noncomputable abbrev M10:Df:=⟨"are_places",31,["thing","many"],c_10⟩
noncomputable abbrev M11:Df:=⟨"is_rising",32,["things"],c_11⟩
noncomputable abbrev M12:Df:=⟨"need_web",33,["thing"],c_12⟩
noncomputable abbrev M13:Df:=⟨"is_place",34,["web","thing"],c_13⟩
noncomputable abbrev M14:Df:=⟨"need_place",35,["web","thing"],c_14⟩
noncomputable abbrev M15:Df:=⟨"ties_within",36,["web","part"],c_15⟩
noncomputable abbrev M16:Df:=⟨"stripped",38,["web","costs","left","order","part","most","ties","dense","taken"],c_16⟩
noncomputable abbrev M17:Df:=⟨"lightest",39,["costs","ties","left","degrees","place","places","heavy","least","number"],c_17⟩
noncomputable abbrev M18:Df:=⟨"cores",41,["web","order","part","reached","most","place","number"],c_18⟩
noncomputable abbrev M19:Df:=⟨"core_part",42,["web","place","told"],c_19⟩
noncomputable abbrev M20:Df:=⟨"_law_mixed",44,["_law_cell"],c_20⟩
noncomputable abbrev M21:Df:=⟨"_law_pack",45,["_law_script","_law_k","_law_found","_law_at","_law_cell"],c_21⟩
noncomputable abbrev M22:Df:=⟨"_law_take",46,["_law_pack_here","_law_size","_law_digit"],c_22⟩
noncomputable abbrev M23:Df:=⟨"_law_places",47,["_law_pack_here","_law_many","_law_size","_law_left","_law_found"],c_23⟩
noncomputable abbrev M24:Df:=⟨"_law_web",48,["_law_pack_here","_law_most","_law_ties","_law_many","_law_costs","_law_known","_law_turn","_law_some"],c_24⟩
noncomputable abbrev M25:Df:=⟨"_law_is_whole",49,["_law_thing","_law_least","_law_most"],c_25⟩
noncomputable abbrev M26:Df:=⟨"_law_is_tie",50,["_law_thing","_law_many"],c_26⟩
noncomputable abbrev M27:Df:=⟨"_law_is_web",51,["_law_thing","_law_costs","_law_ties"],c_27⟩
noncomputable abbrev M28:Df:=⟨"_law_spoilt",52,["_law_pack_here","_law_thing","_law_under","_law_odd","_law_at","_law_pick"],c_28⟩
noncomputable abbrev M29:Df:=⟨"_law_seen",53,["_law_ask","_law_web_here","_law_place","_law_seen_so","e","_law_others"],c_29⟩
noncomputable abbrev M30:Df:=⟨"_law_right",54,["_law_web_here","_law_pack_here","_law_ahead","_law_many","_law_odd","_law_turn","_law_place","_law_thing","_law_good","_law_ask"],c_30⟩
noncomputable abbrev M31:Df:=⟨"law",55,["_law_script","_law_k"],qcy⟩
noncomputable abbrev Uq(K:07)(mg:Str->Option Value)(m:Df):Prop:=DefIn K mg m.x (top m.i) m.ps
structure Pre (K:07) (mg:Str->Option Value):Prop where
 gb:Gb mg
 v0:∃t:Tok,mg "MOST_COST"=some (.int 100 t)
 v1:∃t:Tok,mg "MOST_PLACES"=some (.int 12 t)
 v2:∃t:Tok,mg "MOST_PLACES_OF_TIE"=some (.int 4 t)
 v3:∃t:Tok,mg "MOST_TIES"=some (.int 30 t)
 v4:∃t:Tok,mg "MOST_WEIGHT"=some (.int 1000000 t)
 v5:mg "NoArrows"=some (.ref 152)
 v6:mg "NoCall"=some (.ref 216)
 v7:mg "NoKept"=some (.ref 236)
 v8:mg "NoLaying"=some (.ref 96)
 v9:mg "NoMeasure"=some (.ref 108)
 v10:mg "NoNumber"=some (.ref 176)
 v11:mg "NoPart"=some (.ref 84)
 v12:mg "NoRoad"=some (.ref 128)
 v13:mg "NoSize"=some (.ref 140)
 v14:mg "NoText"=some (.ref 196)
 v15:mg "NoThread"=some (.ref 164)
 v16:mg "NoWeb"=some (.ref 72)
 v17:mg "WebError"=some (.ref 59)
 v18:mg "ValueError"=none
 v19:R.EX.excRow K 84=some [.ref 59,.type "ValueError",.type "Exception",.type "BaseException",.type "object"]
 v20:R.EX.excRow K 72=some [.ref 59,.type "ValueError",.type "Exception",.type "BaseException",.type "object"]
 v21:R.EX.excRow K 59=some [.type "ValueError",.type "Exception",.type "BaseException",.type "object"]
 v22:PySem.W.excIn K 84 [.type "ValueError",.type "Exception",.type "BaseException",.type "object"] "ValueError.__new__"=true
 v23:R.EX.ErrK K 84
 v24:PySem.W.kitAny K (.ref 84) [.ref 152,.ref 216,.ref 236,.ref 96,.ref 108,.ref 176,.ref 128,.ref 140,.ref 196]=some false
 v25:PySem.W.kitOne K (.ref 84) (.ref 84)=some true
 v26:PySem.W.kitOne K (.ref 84) (.ref 164)=some false
 v27:PySem.W.kitOne K (.ref 84) (.ref 72)=some false
 v28:PySem.W.kitOne K (.ref 84) (.type "ValueError")=some true
 v29:PySem.W.excIn K 72 [.type "ValueError",.type "Exception",.type "BaseException",.type "object"] "ValueError.__new__"=true
 v30:R.EX.ErrK K 72
 v31:PySem.W.kitAny K (.ref 72) [.ref 152,.ref 216,.ref 236,.ref 96,.ref 108,.ref 176,.ref 128,.ref 140,.ref 196]=some false
 v32:PySem.W.kitOne K (.ref 72) (.ref 84)=some false
 v33:PySem.W.kitOne K (.ref 72) (.ref 164)=some false
 v34:PySem.W.kitOne K (.ref 72) (.ref 72)=some true
 v35:PySem.W.kitOne K (.ref 72) (.type "ValueError")=some true
 u_0:Uq K mg M0
 u_1:Uq K mg M1
 u_2:Uq K mg M2
 u_3:Uq K mg M3
 u_4:Uq K mg M4
 u_5:Uq K mg M5
 u_6:Uq K mg M6
 u_7:Uq K mg M7
 u_8:Uq K mg M8
 u_9:Uq K mg M9
 u_10:Uq K mg M10
 u_11:Uq K mg M11
 u_12:Uq K mg M12
 u_13:Uq K mg M13
 u_14:Uq K mg M14
 u_15:Uq K mg M15
 u_16:Uq K mg M16
 u_17:Uq K mg M17
 u_18:Uq K mg M18
 u_19:Uq K mg M19
 u_20:Uq K mg M20
 u_21:Uq K mg M21
 u_22:Uq K mg M22
 u_23:Uq K mg M23
 u_24:Uq K mg M24
 u_25:Uq K mg M25
 u_26:Uq K mg M26
 u_27:Uq K mg M27
 u_28:Uq K mg M28
 u_29:Uq K mg M29
 u_30:Uq K mg M30
 u_31:Uq K mg M31
structure All (P:Program) (w:World) (K:07) (mg:Str->Option Value) (base:Heap) (k:Nat) (F:Fs):Prop where
 h_0:FnAt P w K mg base k F 0 M0.x M0.ps
 h_1:FnAt P w K mg base k F 1 M1.x M1.ps
 h_2:FnAt P w K mg base k F 2 M2.x M2.ps
 h_3:FnAt P w K mg base k F 3 M3.x M3.ps
 h_4:FnAt P w K mg base k F 4 M4.x M4.ps
 h_5:FnAt P w K mg base k F 5 M5.x M5.ps
 h_6:FnAt P w K mg base k F 6 M6.x M6.ps
 h_7:FnAt P w K mg base k F 7 M7.x M7.ps
 h_8:FnAt P w K mg base k F 8 M8.x M8.ps
 h_9:FnAt P w K mg base k F 9 M9.x M9.ps
 h_10:FnAt P w K mg base k F 10 M10.x M10.ps
 h_11:FnAt P w K mg base k F 11 M11.x M11.ps
 h_12:FnAt P w K mg base k F 12 M12.x M12.ps
 h_13:FnAt P w K mg base k F 13 M13.x M13.ps
 h_14:FnAt P w K mg base k F 14 M14.x M14.ps
 h_15:FnAt P w K mg base k F 15 M15.x M15.ps
 h_16:FnAt P w K mg base k F 16 M16.x M16.ps
 h_17:FnAt P w K mg base k F 17 M17.x M17.ps
 h_18:FnAt P w K mg base k F 18 M18.x M18.ps
 h_19:FnAt P w K mg base k F 19 M19.x M19.ps
 h_20:FnAt P w K mg base k F 20 M20.x M20.ps
 h_21:FnAt P w K mg base k F 21 M21.x M21.ps
 h_22:FnAt P w K mg base k F 22 M22.x M22.ps
 h_23:FnAt P w K mg base k F 23 M23.x M23.ps
 h_24:FnAt P w K mg base k F 24 M24.x M24.ps
 h_25:FnAt P w K mg base k F 25 M25.x M25.ps
 h_26:FnAt P w K mg base k F 26 M26.x M26.ps
 h_27:FnAt P w K mg base k F 27 M27.x M27.ps
 h_28:FnAt P w K mg base k F 28 M28.x M28.ps
 h_29:FnAt P w K mg base k F 29 M29.x M29.ps
 h_30:FnAt P w K mg base k F 30 M30.x M30.ps
 h_31:FnAt P w K mg base k F 31 M31.x M31.ps
 x_12:FnAtX P w K mg base k F 12 M12.x M12.ps
 x_14:FnAtX P w K mg base k F 14 M14.x M14.ps
 x_16:FnAtX P w K mg base k F 16 M16.x M16.ps
 x_18:FnAtX P w K mg base k F 18 M18.x M18.ps
 x_19:FnAtX P w K mg base k F 19 M19.x M19.ps
noncomputable abbrev Rm(k:Nat)(A:Around)(s:Shared)(f c:Addr)(m:Df):Prop:=Room (k+2) (A.deeper (envOfC m.x (defScope (top m.i)) s.heap.objs.size f (.ref c)))
noncomputable abbrev Bq(m:Df):Prop:=∀{P:Program} {w:World} {K:07} {mg:Str->Option Value} {base:Heap} {k n:Nat} {F:Fs} {f c t:Addr} {A:Around} {outer:List Env} {s:Shared} {H:Hp} {E:XK},Pre K mg->K.In base->All P w K mg base k F->codeTab K c t=true->Rm k A s f c m->QSs (cxOf CX0 P w K mg base m.N m.x (defScope (top m.i)) f (.ref c) A outer s H E).nox (defBody (top m.i)) (TSm (exs F n m.b.body))
noncomputable abbrev Bx(m:Df):Prop:=∀{P:Program} {w:World} {K:07} {mg:Str->Option Value} {base:Heap} {k n:Nat} {F:Fs} {f c t:Addr} {A:Around} {outer:List Env} {s:Shared} {H:Hp} {E:XK},Pre K mg->K.In base->All P w K mg base k F->codeTab K c t=true->Rm k A s f c m->PSs (cxOf (CXR P w) P w K mg base m.N m.x (defScope (top m.i)) f (.ref c) A outer s H E) (defBody (top m.i)) (TSX (exs F n m.b.body) E)
def b_0:Bq M0:=λp b a tab c =>
 qe (qr (jf (zQ .int p.gb (qc 0)) (yw (qjJ (zQ .bool p.gb (qc 0)))))) qh
def b_1:Bq M1:=λp c a tab b =>
 qe (qr (jf (qi a.h_0 (m2 b) (qb (qc 0) qf)) (yw (qd7 .le .le b (qc 1) (qc 0) (qc 2))))) qh
def b_2:Bq M2:=λp b a tab c =>
 qe (qbu (qG (qc 1)) (qe (qg2 0 1 (qb (qc 1) (qb (qv .mod (qc 0) (qc 1)) qf))) qh)) (qe (qr (qc 0)) qh)
def b_3:Bq M3:=λp c a tab b =>
 qe (qz 2 (qi a.h_2 (m2 b) (qb (qmO p.gb (qb (qc 0) qf)) (qb (qc 1) qf)))) (qe (qr (qU (qb (qv .fdiv (qc 0) (qc 2)) (qb (qv .fdiv (qc 1) (qc 2)) qf)))) qh)
def b_4:Bq M4:=λp c a tab b =>
 qe (qr (qad .lt b (qv .mul (qw b (qc 0) qg) (qw b (qc 1) qg)) (qv .mul (qw b (qc 1) qg) (qw b (qc 0) qg)))) qh
def b_5:Bq M5:=λp c a tab b =>
 qe (z_if (Qpt (w_or (qQ (qG (zQ .tuple p.gb (qc 0)))) (yR (zr .ne b (qW p.gb (qb (qc 0) qf)) qg)))) (qe (qr qN) qh) qh) (qe (yy (qc 0) (zM (qC (qp 1) (qC (qp 2) zL)))) (qe (qr (jf (qi a.h_6 (m2 b) (qb (qc 1) qf)) (yw (qi a.h_7 (m2 b) (qb (qc 2) (qb (qW p.gb (qb (qc 1) qf)) qf)))))) qh))
def b_6:Bq M6:=λp c a tab b =>
 qe (z_if (Qpt (w_or (qQ (qG (zQ .tuple p.gb (qc 0)))) (yR (qQ (qbt .le .le b qg (qW p.gb (qb (qc 0) qf)) (qac (p.v1).choose_spec)))))) (qe (qr qN) qh) qh) (qe (qr (qaf [] [] ["one"] b p.gb rfl tab (zm (qc 0)) (λ_ _ _ _ _ _ _ _=>qp 0) (λ_ _ _ _ _ _ _ _=>qZ) (λ_ _ _ _ _ _ _ _=>qi a.h_1 (m1 (qK b)) (qb (qc 0) (qb qg (qb (qac (p.v0).choose_spec) qf)))))) qh)
def b_7:Bq M7:=λp c a tab b =>
 qe (z_if (Qpt (w_or (qQ (qG (zQ .tuple p.gb (qc 0)))) (yR (zr .gt b (qW p.gb (qb (qc 0) qf)) (qac (p.v3).choose_spec))))) (qe (qr qN) qh) qh) (qe (z_if (qQ (qG (qaf [1] ["many"] ["one"] b p.gb rfl tab (zm (qc 0)) (λ_ _ _ _ _ _ _ _=>qp 1) (λ_ _ _ _ _ _ _ _=>qZ) (λ_ _ _ _ _ _ _ _=>qi a.h_8 (m1 (qK b)) (qb (qc 1) (qb (qc 0) qf)))))) (qe (qr qN) qh) qh) (qe (qr (qi a.h_11 (m2 b) (qb (k_lc false [] [] ["places","heavy"] (zm (qc 0)) (λ_ _ _ _ _=>zM (qC (qp 0) (qC (qp 1) zL))) (λ_ _ _ _ _=>qZ) (λ_ _ _ _ _=>qc 0)) qf))) qh))
def b_8:Bq M8:=λp c a tab b =>
 qe (z_if (Qpt (w_or (qQ (qG (zQ .tuple p.gb (qc 0)))) (yR (zr .ne b (qW p.gb (qb (qc 0) qf)) qg)))) (qe (qr qN) qh) qh) (qe (yy (qc 0) (zM (qC (qp 2) (qC (qp 3) zL)))) (qe (qr (jf (qi a.h_9 (m2 b) (qb (qc 2) (qb (qc 1) qf))) (yw (qi a.h_1 (m2 b) (qb (qc 3) (qb qg (qb (qac (p.v4).choose_spec) qf))))))) qh))
def b_9:Bq M9:=λp c a tab b =>
 qe (qr (jf (qi a.h_10 (m2 b) (qb (qc 0) (qb (qc 1) qf))) (yw (qad .le b (qW p.gb (qb (qc 0) qf)) (qac (p.v2).choose_spec))))) qh
def b_10:Bq M10:=λp c a tab b =>
 qe (z_if (Qpt (w_or (qQ (qG (zQ .tuple p.gb (qc 0)))) (yR (qQ (qG (qc 0)))))) (qe (qr qN) qh) qh) (qe (qr (jf (qaf [1] ["many"] ["one"] b p.gb rfl tab (zm (qc 0)) (λ_ _ _ _ _ _ _ _=>qp 1) (λ_ _ _ _ _ _ _ _=>qZ) (λ_ _ _ _ _ _ _ _=>qi a.h_1 (m1 (qK b)) (qb (qc 1) (qb qg (qb (qv .sub (qc 0) qg) qf))))) (yw (qi a.h_11 (m2 b) (qb (qc 0) qf))))) qh)
def b_11:Bq M11:=λp c a tab b =>
 qe (qr (qaf [] [] ["one","other"] b p.gb rfl tab (qmM p.gb (qc 0) (ym (qc 0) (k_os qg) (k_on))) (λ_ _ _ _ _ _ _ _=>zM (qC (qp 0) (qC (qp 1) zL))) (λ_ _ _ _ _ _ _ _=>qZ) (λ_ _ _ _ _ _ _ _=>qad .lt (qK b) (qc 0) (qc 1)))) qh
def b_12:Bq M12:=λp c a tab b =>
 qe (z_if (qjQ (qQ (qG (qi a.h_5 (m2 b) (qb (qc 0) qf))))) (qe (qei) qh) qh) qh
def qm0:Bx M12:=λp b a tab c =>
 qH (x_if (qhg (qQ (qG (qi a.h_5 (m2 c) (qb (qc 0) qf))))) (qH (qeg isDef (qhl b p.v16 p.v29) ub rfl ub (qb zK qf) (λ_ _=>⟨_,rfl⟩) 01) (yj)) (yj)) (yj)
def b_13:Bq M13:=λp c a tab b =>
 qe (qr (qi a.h_1 (m2 b) (qb (qc 1) (qb qg (qb (qv .sub (qW p.gb (qb (qw b (qc 0) qg) qf)) qg) qf))))) qh
def b_14:Bq M14:=λp c a tab b =>
 qe (z_if (qjQ (qQ (qG (qi a.h_13 (m2 b) (qb (qc 0) (qb (qc 1) qf)))))) (qe (qei) qh) qh) qh
def qm1:Bx M14:=λp b a tab c =>
 qH (x_if (qhg (qQ (qG (qi a.h_13 (m2 c) (qb (qc 0) (qb (qc 1) qf)))))) (qH (qeg isDef (qhl b p.v11 p.v22) ub rfl ub (qb zK qf) (λ_ _=>⟨_,rfl⟩) 01) (yj)) (yj)) (yj)
def b_15:Bq M15:=λp c a tab b =>
 qe (qr (k_lc false [1] ["part"] ["tie"] (zm (qw b (qc 0) qg)) (λ_ _ _ _ _=>qp 1) (λ_ _ _ _ _=>qdk (qG (qaf [0] ["part"] ["place"] b p.gb rfl tab (zm (qw b (qc 1) qg)) (λ_ _ _ _ _ _ _ _=>qp 1) (λ_ _ _ _ _ _ _ _=>qZ) (λ_ _ _ _ _ _ _ _=>qad .inn (qK b) (qc 1) (qc 0)))) qZ) (λ_ _ _ _ _=>qc 1))) qh
def b_16:Bq M16:=λp c a tab b =>
 qe (yV (qi a.h_12 (m2 b) (qb (qc 0) qf))) (qe (yB (qz 1 (qw b (qc 0) qg))) (qe (yB (qz 2 (qdi true p.gb (qb (qW p.gb (qb (qc 1) qf)) qf)))) (qe (yB (qz 3 (zz true qf))) (qe (yB (yy (qU (qb (qU qf) (qb (qU (qb (qd6 qg) (qb qg qf))) qf))) (zM (qC (qp 4) (qC (qp 5) zL))))) (qe (yB 005) (qe (yB (qr (qU (qb (yi p.gb (qb (qc 3) qf)) (qb (qc 4) qf))))) qh))))))
def qm2:Bx M16:=λp c a tab b =>
 qH (x_expr (qai isDef a.x_12 (m2 b) (qb (qc 0) qf) (zV (yC)))) (qH (yA (qz 1 (qw b (qc 0) qg))) (qH (yA (qz 2 (qdi true p.gb (qb (qW p.gb (qb (qc 1) qf)) qf)))) (qH (yA (qz 3 (zz true qf))) (qH (yA (yy (qU (qb (qU qf) (qb (qU (qb (qd6 qg) (qb qg qf))) qf))) (zM (qC (qp 4) (qC (qp 5) zL))))) (qH (yA 005) (qH (yA (qr (qU (qb (yi p.gb (qb (qc 3) qf)) (qb (qc 4) qf))))) (yj)))))))
def b_17:Bq M17:=λp c a tab b =>
 qe (qhb 3 0 (qc 2) (λ_ _ _ _ _=>qk5 0) (λ_ _ _ _ _=>qk8 0)) (qe (yz (zm (qc 1)) (zM (qC (qp 5) (qC (qp 6) zL))) (qe (yz (zm (qc 5)) (qp 4) (qe (qk7 (m2 b) (qc 3) (qc 4) (qc 6)) qh)) qh)) (qe (qz 7 (qU (qb (qw b (qc 2) qg) (qb (qi a.h_3 (m2 b) (qb (qee b (qc 3) (qw b (qc 2) qg)) (qb (qw b (qc 0) (qw b (qc 2) qg)) qf))) qf)))) (qe (yz (zm (ym (qc 2) (k_os qg) (k_on))) (qp 4) (qe (qz 8 (qi a.h_3 (m2 b) (qb (qee b (qc 3) (qc 4)) (qb (qw b (qc 0) (qc 4)) qf)))) (qe (z_if (qG (qi a.h_4 (m2 b) (qb (qc 8) (qb (qw b (qc 7) qg) qf)))) (qe (qz 7 (qU (qb (qc 4) (qb (qc 8) qf)))) qh) qh) qh))) (qe (qr (qc 7)) qh))))
def b_18:Bq M18:=λp c a tab b =>
 qe (qmZ (yy (qi a.h_16 (m2 b) (qb (qc 0) qf)) (zM (qC (qp 1) (qC (qp 2) zL))))) (qe (yB (qz 3 (qjN))) (qe (yB (qz 4 (qU (qb qg (qb qg qf))))) (qe (yB (yz (zm (qc 1)) (zM (qC (qp 5) (qC (qp 6) zL))) (qe (z_if (qG (qi a.h_4 (m2 b) (qb (qc 4) (qb (qc 6) qf)))) (qe (qz 4 (qc 6)) qh) qh) (qe (yy (qc 4) (qd9 b (qc 3) (qc 5))) qh)))) (qe (yB (qr (jg [3] ["reached"] ["place"] b p.gb rfl tab (yx p.gb (qb (qW p.gb (qb (qc 1) qf)) qf)) (λ_ _ _ _ _ _ _ _=>qp 1) (λ_ _ _ _ _ _ _ _=>qZ) (λ_ _ _ _ _ _ _ _=>qee (qK b) (qc 0) (qc 1))))) qh))))
def qm3:Bx M18:=λp c a tab b =>
 qH (qmY (yy (qi a.h_16 (m2 b) (qb (qc 0) qf)) (zM (qC (qp 1) (qC (qp 2) zL)))) (qmX (q_of (qai isDef a.x_16 (m2 b) (qb (qc 0) qf) (zV (yC)))))) (qH (yA (qz 3 (qjN))) (qH (yA (qz 4 (qU (qb qg (qb qg qf))))) (qH (yA (yz (zm (qc 1)) (zM (qC (qp 5) (qC (qp 6) zL))) (qe (z_if (qG (qi a.h_4 (m2 b) (qb (qc 4) (qb (qc 6) qf)))) (qe (qz 4 (qc 6)) qh) qh) (qe (yy (qc 4) (qd9 b (qc 3) (qc 5))) qh)))) (qH (yA (qr (jg [3] ["reached"] ["place"] b p.gb rfl tab (yx p.gb (qb (qW p.gb (qb (qc 1) qf)) qf)) (λ_ _ _ _ _ _ _ _=>qp 1) (λ_ _ _ _ _ _ _ _=>qZ) (λ_ _ _ _ _ _ _ _=>qee (qK b) (qc 0) (qc 1))))) (yj)))))
def b_19:Bq M19:=λp c a tab b =>
 qe (yV (qi a.h_12 (m2 b) (qb (qc 0) qf))) (qe (yV (qi a.h_14 (m2 b) (qb (qc 0) (qb (qc 1) qf)))) (qe (qz 2 (qi a.h_18 (m2 b) (qb (qc 0) qf))) (qe (yB (qr (jg [2,1] ["told","place"] ["other"] b p.gb rfl tab (yx p.gb (qb (qW p.gb (qb (qc 2) qf)) qf)) (λ_ _ _ _ _ _ _ _=>qp 2) (λ_ _ _ _ _ _ _ _=>qdk (qQ (qG (qi a.h_4 (m1 (qK b)) (qb (qw (qK b) (qc 0) (qc 2)) (qb (qw (qK b) (qc 0) (qc 1)) qf))))) qZ) (λ_ _ _ _ _ _ _ _=>qc 2)))) qh)))
def qm4:Bx M19:=λp c a tab b =>
 qH (x_expr (qai isDef a.x_12 (m2 b) (qb (qc 0) qf) (zV (yC)))) (qH (x_expr (qai isDef a.x_14 (m2 b) (qb (qc 0) (qb (qc 1) qf)) (zV (zV (yC))))) (qH (x_set 2 (qai isDef a.x_18 (m2 b) (qb (qc 0) qf) (zV (yC)))) (qH (yA (qr (jg [2,1] ["told","place"] ["other"] b p.gb rfl tab (yx p.gb (qb (qW p.gb (qb (qc 2) qf)) qf)) (λ_ _ _ _ _ _ _ _=>qp 2) (λ_ _ _ _ _ _ _ _=>qdk (qQ (qG (qi a.h_4 (m1 (qK b)) (qb (qw (qK b) (qc 0) (qc 2)) (qb (qw (qK b) (qc 0) (qc 1)) qf))))) qZ) (λ_ _ _ _ _ _ _ _=>qc 2)))) (yj))))
def b_20:Bq M20:=λp b a tab c =>
 qe (qr (qv .mod (qv .mul (qv .mod (qc 0) (qv .pow qg qg)) qg) (qv .pow qg qg))) qh
def b_21:Bq M21:=λp c a tab b =>
 qe (qz 2 qg) (qe (yz (zm (zz false (qb (qv .add (qc 1) qg) (qb (qc 1) qf)))) (qp 3) (qe (qz 4 (qw b (qv .add (ym (qc 0) (k_os (qc 3)) (k_os (qv .add (qc 3) qg))) (zz false (qb (qv .add (qv .add (qv .mul qg (qc 3)) qg) (qv .mul qg (qw b (qv .add (qc 0) (zz false (qb qg qf))) qg))) qf))) qg)) (qe (qz 2 (qv .add (qv .mul (qc 2) (qv .pow qg qg)) (qi a.h_20 (m2 b) (qb (qc 4) qf)))) qh))) (qe (qr (zz true (qb (qc 2) qf))) qh))
def b_22:Bq M22:=λp c a tab b =>
 qe (yy (qg1 p.gb (qb (qw b (qc 0) qg) (qb (qc 1) qf))) (zM (qC (qd9 b (qc 0) qg) (qC (qp 2) zL)))) (qe (qr (qc 2)) qh)
def b_23:Bq M23:=λp c a tab b =>
 qe (qz 2 (qw b (zz false (qb qg (qb qg (qb qg (qb qg (qb qg (qb qg (qb qg (qb qg qf))))))))) (qi a.h_22 (m2 b) (qb (qc 0) (qb qg qf))))) (qe (qz 3 (qdi true p.gb (qb (qc 1) qf))) (qe (qea 4 false [3,0] ["_law_left","_law_pack_here"] ["_law_turn"] (yx p.gb (qb (qjM p.gb (qb (qc 2) (qb (qc 1) qf))) qf)) (λ_ _ _ _ _=>qp 2) (λ_ _ _ _ _=>qZ) (λ_ _ _ _ _=>qmL (qc 0) (qi a.h_22 (m2 b) (qb (qc 1) (qb (qW p.gb (qb (qc 0) qf)) qf))))) (qe (qr (yi p.gb (qb (qcr false p.gb (qb (qc 4) qf)) qf))) qh)))
def b_24:Bq M24:=λp c a tab b =>
 qe (qz 3 (qv .add qg (qi a.h_22 (m2 b) (qb (qc 0) (qb (qc 1) qf))))) (qe (qz 4 (qv .mul (zz false (qb qg qf)) (qc 3))) (qe (z_if (zr .eq b (qi a.h_22 (m2 b) (qb (qc 0) (qb qg qf))) qg) (qe (qea 4 false [0] ["_law_pack_here"] ["_law_place"] (yx p.gb (qb (qc 3) qf)) (λ_ _ _ _ _=>qp 1) (λ_ _ _ _ _=>qZ) (λ_ _ _ _ _=>qv .add qg (qi a.h_22 (m2 b) (qb (qc 0) (qb qg qf))))) qh) qh) (qe (qz 5 (qd8 true)) (qe (yz (yx p.gb (qb (qi a.h_22 (m2 b) (qb (qc 0) (qb (qv .add (qc 2) qg) qf))) qf)) (qp 6) (qe (qz 7 (qi a.h_23 (m2 b) (qb (qc 0) (qb (qc 3) qf)))) (qe (yy (qv .add qg (qi a.h_22 (m2 b) (qb (qc 0) (qb qg qf)))) (qd9 b (qc 5) (qc 7))) qh))) (qe (qr (qU (qb (yi p.gb (qb (qc 4) qf)) (qb (yi p.gb (qb (k_lc false [5] ["_law_known"] ["_law_some"] (zm (qcr false p.gb (qb (qc 5) qf))) (λ_ _ _ _ _=>qp 1) (λ_ _ _ _ _=>qZ) (λ_ _ _ _ _=>qU (qb (qc 1) (qb (qw b (qc 0) (qc 1)) qf)))) qf)) qf)))) qh)))))
def b_25:Bq M25:=λp c a tab b =>
 qe (qr (jf (zQ .int p.gb (qc 0)) (jf (qjJ (zQ .bool p.gb (qc 0))) (yw (qd7 .le .le b (qc 1) (qc 0) (qc 2)))))) qh
def b_26:Bq M26:=λp c a tab b =>
 qe (z_if (Qpt (w_or (qQ (qG (zQ .tuple p.gb (qc 0)))) (w_or (zr .ne b (qW p.gb (qb (qc 0) qf)) qg) (yR (qQ (qG (zQ .tuple p.gb (qw b (qc 0) qg)))))))) (qe (qr qN) qh) qh) (qe (z_if (Qpt (w_or (qQ (qbt .le .le b qg (qW p.gb (qb (qw b (qc 0) qg) qf)) qg)) (yR (qQ (qG (qcs p.gb (qb (k_lc false [1] ["_law_many"] ["_law_place"] (zm (qw b (qc 0) qg)) (λ_ _ _ _ _=>qp 1) (λ_ _ _ _ _=>qZ) (λ_ _ _ _ _=>qi a.h_25 (m2 b) (qb (qc 1) (qb qg (qb (qv .sub (qc 0) qg) qf))))) qf))))))) (qe (qr qN) qh) qh) (qe (qr (jf (qad .eq b (qdl false p.gb (qb (qw b (qc 0) qg) qf)) (qlc false p.gb (qb (qw b (qc 0) qg) qf))) (yw (qi a.h_25 (m2 b) (qb (qw b (qc 0) qg) (qb qg (qb (qv .pow qg qg) qf))))))) qh))
def b_27:Bq M27:=λp c a tab b =>
 qe (z_if (Qpt (w_or (qQ (qG (zQ .tuple p.gb (qc 0)))) (w_or (zr .ne b (qW p.gb (qb (qc 0) qf)) qg) (yR (qQ (qG (qcs p.gb (qb (k_lc false [] [] ["_law_one"] (zm (qc 0)) (λ_ _ _ _ _=>qp 0) (λ_ _ _ _ _=>qZ) (λ_ _ _ _ _=>zQ .tuple p.gb (qc 0))) qf)))))))) (qe (qr qN) qh) qh) (qe (yy (qc 0) (zM (qC (qp 1) (qC (qp 2) zL)))) (qe (z_if (Qpt (w_or (qQ (qbt .le .le b qg (qW p.gb (qb (qc 1) qf)) qg)) (w_or (qQ (qG (qcs p.gb (qb (k_lc false [] [] ["_law_one"] (zm (qc 1)) (λ_ _ _ _ _=>qp 0) (λ_ _ _ _ _=>qZ) (λ_ _ _ _ _=>qi a.h_25 (m2 b) (qb (qc 0) (qb qg (qb qg qf))))) qf)))) (yR (zr .gt b (qW p.gb (qb (qc 2) qf)) qg))))) (qe (qr qN) qh) qh) (qe (z_if (qQ (qG (qcs p.gb (qb (k_lc false [1] ["_law_costs"] ["_law_tie"] (zm (qc 2)) (λ_ _ _ _ _=>qp 1) (λ_ _ _ _ _=>qZ) (λ_ _ _ _ _=>qi a.h_26 (m2 b) (qb (qc 1) (qb (qW p.gb (qb (qc 0) qf)) qf)))) qf)))) (qe (qr qN) qh) qh) (qe (qr (qcs p.gb (qb (k_lc false [2] ["_law_ties"] ["_law_k"] (yx p.gb (qb (qv .sub (qW p.gb (qb (qc 2) qf)) qg) qf)) (λ_ _ _ _ _=>qp 1) (λ_ _ _ _ _=>qZ) (λ_ _ _ _ _=>qad .lt b (qw b (qw b (qc 0) (qc 1)) qg) (qw b (qw b (qc 0) (qv .add (qc 1) qg)) qg))) qf))) qh))))
def b_28:Bq M28:=λp c a tab b =>
 qe (z_if (Qpt (w_or (zr .eq b (qc 2) qg) (w_or (qQ (qG (zQ .tuple p.gb (qc 1)))) (w_or (zr .eq b (qc 1) (qU qf)) (yR (zr .eq b (qi a.h_22 (m2 b) (qb (qc 0) (qb qg qf))) qg)))))) (qe (qz 3 (zz false (qb qdh (qb qN (qb (qd6 qg) (qb qg (qb qg (qb (qv .add (qv .pow qg qg) qg) (qb zK (qb (zz false qf) (qb (qU qf) (qb (qd8 false) (qb (qU (qb (qc 1) qf)) (qb (zz false (qb (qc 1) qf)) (qb qg (qb qg (qb qN qf))))))))))))))))) (qe (qr (qw b (qc 3) (qi a.h_22 (m2 b) (qb (qc 0) (qb qg qf))))) qh)) qh) (qe (qz 4 (qi a.h_22 (m2 b) (qb (qc 0) (qb (qW p.gb (qb (qc 1) qf)) qf)))) (qe (qz 5 (qi a.h_22 (m2 b) (qb (qc 0) (qb qg qf)))) (qe (z_if (zr .eq b (qc 5) qg) (qe (qr (qv .add (ym (qc 1) (k_on) (k_os (qc 4))) (ym (qc 1) (k_os (qv .add (qc 4) qg)) (k_on)))) qh) qh) (qe (z_if (zr .eq b (qc 5) qg) (qe (qr (qv .add (qv .add (ym (qc 1) (k_on) (k_os (qc 4))) (ym (qc 1) (k_os (qc 4)) (k_os (qv .add (qc 4) qg)))) (ym (qc 1) (k_os (qc 4)) (k_on)))) qh) qh) (qe (z_if (zr .eq b (qc 5) qg) (qe (qr (qv .add (ym (qc 1) (k_os (qc 4)) (k_on)) (ym (qc 1) (k_on) (k_os (qc 4))))) qh) qh) (qe (qr (qv .add (qv .add (ym (qc 1) (k_on) (k_os (qc 4))) (qU (qb (qi a.h_28 (m2 b) (qb (qc 0) (qb (qw b (qc 1) (qc 4)) (qb (qv .sub (qc 2) qg) qf)))) qf))) (ym (qc 1) (k_os (qv .add (qc 4) qg)) (k_on)))) qh))))))
def b_29:Bq M29:=λp c a tab b =>
 qe (qz 3 zK) (qe (qmV (t:=[(84,true),(72,true)]) 4 p.v17 (qah c p.v21) (qmW (ze (λ_=>⟨_,qah c p.v19,by decide +kernel⟩) (ze (λ_=>⟨_,qah c p.v20,by decide +kernel⟩) (jB)))) (qcx (y_if (zr .eq b (qc 0) qg) (qcx (qdp a.x_16 (m2 b) (qb (qc 1) qf) (zV (yC)))) (qcx (y_if (zr .eq b (qc 0) qg) (qcx (qdp a.x_18 (m2 b) (qb (qc 1) qf) (zV (yC)))) (qcx (qdp a.x_19 (m2 b) (qb (qc 1) (qb (qc 2) qf)) (zV (zV (yC))))))))) (λ_ _ _=>qe (qz 5 (qlj [(84,false),(72,false)] [152,216,236,96,108,176,128,140,196] p.gb (zE p.v5 (zE p.v6 (zE p.v7 (zE p.v8 (zE p.v9 (zE p.v10 (zE p.v12 (zE p.v13 (zE p.v14 (qli)))))))))) 01 (ze ⟨p.v23,p.v24⟩ (ze ⟨p.v30,p.v31⟩ (jB))) (qc 4))) (qe (qz 5 (k_or (qc 5) (qmK (qhk [(84,false),(72,false)] p.gb p.v15 (ze ⟨p.v23,p.v26⟩ (ze ⟨p.v30,p.v33⟩ (jB))) (qc 4))))) (qe (qz 3 zK) (qe (z_if (Qpt (qgX (qG (qlg [(84,true),(72,true)] p.gb p.v18 (by decide +kernel) (ze ⟨p.v23,p.v28⟩ (ze ⟨p.v30,p.v35⟩ (jB))) (qc 4))) (qdj (qQ (qG (qc 5)))))) (qe (qz 3 (qll (zz false (qb zK (qb zK (qb zK (qb zK qf))))) (qv .add (qg3 p.gb (qb (qhk [(84,false),(72,true)] p.gb p.v16 (ze ⟨p.v23,p.v27⟩ (ze ⟨p.v30,p.v34⟩ (jB))) (qc 4)) qf)) (qv .mul qg (qg3 p.gb (qb (qhk [(84,true),(72,false)] p.gb p.v11 (ze ⟨p.v23,p.v25⟩ (ze ⟨p.v30,p.v32⟩ (jB))) (qc 4)) qf)))))) qh) qh) qh))))) (qe (qr (qc 3)) qh))
def b_30:Bq M30:=λp c a tab b =>
 qe (qz 2 (qU (qb (qi a.h_16 (m2 b) (qb (qc 0) qf)) (qb (qi a.h_18 (m2 b) (qb (qc 0) qf)) qf)))) (qe (qz 3 (qW p.gb (qb (qw b (qc 0) qg) qf))) (qe (qz 4 (zz false (qb (qd6 qg) (qb (qc 3) (qb qdh (qb qN (qb qN (qb zK (qb (qU (qb qg qf)) (qb (zz false (qb qg qf)) (qb (qU qf) (qb (qd8 false) (qb (qv .pow qg qg) qf))))))))))))) (qe (yz (yx p.gb (qb qg qf)) (qp 5) (qe (qz 6 (qw b (qc 4) (qi a.h_22 (m2 b) (qb (qc 1) (qb qg qf))))) (qe (z_if (zr .ne b (qi a.h_29 (m2 b) (qb qg (qb (qc 0) (qb (qc 6) qf)))) zK) (qe (qr qN) qh) qh) (qe (qz 7 (qi a.h_28 (m2 b) (qb (qc 1) (qb (qc 0) (qb qg qf))))) (qe (qz 8 (qi a.h_27 (m2 b) (qb (qc 7) qf))) (qe (yz (yx p.gb (qb qg qf)) (qp 9) (qe (z_if (Qpt (qgX (qQ (qG (qc 8))) (qdj (zr .ne b (qi a.h_29 (m2 b) (qb (qc 9) (qb (qc 7) (qb (qw b (zz false (qb qg (qb (qc 6) qf))) (qi a.h_22 (m2 b) (qb (qc 1) (qb qg qf)))) qf)))) zK)))) (qe (qr qN) qh) qh) (qe (z_if (Qpt (qgX (qG (qc 8)) (qdj (zr .ne b (qi a.h_29 (m2 b) (qb (qc 9) (qb (qc 7) (qb qg qf)))) zK)))) (qe (qr qN) qh) qh) qh))) qh)))))) (qe (yz (zm (zz false (qb qdh (qb qg (qb zK (qb (zz false qf) (qb (qd8 false) (qb (qdl false p.gb (qb (qc 0) qf)) (qb (qU (qb (qdl false p.gb (qb (qw b (qc 0) qg) qf)) (qb (qw b (qc 0) qg) qf))) (qb (qU (qb (qv .mul (qw b (qc 0) qg) qg) (qb (qw b (qc 0) qg) qf))) qf)))))))))) (qp 7) (qe (z_if (zr .ne b (qi a.h_29 (m2 b) (qb (qi a.h_22 (m2 b) (qb (qc 1) (qb qg qf))) (qb (qc 7) (qb qg qf)))) zK) (qe (qr qN) qh) qh) qh)) (qe (qr (qad .eq b (qU (qb (qi a.h_16 (m2 b) (qb (qc 0) qf)) (qb (qi a.h_18 (m2 b) (qb (qc 0) qf)) qf))) (qc 2))) qh)))))
def b_31:Bq M31:=λp c a tab b =>
 qe (yz (yx p.gb (qb qg (qb (qmN p.gb (qb qg (qb (qjM p.gb (qb (qW p.gb (qb (qc 0) qf)) (qb qg qf))) qf))) (qb qg qf)))) (qp 1) (qe (z_if (qQ (qG (qi a.h_30 (m2 b) (qb (qi a.h_24 (m2 b) (qb (qi a.h_21 (m2 b) (qb (qc 0) (qb (qc 1) qf))) (qb qg (qb qg qf)))) (qb (qi a.h_21 (m2 b) (qb (qc 0) (qb (qv .add (qc 1) qg) qf))) qf))))) (qe (qr qN) qh) qh) qh)) (qe (qr qN) qh)
section
variable{P:Program}{w:World}{K:PySem.W.Frag}{mg:Str->Option Value}{base:Heap}{k N d:Nat}{i:Nat}{m:Df}
theorem oz(u:Uq K mg m)(a:run prg N 0 i=λ_ _=>.no:=by rfl):FnAt P w K mg base 0 (run prg N 0) i m.x m.ps:=u.fn λ_ _ _ _ _=>qmQ a
variable(p:Pre K mg)(kb:K.In base)(a:All P w K mg base k (run prg N d))
include p kb a
theorem og(U:FunT K m.x (top m.i) f fd c t)(b:Bq m)(S:FnScope m.N m.ps (defScope (top m.i)))(e:m.ps.length=m.b.np)(hn:m.N.length=m.b.nn)(h:m.b.np<=m.b.nn)(j:run prg N (d+1) i=callC (run prg N d) N m.b):FnOk P w K mg base CX0 (k+3) f fd m.ps (SpD m.ps.length (run prg N (d+1) i)):=qmP (G:=run prg N (d+1)) (i:=i) U S e hn h j λA outer s H E l=>b p kb a U.tab l
theorem oq(u:Uq K mg m)(b:Bq m)(S:FnScope m.N m.ps (defScope (top m.i)):=by exact⟨rfl,rfl,rfl,by decide +kernel,rfl,by decide +kernel,by decide +kernel⟩)(c:m.ps.length=m.b.np:=by rfl)(hn:m.N.length=m.b.nn:=by rfl)(e:m.b.np<=m.b.nn:=by decide)(f:run prg N (d+1) i=callC (run prg N d) N m.b:=by rfl):FnAt P w K mg base (k+3) (run prg N (d+1)) i m.x m.ps:=u.fn λ_ _ _ _ U=>og p kb a U b S c hn e f
theorem oqX(u:Uq K mg m)(b:Bx m)(S:FnScope m.N m.ps (defScope (top m.i)):=by exact⟨rfl,rfl,rfl,by decide +kernel,rfl,by decide +kernel,by decide +kernel⟩)(c:m.ps.length=m.b.np:=by rfl)(hn:m.N.length=m.b.nn:=by rfl)(e:m.b.np<=m.b.nn:=by decide)(f:run prg N (d+1) i=callC (run prg N d) N m.b:=by rfl):FnAtX P w K mg base (k+3) (run prg N (d+1)) i m.x m.ps:=R.EX.DefIn.fnX u λ_ _ _ _ U=>qle (G:=run prg N (d+1)) (i:=i) U S c hn e f λA outer s H E h=>b p kb a U.tab h
omit p kb a
theorem ozX(u:Uq K mg m)(b:run prg N 0 i=λ_ _=>.no:=by rfl):FnAtX P w K mg base 0 (run prg N 0) i m.x m.ps:=R.EX.DefIn.fnX u λ_ _ _ _ _=>qlf b
include p kb a
theorem qhm:All P w K mg base (k+3) (run prg N (d+1)):=⟨oq p kb a p.u_0 b_0,oq p kb a p.u_1 b_1,oq p kb a p.u_2 b_2,oq p kb a p.u_3 b_3,oq p kb a p.u_4 b_4,oq p kb a p.u_5 b_5,oq p kb a p.u_6 b_6,oq p kb a p.u_7 b_7,oq p kb a p.u_8 b_8,oq p kb a p.u_9 b_9,oq p kb a p.u_10 b_10,oq p kb a p.u_11 b_11,oq p kb a p.u_12 b_12,oq p kb a p.u_13 b_13,oq p kb a p.u_14 b_14,oq p kb a p.u_15 b_15,oq p kb a p.u_16 b_16,oq p kb a p.u_17 b_17,oq p kb a p.u_18 b_18,oq p kb a p.u_19 b_19,oq p kb a p.u_20 b_20,oq p kb a p.u_21 b_21,oq p kb a p.u_22 b_22,oq p kb a p.u_23 b_23,oq p kb a p.u_24 b_24,oq p kb a p.u_25 b_25,oq p kb a p.u_26 b_26,oq p kb a p.u_27 b_27,oq p kb a p.u_28 b_28,oq p kb a p.u_29 b_29,oq p kb a p.u_30 b_30,oq p kb a p.u_31 b_31,oqX p kb a p.u_12 qm0,oqX p kb a p.u_14 qm1,oqX p kb a p.u_16 qm2,oqX p kb a p.u_18 qm3,oqX p kb a p.u_19 qm4⟩
omit kb a
theorem qhn:All P w K mg base 0 (run prg N 0):=⟨oz p.u_0,oz p.u_1,oz p.u_2,oz p.u_3,oz p.u_4,oz p.u_5,oz p.u_6,oz p.u_7,oz p.u_8,oz p.u_9,oz p.u_10,oz p.u_11,oz p.u_12,oz p.u_13,oz p.u_14,oz p.u_15,oz p.u_16,oz p.u_17,oz p.u_18,oz p.u_19,oz p.u_20,oz p.u_21,oz p.u_22,oz p.u_23,oz p.u_24,oz p.u_25,oz p.u_26,oz p.u_27,oz p.u_28,oz p.u_29,oz p.u_30,oz p.u_31,ozX p.u_12,ozX p.u_14,ozX p.u_16,ozX p.u_18,ozX p.u_19⟩
omit p
theorem qho(p:Pre K mg)(kb:K.In base):∀d:Nat,All P w K mg base (3*d) (run prg N d)
 |0=>qhn p
 |d+1=>qhm p kb (qho p kb d)
include p kb a
theorem o_law(U:FunT K M31.x (top M31.i) f fd c t):FnOk P w K mg base CX0 (k+3) f fd M31.ps (SpD M31.ps.length (run prg N (d+1) 31)):=og p kb a U b_31 ⟨rfl,rfl,rfl,by decide +kernel,rfl,by decide +kernel,by decide +kernel⟩ rfl rfl 01 rfl
end
end RP
namespace RP
open R
section
variable{α:Type}{g:α->D}
theorem qbx{n:Nat}{bind:D->En->Sr->Res En}{test:En->Sr->Res Bool}{elt:En->Sr->Res D}{b:α->Bool}{v:α->D}(R:En->Prop){S:Sr}(hn:S.length=n):∀(ds:List α) (a:List D) (ρ:En),a.length+ds.length<=PySem.sizeLine->R ρ ->
  (∀d∈ds,∀(ρ:En) (m:List D),R ρ->∃ρ1,bind (g d) ρ (S++[.l m])=.ok ρ1 (S++[.l m])/\R ρ1/\test ρ1 (S++[.l m])=.ok (b d) (S++[.l m])/\(b d=true->elt ρ1 (S++[.l m])=.ok (v d) (S++[.l m])/\refsLt 0 (v d)=true)) ->
  ∃c,lcLoop n bind test elt (ds.map g) ρ (S++[.l a])=.ok c (S++[.l (a++(ds.filter b).map v)])
 |[],a,ρ,_,_,_=>⟨ρ,by simp[lcLoop]⟩
 |d::ds,a,ρ,hl,hR,H=>by
  obtain⟨ρ1,e1,f,i,j⟩:=H d wL ρ a hR;simp only[w8]at hl;rw[wS];unfold lcLoop;rw[e1,Res.bind_ok,i,Res.bind_ok];cases z:b d with
  |true =>
   obtain⟨l,o⟩:=j z;have p:appD (S++[.l a]) (.ref n) (v d)=.ok .non (S++[.l (a++[v d])]):=by
    subst hn;have h:a.length<PySem.sizeLine:=by lia
    simp[appD,o,h]
   rw[wM rfl,l,Res.bind_ok,p,Res.bind_ok];obtain⟨c,e⟩:=qbx R hn ds (a++[v d]) ρ1 (by simp;lia) f λd' hd=>H d' (wO _ hd)
   exact⟨c,by rw[e];simp[z]⟩
  |false =>
   rw[wN 02];obtain⟨c,e⟩:=qbx R hn ds a ρ1 00 f λd' hd=>H d' (wO _ hd)
   exact⟨c,by rw[e];simp[z]⟩
theorem jF{nt:Nat}(xs:List α)(b:α->Bool)(v:α->D)(R:En->Prop)(a:evI F it ρ S=.ok ds S1)(hd:ds=xs.map g)(c:R (frE ρ fr nt))(f:xs.length<=PySem.sizeLine)(H:∀d∈xs,∀(ρ:En) (m:List D),R ρ->∃ρ1,asg F tg (g d) ρ (S1++[.l m])=.ok ρ1 (S1++[.l m])/\R ρ1/\tsts F ifs ρ1 (S1++[.l m])=.ok (b d) (S1++[.l m])/\(b d=true->ev F elt ρ1 (S1++[.l m])=.ok (v d) (S1++[.l m])/\refsLt 0 (v d)=true)):
  ev F (.lc false fr nt elt tg it ifs) ρ S=.ok (.l ((xs.filter b).map v)) S1:=by
 obtain⟨h,e⟩:=qbx (n:=S1.length) (bind:=λd ρ S=>asg F tg d ρ S) (test:=λρ S=>tsts F ifs ρ S) (elt:=λρ S=>ev F elt ρ S) R rfl xs [] _ (by simpa using f) c H;simp only[ev,a,Res.bind,hd,e,lcEnd];simp
theorem qej{bind:D->En->Sr->Res En}{test:En->Sr->Res Bool}{elt:En->Sr->Res D}{p:α->Bool}(R:En->Prop){S:Sr}:∀(ds:List α) (ρ:En),R ρ ->
  (∀d∈ds,∀ρ:En,R ρ->∃ρ1,bind (g d) ρ S=.ok ρ1 S/\R ρ1/\test ρ1 S=.ok true S/\elt ρ1 S=.ok (.bl (p d)) S) ->
  genLoop bind test elt (stepG .all) (finG .all) (ds.map g) ρ .non S=.ok (.bl (ds.all p)) S
 |[],ρ,_,_=>by simp[genLoop,finG]
 |d::ds,ρ,hR,H=>by
  obtain⟨ρ1,e1,a,b,c⟩:=H d wL ρ hR;rw[wS];unfold genLoop;rw[e1,Res.bind_ok,b,Res.bind_ok,wM rfl,c,Res.bind_ok];cases z:p d with
  |true=>simp only[stepG];rw[qej R ds ρ1 a λd' hd=>H d' (wO _ hd)];simp[z]
  |false=>simp[stepG,z]
theorem yK{nt:Nat}(xs:List α)(p:α->Bool)(R:En->Prop)(e:evI F it ρ S=.ok ds S1)(hd:ds=xs.map g)(f:R (frE ρ fr nt))(H:∀d∈xs,∀ρ:En,R ρ->∃ρ1,asg F tg (g d) ρ S1=.ok ρ1 S1/\R ρ1/\ev F elt ρ1 S1=.ok (.bl (p d)) S1):
  ev F (.gen .all fr nt elt tg it .nil) ρ S=.ok (.bl (xs.all p)) S1:=by
 simp only[ev,e,Res.bind,hd,startG];exact qej R xs _ f λd hd ρ h=>let ⟨ρ1,a,b,c⟩:=H d hd ρ h;⟨ρ1,a,b,rfl,c⟩
theorem qby{bind:D->En->Sr->Res En}{test:En->Sr->Res Bool}{elt:En->Sr->Res D}{b:α->Bool}{v:α->Int}(R:En->Prop){S:Sr}:∀(ds:List α) (ρ:En) (a:Int),R ρ ->
  (∀d∈ds,∀ρ:En,R ρ->∃ρ1,bind (g d) ρ S=.ok ρ1 S/\R ρ1/\test ρ1 S=.ok (b d) S/\(b d=true->elt ρ1 S=.ok (.int (v d)) S)) ->
  genLoop bind test elt (stepG .sum) (finG .sum) (ds.map g) ρ (.int a) S=.ok (.int (a+((ds.filter b).map v).sum)) S
 |[],ρ,a,_,_=>by simp[genLoop,finG]
 |d::ds,ρ,a,hR,H=>by
  obtain⟨ρ1,e1,c,e,f⟩:=H d wL ρ hR;rw[wS];unfold genLoop;rw[e1,Res.bind_ok,e,Res.bind_ok];cases z:b d with
  |true =>
   rw[wM rfl,f z,Res.bind_ok];simp only[stepG];rw[qby R ds ρ1 _ c λd' hd=>H d' (wO _ hd)];simp[z,Int.add_assoc]
  |false =>
   rw[wN 02,qby R ds ρ1 _ c λd' hd=>H d' (wO _ hd)];simp[z]
theorem qjc{nt:Nat}(xs:List α)(b:α->Bool)(v:α->Int)(R:En->Prop)(a:evI F it ρ S=.ok ds S1)(hd:ds=xs.map g)(c:R (frE ρ fr nt))(H:∀d∈xs,∀ρ:En,R ρ->∃ρ1,asg F tg (g d) ρ S1=.ok ρ1 S1/\R ρ1/\tsts F ifs ρ1 S1=.ok (b d) S1/\(b d=true->ev F elt ρ1 S1=.ok (.int (v d)) S1)):
  ev F (.gen .sum fr nt elt tg it ifs) ρ S=.ok (.int ((xs.filter b).map v).sum) S1:=by
 simp only[ev,a,Res.bind,hd,startG];rw[qby R xs _ 0 c H];simp
end
noncomputable abbrev Tie:=List Int×Int
noncomputable def tieD(t:Tie):D:=.t [tupI t.1,.int t.2]
structure Wb where
 costs:List Int
 ties:List Tie
noncomputable def webD(w:Wb):D:=.t [tupI w.costs,.t (w.ties.map tieD)]
structure PlOk (n:Nat) (p:03):Prop where
 ne:p≠[]
 rng:∀x∈p,0<=x/\x<n
 up:p.Pairwise (· < ·)
structure WbOk (w:Wb):Prop where
 c1:1<=w.costs.length
 c2:w.costs.length<=12
 c3:∀c∈w.costs,1<=c/\c<=100
 t1:w.ties.length<=30
 t2:∀t∈w.ties,PlOk w.costs.length t.1/\t.1.length<=4/\1<=t.2/\t.2<=1000000
 t3:(w.ties.map (·.1)).Pairwise λa b=>HT.lexLt a b=true
def qE:∀l:List Int,intsOf (l.map .int)=some l
 |[]=>rfl
 |a::r=>by simp[intsOf,qE r]
def qdq:∀{l:03},l.Pairwise (· < ·)->(l.zip (l.drop 1)).all (λp=>decide (p.1<p.2))=true
 |[],_=>rfl
 |[a],_=>rfl
 |a::b::r,h=>by
  have c:=wq.mp h;have:=qdq c.2;simp only[uS,uf,vm,va,wK,w6]at this ⊢;exact⟨c.1 b wL,this⟩
def qek:∀{l:List (List Int)},l.Pairwise (λa b=>HT.lexLt a b=true)->(l.zip (l.drop 1)).all (λp=>HT.lexLt p.1 p.2)=true
 |[],_=>rfl
 |[a],_=>rfl
 |a::b::r,h=>by
  have c:=wq.mp h;have:=qek c.2;simp only[uS,uf,vm,va,wK]at this ⊢;exact⟨c.1 b wL,this⟩
def cut1(l:List D):cutD l (some 1) none=l.drop 1:=by
 unfold cutD HT.sIx;cases l with
 |nil=>rfl
 |cons a r =>
  have:min (1:Int).toNat (a::r).length=1:=by simp
  simp only[this];rw[wN 00];simp
section
variable{F:Fs}{N:Nat}{ρ ρ1:En}{S S1 S2:Sr}{r a b:CSs}{e e1 e2:CE}{t:CT}{c:CB}{X:Res Fl}{d d1 d2:D}
theorem qm(h:ev F e ρ S=.ok d S1):exs F N (.c (.ret e) r) ρ S=.ok (.rt d) S1:=by simp[exs,ex,h,Res.bind]
theorem qI:exs F N .nil ρ S=.ok (.nx ρ) S:=by simp[exs]
theorem x_set(h:ev F e ρ S=.ok d S1)(f:asg F t d ρ S1=.ok ρ1 S2)(i:exs F N r ρ1 S2=X):exs F N (.c (.set t e) r) ρ S=X:=by simp[exs,ex,h,f,i,Res.bind]
theorem x_expr(h:ev F e ρ S=.ok d S1)(f:exs F N r ρ S1=X):exs F N (.c (.expr e) r) ρ S=X:=by simp[exs,ex,h,f,Res.bind]
theorem x_no(h:tst F c ρ S=.ok false S1)(f:exs F N r ρ S1=X):exs F N (.c (.ifs c a .nil) r) ρ S=X:=by simp[exs,ex,h,f,Res.bind]
theorem qO(h:tst F c ρ S=.ok true S1)(f:exs F N a ρ S1=.ok (.rt d) S2):exs F N (.c (.ifs c a b) r) ρ S=.ok (.rt d) S2:=by simp[exs,ex,h,f,Res.bind]
theorem yW(h:tst F c ρ S=.ok true S1)(f:exs F N a ρ S1=.ok (.nx ρ1) S2)(i:exs F N r ρ1 S2=X):exs F N (.c (.ifs c a b) r) ρ S=X:=by simp[exs,ex,h,f,i,Res.bind]
theorem qaj(h:evI F it ρ S=.ok ds S1)(f:forLoop (λd ρ S=>(asg F t d ρ S).bind λρ1 S1=>exs F N a ρ1 S1) ds ρ S1=.ok (.nx ρ1) S2)(i:exs F N r ρ1 S2=X):exs F N (.c (.forS t it a) r) ρ S=X:=by
 simp only[exs,ex,h,Res.bind]at f ⊢;rw[f];exact i
theorem qo{f:CF}{l:List D}(i:l.length=f.np)(h:exs F N f.body (l.map some++List.replicate (f.nn-f.np) none) S=.ok (.rt d) S):callC F N f l S=.ok d S:=by
 simp only[callC,i,wM,h,Res.bind,leave];cases f.keeps <;> simp
theorem qel{f:CF}{l:List D}(i:l.length=f.np)(h:exs F N f.body (l.map some++List.replicate (f.nn-f.np) none) S=.ok (.nx ρ) S):callC F N f l S=.ok .non S:=by
 simp only[callC,i,wM,h,Res.bind,leave];cases f.keeps <;> simp
theorem qaX{f:CF}{l:List D}(j:l.length=f.np)(m:f.keeps=false)(h:exs F N f.body (l.map some++List.replicate (f.nn-f.np) none) S=.ok (.rt d) (S1++S2))(i:S1.length=S.length)(n:refsLt S.length d=true):callC F N f l S=.ok d S1:=by
 simp only[callC,j,wM,h,Res.bind,leave,m];rw[wN 02];split
 .rename_i z
  have:S2=[]:=by
   rw[wm,i]at z;exact vC.mp 00
  rw[this,uP]
 .rw [<-i];simp
theorem qlm{f:CF}{l:List D}(i:l.length=f.np)(j:f.keeps=true)(h:exs F N f.body (l.map some++List.replicate (f.nn-f.np) none) S=.ok (.rt d) S1):callC F N f l S=.ok d S1:=by
 simp only[callC,i,wM,h,Res.bind,leave,j]
theorem qcz(h:ev F e1 ρ S=.ok (.bl x) S)(f:ev F e2 ρ S=.ok (.bl y) S):ev F (.and e1 e2) ρ S=.ok (.bl (x&&y)) S:=by
 cases x <;> simp[ev,h,f,Res.bind]
theorem qj{i:Nat}(h:evs F es ρ S=.ok l S1)(f:F i l S1=.ok d S2):ev F (.call i es) ρ S=.ok d S2:=by simp[ev,h,f,Res.bind]
theorem qu(h:evs F es ρ S=.ok l S1)(f:bltD i l S1=.ok d S2):ev F (.blt i es) ρ S=.ok d S2:=by simp[ev,h,f,Res.bind]
theorem qd(h:ev F e ρ S=.ok d S1)(f:evs F es ρ S1=.ok l S2):evs F (.cons e es) ρ S=.ok (d::l) S2:=by simp[evs,h,f,Res.bind]
theorem qB(h:ev F e1 ρ S=.ok d1 S1)(f:ev F e2 ρ S1=.ok d2 S2)(i:binD o d1 d2 S2=some d):ev F (.bin o e1 e2) ρ S=.ok d S2:=by simp[ev,h,f,i,Res.bind]
theorem qV(h:ev F e1 ρ S=.ok d1 S1)(f:ev F e2 ρ S1=.ok d2 S2)(i:cmpD o d1 d2 S2=some x):ev F (.cmp o e1 e2) ρ S=.ok (.bl x) S2:=by simp[ev,h,f,i,Res.bind]
theorem qD(h:ev F e1 ρ S=.ok d1 S1)(f:ev F e2 ρ S1=.ok d2 S2)(i:idxD S2 d1 d2=some d):ev F (.idx e1 e2) ρ S=.ok d S2:=by simp[ev,h,f,i,Res.bind]
theorem zd(h:evs F es ρ S=.ok l S1)(f:l.length<=PySem.sizeLine):ev F (.t es) ρ S=.ok (.t l) S1:=by simp[ev,h,f,Res.bind]
theorem t_of(h:ev F e ρ S=.ok (.bl x) S1):tst F (.val e) ρ S=.ok x S1:=by simp[tst,h,Res.bind,truD]
theorem t_no(h:tst F c ρ S=.ok x S1):tst F (.not c) ρ S=.ok (!x) S1:=by simp[tst,h,Res.bind]
theorem qm5(h:tst F c ρ S=.ok x S)(f:x=true->tst F c2 ρ S=.ok y S):tst F (.and c c2) ρ S=.ok (x&&y) S:=by
 cases x <;> simp[tst,h,f,Res.bind]
theorem qhp(h:tst F c ρ S=.ok x S):tsts F (.cons c .nil) ρ S=.ok x S:=by
 cases x <;> simp[tsts,h,Res.bind]
end
def zb{a:Type}(l:List a):l.filter (λ_=>true)=l:=List.filter_eq_self.mpr λ_ _=>rfl
def qhq{a:Type}(f:a->D)(p:List a):((p.map f).zip ((p.drop 1).map f)).map (λq=>D.t [q.1,q.2])=(p.zip (p.drop 1)).map λq=>.t [f q.1,f q.2]:=by
 rw[List.zip_map,vH];rfl
def refsI(k:Nat):∀l:List Int,refsLts k (l.map .int)=true
 |[]=>rfl
 |a::r=>by rw[wS,refsLts,refsI k r];rfl
def yd(k:Nat)(l:03):refsLt k (tupI l)=true:=refsI k l
def yD(k:Nat)(t:Tie):refsLt k (tieD t)=true:=by
 show(refsLt k (tupI t.1)&&(refsLt k (.int t.2)&&true))=true;rw[yd];rfl
def qaY(k:Nat):∀l:List Tie,refsLts k (l.map tieD)=true
 |[]=>rfl
 |a::r=>by rw[wS,refsLts,qaY k r,yD];rfl
def qhr(k:Nat)(w:Wb):refsLt k (webD w)=true:=by
 show(refsLt k (tupI w.costs)&&(refsLts k (w.ties.map tieD)&&true))=true;rw[yd,qaY];rfl
def ji(l:03)(S:Sr):bltD .len [tupI l] S=.ok (.int l.length) S:=by simp[bltD,one,bLen,lenD,tupI]
noncomputable def subB(a p:03):Bool:=a.all λx=>p.contains x
noncomputable def tin(w:Wb)(p:03):List Tie:=w.ties.filter λt=>subB t.1 p
def jM{a:Int}{n:Nat}(h:a.natAbs<2^n):PySem.Builtin.Int.intBits a<=n:=by
 unfold PySem.Builtin.Int.intBits;split
 .lia
 .rename_i z
  have hz:a.natAbs≠0:=by
   intro e;apply z;simp;lia
  have:=(Nat.log2_lt hz).mpr h;lia
def yL{a b:Int}(h:a.natAbs<2^64):mulOk a b=true:=by
 have:=jM h;unfold mulOk PySem.shortFactorBits;have e:decide (PySem.Builtin.Int.intBits a>64)=false:=by simp;lia
 rw[e];rfl
def qem{a b:Int}(h:a.natAbs<2^250)(c:b.natAbs<2^250):mulOk a b=true:=by
 have d:=jM h;have c:=jM c;unfold mulOk PySem.Builtin.Int.intTooBig PySem.bitsLine;have e:decide (((PySem.Builtin.Int.intBits a:Int)+(PySem.Builtin.Int.intBits b:Int))>((2^27:Nat):Int))=false:=by
  rw[wn];norm_cast;lia
 rw[e,uL];rfl
def qen{a b:Int}(f:0<b)(h:b.natAbs<2^64):divOk a b=true:=by
 have c:=jM h;unfold divOk PySem.Builtin.divisionGoesByPylong;unfold PySem.Builtin.Int.intBits at c;have d:(b == 0)=false:=by rw[vA];lia
 rw[d]at c;simp only[d,wz,uG]at c ⊢;have e:decide (b.natAbs.log2 / 30+1>300)=false:=by rw[wn];lia
 simp only[e,wx];rfl
def bmul{a b:Int}(h:mulOk a b=true):binD .mul (.int a) (.int b) S=some (.int (a*b)):=by
 simp only[binD,binI];rw[wM h];rfl
def badd{a b:Int}:binD .add (.int a) (.int b) S=some (.int (a+b)):=rfl
noncomputable def pk(S:Sr)(n:Nat)(v:Int):Sr:=S.set n (.l [.int v])
def qF(S:Sr)(n:Nat)(v:Int):(pk S n v).length=S.length:=by simp[pk]
def qm6{S:Sr}{n:Nat}(h:n<S.length)(v:Int):(pk S n v)[n]?=some (.l [.int v]):=by simp[pk,h]
def zW{S T:Sr}{n:Nat}(h:n<S.length)(v:Int):pk S n v++T=pk (S++T) n v:=by simp[pk,List.set_append_left _ _ h]
def qeo{n:Nat}{v:Int}(h:S[n]?=some (.l [.int v])):pk S n v=S:=by
 unfold pk;apply u8;intro i;rw[List.getElem?_set];split
 .rename_i e;subst e
  obtain⟨a,_⟩:=wP.mp h;rw[wM a,h]
 .rfl
def yn(h:evs F es ρ S=.ok l S1)(a:l.length<=1000):ev F (.l false es) ρ S=.ok (.l l) S1:=by
 have:l.length<=PySem.sizeLine:=by unfold PySem.sizeLine;lia
 simp[ev,h,this,Res.bind,newL]
def qhs(h:evs F es ρ S=.ok l S1)(b:l.length<=1000)(a:refsLts 0 l=true):ev F (.l true es) ρ S=.ok (.ref S1.length) (S1++[.l l]):=by
 have:l.length<=PySem.sizeLine:=by unfold PySem.sizeLine;lia
 simp[ev,h,this,Res.bind,newL,a]
def qak(h:body d ρ S=.ok (.nx ρ1) S1):forLoop body (d::r) ρ S=forLoop body r ρ1 S1:=by
 simp only[forLoop,h,Res.bind]
def yM{c:Type}{g:c->D}{body:D->En->Sr->Res Fl}(P:List c->En->Sr->Prop)(xs:List c){ρ:En}{S:Sr}(i:P [] ρ S)(H:∀(pre:List c) (x:c) (b:List c) (ρ:En) (S:Sr),xs=pre++x::b->P pre ρ S->∃ρ1 S1,body (g x) ρ S=.ok (.nx ρ1) S1/\P (pre++[x]) ρ1 S1):
  ∃a d,forLoop body (xs.map g) ρ S=.ok (.nx a) d/\P xs a d:=by
 have f:∀(b pre:List c) (ρ:En) (S:Sr),xs=pre++b->P pre ρ S->∃a d,forLoop body (b.map g) ρ S=.ok (.nx a) d/\P xs a d:=by
  intro b;induction b with
  |nil=>intro pre ρ S e h;rw[uP]at e;subst e;exact⟨ρ,S,rfl,h⟩
  |cons x r j =>
   intro pre ρ S e h;obtain⟨ρ1,S1,e1,l⟩:=H pre x r ρ S e h;obtain⟨a,d,m,n⟩:=j (pre++[x]) ρ1 S1 (by rw[e];simp) l;exact⟨a,d,by rw[wS,qak e1,m],n⟩
 exact f xs [] ρ S rfl i
def qht{y:Type}{g:y->D}{n:Nat}{bind:D->En->Sr->Res En}{elt:En->Sr->Res D}(R:En->Prop)(I:List D->Sr->Prop)(i:∀ρ S,test ρ S=.ok true S):∀(ds:List y) (f:List D) (ρ:En) (S:Sr),f.length+ds.length<=1000->R ρ->I f S->S.length=n ->
  (∀d∈ds,∀(ρ:En) (m:List D) (S:Sr),R ρ->I m S->S.length=n->m.length<f.length+ds.length->∃ρ1 v j,bind (g d) ρ (S++[.l m])=.ok ρ1 (S++[.l m])/\R ρ1/\elt ρ1 (S++[.l m])=.ok v (j++[.l m])/\j.length=n/\refsLt 0 v=true/\I (m++[v]) j) ->
  ∃l h j,lcLoop n bind test elt (ds.map g) ρ (S++[.l f])=.ok l (j++[.l h])/\I h j/\j.length=n/\h.length=f.length+ds.length
 |[],f,ρ,S,_,_,hI,hn,_=>⟨ρ,f,S,by simp[lcLoop],hI,hn,by simp⟩
 |d::ds,f,ρ,S,hl,hR,hI,hn,H=>by
  obtain⟨ρ1,v,j,e1,p,z,o,A,q⟩:=H d wL ρ f S hR hI hn 02;simp only[w8]at hl;rw[wS];unfold lcLoop;have B:appD (j++[.l f]) (.ref n) v=.ok .non (j++[.l (f++[v])]):=by
   subst o;have r:f.length<PySem.sizeLine:=by unfold PySem.sizeLine;lia
   simp[appD,A,r]
  rw[e1,Res.bind_ok,i,Res.bind_ok,wM rfl,z,Res.bind_ok,B,Res.bind_ok];obtain⟨l,h,S2,e,s,u,w⟩:=qht R I i ds (f++[v]) ρ1 j (by simp;lia) p q o λd' hd ρ m S a b c x=>H d' (wO _ hd) ρ m S a b c (by simp at x ⊢;lia)
  exact⟨l,h,S2,e,s,u,by rw[w];simp;lia⟩
def qhu{f:Type}{g:f->D}{F:Fs}{fr:List Nat}{nt:Nat}{elt:CE}{tg:CT}{it:CI}{ρ:En}{S S1:Sr}{ds:List D}(xs:List f)(R:En->Prop)(I:List D->Sr->Prop)(i:evI F it ρ S=.ok ds S1)(hd:ds=xs.map g)(j:R (frE ρ fr nt))(l:xs.length<=1000)(hi:I [] S1)(H:∀d∈xs,∀(ρ:En) (m:List D) (S:Sr),R ρ->I m S->S.length=S1.length->m.length<xs.length->∃ρ1 v b,asg F tg (g d) ρ (S++[.l m])=.ok ρ1 (S++[.l m])/\R ρ1/\ev F elt ρ1 (S++[.l m])=.ok v (b++[.l m])/\b.length=S1.length/\refsLt 0 v=true/\I (m++[v]) b):
  ∃a b,ev F (.lc false fr nt elt tg it .nil) ρ S=.ok (.l a) b/\I a b/\b.length=S1.length/\a.length=xs.length:=by
 obtain⟨o,c,b,e,p,h,q⟩:=qht (n:=S1.length) (bind:=λd ρ S=>asg F tg d ρ S) (test:=λρ S=>tsts F .nil ρ S) (elt:=λρ S=>ev F elt ρ S) R I (λ_ _=>by simp[tsts]) xs [] _ S1 (by simpa using l) j hi rfl (by simpa using H);refine⟨c,b,?_,p,h,by simpa using q⟩;simp only[ev,i,Res.bind,hd,e,lcEnd];rw[<-h];simp
noncomputable def rI(n:Nat):List Int:=(List.range n).map λ(k:Nat)=>(k:Int)
def q8(n:Nat):(rI n).length=n:=by simp[rI]
def jC{n:Nat}{x:Int}:x∈rI n ↔ 0<=x/\x<n:=by
 unfold rI;rw[vD];constructor
 .rintro ⟨k,a,rfl⟩;have:=uA.mp a;lia
 .rintro ⟨b,c⟩;exact⟨x.toNat,uA.mpr 00,by lia⟩
def qal(n:Nat):(rI n).Nodup:=by
 unfold rI;exact List.Pairwise.map _ (λa b h e=>h 00) List.nodup_range
def qm7(n:Nat):(rI n).Pairwise (· < ·):=by
 unfold rI;exact List.Pairwise.map _ (λa b h=>by lia) List.pairwise_lt_range
def qjd(n:Nat):rngL 0 n 1=(rI n).map .int:=by
 unfold rngL rI;have:(((n:Int)-0+1-1) / 1).toNat=n:=by lia
 rw[this,vH];apply vT;intro k _;simp
def qhv{n:Nat}(h:n<=1000):rngD [.int n]=some ((rI n).map .int):=by
 have a:-(2^62)<=(n:Int):=by lia
 have b:(n:Int)<2^62:=by lia
 simp only[rngD,a,b,and_self,vo,qjd]
def qm8{n:Nat}(h:n<=1000):((rI n).map D.int).length<=1000000:=by
 rw[wH,q8];exact vG h 01
def qhw{b c:Type}(f:b->c):∀(l:List b) (i:Nat),(l.map f).eraseIdx i=(l.eraseIdx i).map f
 |[],_=>by simp
 |a::r,0=>by simp
 |a::r,i+1=>by simp[qhw f r i]
def qep{b:Type}:∀{l:List b} {i:Nat} {x:b},l[i]?=some x->(x::l.eraseIdx i).Perm l
 |[],i,x,h=>by simp at h
 |a::r,0,x,h=>by simp at h;subst h;simp
 |a::r,i+1,x,h=>by
  simp at h;have:=qep h;simp only[List.eraseIdx_cons_succ];exact(List.Perm.swap a x _).trans (this.cons a)
def qcA{l:03}(h:l.Nodup):(sortI l).Pairwise (· < ·):=by
 have c:=je l;have d:(sortI l).Nodup:=(qT l).nodup_iff.mpr h;exact(c.and d).imp λ⟨a,b⟩=>by lia
def qfs{l:03}(h:l.length<64):sortL (l.map .int)=some ((sortI l).map .int):=by
 unfold sortL;rw[wM (by simpa using h),qE]
def fm{v m:Int}(h:0<m):0<=v.fmod m/\v.fmod m<m:=⟨vB v h,uH v h⟩
def qln(h:evs F es ρ S=.ok l S1)(a:rngD l=some ds)(b:ds.length<=1000000):ev F (.rng k es) ρ S=match k with|some m=>newL m ds S1|none=>.ok (.t ds) S1:=by
 cases k <;> simp only[ev,h,Res.bind,a,b,vo]
def qhx{n:Nat}(h:evs F es ρ S=.ok [.int n] S1)(hn:n<=1000):ev F (.rng (some true) es) ρ S=.ok (.ref S1.length) (S1++[.l ((rI n).map .int)]):=by
 rw[qln h (qhv hn) (qm8 hn)];simp only[newL,refsI,vo]
def i_rng{n:Nat}(h:evs F es ρ S=.ok [.int n] S1)(hn:n<=1000):evI F (.rng es) ρ S=.ok ((rI n).map .int) S1:=by
 simp only[evI,h,Res.bind,qhv hn];rfl
def qm9(h:ev F o ρ S=.ok x S1)(hi:isLst S1 x=true)(b:ev F i ρ S1=.ok y S2)(c:popD S2 x y=.ok d a):ev F (.popAt o i) ρ S=.ok d a:=by
 simp only[ev,h,Res.bind,hi,vo,b,c]
def qna(h:ev F o ρ S=.ok x S1)(hi:isLst S1 x=true)(b:ev F i ρ S1=.ok y S2)(c:appD S2 x y=.ok d a):ev F (.app o i) ρ S=.ok d a:=by
 simp only[ev,h,Res.bind,hi,vo,b,c]
noncomputable def ent(t:Tie):List Int×D:=(t.1,.int t.2)
noncomputable def dicD(ts:List Tie):SO:=.dic (ts.map ent)
structure KnOk (many:Nat) (ts:List Tie):Prop where
 nd:(ts.map (·.1)).Nodup
 ok:∀t∈ts,PlOk many t.1/\t.1.length<=4/\1<=t.2/\t.2<=1000000
noncomputable def putTie(k:03)(w:Int)(ts:List Tie):List Tie :=
 if ts.any (λt=>decide (t.1=k))then ts.map (λt=>if t.1=k then(t.1,w)else t)else ts++[(k,w)]
def qhy(k:03)(w:Int)(ts:List Tie):putT k (.int w) (ts.map ent)=(putTie k w ts).map ent:=by
 unfold putT putTie;have e:(ts.map ent).any (λp=>decide (p.1=k))=ts.any (λt=>decide (t.1=k)):=by rw[List.any_map];rfl
 rw[e];split
 .rw [vH,vH]
  apply vT;intro t _;show(if t.1=k then(t.1,D.int w)else ent t)=ent (if t.1=k then(t.1,w)else t);split <;> rfl
 .simp [ent]
def KnOk.put{many:Nat}(h:KnOk many ts){w:Int}(l:PlOk many k)(m:k.length<=4)(f:1<=w)(i:w<=1000000):KnOk many (putTie k w ts)/\(putTie k w ts).length<=ts.length+1:=by
 unfold putTie;split
 .refine ⟨⟨?_,?_⟩,by simp⟩
  .rw [vH]
   have:ts.map ((·.1)∘λt=>if t.1=k then(t.1,w)else t)=ts.map (·.1):=by
    apply vT;intro t _;show(if t.1=k then(t.1,w)else t).1=t.1;split <;> rfl
   rw[this];exact h.nd
  .intro t d
   obtain⟨s,c,rfl⟩:=vD.mp d;split
   .rename_i e;exact⟨(h.ok s c).1,(h.ok s c).2.1,f,i⟩
   .exact h.ok s c
 .rename_i hn
  refine⟨⟨?_,?_⟩,by simp⟩
  .rw [xV,uO]
   refine⟨h.nd,by simp,λa ha b j e=>?_⟩;simp at j;obtain⟨s,c,rfl⟩:=vD.mp ha;apply hn;rw[vr];exact⟨s,c,by rw[w6,e,j]⟩
  .intro t d
   rcases wi.mp d with z|z
   .exact h.ok t z
   .simp at z;subst z;exact⟨l,m,f,i⟩
noncomputable def look(ts:List Tie)(k:03):Int:=match ts with
 |[]=>0
 |t::r=>if t.1=k then t.2 else look r k
def jN:∀{ts:List Tie} {k:03},k∈ts.map (·.1)->lookT k (ts.map ent)=some (.int (look ts k))/\∃t∈ts,t.1=k/\t.2=look ts k
 |[],k,h=>by simp at h
 |t::r,k,h=>by
  rw[wS];show(if t.1=k then some (D.int t.2)else lookT k (r.map ent))=some (.int (if t.1=k then t.2 else look r k))/\∃s∈t::r,s.1=k/\s.2=(if t.1=k then t.2 else look r k);by_cases e:t.1=k
  .rw [wM e,wM e];exact⟨rfl,t,wL,e,rfl⟩
  .rw [wN e,wN e]
   have h':k∈r.map (·.1):=by
    rw[wS]at h;rcases wQ.mp h with z|z
    .exact absurd z.symm e
    .exact z
   obtain⟨a,s,c,b⟩:=jN h';exact⟨a,s,wO _ c,b⟩
noncomputable def srt(ts:List Tie):List Tie:=(sortT (ts.map (·.1))).map λk=>(k,look ts k)
def qhz(ts:List Tie):(srt ts).map (·.1)=sortT (ts.map (·.1)):=by
 unfold srt;rw[vH];have:((λt:Tie=>t.1)∘λk=>(k,look ts k))=id:=rfl;rw[this,List.map_id]
def qeq(ts:List Tie):(srt ts).length=ts.length:=by
 unfold srt;rw[wH,(qS _).length_eq,wH]
def qlo{many:Nat}(h:KnOk many ts):(∀t∈srt ts,PlOk many t.1/\t.1.length<=4/\1<=t.2/\t.2<=1000000)/\((srt ts).map (·.1)).Pairwise λa b=>HT.lexLt a b=true:=by
 refine⟨λt c=>?_,by rw[qhz];exact jx h.nd⟩;unfold srt at c;obtain⟨k,d,rfl⟩:=vD.mp c;obtain⟨_,s,e,e1,f⟩:=jN ((qS _).mem_iff.mp d);have:=h.ok s e;rw[e1,f]at this;exact this
def qam:∀l:List (List Int),tupsOf (l.map tupI)=some l
 |[]=>rfl
 |a::r=>by simp[tupsOf,tupI,qE];exact qam r
def qft{l:List (List Int)}(h:l.length<64)(nd:l.Nodup)(ne:∀t∈l,t≠[]):sortL (l.map tupI)=some ((sortT l).map tupI):=by
 unfold sortL;rw[wM (by simpa using h)];cases l with
 |nil=>rfl
 |cons a r =>
  have:intsOf ((a::r).map tupI)=none:=rfl;rw[this];show(tupsOf ((a::r).map tupI)).bind _=_;rw[qam,w5,wM ⟨nd,ne⟩]
def qlp{F:Fs}{ρ:En}{T:Sr}{kx j many:Nat}{ts:List Tie}(a:ρ[kx]?=some (some (.ref j)))(b:T[j]?=some (dicD ts))(h:KnOk many ts)(f:ts.length<64):
  ev F (.blt .tuple (.c (.lc false [kx] 1 (.t (.c (.v 1) (.c (.idx (.v 0) (.v 1)) .n))) (.v 1) (.seq (.blt (.sorted false) (.c (.v kx) .n))) .n) .n)) ρ T=.ok (.t ((srt ts).map tieD)) T:=by
 have i:ev F (.v kx) ρ T=.ok (.ref j) T:=by simp only[ev,varE,a]
 have n:walkD T (.ref j)=some ((ts.map (·.1)).map tupI):=by
  simp only[walkD,b,dicD,vH];rfl
 have c:bltD (.sorted false) [.ref j] T=.ok (.l ((sortT (ts.map (·.1))).map tupI)) T:=by
  simp only[bltD,one,bSorted,n,w5];rw[qft (by simpa using f) h.nd (λt o=>by obtain⟨s,c,rfl⟩:=vD.mp o;exact(h.ok s c).1.ne)];rfl
 have d:ev F (.blt (.sorted false) (.c (.v kx) .n)) ρ T=.ok (.l ((sortT (ts.map (·.1))).map tupI)) T:=qu (qd i rfl) c;have e:=jF (g:=tupI) (F:=F) (fr:=[kx]) (nt:=1) (elt:=.t (.c (.v 1) (.c (.idx (.v 0) (.v 1)) .n))) (tg:=.v 1) (it:=.seq (.blt (.sorted false) (.c (.v kx) .n))) (ifs:=.nil) (ρ:=ρ) (S:=T) (S1:=T) (ds:=(sortT (ts.map (·.1))).map tupI) (sortT (ts.map (·.1))) (λ_=>true) (λk=>tieD (k,look ts k)) (λρ=>∃x,ρ=[some (.ref j),x])
  (by simp only[evI,d,Res.bind]) rfl ⟨none,by simp[frE,a]⟩ (by rw[(qS _).length_eq,wH];unfold PySem.sizeLine;lia) (by
   rintro k p ρ m ⟨x,rfl⟩;refine⟨_,rfl,⟨_,rfl⟩,rfl,λ_=>⟨zd (l:=[tupI k,.int (look ts k)]) (qd rfl (qd (qD (d1:=.ref j) (d2:=tupI k) rfl rfl ?_) rfl)) (by simp[PySem.sizeLine]),yD _ _⟩⟩;have q:j<T.length:=(wP.mp b).1;have:(T++[SO.l m])[j]?=some (dicD ts):=by rw[wW q,b]
   simp only[idxD,tupI,this,dicD,qE,w5];exact(jN ((qS _).mem_iff.mp p)).1)
 rw[zb]at e;refine qu (qd e rfl) ?_;simp only[bltD,one,bTuple,seqOf,lstOf,wf,ofO];unfold srt;rw[vH];rfl
noncomputable def deg(T:List Tie)(x:Int):Int:=((T.filter λt=>t.1.contains x).map (·.2)).sum
def qje{p t:03}(a:p.Nodup)(c:t.Nodup)(h:∀x∈t,x∈p):(p.filter λx=>t.contains x).length=t.length:=by
 apply List.Perm.length_eq;refine(List.perm_ext_iff_of_nodup (a.filter _) c).mpr λx=>?_
 rw[uv];constructor
 .rintro ⟨_,b⟩;simpa using b
 .intro hx;exact⟨h x hx,by simpa using hx⟩
def qan{p:03}(h:p.Pairwise (· < ·)):p.Nodup:=h.imp λa=>by lia
noncomputable def eu:Nat->Int->Int->Int
 |0,a,_=>a
 |n+1,a,b=>if b=0 then a else eu n b (a.fmod b)
def qhA:∀(n:Nat) {a b:Int},0<a->0<=b->0<eu n a b
 |0,a,b,ha,_=>ha
 |n+1,a,b,ha,hb=>by
  unfold eu;split
  .exact ha
  .exact qhA n 04 (vB a 04)
def qjR:∀(n:Nat) {a b m:Int},0<=b->a<=m->b<=m->eu n a b<=m
 |0,a,b,m,_,ha,_=>ha
 |n+1,a,b,m,hb0,ha,hb=>by
  unfold eu;split
  .exact ha
  .have:=uH a (show 0<b by omega)
   exact qjR n (vB a 04) hb 04
def qhB{n:Nat}{a b:Int}(ha:0<=a)(c:0<b):0<eu (n+1) a b/\eu (n+1) a b<=b:=by
 unfold eu;rw[wN 04];have d:=vB a c;have e:=uH a c;exact⟨qhA n c d,qjR n d 04 04⟩
def half{a b:Int}(h:0<b)(c:0<a.fmod b):2*b.fmod (a.fmod b)<b:=by
 have d:=uH a h;have e:=uH b c;have f:=vB b c;have i:=Int.mul_fdiv_add_fmod b (a.fmod b);have j:0<b.fdiv (a.fmod b):=by
  rcases Int.lt_or_le 0 (b.fdiv (a.fmod b))with z|z
  .exact z
  .exfalso
   have:a.fmod b*b.fdiv (a.fmod b)<=0:=by
    have:=xN z (Int.le_of_lt c);simpa using this
   omega
 have l:a.fmod b<=a.fmod b*b.fdiv (a.fmod b):=by
  have:=xN (show(1:Int)<=b.fdiv (a.fmod b) by omega) (Int.le_of_lt c);simpa using this
 omega
def wl{test:En->Sr->Res Bool}{body:En->Sr->Res Fl}{E:Int->Int->En}{S:Sr}(l:∀a b,test (E a b) S=.ok (!(b == 0)) S)(o:∀a b,0<b->body (E a b) S=.ok (.nx (E b (a.fmod b))) S):∀(k n:Nat) (a b:Int),0<=a->0<=b->b<2^k->2*k+1<=n->whileLoop test body n (E a b) S=.ok (.nx (E (eu n a b) 0)) S:=by
 have stop:∀(n:Nat) (a:Int),0<n->whileLoop test body n (E a 0) S=.ok (.nx (E (eu n a 0) 0)) S:=by
  intro n a h;cases n with
  |zero=>omega
  |succ n =>
   unfold whileLoop eu;rw[l,wM rfl];rfl
 have go:∀(n:Nat) (a b:Int),0<b->whileLoop test body (n+1) (E a b) S=whileLoop test body n (E b (a.fmod b)) S:=by
  intro n a b h;rw[whileLoop,l,Res.bind_ok];have:(!(b == 0))=true:=by simp;omega
  rw[wM this,o a b h,Res.bind_ok]
 have d:∀(n:Nat) (a b:Int),0<b->eu (n+1) a b=eu n b (a.fmod b):=λn a b h=>by rw[eu,wN 04]
 intro k;induction k with
 |zero =>
  intro n a b ha j f hn;have:b=0:=by simp at f;omega
  subst this;exact stop n a 04
 |succ k p =>
  intro n a b ha j f hn;by_cases z:b=0
  .subst z;exact stop n a 04
  .have c:0<b:=by omega
   obtain⟨m,rfl⟩:∃m,n=m+2:=⟨n-2,by omega⟩;have q:=vB a c;rw[go _ _ _ c,d _ _ _ c];by_cases r:a.fmod b=0
   .rw [r];exact stop _ _ 04
   .have i:0<a.fmod b:=by omega
    rw[go _ _ _ i,d _ _ _ i];have s:=half c i;have e:(2:Int)^(k+1)=2*2^k:=by rw[Int.pow_succ];omega
    exact p m _ _ q (vB b i) 04 04
def qer{N:Nat}{S S1:Sr}(h:whileLoop (λρ S=>tst F c ρ S) (λρ S=>exs F N a ρ S) N ρ S=.ok (.nx ρ1) S1)(b:exs F N r ρ1 S1=X):exs F N (.c (.whileS c a) r) ρ S=X:=by
 simp only[exs,ex,h,Res.bind];exact b
def bmod{a b:Int}(h:b≠0):binD .mod (.int a) (.int b) S=some (.int (a.fmod b)):=by
 simp only[binD,binI];rw[wN h];rfl
def bdiv{a b:Int}(h:0<b)(c:b.natAbs<2^64):binD .fdiv (.int a) (.int b) S=some (.int (a.fdiv b)):=by
 simp only[binD,binI];rw[wM (qen h c)];rfl
def qnb{a:Int}(h:0<=a):bltD .abs [.int a] S=.ok (.int a) S:=by
 simp only[bltD,one,bAbs];rw[wN 04]
noncomputable def cstI(w:Wb)(x:Int):Int:=w.costs.getD x.toNat 0
noncomputable def price(w:Wb)(p:03):Int:=(p.map (cstI w)).sum
def qao{w:Wb}{x:Int}(h:0<=x)(a:x<w.costs.length):idxD S (tupI w.costs) (.int x)=some (.int (cstI w x)):=by
 have hx:x.toNat<w.costs.length:=by omega
 have:L2.ixN (w.costs.map D.int).length x=some x.toNat:=by
  unfold L2.ixN;rw[wM h,wH,wM a]
 show(L2.ixN (w.costs.map D.int).length x).bind (λj=>(w.costs.map D.int)[j]?)=_;rw[this];simp only[w5,wU,cstI,wt,wD hx,wf,xt]
def qlq(h:WbOk w){x:Int}(a:0<=x)(b:x<w.costs.length):1<=cstI w x/\cstI w x<=100:=by
 have hx:x.toNat<w.costs.length:=by omega
 unfold cstI;rw[wt,wD hx];exact h.c3 _ (uV hx)
def qhC:∀{l:03},(∀x∈l,1<=f x/\f x<=100)->(l.length:Int)<=(l.map f).sum/\(l.map f).sum<=100*l.length
 |[],_=>by simp
 |a::r,h=>by
  have b:=qhC (f:=f) (l:=r) λx hx=>h x (wO _ hx)
  have c:=h a wL;simp only[wS,List.sum_cons,w8];omega
def qap(h:WbOk w)(b:PlOk w.costs.length p):1<=p.length/\p.length<=12:=by
 have d:=qje (p:=rI w.costs.length) (t:=p) (qal _) (qan b.up) (λx hx=>jC.mpr (b.rng x hx));have c:=gD (λx=>p.contains x) (rI w.costs.length);rw[q8]at c;have:=h.c2;refine⟨?_,by omega⟩;cases hz:p with
 |nil=>exact absurd hz b.ne
 |cons a r=>simp
def qcB(h:WbOk w)(a:PlOk w.costs.length p):1<=price w p/\price w p<=1200:=by
 have b:=qap h a;have c:=qhC (f:=cstI w) (l:=p) λx hx=>qlq h (a.rng x hx).1 (a.rng x hx).2
 unfold price;omega
noncomputable def mass(w:Wb)(p:03):Int:=((tin w p).map (·.2)).sum
noncomputable def low(n:Nat)(t b:Int):D:=.t [.int (t.fdiv (eu n t b)),.int (b.fdiv (eu n t b))]
noncomputable def isIntB:D->Bool
 | .int _=>true
 |_=>false
noncomputable def wholeB(a b:Int):D->Bool
 | .int i=>decide (a<=i)&&decide (i<=b)
 |_=>false
noncomputable def upB(ns:03):Bool:=(ns.zip (ns.drop 1)).all λp=>decide (p.1<p.2)
noncomputable def upT(ks:List (List Int)):Bool:=(ks.zip (ks.drop 1)).all λp=>HT.lexLt p.1 p.2
noncomputable def placesB(many:Int):D->Bool
 | .t l=>match intsOf l with
  |some ns=>!ns.isEmpty&&ns.all (λi=>decide (0<=i)&&decide (i<=many-1))&&upB ns
  |none=>false
 |_=>false
noncomputable def lenT:D->Nat
 | .t l=>l.length
 |_=>0
noncomputable def tieB(many:Int):D->Bool
 | .t [p,h]=>placesB many p&&decide (lenT p<=4)&&wholeB 1 1000000 h
 |_=>false
noncomputable def keyT:D->List Int
 | .t [.t l,_]=>(intsOf l).getD []
 |_=>[]
noncomputable def costsB:D->Bool
 | .t l=>decide (1<=l.length)&&decide (l.length<=12)&&l.all (wholeB 1 100)
 |_=>false
noncomputable def tiesB(many:Int):D->Bool
 | .t l=>decide (l.length<=30)&&l.all (tieB many)&&upT (l.map keyT)
 |_=>false
noncomputable def isWebB:D->Bool
 | .t [c,t]=>costsB c&&tiesB (lenT c) t
 |_=>false
def yN(a b:Int):∀l:List D,l.all (wholeB a b)=match intsOf l with
  |some ns=>ns.all (λi=>decide (a<=i)&&decide (i<=b))
  |none=>false
 |[]=>rfl
 |x::r=>by
  have c:=yN a b r;cases x with
  |int i =>
   simp only[va,wholeB,intsOf];cases z:intsOf r with
   |none=>rw[z]at c;simp only[Option.map_none];rw[c];simp
   |some ns=>rw[z]at c;simp only[wf,va];rw[c]
  |_=>simp[wholeB,intsOf]
def qbz(h:intsOf l=some ns):l=ns.map .int:=intsOf_eq h
def qlr{many:Int}(h:tieB many x=true):∃t:Tie,x=tieD t/\t.1≠[]/\keyT x=t.1:=by
 unfold tieB at h;split at h
 .rename_i p w
  simp only[wK]at h;obtain⟨⟨a,b⟩,c⟩:=h;clear b;unfold placesB at a;split at a
  .rename_i l
   cases z:intsOf l with
   |none=>rw[z]at a;cases a
   |some ns =>
    rw[z]at a;simp only[wK]at a;cases w with
    |int i =>
     refine⟨(ns,i),?_,?_,?_⟩
     .rw [qbz z];rfl
     .intro e;rw[show(ns,i).1=ns from rfl]at e;rw[e]at a;simp at a
     .simp only[keyT,z,xt]
    |_=>simp[wholeB]at c
  .cases a
 .cases h
def jO{many:Int}:∀{l:List D},l.all (tieB many)=true->∃ts:List Tie,l=ts.map tieD/\l.map keyT=ts.map (·.1)
 |[],_=>⟨[],rfl,rfl⟩
 |x::r,h=>by
  simp only[va,wK]at h;obtain⟨t,e1,_,a⟩:=qlr h.1;obtain⟨ts,b,c⟩:=jO h.2;exact⟨t::ts,by rw[e1,b];rfl,by rw[wS,wS,a,c]⟩
section
variable{F:Fs}{N:Nat}{ρ ρ1:En}{S S1 S2:Sr}{e1 e2:CE}{c c2:CB}
theorem zN(h:tst F c ρ S=.ok true S1):tst F (.or c c2) ρ S=.ok true S1:=by simp[tst,h,Res.bind]
theorem qM(h:tst F c ρ S=.ok false S)(a:tst F c2 ρ S=.ok y S):tst F (.or c c2) ρ S=.ok y S:=by simp[tst,h,a,Res.bind]
theorem qbA(h:ev F e1 ρ S=.ok (.bl false) S1):ev F (.and e1 e2) ρ S=.ok (.bl false) S1:=by simp[ev,h,Res.bind]
end
def qL(l:List D)(S:Sr):bltD .len [.t l] S=.ok (.int l.length) S:=rfl
def pow6(F:Fs)(ρ:En)(T:Sr):ev F (.bin .pow (.k (.int 10)) (.k (.int 6))) ρ T=.ok (.int 1000000) T:=by
 simp[ev,Res.bind,binD,binI]
mutual
noncomputable def gd:D->Bool
 | .ref _=>false
 | .t l=>decide (l.length<=900)&&gds l
 | .l l=>gds l
 | .non=>true
 | .bl _=>true
 | .int _=>true
 | .str _=>true
 | .emp=>true
 | .exc _=>false
noncomputable def gds:List D->Bool
 |[]=>true
 |x::r=>gd x&&gds r
end
mutual
def qbB:∀x:D,gd x=true->refsLt 0 x=true
 | .ref _,h=>by simp[gd]at h
 | .t l,h=>by
  simp only[gd,wK]at h;exact qaq l h.2
 | .l l,h=>qaq l h
 | .non,_=>rfl
 | .bl _,_=>rfl
 | .int _,_=>rfl
 | .str _,_=>rfl
 | .emp,_=>rfl
 | .exc _,h=>by simp[gd]at h
def qaq:∀l:List D,gds l=true->refsLts 0 l=true
 |[],_=>rfl
 |x::r,h=>by
  simp only[gds,wK]at h;rw[refsLts,qbB x h.1,qaq r h.2];rfl
end
def qnc{l:List D}(a:l.length<=900)(b:gds l=true):gd (.t l)=true:=by simp[gd,a,b]
mutual
noncomputable def tr:D->Bool
 | .int i=>decide (i.natAbs<=10000000)
 | .t l=>decide (l.length<=60)&&trs l
 |_=>false
noncomputable def trs:List D->Bool
 |[]=>true
 |x::r=>tr x&&trs r
end
mutual
def qhD:∀x:D,tr x=true->gd x=true
 | .int _,_=>rfl
 | .t l,h=>by
  simp only[tr,wK,w6]at h;exact qnc 00 (qes l h.2)
 | .non,h=>by simp[tr]at h
 | .bl _,h=>by simp[tr]at h
 | .str _,h=>by simp[tr]at h
 | .l _,h=>by simp[tr]at h
 | .emp,h=>by simp[tr]at h
 | .exc _,h=>by simp[tr]at h
 | .ref _,h=>by simp[tr]at h
def qes:∀l:List D,trs l=true->gds l=true
 |[],_=>rfl
 |x::r,h=>by
  simp only[trs,wK]at h;rw[gds,qhD x h.1,qes r h.2];rfl
end
def jj:∀l:List D,trs l=l.all tr
 |[]=>rfl
 |x::r=>by rw[trs,jj r,va]
def qet(l:List D)(a b:Option Int):(∀x∈cutD l a b,x∈l)/\(cutD l a b).length<=l.length:=by
 unfold cutD;exact⟨λx hx=>List.mem_of_mem_drop (vt hx),by simp;lia⟩
def bcatT{a b:List D}(h:a.length+b.length<=1000):binD .add (.t a) (.t b) S=some (.t (a++b)):=by
 have:catOk a b=true:=by unfold catOk PySem.sizeLine;rw[w6];lia
 simp[binD,this]
def qeu(h:ev F e ρ S=.ok (.t l) S)(c:evO F lo ρ S=.ok a S)(d:evO F hi ρ S=.ok b S):ev F (.slc e lo hi) ρ S=.ok (.t (cutD l a b)) S:=by
 simp only[ev,h,c,d,Res.bind,slcD,ofO]
noncomputable def tl:CSs->CSs
 | .cons _ r=>r
 | .nil=>.nil
@[irreducible] noncomputable def Ok{α:Type}(r:Res α)(Q:α->Sr->Prop):Prop:=∃a S,r=.ok a S/\Q a S
def Ok.ex(h:Ok r Q):∃a S,r=.ok a S/\Q a S:=by unfold Ok at h;exact h
def Ok.mk{b:Type}{r:Res b}{Q:b->Sr->Prop}(h:∃a S,r=.ok a S/\Q a S):Ok r Q:=by unfold Ok;exact h
def Ok.mono(h:Ok r Q)(k:∀a S,Q a S->Q' a S):Ok r Q':=by
 obtain⟨a,S,e,q⟩:=h.ex;exact .mk ⟨a,S,e,k a S q⟩
def qaZ(h:Q a S):Ok (.ok a S) Q:=.mk ⟨a,S,rfl,h⟩
def Ok.of(e:r=.ok a S)(h:Q a S):Ok r Q:=.mk ⟨a,S,e,h⟩
section
variable{F:Fs}{N:Nat}{ρ:En}{S:Sr}{r a b:CSs}{e e1 e2:CE}{t:CT}{c:CB}{Q:Fl->Sr->Prop}{s:CS}
theorem qa0(h:Q (.nx ρ) S):Ok (exs F N .nil ρ S) Q:=by rw[qI];exact qaZ h
theorem qhE(h:Ok (ev F e ρ S) λd S1=>Q (.rt d) S1):Ok (exs F N (.c (.ret e) r) ρ S) Q:=by
 obtain⟨d,S1,e1,f⟩:=h.ex;rw[qm e1];exact qaZ f
theorem jk(h:Ok (ev F e ρ S) λd S1=>Ok (asg F t d ρ S1) λρ1 S2=>Ok (exs F N r ρ1 S2) Q):Ok (exs F N (.c (.set t e) r) ρ S) Q:=by
 obtain⟨d,S1,e1,f⟩:=h.ex;obtain⟨ρ1,S2,e2,i⟩:=f.ex;rw[x_set e1 e2 rfl];exact i
theorem o_if(h:Ok (tst F c ρ S) λx S1=>Ok (exs F N (if x then a else b) ρ S1) λf S2=>match f with|.nx ρ1=>Ok (exs F N r ρ1 S2) Q|f=>Q f S2):Ok (exs F N (.c (.ifs c a b) r) ρ S) Q:=by
 obtain⟨x,S1,e1,i⟩:=h.ex;obtain⟨f,S2,e2,d⟩:=i.ex;have:exs F N (.c (.ifs c a b) r) ρ S=(exs F N (if x then a else b) ρ S1).bind λf S1=>match f with|.nx ρ1=>exs F N r ρ1 S1|f=>.ok f S1:=by
  cases x <;> simp only[exs,ex,e1,Res.bind] <;> rfl
 rw[this,e2,Res.bind_ok];cases f <;> first|exact d|exact qaZ d
theorem o_no(h:Ok (tst F c ρ S) λx S1=>x=false/\Ok (exs F N r ρ S1) Q):Ok (exs F N (.c (.ifs c a .nil) r) ρ S) Q:=by
 obtain⟨x,S1,e1,rfl,d⟩:=h.ex;rw[x_no e1 rfl];exact d
theorem qev{m:Type}{g:m->D}{it:CI}(P:List m->En->Sr->Prop)(xs:List m)(h:Ok (evI F it ρ S) λds S1=>ds=xs.map g/\P [] ρ S1)(H:∀(pre:List m) (x:m) (j:List m) (ρ:En) (S:Sr),xs=pre++x::j->P pre ρ S->Ok (asg F t (g x) ρ S) λρ1 S1=>Ok (exs F N a ρ1 S1) λf S2=>match f with|.nx l=>P (pre++[x]) l S2|_=>False)(K:∀i n,P xs i n->Ok (exs F N r i n) Q):Ok (exs F N (.c (.forS t it a) r) ρ S) Q:=by
 obtain⟨ds,S1,e1,rfl,p⟩:=h.ex;obtain⟨i,n,e2,q⟩:=yM (g:=g) (body:=λd ρ S=>(asg F t d ρ S).bind λρ1 S1=>exs F N a ρ1 S1) P xs p (by
  intro pre x j ρ S u v;obtain⟨ρ1,S2,w,y⟩:=(H pre x j ρ S u v).ex;obtain⟨f,z,A,o⟩:=y.ex;cases f with
  |nx l=>exact⟨l,z,by rw[w,Res.bind_ok,A],o⟩
  |_=>exact o.elim)
 rw[qaj e1 e2 rfl];exact K i n q
theorem qbC{f:CF}{l:List D}{Q:D->Sr->Prop}(j:l.length=f.np)(m:f.keeps=false)(h:Ok (exs F N f.body (l.map some++List.replicate (f.nn-f.np) none) S) λx S1=>match x with
  | .rt d=>S.length<=S1.length/\refsLt S.length d=true/\Q d (S1.take S.length)
  |_=>False):Ok (callC F N f l S) Q:=by
 obtain⟨x,S1,e1,i⟩:=h.ex;cases x with
 |rt d =>
  obtain⟨p,n,o⟩:=i;have:callC F N f l S=.ok d (S1.take S.length):=by
   simp only[callC,j,wM,e1,Res.bind,leave,m];rw[wN 02];split
   .rename_i z;rw[<-z,xK]
   .first|rfl|rw[wM n]
  rw[this];exact qaZ o
 |_=>exact i.elim
theorem o_or{c2:CB}{Q:Bool->Sr->Prop}(h:Ok (tst F c ρ S) λb S1=>if b then Q true S1 else Ok (tst F c2 ρ S1) Q):Ok (tst F (.or c c2) ρ S) Q:=by
 obtain⟨b,S1,e1,d⟩:=h.ex;simp only[tst,e1,Res.bind];cases b with
 |true=>exact qaZ d
 |false=>exact d
theorem qew{c2:CB}{Q:Bool->Sr->Prop}(h:Ok (tst F c ρ S) λb S1=>if b then Ok (tst F c2 ρ S1) Q else Q false S1):Ok (tst F (.and c c2) ρ S) Q:=by
 obtain⟨b,S1,e1,d⟩:=h.ex;simp only[tst,e1,Res.bind];cases b with
 |true=>exact d
 |false=>exact qaZ d
theorem qls(h:ev F e ρ S=.ok (.l l) S1):evI F (.seq e) ρ S=.ok l S1:=by
 simp only[evI,h,Res.bind]
end
def qcC(a b:Int)(d:0<b):Int.gcd b (a.fmod b)=Int.gcd a b:=by
 have e:a=a.fmod b+b*a.fdiv b:=by have:=Int.mul_fdiv_add_fmod a b;lia
 have c:Int.gcd a b=Int.gcd (a.fmod b+b*a.fdiv b) b:=by rw[<-e]
 rw[c,Int.gcd_comm b];simp
def qlt:∀(k n:Nat) (a b:Int),0<=a->0<=b->b<2^k->2*k+1<=n->eu n a b=(Int.gcd a b:Int):=by
 have stop:∀(n:Nat) (a:Int),0<=a->0<n->eu n a 0=(Int.gcd a 0:Int):=by
  intro n a ha h;cases n with
  |zero=>lia
  |succ n=>unfold eu;rw[wM rfl,Int.gcd_zero_right];lia
 have d:∀(n:Nat) (a b:Int),0<b->eu (n+1) a b=eu n b (a.fmod b):=λn a b h=>by rw[eu,wN 00]
 intro k;induction k with
 |zero =>
  intro n a b ha j f hn;have:b=0:=by simp at f;lia
  subst this;exact stop n a ha 00
 |succ k l =>
  intro n a b ha j f hn;by_cases z:b=0
  .subst z;exact stop n a ha 00
  .have c:0<b:=by lia
   obtain⟨m,rfl⟩:∃m,n=m+2:=⟨n-2,by lia⟩;have p:=vB a c;rw[d _ _ _ c,<-qcC a b c];by_cases o:a.fmod b=0
   .rw [o];exact stop _ _ 00 00
   .have i:0<a.fmod b:=by lia
    rw[d _ _ _ i,<-qcC b _ i];have q:=half c i;have e:(2:Int)^(k+1)=2*2^k:=by rw[Int.pow_succ];lia
    exact l m _ _ 00 (vB b i) 00 00
noncomputable def lw(t b:Int):Int×Int:=(t.fdiv (Int.gcd t b:Int),b.fdiv (Int.gcd t b:Int))
structure Lw (p:Int×Int):Prop where
 pos:1<=p.2
 one:Int.gcd p.1 p.2=1
def yO{t b:Int}(a:1<=b):0<Int.gcd t b:=Int.gcd_pos_of_ne_zero_right t 00
def qcD{t g:Int}(a:0<g)(h:g∣t):t.fdiv g*g=t:=by
 rw[uc _ 00];exact Int.ediv_mul_cancel h
def qbD{t b:Int}(a:1<=b):(lw t b).1*(Int.gcd t b:Int)=t/\(lw t b).2*(Int.gcd t b:Int)=b :=
 ⟨qcD (by have:=yO (t:=t) a;lia) (Int.gcd_dvd_left t b),qcD (by have:=yO (t:=t) a;lia) (Int.gcd_dvd_right t b)⟩
def qjS{t b:Int}(a:1<=b):Lw (lw t b):=by
 have c:=yO (t:=t) a;obtain⟨h,d⟩:=qbD (t:=t) a;have e:0<(Int.gcd t b:Int):=by lia
 refine⟨?_,?_⟩
 .rcases Int.lt_or_le 0 (lw t b).2 with z|z
  .exact z
  .exfalso
   have:=Int.mul_le_mul_of_nonneg_right z (show 0<=(Int.gcd t b:Int) by lia);rw[d]at this;lia
 .have e1:(lw t b).1=t / (Int.gcd t b:Int):=uc _ 00
  have f:(lw t b).2=b / (Int.gcd t b:Int):=uc _ 00;rw[e1,f];exact Int.gcd_ediv_gcd_ediv_gcd c
def qhF:∀{a b:03},a.Pairwise (· < ·)->b.Pairwise (· < ·)->(∀x,x∈a ↔ x∈b)->a=b
 |[],[],_,_,_=>rfl
 |[],y::s,_,_,h=>by have:=(h y).mpr wL;simp at this
 |x::r,[],_,_,h=>by have:=(h x).mp wL;simp at this
 |x::r,y::s,h1,h2,h=>by
  obtain⟨f,i⟩:=wq.mp h1;obtain⟨b1,b2⟩:=wq.mp h2;have e:x=y:=by
   rcases wQ.mp ((h x).mp wL)with z|z
   .exact z
   .rcases wQ.mp ((h y).mpr wL)with d|d
    .exact d.symm
    .have:=f y d;have:=b1 x z;lia
  subst e;have:r=s:=qhF i b2 λq=>by
   constructor
   .intro c
    rcases wQ.mp ((h q).mp (wO _ c))with z|z
    .have:=f q c;lia
    .exact z
   .intro c
    rcases wQ.mp ((h q).mpr (wO _ c))with z|z
    .have:=b1 q c;lia
    .exact z
  rw[this]
noncomputable def nth(o:03)(x:Int):Int:=o.getD x.toNat 0
noncomputable def cal(o p:03):List Int:=sortI (p.map (nth o))
def qnd{ns:03}{c:Int}(h:ρ[0]?=some (some (.l (ns.map .int))))(d:1<=c)(e:c<=1000):∃n:Nat,(2*n:Int)<=c+1/\evI F (.rng (.c 09 (.c (.blt .max2 (.c 06 (.c (.blt .min2 (.c (.blt .len (.c (.v 0) .n)) (.c (.k (.int c)) .n))) .n))) (.c (.k (.int 2)) .n)))) ρ S=.ok ((List.range n).map λ(k:Nat)=>D.int (0+2*k)) S:=by
 obtain⟨b,a⟩:∃b:Int,b=(if(if c<(ns.length:Int)then c else(ns.length:Int))>1 then(if c<(ns.length:Int)then c else(ns.length:Int))else 1):=⟨_,rfl⟩;have f:1<=b/\b<=c:=by rw[a];split <;> split <;> lia
 refine⟨((b-0+2-1) / 2).toNat,by lia,?_⟩;have i:ev F (.v 0) ρ S=.ok (.l (ns.map .int)) S:=by simp only[ev,varE,h]
 have j:ev F (.blt .len (.c (.v 0) .n)) ρ S=.ok (.int ns.length) S:=qu (qd i rfl) (by simp[bltD,one,bLen,lenD]);have l:ev F (.blt .min2 (.c (.blt .len (.c (.v 0) .n)) (.c (.k (.int c)) .n))) ρ S=.ok (.int (if c<(ns.length:Int)then c else(ns.length:Int))) S:=qu (qd j (qd rfl rfl)) rfl;have m:ev F (.blt .max2 (.c 06 (.c (.blt .min2 (.c (.blt .len (.c (.v 0) .n)) (.c (.k (.int c)) .n))) .n))) ρ S=.ok (.int b) S:=qu (qd rfl (qd l rfl)) (by rw[a];rfl);have o:evs F (.c 09 (.c (.blt .max2 (.c 06 (.c (.blt .min2 (.c (.blt .len (.c (.v 0) .n)) (.c (.k (.int c)) .n))) .n))) (.c (.k (.int 2)) .n))) ρ S=.ok [.int 0,.int b,.int 2] S:=qd rfl (qd m rfl);simp only[evI,o,Res.bind,rngD];have p:-(2^62)<=(0:Int)/\(0:Int)<2^62/\-(2^62)<=b/\b<2^62/\(0:Int)<2/\(2:Int)<2^62:=⟨by decide,by decide,by lia,by lia,by decide,by decide⟩;rw[wM p];rfl
end RP
namespace RP
open R PySem
noncomputable def tx(p:Int×Int):Str:=if p.2=1 then Str.ofString (toString p.1)else Str.ofString (toString p.1)++Str.ofString "/"++Str.ofString (toString p.2)
end RP
namespace RP
open R
noncomputable abbrev NW:Nat:=60
@[irreducible] noncomputable def G(d:Nat):Fs:=run prg NW d
def qhG(d:Nat):G d=run prg NW d:=by unfold G;rfl
def G_at{d i:Nat}(h:prg[i]?=some c)(l:List D)(S:Sr):G (d+1) i l S=callC (G d) NW c l S:=by
 rw[qhG,qhG];show(match prg[i]? with|some c=>callC (run prg NW d) NW c l S|none=>.no)=_;rw[h]
def qdr{d:Nat}{i:Int}:G (d+1) 0 [.int i] S=.ok (.bl true) S:=by
 rw[G_at (c:=c_0) rfl];simp[callC,c_0,Res.bind,exs,ex,ev,varE,isiD,leave]
def zR{d:Nat}{i a b:Int}:G (d+2) 1 [.int i,.int a,.int b] S=.ok (.bl (decide (a<=i)&&decide (i<=b))) S:=by
 rw[G_at (c:=c_1) rfl];by_cases h:a<=i <;> simp[callC,c_1,exs,ex,ev,evs,varE,Res.bind,qdr,cmpD,h,leave]
def qjf(x:Int)(p:03):inD (.int x) (p.map .int)=some (p.contains x):=by
 have a:(p.map D.int).all flatD=true:=by simp[flatD]
 unfold inD;rw[a];simp only[flatD,Bool.and_self,vo,List.any_map];congr 1;rw[<-List.any_beq'];rfl
def qcE{d:Nat}(hx:refsLt 0 x=true):G (d+1) 0 [x] S=.ok (.bl (isIntB x)) S:=by
 rw[G_at (c:=c_0) rfl];cases x with
 |ref n=>simp[refsLt]at hx
 |exc n=>simp[refsLt]at hx
 |_=>exact qo rfl (qm rfl)
def yP{d:Nat}{a b:Int}(hx:refsLt 0 x=true):G (d+2) 1 [x,.int a,.int b] S=.ok (.bl (wholeB a b x)) S:=by
 cases x with
 |int i=>exact zR
 |ref n=>simp[refsLt]at hx
 |exc n=>simp[refsLt]at hx
 |_ =>
  rw[G_at (c:=c_1) rfl];exact qo rfl (qm (qbA (qj rfl (qcE hx))))
def qbE{d:Nat}:G (d+1) 11 [tupI p] S=.ok (.bl (upB p)) S:=by
 rw[G_at (c:=c_11) rfl];have e:evI (G d) (.zip (.v 0) (.slc (.v 0) (.some 06) .none)) [some (tupI p)] S=.ok ((p.zip (p.drop 1)).map λq=>.t [.int q.1,.int q.2]) S:=by
  have:slcD S (tupI p) (some 1) none=some (tupI (p.drop 1)):=by
   unfold slcD tupI;simp only[cut1];simp
  simp[Res.bind,callC,exs,ex,ev,evs,evO,evI,asg,asgs,tst,tsts,varE,frE,bltD,one,two,leave,ofO,truD,this];simp only[tupI,walkF,List.zip_map',List.zip_map,vH];simp
 exact qo rfl (qm (yK (p.zip (p.drop 1)) (λq=>decide (q.1<q.2)) (λρ=>∃x y,ρ=[x,y]) e rfl ⟨_,_,rfl⟩ (by
  rintro q _ ρ ⟨x,y,rfl⟩;exact⟨_,rfl,⟨_,_,rfl⟩,by simp[Res.bind,callC,exs,ex,ev,evs,evO,evI,asg,asgs,tst,tsts,varE,frE,bltD,one,two,leave,ofO,truD,cmpD]⟩)))
def qaD{d:Nat}{p:List (List Int)}:G (d+1) 11 [.l (p.map tupI)] S=.ok (.bl (upT p)) S:=by
 rw[G_at (c:=c_11) rfl];have e:evI (G d) (.zip (.v 0) (.slc (.v 0) (.some 06) .none)) [some (.l (p.map tupI))] S=.ok ((p.zip (p.drop 1)).map λq=>.t [tupI q.1,tupI q.2]) S:=by
  have:slcD S (.l (p.map tupI)) (some 1) none=some (.l ((p.drop 1).map tupI)):=by
   unfold slcD lstOf;simp[cut1]
  rw[<-qhq];simp only[evI,ev,evO,varE,Res.bind,uQ,this,ofO,walkF]
 exact qo rfl (qm (yK (p.zip (p.drop 1)) (λq=>HT.lexLt q.1 q.2) (λρ=>∃x y,ρ=[x,y]) e rfl ⟨_,_,rfl⟩ (by
  rintro q _ ρ ⟨x,y,rfl⟩;exact⟨_,rfl,⟨_,_,rfl⟩,by simp[Res.bind,callC,exs,ex,ev,evs,evO,evI,asg,asgs,tst,tsts,varE,frE,bltD,one,two,leave,ofO,truD,cmpD,tupI,qE]⟩)))
def qaE{d:Nat}{many:Int}(hx:refsLt 0 x=true):G (d+3) 10 [x,.int many] S=.ok (.bl (placesB many x)) S:=by
 rw[G_at (c:=c_10) rfl];cases x with
 |ref n=>simp[refsLt]at hx
 |exc n=>simp[refsLt]at hx
 |t l =>
  cases l with
  |nil=>exact qo rfl (qO (S1:=S) (qM (t_no (x:=true) (t_of rfl)) rfl) (qm rfl))
  |cons a r =>
   refine qo rfl (x_no (S1:=S) (qM (t_no (x:=true) (t_of rfl)) rfl) (qm ?_));have e:=yK (g:=λy:D=>y) (F:=G (d+2)) (fr:=[1]) (nt:=1) (elt:=.call 1 (.c (.v 1) (.c 09 (.c (.bin .sub (.v 0) 06) .n)))) (tg:=.v 1) (it:=.seq (.v 0)) (ρ:=[some (.t (a::r)),some (.int many)]) (S:=S) (S1:=S) (ds:=a::r) (a::r) (wholeB 0 (many-1)) (λρ=>∃y,ρ=[some (.int many),y]) rfl 02 ⟨_,rfl⟩ (by
    rintro q j ρ ⟨y,rfl⟩;exact⟨_,rfl,⟨_,rfl⟩,qj rfl (yP (ql hx j))⟩)
   have f:=yN 0 (many-1) (a::r);cases z:intsOf (a::r)with
   |none =>
    rw[z]at f;rw[f]at e;simp only[placesB,z];exact qbA e
   |some ns =>
    rw[z]at f;rw[f]at e;have i:=qbz z;have h:ns.isEmpty=false:=by
     cases ns with
     |nil=>simp at i
     |cons b t=>rfl
    simp only[placesB,z,h,Bool.not_false,uJ];rw[i]at e ⊢;exact qcz e (qj rfl qbE)
 |_=>exact qo rfl (qO (S1:=S) (zN rfl) (qm rfl))
def ne2(n:Nat)(S:Sr):cmpD .ne (.int n) (.int 2) S=some (!decide (n=2)):=by
 show some (!((n:Int) == 2))=_;congr 2;rw[u6];simp;omega
def gtN(n:Nat)(k:Int)(S:Sr):cmpD .gt (.int n) (.int k) S=some (decide (k<n)):=rfl
def leN(n:Nat)(k:Int)(S:Sr):cmpD .le (.int n) (.int k) S=some (decide ((n:Int)<=k)):=rfl
def qcF{d:Nat}{many:Int}(hx:refsLt 0 x=true):G (d+4) 9 [x,.int many] S=.ok (.bl (placesB many x&&decide (lenT x<=4))) S:=by
 rw[G_at (c:=c_9) rfl];have ep:=qaE (d:=d) (many:=many) (S:=S) hx;cases zp:placesB many x with
 |false =>
  rw[zp]at ep;exact qo rfl (qm (qbA (qj rfl ep)))
 |true =>
  rw[zp]at ep;cases x with
  |t q =>
   refine qo rfl (qm (qcz (x:=true) (qj rfl ep) (qV (qu rfl (qL _ _)) rfl ?_)));rw[leN];congr 1;rw[decide_eq_decide];show _ ↔ q.length<=4;omega
  |_=>simp[placesB]at zp
def qfu{d:Nat}{many:Int}(hx:refsLt 0 x=true):G (d+5) 8 [x,.int many] S=.ok (.bl (tieB many x)) S:=by
 rw[G_at (c:=c_8) rfl];cases x with
 |ref n=>simp[refsLt]at hx
 |exc n=>simp[refsLt]at hx
 |t l =>
  by_cases f:l.length=2
  .match l,f with
   |[p,h],_ =>
    have i:refsLt 0 p=true:=ql hx 02;have j:refsLt 0 h=true:=ql hx 02;have ep:=qcF (d:=d) (many:=many) (S:=S) i;have m:=yP (d:=d+2) (a:=1) (b:=1000000) (S:=S) j;refine qo rfl (x_no (S1:=S) (qM (t_no (x:=true) (t_of rfl)) (t_of (qV (qu rfl (qL _ _)) rfl (ne2 _ _)))) (x_set (d:=.t [p,h]) (S1:=S) rfl (ρ1:=[some (.t [p,h]),some (.int many),some p,some h]) rfl (qm ?_)));exact qcz (qj rfl ep) (qj rfl m)
  .have:tieB many (.t l)=false:=by
    unfold tieB;split
    .rename_i e;cases e;simp at f
    .rfl
   rw[this];have e:cmpD .ne (.int l.length) (.int 2) S=some true:=by rw[ne2,wa f];rfl
   exact qo rfl (qO (S1:=S) (qM (t_no (x:=true) (t_of rfl)) (t_of (qV (qu rfl (qL _ _)) rfl e))) (qm rfl))
 |_=>exact qo rfl (qO (S1:=S) (zN rfl) (qm rfl))
def qcG{d:Nat}{many:Int}(hx:refsLt 0 x=true):G (d+6) 7 [x,.int many] S=.ok (.bl (tiesB many x)) S:=by
 rw[G_at (c:=c_7) rfl];cases x with
 |ref n=>simp[refsLt]at hx
 |exc n=>simp[refsLt]at hx
 |t l =>
  have b:tst (G (d+5)) (.val (.cmp .gt (.blt .len (.c (.v 0) .n)) (.k (.int 30)))) [some (.t l),some (.int many)] S=.ok (decide ((30:Int)<l.length)) S:=t_of (qV (qu rfl (qL _ _)) rfl (gtN _ _ _));by_cases a:l.length<=30
  .rw [wa 04]at b
   have e:=yK (g:=λy:D=>y) (F:=G (d+5)) (fr:=[1]) (nt:=1) (elt:=.call 8 (.c (.v 1) (.c (.v 0) .n))) (tg:=.v 1) (it:=.seq (.v 0)) (ρ:=[some (.t l),some (.int many)]) (S:=S) (S1:=S) (ds:=l) l (tieB many) (λρ=>∃y,ρ=[some (.int many),y]) rfl 02 ⟨_,rfl⟩ (by
    rintro q j ρ ⟨y,rfl⟩;exact⟨_,rfl,⟨_,rfl⟩,qj rfl (qfu (ql hx j))⟩)
   refine qo rfl (x_no (S1:=S) (qM (t_no (x:=true) (t_of rfl)) b) ?_);cases za:l.all (tieB many)with
   |false =>
    rw[za]at e;have:tiesB many (.t l)=false:=by simp only[tiesB,za,uL,wx]
    rw[this];exact qO (t_no (x:=false) (t_of e)) (qm rfl)
   |true =>
    rw[za]at e;obtain⟨ts,f,o⟩:=jO za;have:tiesB many (.t l)=upT (ts.map (·.1)):=by simp only[tiesB,za,w4 a,uJ,o]
    rw[this];have h:=jF (g:=tieD) (F:=G (d+5)) (fr:=[]) (nt:=2) (elt:=.v 0) (tg:=.t (.c (.v 0) (.c (.v 1) .n))) (it:=.seq (.v 0)) (ifs:=.nil) (ρ:=[some (.t l),some (.int many)]) (S:=S) (S1:=S) (ds:=l) ts (λ_=>true) (λt=>tupI t.1) (λρ=>∃x y,ρ=[x,y]) rfl f ⟨_,_,rfl⟩ (by have:=congrArg List.length f;rw[wH]at this;unfold PySem.sizeLine;omega) (by
     rintro t r ρ m ⟨x,y,rfl⟩;exact⟨_,rfl,⟨_,_,rfl⟩,rfl,λ_=>⟨rfl,yd _ t.1⟩⟩)
    rw[zb]at h;have i:=qaD (d:=d+4) (p:=ts.map (·.1)) (S:=S);rw[vH]at i;exact x_no (t_no (x:=true) (t_of e)) (qm (qj (qd h rfl) i))
  .have:tiesB many (.t l)=false:=by simp only[tiesB,wa a,wx]
   rw[this];rw[w4 04]at b;exact qo rfl (qO (S1:=S) (qM (t_no (x:=true) (t_of rfl)) b) (qm rfl))
 |_=>exact qo rfl (qO (S1:=S) (zN rfl) (qm rfl))
def chainN(a b:Int)(n:Nat)(h:ev F e ρ S=.ok (.int n) S):ev F (.chain .le .le (.k (.int a)) e (.k (.int b))) ρ S=.ok (.bl (decide (a<=n)&&decide ((n:Int)<=b))) S:=by
 by_cases z:a<=(n:Int) <;> simp[ev,h,Res.bind,cmpD,z]
def qbF{d:Nat}(hx:refsLt 0 x=true):G (d+3) 6 [x] S=.ok (.bl (costsB x)) S:=by
 rw[G_at (c:=c_6) rfl];cases x with
 |ref n=>simp[refsLt]at hx
 |exc n=>simp[refsLt]at hx
 |t l =>
  have a:tst (G (d+2)) (.not (.val (.chain .le .le 06 (.blt .len (.c (.v 0) .n)) (.k (.int 12))))) [some (.t l)] S=.ok (!(decide ((1:Int)<=l.length)&&decide ((l.length:Int)<=12))) S:=t_no (t_of (chainN _ _ _ (qu rfl (qL _ _))));by_cases b:1<=l.length/\l.length<=12
  .have e:=yK (g:=λy:D=>y) (F:=G (d+2)) (fr:=[]) (nt:=1) (elt:=.call 1 (.c (.v 0) (.c 06 (.c (.k (.int 100)) .n)))) (tg:=.v 0) (it:=.seq (.v 0)) (ρ:=[some (.t l)]) (S:=S) (S1:=S) (ds:=l) l (wholeB 1 100) (λρ=>∃y,ρ=[y]) rfl 02 ⟨_,rfl⟩ (by
    rintro q f ρ ⟨y,rfl⟩;exact⟨_,rfl,⟨_,rfl⟩,qj rfl (yP (ql hx f))⟩)
   have:costsB (.t l)=l.all (wholeB 1 100):=by simp only[costsB,w4 b.1,w4 b.2,uJ]
   rw[this];rw[w4 (show(1:Int)<=l.length by omega),w4 (show(l.length:Int)<=12 by omega)]at a;exact qo rfl (x_no (S1:=S) (qM (t_no (x:=true) (t_of rfl)) a) (qm e))
  .have hd:(decide ((1:Int)<=l.length)&&decide ((l.length:Int)<=12))=false:=by
    rw[uK,wn,wn];omega
   have:costsB (.t l)=false:=by
    have:(decide (1<=l.length)&&decide (l.length<=12))=false:=by
     rw[uK,wn,wn];omega
    simp only[costsB,this,wx]
   rw[this];rw[hd]at a;exact qo rfl (qO (S1:=S) (qM (t_no (x:=true) (t_of rfl)) a) (qm rfl))
 |_=>exact qo rfl (qO (S1:=S) (zN rfl) (qm rfl))
def qfv{d:Nat}(hx:refsLt 0 x=true):G (d+7) 5 [x] S=.ok (.bl (isWebB x)) S:=by
 rw[G_at (c:=c_5) rfl];cases x with
 |ref n=>simp[refsLt]at hx
 |exc n=>simp[refsLt]at hx
 |t l =>
  by_cases b:l.length=2
  .match l,b with
   |[c,t],_ =>
    have f:refsLt 0 c=true:=ql hx 02;have h:refsLt 0 t=true:=ql hx 02;have a:=qbF (d:=d+3) (S:=S) f;refine qo rfl (x_no (S1:=S) (qM (t_no (x:=true) (t_of rfl)) (t_of (qV (qu rfl (qL _ _)) rfl (ne2 _ _)))) (x_set (d:=.t [c,t]) (S1:=S) rfl (ρ1:=[some (.t [c,t]),some c,some t]) rfl (qm ?_)));cases zc:costsB c with
    |false =>
     rw[zc]at a;have:isWebB (.t [c,t])=false:=by simp only[isWebB,zc,wx]
     rw[this];exact qbA (qj rfl a)
    |true =>
     rw[zc]at a;cases c with
     |t q =>
      have i:=qcG (d:=d) (many:=(q.length:Int)) (S:=S) h;have:isWebB (.t [.t q,t])=(true&&tiesB (q.length:Int) t):=by simp only[isWebB,zc,lenT]
      rw[this];exact qcz (qj rfl a) (qj (qd rfl (qd (qu rfl (qL _ _)) rfl)) i)
     |_=>simp[costsB]at zc
  .have:isWebB (.t l)=false:=by
    unfold isWebB;split
    .rename_i e;cases e;simp at b
    .rfl
   rw[this];have e:cmpD .ne (.int l.length) (.int 2) S=some true:=by rw[ne2,wa b];rfl
   exact qo rfl (qO (S1:=S) (qM (t_no (x:=true) (t_of rfl)) (t_of (qV (qu rfl (qL _ _)) rfl e))) (qm rfl))
 |_=>exact qo rfl (qO (S1:=S) (zN rfl) (qm rfl))
section
variable{F:Fs}{N:Nat}{ρ:En}{S S1 S2:Sr}{e:CE}{s:CS}{r a b:CSs}{c:CB}{y:D}
theorem tc(h:tst F c ρ S=.ok x S1):tst F (.cal c) ρ S=.ok x S1:=by simp[tst,h]
theorem qhH(h:exs F N (.cons s r) ρ S=X)(d:noE (ex F N s ρ S)=ex F N s ρ S):exs F N (.c (.cal s) r) ρ S=X:=by
 rw[<-h];simp only[exs,ex,d]
theorem qds(h:ev F e ρ S=.ok d S1):exs F N (.c (.cal (.ret e)) r) ρ S=.ok (.rt d) S1:=qhH (qm h) (by simp[ex,h,Res.bind])
theorem zu(h:ex F N s ρ S=.err y S1):exs F N (.cons s r) ρ S=.err y S1:=by simp[exs,h,Res.bind]
theorem qbG(h:tst F c ρ S=.ok true S1)(d:exs F N a ρ S1=.err y S2):ex F N (.ifs c a b) ρ S=.err y S2:=by simp[ex,h,d,Res.bind]
theorem yX(h:ev F e ρ S=.err y S1):ex F N (.expr e) ρ S=.err y S1:=by simp[ex,h,Res.bind]
theorem zS{i:Nat}(h:evs F es ρ S=.ok l S1)(d:F i l S1=.err y S2):ev F (.call i es) ρ S=.err y S2:=by simp[ev,h,d,Res.bind]
theorem qa1{f:CF}{l:List D}(d:l.length=f.np)(h:exs F N f.body (l.map some++List.replicate (f.nn-f.np) none) S=.err y S1):callC F N f l S=.err y S1:=by simp[callC,d,h,Res.bind]
end
def jG{d:Nat}(hx:refsLt 0 x=true):G (d+8) 12 [x] S=if isWebB x=true then .ok .non S else .err (.exc 72) S:=by
 rw[G_at (c:=c_12) rfl];have e:=qfv (d:=d) (S:=S) hx;cases z:isWebB x with
 |true=>rw[z]at e;rw[wM rfl];exact qel rfl (x_no (S1:=S) (tc (t_no (x:=true) (t_of (qj rfl e)))) qI)
 |false=>rw[z]at e;rw[wN 01];exact qa1 rfl (zu (qbG (S1:=S) (tc (t_no (x:=false) (t_of (qj rfl e)))) (zu rfl)))
def qcH:refsLt 0 (webD w)=true:=by
 unfold webD;simp[refsLt,refsLts,yd];have:refsLts 0 (w.ties.map tieD)=true:=qJ (by intro y a;obtain⟨z,_,rfl⟩:=vD.mp a;exact yD 0 z);simpa[refsLts,refsLt]using this
def qjg(t:Tie):keyT (tieD t)=t.1:=by
 show(intsOf (t.1.map .int)).getD []=t.1;rw[qE];rfl
def qfw{n:Nat}(h:PlOk n p):placesB n (tupI p)=true:=by
 show(match intsOf (p.map .int)with|some ns=>!ns.isEmpty&&ns.all (λi=>decide (0<=i)&&decide (i<=(n:Int)-1))&&upB ns|none=>false)=true;rw[qE];have b:p.isEmpty=false:=by
  cases p with
  |nil=>exact absurd rfl h.ne
  |cons a r=>rfl
 have c:p.all (λi=>decide (0<=i)&&decide (i<=(n:Int)-1))=true:=by
  rw[wy];intro i hi;have:=h.rng i hi;simp;lia
 have d:upB p=true:=qdq h.up;simp only[b,c,d];rfl
def qlu(h:WbOk w):isWebB (webD w)=true:=by
 have c1:=h.c1;have c2:=h.c2;have t1:=h.t1;have e1:costsB (tupI w.costs)=true:=by
  show(decide (1<=(w.costs.map D.int).length)&&decide ((w.costs.map D.int).length<=12)&&(w.costs.map D.int).all (wholeB 1 100))=true;rw[wH,w4 c1,w4 c2,gE,uJ,uJ,wy];intro x hx;have:=h.c3 x hx;show(decide (1<=x)&&decide (x<=100))=true;simp;lia
 have d:tiesB w.costs.length (.t (w.ties.map tieD))=true:=by
  show(decide ((w.ties.map tieD).length<=30)&&(w.ties.map tieD).all (tieB w.costs.length)&&upT ((w.ties.map tieD).map keyT))=true;have e:(w.ties.map tieD).map keyT=w.ties.map (·.1):=by rw[vH];exact vT λt _=>qjg t
  have f:upT (w.ties.map (·.1))=true:=qek h.t3;rw[e,f,wH,w4 t1,gE,uJ,xr,wy];intro t i;obtain⟨a,b,c⟩:=h.t2 t i;show(placesB w.costs.length (tupI t.1)&&decide ((t.1.map D.int).length<=4)&&(decide (1<=t.2)&&decide (t.2<=1000000)))=true;rw[qfw a,wH,w4 b,w4 c.1,w4 c.2];rfl
 show(costsB (tupI w.costs)&&tiesB ((w.costs.map D.int).length:Nat) (.t (w.ties.map tieD)))=true;rw[e1,wH,d];rfl
def yE{d:Nat}(h:WbOk w):G (d+8) 12 [webD w] S=.ok .non S:=by
 rw[jG qcH,qlu h,wM rfl]
def jH{d:Nat}(a:refsLt 0 y=true)(h:isWebB y=false):G (d+8) 12 [y] S=.err (.exc 72) S:=by
 rw[jG a,h,wN 01]
section
variable{F:Fs}{N:Nat}{ρ:En}{S S1 S2:Sr}{e:CE}{es:CEs}{a b r:CSs}{s:CS}{c:CB}{y:D}
theorem qdt{i:Nat}(h:ev F e ρ S=.ok d S1)(f:exs F N r (ρ.set i (some d)) S1=X):exs F N (.c (.cal (.set (.v i) e)) r) ρ S=X:=qhH (x_set h rfl f) (by simp[ex,h,Res.bind,asg])
theorem jl(h:tst F c ρ S=.ok false S1)(d:exs F N b ρ S1=.err y S2):ex F N (.ifs c a b) ρ S=.err y S2:=by simp[ex,h,d,Res.bind]
theorem qjh(h:ev F e ρ S=.err y S1):ex F N (.grd e s) ρ S=.err y S1:=by simp[ex,h]
theorem qhI(h:exs F N (.cons s .nil) ρ S=.ok (.nx ρ1) S1):ex F N s ρ S=.ok (.nx ρ1) S1:=by
 simp only[exs]at h;cases z:ex F N s ρ S with
 |no=>rw[z]at h;cases h
 |err=>rw[z]at h;cases h
 |ok f S2=>rw[z,Res.bind_ok]at h;cases f <;> first|exact h|cases h
theorem qar(h:exs F N (.cons s .nil) ρ S=.ok (.nx ρ1) S1)(d:exs F N r ρ1 S1=X):exs F N (.c (.cal s) r) ρ S=X:=by
 have e:=qhI h;simp only[exs,ex,e,qgf,Res.bind_ok];exact d
theorem qlv(f:ev F e ρ S=.ok d S2)(h:exs F N (.cons s .nil) ρ S=.ok (.nx ρ1) S1)(i:exs F N r ρ1 S1=X):exs F N (.c (.grd e s) r) ρ S=X:=by
 have e:=qhI h;simp only[exs,ex,f,e,qgf,Res.bind_ok];exact i
end
def qji{d:Nat}{c:Int}:∃m:Int,0<=m/\m<10^60/\G (d+1) 20 [.int c] S=.ok (.int m) S:=by
 have a:(0:Int)<10^60:=by decide
 have b:=vB c a;have f:=uH c a;refine⟨(c.fmod (10^60)*845098040014256830712216258592636193483572396323965406503637).fmod (10^60),vB _ a,uH _ a,?_⟩;rw[G_at (c:=c_20) rfl];refine qo rfl (qm (qB (d1:=.int (c.fmod (10^60)*845098040014256830712216258592636193483572396323965406503637)) (d2:=.int (10^60)) (S1:=S) (qB (d1:=.int (c.fmod (10^60))) (S1:=S) (qB (d1:=.int c) (d2:=.int (10^60)) (S1:=S) rfl rfl rfl) rfl ?_) rfl rfl));exact bmul (qem (by
  have e:(10:Int)^60<2^250:=by decide
  have:(((2:Nat)^250:Nat):Int)=(2:Int)^250:=by norm_cast
  lia) (by decide))
def zv{d n:Nat}{v m:Int}{S:Sr}(hn:n<S.length)(a:0<m)(hm:m.natAbs<2^64):G (d+1) 22 [.ref n,.int m] (pk S n v)=.ok (.int (v.fmod m)) (pk S n (v.fdiv m)):=by
 rw[G_at (c:=c_22) rfl];have e:=qm6 hn v;have hx:exs (G d) NW c_22.body [some (.ref n),some (.int m),none] (pk S n v)=.ok (.rt (.int (v.fmod m))) (pk S n (v.fdiv m)):=by
  refine x_set (d:=.t [.int (v.fdiv m),.int (v.fmod m)]) (S1:=pk S n v) (qu (qd (qD (d:=.int v) rfl rfl ?_) (qd rfl rfl)) ?_) (ρ1:=[some (.ref n),some (.int m),some (.int (v.fmod m))]) (S2:=pk S n (v.fdiv m)) ?_ (qm rfl)
  .simp [idxD,seqOf,lstOf,e,L2.atI,L2.ixN]
  .simp [bltD,two,bDivmod,qen a hm]
  .have:putE (pk S n v) (.ref n) (.int 0) (.int (v.fdiv m))=some (pk S n (v.fdiv m)):=by
    simp[putE,putN,e,L2.ixN,refsLt];unfold pk;simp
   simp only[asg,asgs,ev,varE,Res.bind,uQ,this];rfl
 exact qaX (S2:=[]) rfl rfl (by rw[uP];exact hx) (by simp[qF]) rfl
def qcI(l:03)(x:Int)(S:Sr):∃c:Int,idxD S (.l (l.map .int++[.int x])) (.int 0)=some (.int c):=by
 cases l with
 |nil=>exact⟨x,rfl⟩
 |cons a r=>exact⟨a,by simp[idxD,seqOf,lstOf,L2.atI,L2.ixN]⟩
def qjj(l:03)(a b:Option Int):∃m:List Int,cutD (l.map .int) a b=m.map .int/\m.length<=l.length:=by
 unfold cutD;rw[wH,<-List.map_drop,<-List.map_take];exact⟨_,rfl,by simp;lia⟩
def bcat{a b:List D}(h:a.length+b.length<=1000):binD .add (.l a) (.l b) S=some (.l (a++b)):=by
 have:catOk a b=true:=by unfold catOk PySem.sizeLine;rw[w6];lia
 simp[binD,lstOf,this]
def qa2{d:Nat}{ns:03}(n:ns.length<=63){k f a:Int}{x y:Option D}{S:Sr}(p:0<=f)(u:f<10^60)(ha:0<=a)(q:a<100):∃m c:Int,0<=m/\m<10^60 /\
  (asg (G (d+1)) (.v 3) (.int a) [some (.l (ns.map .int)),some (.int k),some (.int f),x,y] S).bind (λρ1 S1=>exs (G (d+1)) NW (.c (.set (.v 4) (.idx (.bin .add (.slc (.v 0) (.some (.v 3)) (.some (.bin .add (.v 3) 06))) (.l false (.c (.bin .add (.bin .add (.bin .mul (.k (.int 5701)) (.v 3)) (.k (.int 43))) (.bin .mul (.k (.int 7)) (.idx (.bin .add (.v 0) (.l false (.c 09 .n))) 09))) .n))) 09)) (.c (.set (.v 2) (.bin .add (.bin .mul (.v 2) (.bin .pow (.k (.int 10)) (.k (.int 60)))) (.call 20 (.c (.v 4) .n)))) .n)) ρ1 S1)
   = .ok (.nx [some (.l (ns.map .int)),some (.int k),some (.int (f*10^60+m)),some (.int a),some (.int c)]) S:=by
 obtain⟨x0,b⟩:=qcI ns 0 S;obtain⟨h,i,v⟩:=qjj ns (some a) (some (a+1));obtain⟨c,r⟩:=qcI h (5701*a+43+7*x0) S;obtain⟨m,j,l,hm⟩:=qji (d:=d) (c:=c) (S:=S);refine⟨m,c,j,l,?_⟩;rw[show asg (G (d+1)) (.v 3) (.int a) [some (.l (ns.map .int)),some (.int k),some (.int f),x,y] S=.ok [some (.l (ns.map .int)),some (.int k),some (.int f),some (.int a),y] S from rfl,Res.bind_ok];refine x_set (d:=.int c) (S1:=S) (qD (d1:=.l (h.map .int++[.int (5701*a+43+7*x0)])) (S1:=S) (qB (d1:=.l (h.map .int)) (d2:=.l [.int (5701*a+43+7*x0)]) (S1:=S) ?_ ?_ (bcat (by simp;lia))) rfl r) rfl (x_set (d:=.int (f*10^60+m)) (S1:=S) (qB (d1:=.int (f*10^60)) (S1:=S) (qB (d2:=.int (10^60)) (S1:=S) rfl rfl (bmul (qem ?_ 01))) (qj rfl hm) badd) rfl qI)
 .simp only[ev,evO,varE,Res.bind,uQ,List.getElem?_cons_succ,badd,ofO,slcD,lstOf]
  simp only[wf,i]
 .have e1:ev (G (d+1)) (.bin .mul (.k (.int 7)) (.idx (.bin .add (.v 0) (.l false (.c 09 .n))) 09)) [some (.l (ns.map .int)),some (.int k),some (.int f),some (.int a),y] S=.ok (.int (7*x0)) S :=
   qB (S1:=S) rfl (qD (d1:=.l (ns.map .int++[.int 0])) (S1:=S) (qB (d2:=.l [.int 0]) (S1:=S) rfl rfl (bcat (by simp;lia))) rfl b) (bmul (yL 01))
  have s:=qB (F:=G (d+1)) (o:=.add) (S:=S) (S1:=S) (e1:=.bin .add (.bin .mul (.k (.int 5701)) (.v 3)) (.k (.int 43))) (d1:=.int (5701*a+43)) (qB (S1:=S) (qB (S1:=S) rfl rfl (bmul (yL 01))) rfl badd) e1 badd;exact yn (qd s rfl) 02
 .have e:(10:Int)^60<2^250:=by decide
  have:(((2:Nat)^250:Nat):Int)=(2:Int)^250:=by norm_cast
  lia
def qhJ{d:Nat}{ns:03}(b:ns.length<=63){k:Int}(o:0<=k)(i:k<90):∃v:Int,0<=v/\G (d+2) 21 [.l (ns.map .int),.int k] S=.ok (.ref S.length) (S++[.l [.int v]]):=by
 obtain⟨m,c,j,l,e1⟩:=qa2 (d:=d) b (k:=k) (f:=0) (a:=k+1) (x:=none) (y:=none) (S:=S) (Int.le_refl 0) 01 00 00;obtain⟨m2,c2,e,h,n⟩:=qa2 (d:=d) b (k:=k) (f:=0*10^60+m) (a:=k) (x:=some (.int (k+1))) (y:=some (.int c)) (S:=S) 00 00 00 00;refine⟨(0*10^60+m)*10^60+m2,by lia,?_⟩;rw[G_at (c:=c_21) rfl];refine qlm rfl rfl (x_set (d:=.int 0) (S1:=S) rfl (ρ1:=[some (.l (ns.map .int)),some (.int k),some (.int 0),none,none]) rfl (qaj (ds:=[.int (k+1),.int k]) (S1:=S) ?_ (ρ1:=[some (.l (ns.map .int)),some (.int k),some (.int ((0*10^60+m)*10^60+m2)),some (.int k),some (.int c2)]) (S2:=S) ?_ (qm (qhs rfl 02 rfl))))
 .have:ev (G (d+1)) (.l false (.c (.bin .add (.v 1) 06) (.c (.v 1) .n))) [some (.l (ns.map .int)),some (.int k),some (.int 0),none,none] S=.ok (.l [.int (k+1),.int k]) S:=yn (qd (qB (S1:=S) rfl rfl badd) (qd rfl rfl)) 02
  simp only[evI,this,Res.bind]
 .rw [qak e1,qak n];rfl
def qjk{r:Int}(h:0<=r/\r<8)(S:Sr):∃s:Nat,1<=s/\s<=4/\idxD S (.l [.int 2,.int 2,.int 2,.int 3,.int 3,.int 1,.int 4,.int 2]) (.int r)=some (.int s):=by
 have:r=0\/r=1\/r=2\/r=3\/r=4\/r=5\/r=6\/r=7:=by lia
 rcases this with rfl|rfl|rfl|rfl|rfl|rfl|rfl|rfl
 .exact ⟨2,by decide,by decide,rfl⟩
 .exact ⟨2,by decide,by decide,rfl⟩
 .exact ⟨2,by decide,by decide,rfl⟩
 .exact ⟨3,by decide,by decide,rfl⟩
 .exact ⟨3,by decide,by decide,rfl⟩
 .exact ⟨1,by decide,by decide,rfl⟩
 .exact ⟨4,by decide,by decide,rfl⟩
 .exact ⟨2,by decide,by decide,rfl⟩
def qhK{d n many:Nat}{v:Int}{S:Sr}(hn:n<S.length)(J:0<=v)(W:1<=many)(X:many<=60):∃(p:03) (u:Int),PlOk many p/\p.length<=4/\0<=u/\G (d+2) 23 [.ref n,.int many] (pk S n v)=.ok (tupI p) (pk S n u):=by
 obtain⟨s,K,L,M⟩:=qjk (fm (v:=v) (m:=8) 01) (pk S n (v.fdiv 8));have w:0<=v.fdiv 8:=vJ J 01;have N:(pk S n (v.fdiv 8)).length=S.length:=qF ..;have j:(if(many:Int)<(s:Int)then(many:Int)else(s:Int))=((min s many:Nat):Int):=by split <;> lia
 obtain⟨h,Y,e,⟨b,a,u,rfl,rfl,z,l⟩,E,A⟩:=qhu (g:=.int) (F:=G (d+1)) (fr:=[3,0]) (nt:=1) (elt:=.popAt (.v 0) (.call 22 (.c (.v 1) (.c (.blt .len (.c (.v 0) .n)) .n)))) (tg:=.v 2) (it:=.rng (.c (.blt .min2 (.c (.v 2) (.c (.v 1) .n))) .n))
  (ρ:=[some (.ref n),some (.int many),some (.int s),some (.ref S.length),none]) (S:=pk S n (v.fdiv 8)++[.l ((rI many).map .int)]) (S1:=pk S n (v.fdiv 8)++[.l ((rI many).map .int)]) (rI (min s many)) (λρ=>∃x,ρ=[some (.ref S.length),some (.ref n),x])
  (λh T=>∃b a u,h=b.map .int/\T=pk S n u++[.l (a.map .int)]/\0<=u/\(b++a).Perm (rI many))
  (i_rng (n:=min s many) (qd (qu (qd rfl (qd rfl rfl)) (by simp only[bltD,two,bMin,j])) rfl) 00) rfl ⟨_,rfl⟩ (by rw[q8];lia) ⟨[],rI many,_,rfl,rfl,w,.refl _⟩ (by
   rintro q Z ρ m T ⟨x,rfl⟩ ⟨b,a,u,rfl,rfl,z,l⟩ hT hm;have B:=l.length_eq;rw[wm,q8]at B;rw[wH,q8]at hm;have O:0<a.length:=by lia
   have f:=fm (v:=u) (m:=(a.length:Int)) 00;have H:=zv (d:=d) (n:=n) (v:=u) (m:=a.length) (S:=(S++[.l (a.map .int)])++[.l (b.map .int)]) (by simp;lia) 00 00;rw[<-zW (by simp;lia),<-zW hn,<-zW (by simp;lia),<-zW hn]at H;obtain⟨y,I⟩:∃y,a[(u.fmod a.length).toNat]?=some y:=⟨_,wD 00⟩;refine⟨[some (.ref S.length),some (.ref n),some (.int q)],.int y,pk S n (u.fdiv a.length)++[.l ((a.eraseIdx (u.fmod a.length).toNat).map .int)],rfl,⟨_,rfl⟩,?_,by simp[qF],rfl,b++[y],a.eraseIdx (u.fmod a.length).toNat,u.fdiv a.length,by simp,rfl,vJ z 00,?_⟩
   .have i:∀u,(pk S n u++[.l (a.map .int)]++[.l (b.map .int)])[S.length]?=some (.l (a.map .int)):=by
     intro u;rw[u9,wk (by rw[qF];lia),qF];simp
    have P:bltD .len [.ref S.length] (pk S n u++[.l (a.map .int)]++[.l (b.map .int)])=.ok (.int a.length) (pk S n u++[.l (a.map .int)]++[.l (b.map .int)]):=by
     simp only[bltD,one,bLen,lenD,i,wf,wH,ofO];rfl
    have Q:ev (G (d+1)) (.call 22 (.c (.v 1) (.c (.blt .len (.c (.v 0) .n)) .n))) [some (.ref S.length),some (.ref n),some (.int q)] (pk S n u++[.l (a.map .int)]++[.l (b.map .int)])=.ok (.int (u.fmod a.length)) (pk S n (u.fdiv a.length)++[.l (a.map .int)]++[.l (b.map .int)]) :=
     qj (qd rfl (qd (qu rfl P) rfl)) H
    have o:popD (pk S n (u.fdiv a.length)++[.l (a.map .int)]++[.l (b.map .int)]) (.ref S.length) (.int (u.fmod a.length))=.ok (.int y) (pk S n (u.fdiv a.length)++[.l ((a.eraseIdx (u.fmod a.length).toNat).map .int)]++[.l (b.map .int)]):=by
     unfold popD;simp only[i];rw[wM ⟨f.1,by lia⟩,wU,I];simp only[wf];rw[qhw,u9,List.set_append_right _ _ (by rw[qF];lia),qF];simp
    have hi:isLst (pk S n u++[.l (a.map .int)]++[.l (b.map .int)]) (.ref S.length)=true:=by simp only[isLst,i]
    exact qm9 rfl hi Q o
   .rw [u9]
    exact((qep I).append_left b).trans l)
 have C:b.Nodup:=(uO.mp (l.nodup_iff.mpr (qal many))).1;have r:∀x∈b,0<=x/\x<many:=λx hx=>jC.mp (l.mem_iff.mp (vu _ hx))
 rw[wH,q8]at A;refine⟨sortI b,u,⟨?_,?_,qcA C⟩,?_,z,?_⟩
 .intro U
  have:=(qT b).length_eq;rw[U]at this;simp at this;lia
 .exact λx hx=>r x ((qT b).mem_iff.mp hx)
 .rw [(qT b).length_eq];lia
 .rw [G_at (c:=c_23) rfl]
  refine qaX (S2:=[.l (a.map .int)]) rfl rfl (x_set (d:=.int s) (S1:=pk S n (v.fdiv 8)) (qD (S1:=pk S n v) (d2:=.int (v.fmod 8)) rfl (qj rfl (zv hn 01 01)) M) (ρ1:=[some (.ref n),some (.int many),some (.int s),none,none]) rfl (x_set (qhx (n:=many) rfl 00) (ρ1:=[some (.ref n),some (.int many),some (.int s),some (.ref S.length),none]) (by rw[N];rfl) (x_set e rfl (qm (qu (qd (qu (d:=.l ((sortI b).map .int)) (S2:=pk S n u++[.l (a.map .int)]) rfl ?_) rfl) ?_))))) (by rw[qF,qF]) (yd _ _)
  .simp only[bltD,one,bSorted,walkD,w5]
   rw[qfs 00];rfl
  .rfl
def eq0(r:Int)(S:Sr):cmpD .eq (.int r) (.int 0) S=some (r == 0):=rfl
def qlw{j:Nat}{w:Int}(h:S[j]?=some (dicD ts))(a:ts.length<1000):putE S (.ref j) (tupI k) (.int w)=some (S.set j (dicD (putTie k w ts))):=by
 unfold putE;rw[wM (show refsLt 0 (D.int w)=true from rfl)];simp only[putN,h,dicD,tupI,qE,w5,wH,a,vo,qhy]
def qhL(h:ev F o ρ S=.ok x S1)(b:ev F i ρ S1=.ok y S2)(c:putE S2 x y v=some a):asg F (.sub o i) v ρ S=.ok ρ a:=by
 simp only[asg,h,b,c,Res.bind]
def Sm(w:Wb):Prop:=(∀c∈w.costs,c<=5)/\∀t∈w.ties,t.2<=9
def qlx{ts:List Tie}{m:Int}(h:∀t∈ts,t.2<=m){k:03}{w:Int}(b:w<=m):∀t∈putTie k w ts,t.2<=m:=by
 unfold putTie;split
 .intro t a
  obtain⟨s,c,rfl⟩:=vD.mp a;split
  .exact b
  .exact h s c
 .intro t a
  rcases wi.mp a with z|z
  .exact h t z
  .simp at z;subst z;exact b
def qly{ts:List Tie}{m:Int}(h:∀t∈ts,t.2<=m):∀t∈srt ts,t.2<=m:=by
 intro t a;unfold srt at a;obtain⟨k,b,rfl⟩:=vD.mp a;obtain⟨_,s,c,e1,d⟩:=jN ((qS _).mem_iff.mp b);show look ts k<=m;rw[<-d];exact h s c
def qcJ{d n many:Nat}{v tn:Int}{S:Sr}{cs:03}{x0:Option D}(hn:n<S.length)(K:0<=v)(L:1<=many)(X:many<=12)(M:0<=tn)(Y:tn<=30)(f:cs.length=many)(s:∀c∈cs,1<=c/\c<=100)(z:∀c∈cs,c<=5):∃(w:Wb) (u:Int) (T:Sr),WbOk w/\w.costs.length=many/\Sm w/\(w.ties.length:Int)<=tn/\0<=u /\
  exs (G (d+2)) NW (tl (tl (tl c_24.body))) [some (.ref n),x0,some (.int tn),some (.int many),some (.l (cs.map .int)),none,none,none] (pk S n v)=.ok (.rt (webD w)) (pk S n u++T):=by
 have hm:0<tn+1:=by lia
 have fr:=fm (v:=v) hm;obtain⟨c,N⟩:∃c:Nat,v.fmod (tn+1)=c:=⟨(v.fmod (tn+1)).toNat,by lia⟩;have I:=zv (d:=d+1) (n:=n) (v:=v) (m:=tn+1) (S:=S++[dicD []]) (by simp;lia) hm 00;rw[<-zW hn,<-zW hn,N]at I;obtain⟨O,Z,P,x,y,ts,u,rfl,rfl,A,r,i,a⟩:=yM (g:=.int) (body:=λdd ρ S=>(asg (G (d+2)) (.v 6) dd ρ S).bind λρ1 S1=>exs (G (d+2)) NW (.c (.set (.v 7) (.call 23 (.c (.v 0) (.c (.v 3) .n)))) (.c (.set (.sub (.v 5) (.v 7)) (.bin .add 06 (.call 22 (.c (.v 0) (.c (.k (.int 9)) .n))))) .n)) ρ1 S1)
  (λ(pre:List Int) ρ T=>∃x y ts u,ρ=[some (.ref n),x0,some (.int tn),some (.int many),some (.l (cs.map .int)),some (.ref S.length),x,y]/\T=pk S n u++[dicD ts]/\0<=u/\KnOk many ts/\ts.length<=pre.length/\∀t∈ts,t.2<=9) (rI c)
  (ρ:=[some (.ref n),x0,some (.int tn),some (.int many),some (.l (cs.map .int)),some (.ref S.length),none,none]) (S:=pk S n (v.fdiv (tn+1))++[dicD []])
  ⟨_,_,[],_,rfl,rfl,vJ K 00,⟨List.nodup_nil,λt h=>by simp at h⟩,by simp,by simp⟩ (by
   rintro pre q Q ρ T l ⟨x,y,ts,u,rfl,rfl,A,r,i,a⟩;have o:=congrArg List.length l;rw[q8,wm,w8]at o;obtain⟨p,e,U,B,C,ep⟩:=qhK (d:=d) (n:=n) (many:=many) (v:=u) (S:=S++[dicD ts]) (by simp;lia) A L 00;have J:=zv (d:=d+1) (n:=n) (v:=e) (m:=9) (S:=S++[dicD ts]) (by simp;lia) 01 01;rw[<-zW hn,<-zW hn]at ep J;have f9:=fm (v:=e) (m:=9) 01;have b:(pk S n (e.fdiv 9)++[dicD ts])[S.length]?=some (dicD ts):=by
    rw[wk (by rw[qF];lia),qF];simp
   obtain⟨E,W⟩:=r.put (k:=p) (w:=1+e.fmod 9) U B 00 00;refine⟨[some (.ref n),x0,some (.int tn),some (.int many),some (.l (cs.map .int)),some (.ref S.length),some (.int q),some (tupI p)],pk S n (e.fdiv 9)++[dicD (putTie p (1+e.fmod 9) ts)],?_,_,_,_,_,rfl,rfl,vJ C 01,E,by simp;lia,qlx a 00⟩;rw[show asg (G (d+2)) (.v 6) (.int q) [some (.ref n),x0,some (.int tn),some (.int many),some (.l (cs.map .int)),some (.ref S.length),x,y] (pk S n u++[dicD ts])=.ok [some (.ref n),x0,some (.int tn),some (.int many),some (.l (cs.map .int)),some (.ref S.length),some (.int q),y] (pk S n u++[dicD ts])from rfl,Res.bind_ok];refine x_set (qj rfl ep) (ρ1:=[some (.ref n),x0,some (.int tn),some (.int many),some (.l (cs.map .int)),some (.ref S.length),some (.int q),some (tupI p)]) rfl (x_set (qB rfl (qj rfl J) badd) (qhL rfl rfl (qlw b 00)) ?_);rw[List.set_append_right _ _ (by rw[qF];lia),qF];simp[exs])
 obtain⟨F,H⟩:=qlo r;rw[q8]at i;refine⟨⟨cs,srt ts⟩,u,[dicD ts],⟨by show 1<=cs.length;lia,by show cs.length<=12;lia,s,by show(srt ts).length<=30;rw[qeq];lia,by show ∀t∈srt ts,PlOk cs.length t.1/\_;rw[f];exact F,H⟩,f,⟨z,qly a⟩,by show((srt ts).length:Int)<=tn;rw[qeq];lia,A,?_⟩;have b:(pk S n u++[dicD ts])[S.length]?=some (dicD ts):=by
  rw[wk (by rw[qF];lia),qF];simp
 refine x_set (d:=.ref S.length) (S1:=pk S n v++[dicD []]) ?_ (ρ1:=[some (.ref n),x0,some (.int tn),some (.int many),some (.l (cs.map .int)),some (.ref S.length),none,none]) rfl (qaj (i_rng (n:=c) (qd (qj (qd rfl (qd (qB rfl rfl badd) rfl)) I) rfl) 00) P (qm (zd (qd (qu (d:=tupI cs) (S2:=pk S n u++[dicD ts]) rfl rfl) (qd (qlp (kx:=5) (j:=S.length) rfl b r 00) rfl)) (by simp[PySem.sizeLine]))));have:(pk S n v).length=S.length:=qF ..;simp only[ev,vo,this];rfl
def rep1(m:Nat):rep [D.int 1] (m:Int)=(List.replicate m (1:Int)).map .int:=by
 unfold rep;have:((m:Int)).toNat=m:=by lia
 rw[this,List.map_replicate];induction m with
 |zero=>rfl
 |succ k a =>
  rw[vg,u7,a 00,vg];rfl
def qne{d n:Nat}{v mo tn:Int}{S:Sr}(hn:n<S.length)(M:0<=v)(N:1<=mo)(O:mo<=12)(y:0<=tn)(K:tn<=30):∃(w:Wb) (u:Int),WbOk w/\(w.costs.length:Int)<=mo/\Sm w/\(w.ties.length:Int)<=tn/\0<=u/\G (d+3) 24 [.ref n,.int mo,.int tn] (pk S n v)=.ok (webD w) (pk S n u):=by
 have f:=fm (v:=v) (m:=mo) 00;obtain⟨many,i⟩:∃c:Nat,1+v.fmod mo=c:=⟨(1+v.fmod mo).toNat,by lia⟩;have E:0<=v.fdiv mo:=vJ M 00;have A:0<=(v.fdiv mo).fdiv 3:=vJ E 01;have a:∀{w:Wb} {u:Int} {T:Sr} {cs:03} {v3:Int},exs (G (d+2)) NW (tl (tl c_24.body)) [some (.ref n),some (.int mo),some (.int tn),some (.int many),some (.l ((List.replicate many (1:Int)).map .int)),none,none,none] (pk S n (v.fdiv mo))=.ok (.rt (webD w)) (pk S n u++T)->G (d+3) 24 [.ref n,.int mo,.int tn] (pk S n v)=.ok (webD w) (pk S n u):=by
  intro w u T cs v3 h;rw[G_at (c:=c_24) rfl];refine qaX (S2:=T) rfl rfl (x_set (d:=.int many) (S1:=pk S n (v.fdiv mo)) (qB (d2:=.int (v.fmod mo)) (S1:=pk S n v) rfl (qj rfl (zv hn 00 00)) (by rw[badd,i])) (ρ1:=[some (.ref n),some (.int mo),some (.int tn),some (.int many),none,none,none,none]) rfl (x_set (d:=.l ((List.replicate many (1:Int)).map .int)) (S1:=pk S n (v.fdiv mo)) (qB (S1:=pk S n (v.fdiv mo)) (yn rfl 02) rfl ?_) (ρ1:=[some (.ref n),some (.int mo),some (.int tn),some (.int many),some (.l ((List.replicate many (1:Int)).map .int)),none,none,none]) rfl h)) (by rw[qF,qF]) (qhr _ _);have:repOk [D.int 1] (many:Int)=true:=by
   unfold repOk PySem.sizeLine;rw[w6];refine⟨by lia,by lia,?_⟩;simp;lia
  simp only[binD,lstOf];rw[wM this,rep1]
 have j:=zv (d:=d+1) (n:=n) (v:=v.fdiv mo) (m:=3) hn 01 01;by_cases z:((v.fdiv mo).fmod 3)=0
 .rw [z]at j
  obtain⟨b,Q,e,⟨cs,P,rfl,rfl,H,l,o⟩,_,B⟩:=qhu (g:=.int) (F:=G (d+2)) (fr:=[0]) (nt:=1) (elt:=.bin .add 06 (.call 22 (.c (.v 0) (.c (.k (.int 5)) .n)))) (tg:=.v 1) (it:=.rng (.c (.v 3) .n))
   (ρ:=[some (.ref n),some (.int mo),some (.int tn),some (.int many),some (.l ((List.replicate many (1:Int)).map .int)),none,none,none]) (S:=pk S n ((v.fdiv mo).fdiv 3)) (S1:=pk S n ((v.fdiv mo).fdiv 3)) (rI many) (λρ=>∃x,ρ=[some (.ref n),x])
   (λb T=>∃cs u,b=cs.map .int/\T=pk S n u/\0<=u/\(∀c∈cs,(1:Int)<=c/\c<=100)/\∀c∈cs,c<=(5:Int)) (i_rng rfl 00) rfl ⟨_,rfl⟩ (by rw[q8];lia) ⟨[],_,rfl,rfl,A,by simp,by simp⟩ (by
    rintro q U ρ m T ⟨x,rfl⟩ ⟨cs,u,rfl,rfl,C,l,o⟩ _ _;have L:=zv (d:=d+1) (n:=n) (v:=u) (m:=5) (S:=S++[.l (cs.map .int)]) (by simp;lia) 01 01;rw[<-zW hn,<-zW hn]at L;have W:=fm (v:=u) (m:=5) 01;refine⟨_,.int (1+u.fmod 5),pk S n (u.fdiv 5),rfl,⟨_,rfl⟩,qB rfl (qj rfl L) badd,by rw[qF,qF],rfl,cs++[1+u.fmod 5],_,by simp,rfl,vJ C 01,?_,?_⟩
    .intro c p
     rcases wi.mp p with z|z
     .exact l c z
     .simp at z;lia
    .intro c p
     rcases wi.mp p with z|z
     .exact o c z
     .simp at z;lia)
  rw[wH,q8]at B;obtain⟨w,u,T,I,J,r,s,C,hx⟩:=qcJ (d:=d) (tn:=tn) (x0:=some (.int mo)) hn H 00 00 y K B l o;refine⟨w,u,I,by lia,r,s,C,a (cs:=cs) (v3:=P) (yW (t_of (qV (qj rfl j) rfl (eq0 _ _))) (x_set e rfl qI) hx)⟩
 .obtain ⟨w,u,T,I,J,r,s,C,hx⟩:=qcJ (d:=d) (many:=many) (tn:=tn) (x0:=some (.int mo)) (cs:=List.replicate many 1) hn A 00 00 y K 02 (by intro c p;rw[List.mem_replicate]at p;lia) (by intro c p;rw[List.mem_replicate]at p;lia)
  refine⟨w,u,I,by lia,r,s,C,a (cs:=[]) (v3:=0) (x_no (t_of (qV (qj rfl j) rfl ?_)) hx)⟩;rw[eq0,vA.mpr z]
def qnf{d:Nat}{a b:Int}(ha:0<=a)(f:0<=b)(e:b<2^20):G (d+1) 2 [.int a,.int b] S=.ok (.int (eu NW a b)) S:=by
 rw[G_at (c:=c_2) rfl];have h:=wl (S:=S) (test:=λρ S=>tst (G d) (.val (.v 1)) ρ S) (body:=λρ S=>exs (G d) NW (.c (.set (.t (.c (.v 0) (.c (.v 1) .n))) (.t (.c (.v 1) (.c (.bin .mod (.v 0) (.v 1)) .n)))) .n) ρ S) (E:=λa b=>[some (.int a),some (.int b)]) (λa b=>rfl) (λa b h=>x_set (zd (qd rfl (qd (qB rfl rfl (bmod 04)) rfl)) (by simp[PySem.sizeLine])) rfl qI) 20 NW a b ha f e 01;exact qo rfl (qer h (qm rfl))
def qhM{d:Nat}{t b:Int}(e:0<=t)(h:1<=b)(f:b<2^20):G (d+2) 3 [.int t,.int b] S=.ok (low NW t b) S:=by
 rw[G_at (c:=c_3) rfl];have a:=qhB (n:=59) e (show 0<b by omega);refine qo rfl (x_set (d:=.int (eu NW t b)) (S1:=S) (qj (qd (qu rfl (qnb e)) rfl) (qnf e 04 f)) (ρ1:=[some (.int t),some (.int b),some (.int (eu NW t b))]) rfl (qm (zd (qd (qB rfl rfl (bdiv a.1 (by have:=a.2;show(eu (59+1) t b).natAbs<2^64;omega))) (qd (qB rfl rfl (bdiv a.1 (by have:=a.2;show(eu (59+1) t b).natAbs<2^64;omega))) rfl)) (by simp[PySem.sizeLine]))))
noncomputable def nmD(p:Int×Int):D:=.t [.int p.1,.int p.2]
def qlz{t b:Int}(c:0<=t)(d:1<=b)(a:b<2^20):low NW t b=nmD (lw t b):=by
 unfold low nmD lw;rw[qlt 20 NW t b c 00 a 01]
def qhN{d:Nat}{t b:Int}(c:0<=t)(e:1<=b)(a:b<2^20):G (d+2) 3 [.int t,.int b] S=.ok (nmD (lw t b)) S:=by
 rw[<-qlz c e a];exact qhM c e a
structure Nm (p:Int×Int):Prop where
 t:p.1.natAbs<2^60
 b1:1<=p.2
 b2:p.2<2^60
def qlA{t b:Int}(a:1<=b):(lw t b).1.natAbs<=t.natAbs:=by
 obtain⟨c,_⟩:=qbD (t:=t) a;have d:=yO (t:=t) a;have:((lw t b).1*(Int.gcd t b:Int)).natAbs=t.natAbs:=by rw[c]
 rw[Int.natAbs_mul]at this;rw[<-this];exact Nat.le_mul_of_pos_right _ 00
def qng{t b:Int}(c:0<=t)(a:1<=b):0<=(lw t b).1:=by
 obtain⟨d,_⟩:=qbD (t:=t) a;have e:=yO (t:=t) a;rcases Int.lt_or_le (lw t b).1 0 with z|z
 .have:=Int.mul_neg_of_neg_of_pos z (show(0:Int)<(Int.gcd t b:Int) by lia)
  lia
 .exact z
def qnh{t b:Int}(a:1<=b):(lw t b).2<=b:=by
 obtain⟨d,c⟩:=qbD (t:=t) a;have e:=yO (t:=t) a;have f:=(qjS (t:=t) a).pos;have:=xN (show(1:Int)<=(Int.gcd t b:Int) by lia) (show 0<=(lw t b).2 by lia);rw[c]at this;lia
def qjT{t b:Int}(d:t.natAbs<2^60)(a:1<=b)(c:b<2^60):Nm (lw t b):=⟨Nat.lt_of_le_of_lt (qlA a) d,(qjS a).pos,Int.lt_of_le_of_lt (qnh a) c⟩
noncomputable def und(p q:Int×Int):Bool:=decide (p.1*q.2<q.1*p.2)
def qcK(p:Int×Int):und p p=false:=by unfold und;rw[wa 00]
def jm{d:Nat}(a:Nm p)(b:Nm q):G (d+1) 4 [nmD p,nmD q] S=.ok (.bl (und p q)) S:=by
 rw[G_at (c:=c_4) rfl];have e:=a.t;have f:=b.t;exact qo rfl (qm (qV (qB (S1:=S) (qD (S1:=S) rfl rfl rfl) (qD (S1:=S) rfl rfl rfl) (bmul (yL 00))) (qB (S1:=S) (qD (S1:=S) rfl rfl rfl) (qD (S1:=S) rfl rfl rfl) (bmul (yL 00))) rfl))
structure Rdl (x:D) (S:Sr) (p:03):Prop where
 sq:∀X,seqOf (S++X) x=some (p.map .int)
 rx:∃gd,refX x S=some (p.map .int,gd)/\∀X,gd (S++X)
def qlB{n:Nat}{p:03}(h:S[n]?=some (.l (p.map .int))):Rdl (.ref n) S p:=by
 have b:=(wP.mp h).1;have a:∀X,(S++X)[n]?=some (.l (p.map .int)):=λX=>by rw[wW b];exact h
 refine⟨λX=>?_,own n (p.map .int),?_,λX=>a X⟩
 .simp only[seqOf,lstOf,a X]
 .simp only[refX,h]
def qcL{b:Type}{g:b->D}{gd:Sr->Prop}{bind:D->En->Sr->Res En}{test:En->Sr->Res Bool}{elt:En->Sr->Res D}{v:b->Int}(R:En->Prop){S:Sr}(c:gd S):∀(ds:List b) (ρ:En) (a:Int),R ρ ->
  (∀d∈ds,∀ρ:En,R ρ->∃ρ1,bind (g d) ρ S=.ok ρ1 S/\R ρ1/\test ρ1 S=.ok true S/\elt ρ1 S=.ok (.int (v d)) S) ->
  genLoopG gd bind test elt (stepG .sum) (finG .sum) (ds.map g) ρ (.int a) S=.ok (.int (a+(ds.map v).sum)) S
 |[],ρ,a,_,_=>by rw[gC];unfold genLoopG;rw[zA c];simp[finG]
 |d::ds,ρ,a,hR,H=>by
  obtain⟨ρ1,e1,e,f,h⟩:=H d wL ρ hR;rw[wS];unfold genLoopG;rw[zA c,e1,Res.bind_ok,f,Res.bind_ok,wM rfl,h,Res.bind_ok];simp only[stepG];rw[qcL R c ds ρ1 _ e λd' hd=>H d' (wO _ hd)];simp[Int.add_assoc]
def qlC{F:Fs}{ρ:En}{S S1:Sr}{w:GW}{fr:List Nat}{nt:Nat}{a e:CE}{t:CT}{b:CBs}{x:D}{ds:List D}{gd:Sr->Prop}{r:Res D}(h:ev F e ρ S=.ok x S1)(c:refX x S1=some (ds,gd))(f:genLoopG gd (λd ρ S=>asg F t d ρ S) (λρ S=>tsts F b ρ S) (λρ S=>ev F a ρ S) (stepG w) (finG w) ds (frE ρ fr nt) (startG w) S1=r):ev F (.genX w fr nt a t e b) ρ S=r:=by
 simp only[ev,h,Res.bind,c];exact f
def jI:∀l:List Bool,boolsOf (l.map .bl)=some l
 |[]=>rfl
 |a::r=>by simp[boolsOf,jI r]
def qni(l:List Bool)(S:Sr):bltD .all [.l (l.map .bl)] S=.ok (.bl (l.all id)) S:=by
 simp only[bltD,one,bAll,seqOf,lstOf,w5,jI,wf,ofO]
def e_tw{d:Nat}(h:WbOk w)(hx:Rdl x S p):G (d+2) 15 [webD w,x] S=.ok (.l ((tin w p).map tieD)) S:=by
 rw[G_at (c:=c_15) rfl];refine qo rfl (qm ?_);exact jF (g:=tieD) (S1:=S) w.ties (λt=>subB t.1 p) tieD (λρ=>∃y,ρ=[some x,y]) rfl rfl ⟨_,rfl⟩ (by have:=h.t1;unfold PySem.sizeLine;lia) (by
   rintro t ht ρ m ⟨y,rfl⟩;refine⟨_,rfl,⟨_,rfl⟩,qhp (t_of ?_),λ_=>⟨rfl,yD _ t⟩⟩;exact yK (g:=.int) t.1 (λq=>p.contains q) (λρ=>∃y,ρ=[some x,y]) rfl rfl ⟨_,rfl⟩ (by
    rintro q hq ρ ⟨y,rfl⟩;exact⟨_,rfl,⟨_,rfl⟩,qV rfl rfl (by show(seqOf (S++[.l m]) x).bind (inD (.int q))=_;rw[hx.sq,w5,qjf])⟩))
noncomputable def shr(w:Wb)(p:03):Int×Int:=lw (mass w p) (price w p)
def qhO{M:Int}(b:0<=M):∀l:List Tie,(∀t∈l,0<=t.2/\t.2<=M)->0<=(l.map (·.2)).sum/\(l.map (·.2)).sum<=M*l.length
 |[],_=>by simp
 |a::r,h=>by
  have d:=qhO b r λt c=>h t (wO _ c)
  have f:=h a wL;rw[wS,List.sum_cons,w8];have e:M*((r.length+1:Nat):Int)=M*r.length+M:=by rw[Int.natCast_add,Int.mul_add];simp
  rw[e];lia
def qhP(h:WbOk w)(p:03):(tin w p).length<=30/\∀t∈tin w p,0<=t.2/\t.2<=1000000:=by
 refine⟨vG (gD _ _) h.t1,λt a=>?_⟩;have:=(h.t2 t (uv.mp a).1).2.2;lia
def qhQ(h:WbOk w)(p:03):0<=mass w p/\mass w p<=30000000:=by
 obtain⟨a,b⟩:=qhP h p;have:=qhO (M:=1000000) 01 (tin w p) b;unfold mass;lia
def qjU{T:List Tie}(h:T.length<=30)(a:∀t∈T,0<=t.2/\t.2<=1000000)(x:Int):0<=deg T x/\deg T x<=30000000:=by
 have:=qhO (M:=1000000) 01 (T.filter λt=>t.1.contains x) λt b=>a t (uv.mp b).1
 have c:=gD (λt:Tie=>t.1.contains x) T;unfold deg;lia
def qjV(h:WbOk w){x:Int}(a:0<=x)(b:x<w.costs.length):1<=cstI w x/\cstI w x<=100:=by
 have hx:x.toNat<w.costs.length:=by lia
 refine h.c3 _ ?_;unfold cstI;rw[wt,wD hx];exact uV hx
def qhR(h:WbOk w)(e:PlOk w.costs.length p):Nm (shr w p):=by
 obtain⟨a,b⟩:=qhQ h p;obtain⟨c,d⟩:=qcB h e;exact qjT 00 c 00
noncomputable def rat(w:Wb)(left:03)(x:Int):Int×Int:=lw (deg (tin w left) x) (cstI w x)
def qdu(h:WbOk w)(left:03){x:Int}(i:0<=x)(j:x<w.costs.length):Nm (rat w left x):=by
 obtain⟨a,b⟩:=qhP h left;obtain⟨c,d⟩:=qjU a b x;obtain⟨e,f⟩:=qjV h i j;exact qjT 00 e 00
noncomputable abbrev Of:=Int×(Int×Int)
noncomputable def offD(o:Of):D:=.t [.int o.1,nmD o.2]
noncomputable def offS(r:Int->Int×Int)(a:Of)(x:Int):Of:=if und (r x) a.2 then(x,r x)else a
noncomputable def offP(r:Int->Int×Int):List Int->Of
 |[]=>(0,(0,1))
 |p::ps=>ps.foldl (offS r) (p,r p)
def qa3(r:Int->Int×Int)(h:l≠[])(x:Int):offP r (l++[x])=offS r (offP r l) x:=by
 cases l with
 |nil=>exact absurd rfl h
 |cons a l=>simp[offP]
def qbH(r:Int->Int×Int):∀(n:Nat) (l:03),l.length=n->l≠[]->∃x∈l,offP r l=(x,r x):=by
 intro n;induction n with
 |zero=>intro l h a;exact absurd (vC.mp h) a
 |succ n c =>
  intro l h a;rcases List.eq_nil_or_concat l with rfl|⟨ys,y,rfl⟩
  .exact absurd rfl a
  .rw [List.concat_eq_append]at h a ⊢
   by_cases b:ys=[]
   .subst b;exact⟨y,by simp,rfl⟩
   .obtain ⟨x,hx,e⟩:=c ys (by simpa using h) b
    rw[qa3 r b];unfold offS;split
    .exact ⟨y,by simp,rfl⟩
    .exact ⟨x,by simp[hx],e⟩
def qhS(T:List Tie)(t:Tie)(x:Int):deg (T++[t]) x=deg T x+if t.1.contains x then t.2 else 0:=by
 unfold deg;rw[List.filter_append,xV,List.sum_append];congr 1;by_cases h:t.1.contains x=true
 .rw [wM h,xy,wM h];simp
 .rw [wN h,xy,wN h];simp
noncomputable def dgL(f:Int->Int)(ps:03):List ((Int ⊕ PySem.Str)×D):=ps.map λp=>((.inl p:Int ⊕ PySem.Str),.int (f p))
def qex(f:Int->Int){p:Int}:∀{ps:03},p∈ps->lookT (.inl p:Int ⊕ PySem.Str) (dgL f ps)=some (.int (f p))
 |[],h=>by simp at h
 |a::r,h=>by
  show lookT _ (((.inl a:Int ⊕ PySem.Str),D.int (f a))::dgL f r)=_;unfold lookT;by_cases e:a=p
  .subst e;rw[wM rfl]
  .rw [wN (by simpa using e)]
   exact qex f ((wQ.mp h).resolve_left λz=>e z.symm)
def qlD(f:Int->Int){p v:Int}(h:p∈ps):putT (.inl p:Int ⊕ PySem.Str) (.int v) (dgL f ps)=dgL (λx=>if x=p then v else f x) ps:=by
 unfold putT;have ha:(dgL f ps).any (λq=>decide (q.1=(.inl p:Int ⊕ PySem.Str)))=true:=by
  rw[vr];exact⟨_,List.mem_map_of_mem h,by simp⟩
 rw[wM ha];unfold dgL;rw[vH];apply vT;intro x _;show(if(.inl x:Int ⊕ PySem.Str)=.inl p then((.inl x:Int ⊕ PySem.Str),D.int v)else(.inl x,.int (f x)))=_;by_cases e:x=p
 .subst e;rw[wM rfl];simp
 .rw [wN (by simpa using e)];simp[e]
def qhT:∀(ns:03) (a:03),(a++ns).Nodup->ns.foldl (λl k=>putT (.inl k:Int ⊕ PySem.Str) (.int 0) l) (dgL (λ_=>0) a)=dgL (λ_=>0) (a++ns)
 |[],a,_=>by simp
 |k::r,a,nd=>by
  have b:k∉a:=λh=>(uO.mp nd).2.2 k h k 02 rfl
  have e:putT (.inl k:Int ⊕ PySem.Str) (.int 0) (dgL (λ_=>0) a)=dgL (λ_=>0) (a++[k]):=by
   unfold putT;have ha:¬(dgL (λ_=>0) a).any (λq=>decide (q.1=(.inl k:Int ⊕ PySem.Str)))=true:=by
    rw[vr];rintro⟨q,c,e⟩;obtain⟨x,hx,rfl⟩:=vD.mp c;simp at e;exact b (e ▸ hx)
   rw[wN ha];unfold dgL;rw[xV];rfl
  rw[xW,e,qhT r (a++[k]) (by simpa using nd)];simp
def qjl{ns:03}(nd:ns.Nodup):dcKL 0 ns=dgL (λ_=>0) ns:=qhT ns [] (by simpa using nd)
def qlE{N:Nat}{a b:Int}(d:ev F o ρ S=.ok x S)(f:ev F i ρ S=.ok y S)(h:idkD S x y=some (.int a))(j:ev F e ρ S=.ok (.int b) S)(l:putE S x y (.int (a+b))=some c)(m:exs F N r ρ c=Y):exs F N (.c (.augK o i e) r) ρ S=Y:=by
 simp only[exs,ex,d,f,h,j,l,Res.bind];exact m
def qhU(h:ev F a ρ S=.ok x S1)(b:ev F i ρ S1=.ok y S2)(c:idkD S2 x y=some d):ev F (.idk a i) ρ S=.ok d S2:=by
 simp only[ev,h,b,c,Res.bind];rfl
def qnj{F:Fs}{ρ:En}{S S1:Sr}{e:CE}{x:D}{ns:03}{gd:Sr->Prop}(h:ev F e ρ S=.ok x S1)(a:refX x S1=some (ns.map .int,gd))(b:ns.length<=100)(nd:ns.Nodup):ev F (.dcK 0 e) ρ S=.ok (.ref S1.length) (S1++[.dis (dgL (λ_=>0) ns)]):=by
 simp only[ev,h,Res.bind,a,qE,qjl nd];rw[wM 00]
noncomputable abbrev dS(S:Sr)(f:Int->Int)(ps:03):Sr:=S++[.dis (dgL f ps)]
def qjW(S:Sr)(f:Int->Int)(ps:03):(dS S f ps)[S.length]?=some (.dis (dgL f ps)):=by simp[dS]
def qdv{p:Int}(h:p∈ps):idkD (dS S f ps) (.ref S.length) (.int p)=some (.int (f p)):=by
 simp only[idkD,qjW,keyD,w5,qex f h]
def qlF{p v:Int}(h:p∈ps)(b:ps.length<=100):putE (dS S f ps) (.ref S.length) (.int p) (.int v)=some (dS S (λx=>if x=p then v else f x) ps):=by
 have a:(dgL f ps).length<1000:=by unfold dgL;rw[wH];lia
 unfold putE;rw[wM (show refsLt 0 (D.int v)=true from rfl)];simp only[putN,qjW,keyD,w5];rw[wM a,qlD f h];simp[dS]
def qas{ps:03}(h:∀p∈ps,f p=g p):dS S f ps=dS S g ps:=by
 unfold dS dgL;congr 3;apply vT;intro x hx;rw[h x hx]
def qhV{n:Nat}{l:03}{x:Int}(h:S[n]?=some (.l (l.map .int)))(a:l=x::r):idxD S (.ref n) (.int 0)=some (.int x):=by
 subst a;have hx:L2.ixN ((x::r).map D.int).length (0:Int)=some 0:=by
  unfold L2.ixN;rw[wM 01,wM 02];rfl
 simp only[idxD,seqOf,lstOf,h,w5,L2.atI,hx];rfl
def qdw{d n:Nat}{left:03}(h:WbOk w)(hn:S[n]?=some (.l (left.map .int)))(u:PlOk w.costs.length left):G (d+3) 17 [tupI w.costs,.l ((tin w left).map tieD),.ref n] S=.ok (offD (offP (rat w left) left)) S:=by
 have hl:=qap h u;have nd:=qan u.up;have W:=(wP.mp hn).1;have A:∀X,(S++X)[n]?=some (.l (left.map .int)):=λX=>by rw[wW W];exact hn
 have z2:PySem.sizeLine>=2:=by unfold PySem.sizeLine;lia
 rw[G_at (c:=c_17) rfl];obtain⟨T,M⟩:∃T,T=tin w left:=⟨_,rfl⟩;rw[<-M];have B:∀t∈T,t∈w.ties/\subB t.1 left=true:=λt N=>by rw[M]at N;exact uv.mp N
 have C:∀x,lw (deg T x) (cstI w x)=rat w left x:=λx=>by rw[M];rfl
 obtain⟨b1,b2⟩:=qhP h left;rw[<-M]at b1 b2;obtain⟨ρ1,S1,ef,O,m,a6,rfl,rfl⟩:=yM (g:=tieD) (body:=λdd ρ S=>(asg (G (d+2)) (.t (.c (.v 5) (.c (.v 6) .n))) dd ρ S).bind λρ1 S1=>exs (G (d+2)) NW (.c (.forS (.v 4) (.seq (.v 5)) (.c (.augK (.v 3) (.v 4) (.v 6)) .n)) .n) ρ1 S1)
  (λpre ρ U=>∃a b c,ρ=[some (tupI w.costs),some (.l (T.map tieD)),some (.ref n),some (.ref S.length),a,b,c,none,none]/\U=dS S (deg pre) left) T (ρ:=[some (tupI w.costs),some (.l (T.map tieD)),some (.ref n),some (.ref S.length),none,none,none,none,none]) (S:=dS S (deg []) left) ⟨_,_,_,rfl,rfl⟩ (by
   rintro pre t Y ρ U j ⟨a,b,c,rfl,rfl⟩;obtain⟨N,hs⟩:=B t (by rw[j];simp);have Z:∀q∈t.1,q∈left:=λq o=>by
    have:=wy.mp hs q o;exact xF.mp this
   have E:=qan (h.t2 t N).1.up;rw[show asg (G (d+2)) (.t (.c (.v 5) (.c (.v 6) .n))) (tieD t) [some (tupI w.costs),some (.l (T.map tieD)),some (.ref n),some (.ref S.length),a,b,c,none,none] (dS S (deg pre) left)=.ok [some (tupI w.costs),some (.l (T.map tieD)),some (.ref n),some (.ref S.length),a,some (tupI t.1),some (.int t.2),none,none] (dS S (deg pre) left)from rfl,Res.bind_ok];obtain⟨a9,S2,H,a',rfl,rfl⟩:=yM (g:=D.int) (body:=λdd ρ S=>(asg (G (d+2)) (.v 4) dd ρ S).bind λρ1 S1=>exs (G (d+2)) NW (.c (.augK (.v 3) (.v 4) (.v 6)) .n) ρ1 S1)
    (λs ρ U=>∃a,ρ=[some (tupI w.costs),some (.l (T.map tieD)),some (.ref n),some (.ref S.length),a,some (tupI t.1),some (.int t.2),none,none]/\U=dS S (λx=>deg pre x+if s.contains x then t.2 else 0) left) t.1 (ρ:=[some (tupI w.costs),some (.l (T.map tieD)),some (.ref n),some (.ref S.length),a,some (tupI t.1),some (.int t.2),none,none]) (S:=dS S (deg pre) left) ⟨_,rfl,qas λp _=>by simp⟩ (by
     rintro s q su ρ U I ⟨a,rfl,rfl⟩;have o:q∈left:=Z q (by rw[I];simp);have a0:q∉s:=λz=>by
      rw[I]at E;exact(uO.mp E).2.2 q z q 02 rfl
     rw[show asg (G (d+2)) (.v 4) (.int q) [some (tupI w.costs),some (.l (T.map tieD)),some (.ref n),some (.ref S.length),a,some (tupI t.1),some (.int t.2),none,none] (dS S (λx=>deg pre x+if s.contains x then t.2 else 0) left)=.ok [some (tupI w.costs),some (.l (T.map tieD)),some (.ref n),some (.ref S.length),some (.int q),some (tupI t.1),some (.int t.2),none,none] (dS S (λx=>deg pre x+if s.contains x then t.2 else 0) left)from rfl,Res.bind_ok];refine⟨_,_,qlE rfl rfl (qdv o) rfl (qlF o 00) qI,_,rfl,qas λx hx=>?_⟩;have a1:s.contains q=false:=by rw[<-Bool.not_eq_true,xF];exact a0
     by_cases e:x=q
     .subst e
      rw[wM rfl,a1];simp
     .rw [wN e]
      have:(s++[q]).contains x=s.contains x:=by
       rw[u6,xF,xF];simp[e]
      rw[this])
   have e3:dS S (λx=>deg pre x+if t.1.contains x then t.2 else 0) left=dS S (deg (pre++[t])) left:=qas λx _=>(qhS pre t x).symm
   rw[e3]at H;exact⟨_,_,qaj (ds:=t.1.map .int) (S1:=dS S (deg pre) left) rfl H qI,_,_,_,rfl,rfl⟩)
 obtain⟨i,ps,l⟩:∃i ps,left=i::ps:=by
  cases left with
  |nil=>exact absurd rfl u.ne
  |cons a r=>exact⟨a,r,rfl⟩
 have v:i∈left:=by rw[l];simp
 have J:∀(x:Int),x∈left->∀U,G (d+2) 3 [.int (deg T x),.int (cstI w x)] U=.ok (nmD (rat w left x)) U:=λx hx U=>by
  obtain⟨P,q1⟩:=u.rng x hx;obtain⟨c1,c2⟩:=qjU b1 b2 x;obtain⟨c3,c4⟩:=qjV h P q1;rw[<-C];exact qhN c1 c3 00
 obtain⟨aa,S3,K,ab,a8,rfl,rfl⟩:=yM (g:=D.int) (body:=λdd ρ S=>(asg (G (d+2)) (.v 4) dd ρ S).bind λρ1 S1=>exs (G (d+2)) NW (.c (.set (.v 8) (.call 3 (.c (.idk (.v 3) (.v 4)) (.c (.idx (.v 0) (.v 4)) .n)))) (.c (.ifs (.val (.call 4 (.c (.v 8) (.c (.idx (.v 7) 06) .n)))) (.c (.set (.v 7) (.t (.c (.v 4) (.c (.v 8) .n)))) .n) .n) .n)) ρ1 S1)
  (λpre ρ U=>∃a b,ρ=[some (tupI w.costs),some (.l (T.map tieD)),some (.ref n),some (.ref S.length),a,m,a6,some (offD (offP (rat w left) (i::pre))),b]/\U=dS S (deg T) left) ps (ρ:=[some (tupI w.costs),some (.l (T.map tieD)),some (.ref n),some (.ref S.length),O,m,a6,some (offD (offP (rat w left) [i])),none]) (S:=dS S (deg T) left) ⟨_,_,rfl,rfl⟩ (by
   rintro pre q Y ρ U j ⟨a,b,rfl,rfl⟩;have o:q∈left:=by rw[l,j];simp
   obtain⟨P,q1⟩:=u.rng q o;rw[show asg (G (d+2)) (.v 4) (.int q) [some (tupI w.costs),some (.l (T.map tieD)),some (.ref n),some (.ref S.length),a,m,a6,some (offD (offP (rat w left) (i::pre))),b] (dS S (deg T) left)=.ok [some (tupI w.costs),some (.l (T.map tieD)),some (.ref n),some (.ref S.length),some (.int q),m,a6,some (offD (offP (rat w left) (i::pre))),b] (dS S (deg T) left)from rfl,Res.bind_ok];have es:ev (G (d+2)) (.call 3 (.c (.idk (.v 3) (.v 4)) (.c (.idx (.v 0) (.v 4)) .n))) [some (tupI w.costs),some (.l (T.map tieD)),some (.ref n),some (.ref S.length),some (.int q),m,a6,some (offD (offP (rat w left) (i::pre))),b] (dS S (deg T) left)=.ok (nmD (rat w left q)) (dS S (deg T) left):=qj (qd (qhU rfl rfl (qdv o)) (qd (qD rfl rfl (qao P q1)) rfl)) (J q o _);obtain⟨y,hy,ey⟩:=qbH (rat w left) _ (i::pre) rfl 02;have a2:y∈left:=by
    rw[l,j];rcases wQ.mp hy with z|z
    .simp [z]
    .simp [z]
   obtain⟨y0,y1⟩:=u.rng y a2;have eu:=jm (d:=d+1) (S:=dS S (deg T) left) (qdu h left P q1) (show Nm (offP (rat w left) (i::pre)).2 by rw[ey];exact qdu h left y0 y1);have Q:tst (G (d+2)) (.val (.call 4 (.c (.v 8) (.c (.idx (.v 7) 06) .n)))) [some (tupI w.costs),some (.l (T.map tieD)),some (.ref n),some (.ref S.length),some (.int q),m,a6,some (offD (offP (rat w left) (i::pre))),some (nmD (rat w left q))] (dS S (deg T) left)=.ok (und (rat w left q) (offP (rat w left) (i::pre)).2) (dS S (deg T) left):=t_of (qj (qd rfl (qd (qD rfl rfl rfl) rfl)) eu);have ec:i::(pre++[q])=(i::pre)++[q]:=rfl;rw[ec,qa3 _ (by simp:i::pre≠[])];unfold offS;cases hu:und (rat w left q) (offP (rat w left) (i::pre)).2 with
   |true =>
    rw[hu]at Q;rw[wM rfl];exact⟨_,_,x_set es rfl (yW Q (x_set (zd (qd rfl (qd rfl rfl)) z2) rfl qI) qI),_,_,rfl,rfl⟩
   |false =>
    rw[hu]at Q;rw[wN 02];exact⟨_,_,x_set es rfl (x_no Q qI),_,_,rfl,rfl⟩)
 rw[<-l]at K;refine qaX (f:=c_17) (S1:=S) (S2:=[.dis (dgL (deg T) left)]) rfl rfl ?_ rfl rfl;have ed:ev (G (d+2)) (.dcK 0 (.v 2)) [some (tupI w.costs),some (.l (T.map tieD)),some (.ref n),none,none,none,none,none,none] S=.ok (.ref S.length) (dS S (deg []) left):=by
  have:=qnj (F:=G (d+2)) (e:=.v 2) (ρ:=[some (tupI w.costs),some (.l (T.map tieD)),some (.ref n),none,none,none,none,none,none]) (S:=S) (S1:=S) (x:=.ref n) (ns:=left) (gd:=own n (left.map .int)) rfl (by simp only[refX,hn]) 00 nd;refine this.trans ?_;congr 1
 have e0:∀ρ,ρ[2]?=some (some (.ref n))->ev (G (d+2)) (.idx (.v 2) 09) ρ (dS S (deg T) left)=.ok (.int i) (dS S (deg T) left):=λρ a3=>qD (by simp only[ev,varE,a3]) rfl (qhV (A _) l)
 have e7:ev (G (d+2)) (.t (.c (.idx (.v 2) 09) (.c (.call 3 (.c (.idk (.v 3) (.idx (.v 2) 09)) (.c (.idx (.v 0) (.idx (.v 2) 09)) .n))) .n))) [some (tupI w.costs),some (.l (T.map tieD)),some (.ref n),some (.ref S.length),O,m,a6,none,none] (dS S (deg T) left)=.ok (offD (offP (rat w left) [i])) (dS S (deg T) left):=by
  have i0:=u.rng i v;exact zd (qd (e0 _ rfl) (qd (qj (qd (qhU rfl (e0 _ rfl) (qdv v)) (qd (qD rfl (e0 _ rfl) (qao i0.1 i0.2)) rfl)) (J i v _)) rfl)) z2
 have a7:evI (G (d+2)) (.seq (.slc (.v 2) (.some 06) .none)) [some (tupI w.costs),some (.l (T.map tieD)),some (.ref n),some (.ref S.length),O,m,a6,some (offD (offP (rat w left) [i])),none] (dS S (deg T) left)=.ok (ps.map .int) (dS S (deg T) left):=by
  have L:slcD (dS S (deg T) left) (.ref n) (some 1) none=some (.l (ps.map .int)):=by
   simp only[slcD,lstOf,A,wf,cut1];rw[l];rfl
  have:ev (G (d+2)) (.slc (.v 2) (.some 06) .none) [some (tupI w.costs),some (.l (T.map tieD)),some (.ref n),some (.ref S.length),O,m,a6,some (offD (offP (rat w left) [i])),none] (dS S (deg T) left)=.ok (.l (ps.map .int)) (dS S (deg T) left):=by
   simp only[ev,evO,varE,List.getElem?_cons_succ,uQ,Res.bind,L,ofO]
  simp only[evI,this,Res.bind]
 exact x_set ed rfl (qaj (ds:=T.map tieD) (S1:=dS S (deg []) left) rfl ef (x_set e7 rfl (qaj a7 K (qm rfl))))
noncomputable def stp(w:Wb):Nat->List Int->List Of->List Int->List Of×List Int
 |0,_,ord,best=>(ord,best)
 |_+1,[],ord,best=>(ord,best)
 |k+1,a::l,ord,best=>stp w k ((a::l).erase (offP (rat w (a::l)) (a::l)).1) (ord++[offP (rat w (a::l)) (a::l)]) (if und (shr w best) (shr w (a::l))then a::l else best)
noncomputable abbrev stS(S:Sr)(left:03)(ord:List Of):Sr:=S++[.l (left.map .int),.l (ord.map offD)]
def qcM(S:Sr)(left:03)(ord:List Of):(stS S left ord)[S.length]?=some (.l (left.map .int)):=by simp[stS]
def qhW(S:Sr)(left:03)(ord:List Of):(stS S left ord)[S.length+1]?=some (.l (ord.map offD)):=by simp[stS]
def qjm{ord:List Of}(o:Of)(h:ord.length<=100):appD (stS S left ord) (.ref (S.length+1)) (offD o)=.ok .non (stS S left (ord++[o])):=by
 have a:ord.length<PySem.sizeLine:=by unfold PySem.sizeLine;lia
 simp only[appD,qhW];rw[wM ⟨by rw[wH];exact a,rfl⟩];simp[stS]
def qjn{x:Int}(h:x∈left):remD (stS S left ord) (.ref S.length) (.int x)=.ok .non (stS S (left.erase x) ord):=by
 simp only[remD,qcM,qE];rw[wM h];simp[stS]
def qnk(h:ev F o ρ S=.ok x S1)(hi:isLst S1 x=true)(b:ev F i ρ S1=.ok y S2)(c:remD S2 x y=.ok d a):ev F (.rem o i) ρ S=.ok d a:=by
 simp only[ev,h,Res.bind,hi,vo,b,c]
def qhX{m:Nat}(h:PlOk m left)(x:Int):left.erase x=[]\/PlOk m (left.erase x):=by
 by_cases e:left.erase x=[]
 .exact .inl e
 .exact .inr ⟨e,λy a=>h.rng y (List.mem_of_mem_erase a),h.up.sublist List.erase_sublist⟩
def qhY{m:Nat}(h:PlOk m left)(r:Int->Int×Int):(offP r left).1∈left:=by
 obtain⟨x,hx,e⟩:=qbH r _ left rfl h.ne;rw[e];exact hx
def qlG{m:Nat}(h:1<=m):PlOk m (rI m):=⟨λe=>by have:=congrArg List.length e;rw[q8]at this;simp at this;lia,λx hx=>jC.mp hx,qm7 m⟩
def qjo{n:Nat}{p:03}(h:S[n]?=some (.l (p.map .int))):bltD .tuple [.ref n] S=.ok (tupI p) S:=by
 simp only[bltD,one,bTuple,seqOf,lstOf,h,wf,ofO];rfl
def Agr(w:Wb)(left a:03)(c:03)(b:Int×Int):Prop:=(c=a/\b=shr w a)\/(b=(-1,1)/\left=a/\left≠[])
def qfx{p:Int×Int}(a:0<=p.1)(b:1<=p.2):und (-1,1) p=true:=by unfold und;rw[w6];show -1*p.2<p.1*1;lia
noncomputable abbrev pE(w:Wb)(n:Nat)(part:03)(most:Int×Int)(a6 a7 a8:Option D):En:=[some (webD w),some (tupI w.costs),some (.ref n),some (.ref (n+1)),some (tupI part),some (nmD most),a6,a7,a8]
noncomputable def sBody:CSs:=match c_16.body with|.cons _ (.cons _ (.cons _ (.cons _ (.cons _ (.c (.cal (.whileS _ b)) _)))))=>b|_=>.nil
def qey{n:Nat}{p:03}(h:S[n]?=some (.l (p.map .int))):truD S (.ref n)=some (!p.isEmpty):=by
 simp only[truD,lstOf,h,wf];cases p <;> rfl
def qlH{d:Nat}{S:Sr}{ord:List Of}{a6 a7 a8:Option D}(h:WbOk w)(i:PlOk w.costs.length left)(u:PlOk w.costs.length c)(ha:Agr w left c e a)(z:ord.length<=100):
  ∃A B C,exs (G (d+3)) NW sBody (pE w S.length e a a6 a7 a8) (stS S left ord)=.ok (.nx (pE w S.length (if und (shr w c) (shr w left)then left else c) (shr w (if und (shr w c) (shr w left)then left else c)) A B C)) (stS S (left.erase (offP (rat w left) left).1) (ord++[offP (rat w left) left])):=by
 have m:=qcM S left ord;have hx:=qlB m;obtain⟨m1,m2⟩:=qhQ h left;obtain⟨r,E⟩:=qcB h i;have W:=qap h i;have H:=e_tw (d:=d+1) (S:=stS S left ord) h hx;obtain⟨gd,I,J⟩:=hx.rx;have K:gd (stS S left ord):=by have:=J [];rwa [uP]at this
 have L:ev (G (d+3)) (.call 3 (.c (.gen .sum [] 2 (.v 1) (.t (.c (.v 0) (.c (.v 1) .n))) (.seq (.v 6)) .n) (.c (.genX .sum [1] 1 (.idx (.v 0) (.v 1)) (.v 1) (.v 2) .n) .n))) (pE w S.length e a (some (.l ((tin w left).map tieD))) a7 a8) (stS S left ord)=.ok (nmD (shr w left)) (stS S left ord):=by
  have s1:=qjc (g:=tieD) (F:=G (d+3)) (fr:=[]) (nt:=2) (elt:=.v 1) (tg:=.t (.c (.v 0) (.c (.v 1) .n))) (it:=.seq (.v 6)) (ifs:=.nil) (ρ:=pE w S.length e a (some (.l ((tin w left).map tieD))) a7 a8) (S:=stS S left ord) (S1:=stS S left ord) (tin w left) (λ_=>true) (·.2) (λρ=>∃x y,ρ=[x,y]) rfl rfl ⟨_,_,rfl⟩ (by
   rintro t X ρ ⟨x,y,rfl⟩;exact⟨_,rfl,⟨_,_,rfl⟩,rfl,λ_=>rfl⟩)
  rw[zb]at s1;have s2:=qcL (g:=D.int) (v:=cstI w) (bind:=λdd ρ T=>asg (G (d+3)) (.v 1) dd ρ T) (test:=λρ T=>tsts (G (d+3)) .nil ρ T) (elt:=λρ T=>ev (G (d+3)) (.idx (.v 0) (.v 1)) ρ T) (λρ=>∃y,ρ=[some (tupI w.costs),y]) K left [some (tupI w.costs),none] 0 ⟨_,rfl⟩ (by
   rintro q M ρ ⟨y,rfl⟩;obtain⟨N,q1⟩:=i.rng q M;exact⟨_,rfl,⟨_,rfl⟩,rfl,qD rfl rfl (qao N q1)⟩)
  rw[Int.zero_add]at s2;exact qj (qd s1 (qd (qlC rfl I s2) rfl)) (qhN m1 r (Int.lt_of_le_of_lt E 01))
 have s:=qdw (d:=d) (S:=stS S left ord) h m i;have j:=qhY i (rat w left);have l:=qhR h i;have n:=qhR h u;generalize Y:offP (rat w left) left=O at s j ⊢;have f:∀(pt:03) (mo:Int×Int),exs (G (d+3)) NW (tl (tl (tl sBody))) (pE w S.length pt mo (some (.l ((tin w left).map tieD))) (some (nmD (shr w left))) a8) (stS S left ord)=.ok (.nx (pE w S.length pt mo (some (.l ((tin w left).map tieD))) (some (nmD (shr w left))) (some (offD O)))) (stS S (left.erase O.1) (ord++[O])):=by
  intro pt mo;have P:ev (G (d+3)) (.call 17 (.c (.v 1) (.c (.v 6) (.c (.v 2) .n)))) (pE w S.length pt mo (some (.l ((tin w left).map tieD))) (some (nmD (shr w left))) a8) (stS S left ord)=.ok (offD O) (stS S left ord):=qj rfl s;have Q:ev (G (d+3)) (.app (.v 3) (.v 8)) (pE w S.length pt mo (some (.l ((tin w left).map tieD))) (some (nmD (shr w left))) (some (offD O))) (stS S left ord)=.ok .non (stS S left (ord++[O])):=qna rfl (by simp only[isLst,qhW]) rfl (qjm O z);have o:ev (G (d+3)) (.rem (.v 2) (.idx (.v 8) 09)) (pE w S.length pt mo (some (.l ((tin w left).map tieD))) (some (nmD (shr w left))) (some (offD O))) (stS S left (ord++[O]))=.ok .non (stS S (left.erase O.1) (ord++[O])):=qnk rfl (by simp only[isLst,qcM]) (qD rfl rfl rfl) (qjn j);exact x_set P rfl (x_expr Q (x_expr o qI))
 have p:∃b:Bool,und a (shr w left)=b/\(if b then left else e)=(if und (shr w c) (shr w left)then left else c)/\(if b then shr w left else a)=shr w (if und (shr w c) (shr w left)then left else c)/\Nm a:=by
  rcases ha with ⟨rfl,rfl⟩|⟨rfl,rfl,_⟩
  .refine ⟨_,rfl,rfl,?_,n⟩
   split <;> rfl
  .refine ⟨true,qfx ?_ l.b1,?_,?_,⟨by decide,by decide,by decide⟩⟩
   .exact qng m1 r
   .rw [qcK];simp
   .rw [qcK];simp
 obtain⟨b,k1,k2,k3,U⟩:=p;have eu:=jm (d:=d+2) (S:=stS S left ord) U l;rw[k1]at eu;rw[<-k3,<-k2];have t1:tst (G (d+3)) (.val (.call 4 (.c (.v 5) (.c (.v 7) .n)))) (pE w S.length e a (some (.l ((tin w left).map tieD))) (some (nmD (shr w left))) a8) (stS S left ord)=.ok b (stS S left ord):=t_of (qj rfl eu);refine⟨some (.l ((tin w left).map tieD)),some (nmD (shr w left)),some (offD O),?_⟩;show exs (G (d+3)) NW (.c (.set (.v 6) (.call 15 (.c (.v 0) (.c (.v 2) .n)))) _) _ _=_;refine x_set (qj rfl H) (ρ1:=pE w S.length e a (some (.l ((tin w left).map tieD))) a7 a8) rfl (x_set L (ρ1:=pE w S.length e a (some (.l ((tin w left).map tieD))) (some (nmD (shr w left))) a8) rfl ?_);cases b with
 |true=>exact yW t1 (x_set (zd (qd (qu rfl (qjo m)) (qd rfl rfl)) (by simp[PySem.sizeLine])) rfl qI) (f left (shr w left))
 |false=>exact x_no t1 (f e a)
def qlI{d:Nat}{S:Sr}(h:WbOk w):∀(k N:Nat) (left b c:03) (e:Int×Int) (ord:List Of) (a6 a7 a8:Option D),left.length=k->k<N->(left=[]\/PlOk w.costs.length left)->PlOk w.costs.length b->Agr w left b c e->ord.length+k<=100 ->
  ∃f p q s,whileLoop (λρ S=>tst (G (d+3)) (.val (.v 2)) ρ S) (λρ S=>exs (G (d+3)) NW sBody ρ S) N (pE w S.length c e a6 a7 a8) (stS S left ord)=.ok (.nx (pE w S.length (stp w k left ord b).2 f p q s)) (stS S [] (stp w k left ord b).1):=by
 intro k;induction k with
 |zero =>
  intro N left b c e ord a6 a7 a8 o A v y ha B;have C:left=[]:=vC.mp o;subst C;obtain⟨N,rfl⟩:∃M,N=M+1:=⟨N-1,by lia⟩;have i:c=b:=by
   rcases ha with ⟨rfl,_⟩|⟨_,_,z⟩
   .rfl
   .exact absurd rfl z
  subst i;refine⟨e,a6,a7,a8,?_⟩;have t:tst (G (d+3)) (.val (.v 2)) (pE w S.length c e a6 a7 a8) (stS S [] ord)=.ok false (stS S [] ord):=by
   show(Res.ok (D.ref S.length) (stS S [] ord)).bind (λx S1=>ofO (truD S1 x) S1)=_;rw[Res.bind_ok,qey (qcM S [] ord)];rfl
  simp only[whileLoop,t,Res.bind];rfl
 |succ k E =>
  intro N left b c e ord a6 a7 a8 o A v y ha B;obtain⟨N,rfl⟩:∃M,N=M+1:=⟨N-1,by lia⟩;have m:left≠[]:=λz=>by rw[z]at o;simp at o
  have j:=v.resolve_left m;obtain⟨x0,xs,n⟩:∃x0 xs,left=x0::xs:=by
   cases left with
   |nil=>exact absurd rfl m
   |cons a r=>exact⟨a,r,rfl⟩
  have t:tst (G (d+3)) (.val (.v 2)) (pE w S.length c e a6 a7 a8) (stS S left ord)=.ok true (stS S left ord):=by
   show(Res.ok (D.ref S.length) (stS S left ord)).bind (λx S1=>ofO (truD S1 x) S1)=_;rw[Res.bind_ok,qey (qcM S left ord),n];rfl
  obtain⟨p,q,s,F⟩:=qlH (d:=d) (S:=S) (ord:=ord) (a6:=a6) (a7:=a7) (a8:=a8) h j y ha 00;have u:=qhY j (rat w left);have l:PlOk w.costs.length (if und (shr w b) (shr w left)then left else b):=by split <;> assumption
  have H:stp w (k+1) left ord b=stp w k (left.erase (offP (rat w left) left).1) (ord++[offP (rat w left) left]) (if und (shr w b) (shr w left)then left else b):=by rw[n];rfl
  obtain⟨I,J,K,L,O⟩:=E N (left.erase (offP (rat w left) left).1) _ _ _ (ord++[offP (rat w left) left]) p q s (by rw[xk u];lia) 00 (qhX j _) l (.inl ⟨rfl,rfl⟩) (by rw[wm,xE];lia);refine⟨I,J,K,L,?_⟩;rw[H,<-O];simp only[whileLoop,t,Res.bind,F];rfl
noncomputable def strD(r:List Of×List Int):D:=.t [.t (r.1.map offD),tupI r.2]
noncomputable def strW(w:Wb):List Of×List Int:=stp w w.costs.length (rI w.costs.length) [] (rI w.costs.length)
def qa4:∀l:List Of,refsLts 0 (l.map offD)=true
 |[]=>rfl
 |a::r=>by rw[wS,refsLts,qa4 r];rfl
def qhZ(r:List Of×List Int):refsLt 0 (strD r)=true:=by
 show(refsLts 0 (r.1.map offD)&&(refsLts 0 (r.2.map .int)&&true))=true;rw[qa4,refsI];rfl
def qh0{n:Nat}{l:List Of}(h:S[n]?=some (.l (l.map offD))):bltD .tuple [.ref n] S=.ok (.t (l.map offD)) S:=by
 simp only[bltD,one,bTuple,seqOf,lstOf,h,wf,ofO]
def yk{d:Nat}(h:WbOk w):G (d+9) 16 [webD w] S=.ok (strD (strW w)) S:=by
 have hm:=h.c2;have a:=qlG h.c1;rw[G_at (c:=c_16) rfl];obtain⟨mo,q,r,s,i⟩:=qlI (d:=d+5) (S:=S) h w.costs.length NW (rI w.costs.length) (rI w.costs.length) [] (-1,1) [] none none none (q8 _) (by show _<60;lia) (.inr a) a (.inr ⟨rfl,rfl,a.ne⟩) (by simp;lia);have e:PySem.sizeLine>=2:=by unfold PySem.sizeLine;lia
 refine qaX (f:=c_16) (S1:=S) (S2:=[.l (([]:List Int).map .int),.l ((strW w).1.map offD)]) rfl rfl ?_ rfl (zh _ (qhZ _));have m:=qhx (F:=G (d+8)) (ρ:=[some (webD w),some (tupI w.costs),none,none,none,none,none,none,none]) (S:=S) (S1:=S) (es:=.c (.blt .len (.c (.v 1) .n)) .n) (n:=w.costs.length) (qd (qu rfl (ji _ _)) rfl) 00;have j:=qhs (F:=G (d+8)) (ρ:=[some (webD w),some (tupI w.costs),some (.ref S.length),none,none,none,none,none,none]) (S:=S++[.l ((rI w.costs.length).map .int)]) (S1:=S++[.l ((rI w.costs.length).map .int)]) (es:=.nil) (l:=[]) rfl 02 rfl;have es:S++[.l ((rI w.costs.length).map .int)]++[.l []]=stS S (rI w.costs.length) []:=by simp[stS]
 have o:(S++[SO.l ((rI w.costs.length).map .int)]).length=S.length+1:=by simp
 rw[es,o]at j;have p:ev (G (d+8)) (.t (.c (.t .nil) (.c (.t (.c (.neg 06) (.c 06 .n))) .n))) [some (webD w),some (tupI w.costs),some (.ref S.length),some (.ref (S.length+1)),none,none,none,none,none] (stS S (rI w.costs.length) [])=.ok (.t [tupI [],nmD (-1,1)]) (stS S (rI w.costs.length) []):=zd (qd (zd rfl 02) (qd (zd (qd rfl (qd rfl rfl)) e) rfl)) e;have b:strW w=stp w w.costs.length (rI w.costs.length) [] (rI w.costs.length):=rfl;rw[<-b]at i;exact x_expr (S1:=S) (qj rfl (yE h)) (qdt (qD (S1:=S) rfl rfl rfl) (qdt m (qdt j (qar (x_set p (ρ1:=pE w S.length [] (-1,1) none none none) rfl qI) (qar (qer i qI) (qds (zd (qd (qu rfl (qh0 (qhW S [] (strW w).1))) (qd rfl rfl)) e)))))))
noncomputable def seqO(w:Wb):Nat->List Int->List Of
 |0,_=>[]
 |_+1,[]=>[]
 |k+1,a::l=>offP (rat w (a::l)) (a::l)::seqO w k ((a::l).erase (offP (rat w (a::l)) (a::l)).1)
def qez(w:Wb):∀(k:Nat) (left:03) (ord:List Of) (b:03),(stp w k left ord b).1=ord++seqO w k left
 |0,left,ord,b=>by simp[stp,seqO]
 |k+1,[],ord,b=>by simp[stp,seqO]
 |k+1,a::l,ord,b=>by
  rw[stp,qez w k,seqO,u9];rfl
noncomputable abbrev mx(m n:Int×Int):Int×Int:=if und m n then n else m
noncomputable def runC:Int×Int->List Of->List Of
 |_,[]=>[]
 |m,o::r=>(o.1,mx m o.2)::runC (mx m o.2) r
noncomputable def lkC:List Of->Int->Int×Int
 |[],_=>(0,1)
 |o::r,x=>if o.1=x then o.2 else lkC r x
def qh1{l:03}(nd:l.Nodup){a x:Int}:x∈l.erase a ↔ x∈l/\x≠a:=by
 rw[nd.mem_erase_iff];exact And.comm
structure Lft (w:Wb) (k:Nat) (L:03):Prop where
 len:L.length=k
 nd:L.Nodup
 rng:∀x∈L,0<=x/\x<w.costs.length
def Lft.next{k:Nat}{a:Int}(h:Lft w (k+1) (a::l)):(offP (rat w (a::l)) (a::l)).1∈a::l/\(offP (rat w (a::l)) (a::l)).2=rat w (a::l) (offP (rat w (a::l)) (a::l)).1/\Lft w k ((a::l).erase (offP (rat w (a::l)) (a::l)).1):=by
 obtain⟨z,hz,b⟩:=qbH (rat w (a::l)) _ (a::l) rfl 02;rw[b];refine⟨hz,rfl,?_,h.nd.erase _,λx hx=>h.rng x (List.mem_of_mem_erase hx)⟩;have:=h.len;rw[xk hz];lia
def qat:∀(k:Nat) (L:03),Lft w k L->∀x,x∈(seqO w k L).map (·.1) ↔ x∈L
 |0,L,h,x=>by
  have:=vC.mp h.len;subst this;simp[seqO]
 |k+1,[],h,x=>by simp[seqO]
 |k+1,a::l,h,x=>by
  obtain⟨c,_,d⟩:=h.next;rw[seqO,wS,wQ,qat k _ d,qh1 h.nd];generalize (offP (rat w (a::l)) (a::l)).1=b at c ⊢;constructor
  .rintro (rfl|⟨q,_⟩)
   .exact c
   .exact q
  .intro q
   by_cases e:x=b
   .exact .inl e
   .exact .inr ⟨q,e⟩
def qeA:∀(k:Nat) (L:03),Lft w k L->((seqO w k L).map (·.1)).Nodup
 |0,L,h=>by simp[seqO]
 |k+1,[],h=>by simp[seqO]
 |k+1,a::l,h=>by
  obtain⟨c,_,b⟩:=h.next;rw[seqO,wS,u4,qat k _ b,qh1 h.nd];exact⟨λq=>q.2 rfl,qeA k _ b⟩
noncomputable def cor(w:Wb)(x:Int):Int×Int:=lkC (runC (0,1) (strW w).1) x
def jP(w:Wb):(strW w).1=seqO w w.costs.length (rI w.costs.length):=by
 unfold strW;rw[qez];rfl
def jQ(w:Wb):Lft w w.costs.length (rI w.costs.length):=⟨q8 _,qal _,λx hx=>jC.mp hx⟩
def qbI{e:Type}{g:e->D}{bind:D->En->Sr->Res En}{test:En->Sr->Res Bool}{elt:En->Sr->Res D}{b:e->Bool}{v:e->D}(R:En->Prop){S:Sr}:∀(ds:List e) (ρ:En) (a:List D),a.length+ds.length<=PySem.sizeLine->R ρ ->
  (∀d∈ds,∀ρ:En,R ρ->∃ρ1,bind (g d) ρ S=.ok ρ1 S/\R ρ1/\test ρ1 S=.ok (b d) S/\(b d=true->elt ρ1 S=.ok (v d) S)) ->
  genLoop bind test elt (stepG .tuple) (finG .tuple) (ds.map g) ρ (.t a) S=.ok (.t (a++(ds.filter b).map v)) S
 |[],ρ,a,_,_,_=>by simp[genLoop,finG]
 |d::ds,ρ,a,hl,hR,H=>by
  obtain⟨ρ1,e1,c,f,h⟩:=H d wL ρ hR;rw[w8]at hl;rw[wS];unfold genLoop;rw[e1,Res.bind_ok,f,Res.bind_ok];cases z:b d with
  |false =>
   rw[wN 02,qbI R ds ρ1 a 00 c λd' hd=>H d' (wO _ hd),xy,wN (by rw[z];simp)]
  |true =>
   rw[wM rfl,h z,Res.bind_ok];simp only[stepG];rw[wM (show a.length<PySem.sizeLine by lia)];have:=qbI R ds ρ1 (a++[v d]) (by rw[wm,xE];lia) c λd' hd=>H d' (wO _ hd)
   rw[xy,wM z,wS];refine this.trans ?_;simp
def qeB{a:Type}{g:a->D}{F:Fs}{fr:List Nat}{nt:Nat}{elt:CE}{tg:CT}{it:CI}{ifs:CBs}{ρ:En}{S S1:Sr}{ds:List D}(xs:List a)(b:a->Bool)(v:a->D)(R:En->Prop)(c:evI F it ρ S=.ok ds S1)(hd:ds=xs.map g)(e:R (frE ρ fr nt))(f:xs.length<=PySem.sizeLine)(H:∀d∈xs,∀ρ:En,R ρ->∃ρ1,asg F tg (g d) ρ S1=.ok ρ1 S1/\R ρ1/\tsts F ifs ρ1 S1=.ok (b d) S1/\(b d=true->ev F elt ρ1 S1=.ok (v d) S1)):
  ev F (.gen .tuple fr nt elt tg it ifs) ρ S=.ok (.t ((xs.filter b).map v)) S1:=by
 simp only[ev,c,Res.bind,hd,startG];rw[qbI R xs _ [] (by simpa using f) e H];rfl
noncomputable def cD(l:List Of):List ((Int ⊕ PySem.Str)×D):=l.map λo=>((.inl o.1:Int ⊕ PySem.Str),nmD o.2)
def qeC:∀{l:List Of} {x:Int},x∈l.map (·.1)->lookT (.inl x:Int ⊕ PySem.Str) (cD l)=some (nmD (lkC l x))
 |[],x,h=>by simp at h
 |o::r,x,h=>by
  show lookT _ ((_,_)::cD r)=_;rw[lookT,lkC];by_cases e:o.1=x
  .rw [wM (by rw[e]),wM e]
  .rw [wN (by simpa using e),wN e]
   refine qeC ?_;rw[wS,wQ]at h;exact h.resolve_left λz=>e z.symm
def qlJ{l:List Of}{x:Int}(h:x∉l.map (·.1)):putT (.inl x:Int ⊕ PySem.Str) (nmD m) (cD l)=cD (l++[(x,m)]):=by
 unfold putT;have:(cD l).any (λp=>decide (p.1=(.inl x:Int ⊕ PySem.Str)))=false:=by
  rw[List.any_eq_false];intro p a;obtain⟨o,b,rfl⟩:=vD.mp a;simp only[w6,Sum.inl.injEq];exact λe=>h (vD.mpr ⟨o,b,e⟩)
 rw[this,wN 02];unfold cD;simp
def qnl{T:Sr}{j:Nat}{l:List Of}{x:Int}(a:T[j]?=some (.dis (cD l)))(h:x∈l.map (·.1)):idkD T (.ref j) (.int x)=some (nmD (lkC l x)):=by
 simp only[idkD,a,keyD,w5,qeC h]
def qnm{l:List Of}{x:Int}(c:l.length<=100)(h:x∉l.map (·.1)):putE (S++[.dis (cD l)]) (.ref S.length) (.int x) (nmD m)=some (S++[.dis (cD (l++[(x,m)]))]):=by
 have b:(cD l).length<1000:=by unfold cD;rw[wH];lia
 have a:(S++[SO.dis (cD l)])[S.length]?=some (.dis (cD l)):=by simp
 unfold putE;rw[wM (show refsLt 0 (nmD m)=true from rfl)];simp only[putN,a,keyD,w5];rw[wM b,qlJ h];simp
def jn:∀(l:List Of) (m:Int×Int),(runC m l).map (·.1)=l.map (·.1)
 |[],_=>rfl
 |o::r,m=>by rw[runC,wS,wS,jn r]
noncomputable def mxE(m:Int×Int)(l:List Of):Int×Int:=l.foldl (λm o=>mx m o.2) m
def qcN:∀(l:List Of) (m:Int×Int) (o:Of),runC m (l++[o])=runC m l++[(o.1,mx (mxE m l) o.2)]
 |[],m,o=>rfl
 |a::r,m,o=>by rw[List.cons_append,runC,qcN r,runC];rfl
def qh2(l:List Of)(m:Int×Int)(o:Of):mxE m (l++[o])=mx (mxE m l) o.2:=by unfold mxE;rw[List.foldl_append];rfl
def qeD(h:WbOk w):∀(k:Nat) (L:03),Lft w k L->∀o∈seqO w k L,Nm o.2
 |0,L,hL,o,ho=>by simp[seqO]at ho
 |k+1,[],hL,o,ho=>by simp[seqO]at ho
 |k+1,a::l,hL,o,ho=>by
  obtain⟨b,c,d⟩:=hL.next;rw[seqO,wQ]at ho;rcases ho with rfl|ho
  .rw [c];exact qdu h _ (hL.rng _ b).1 (hL.rng _ b).2
  .exact qeD h k _ d o ho
def qjX(h:Nm m)(a:Nm n):Nm (mx m n):=by
 unfold mx;split
 .exact a
 .exact h
def qh3:∀(l:List Of) (m:Int×Int),Nm m->(∀o∈l,Nm o.2)->Nm (mxE m l)
 |[],m,h,_=>h
 |o::r,m,h,h2=>qh3 r _ (qjX h (h2 o wL)) λx hx=>h2 x (wO _ hx)
def qh4:∀(l:List Of) (m:Int×Int),Nm m->(∀o∈l,Nm o.2)->∀x,Nm (lkC (runC m l) x)
 |[],m,h,_,x=>⟨by show(0:Int).natAbs<_;decide,by show(1:Int)<=1;decide,by show(1:Int)<_;decide⟩
 |o::r,m,h,h2,x=>by
  have hm:Nm (mx m o.2):=qjX h (h2 o wL);rw[runC,lkC];split
  .exact hm
  .exact qh4 r _ hm (λy a=>h2 y (wO _ a)) x
def nm0:Nm (0,1):=⟨by decide,by decide,by decide⟩
def qeE(w:Wb):(strW w).1.length=w.costs.length:=by
 have b:∀(k:Nat) (L:03),Lft w k L->(seqO w k L).length=k:=by
  intro k;induction k with
  |zero=>intro L _;rfl
  |succ k d =>
   intro L c;cases L with
   |nil=>have:=c.len;simp at this
   |cons a l=>rw[seqO,w8,d _ c.next.2.2]
 rw[jP,b _ _ (jQ w)]
def qjp(w:Wb)(x:Int):x∈(strW w).1.map (·.1) ↔ x∈rI w.costs.length:=by rw[jP];exact qat _ _ (jQ w) x
def qdx(h:WbOk w):∀o∈(strW w).1,Nm o.2:=by rw[jP];exact qeD h _ _ (jQ w)
def qh5(h:WbOk w)(x:Int):Nm (cor w x):=qh4 _ _ nm0 (qdx h) x
def qnn{w:Wb}{T:Sr}{j:Nat}(a:T[j]?=some (.dis (cD (runC (0,1) (strW w).1)))){x:Int}(h:x∈rI w.costs.length):idkD T (.ref j) (.int x)=some (nmD (cor w x)):=qnl a (by rw[jn];exact(qjp w x).mpr h)
def qh6{c:Nat}(h:WbOk w)(j f i p:Nat)(mk:D->Option D->Option D->En){x5 x6:Option D}(H:∀(o:Of) (m:Int×Int) (l:List Of) (a b:Option D),Nm m->Nm o.2->l.length<=100->o.1∉l.map (·.1)->(asg F (.t (.c (.v j) (.c (.v f) .n))) (offD o) (mk (nmD m) a b) (S++[.dis (cD l)])).bind (λρ1 S1=>exs F NW (.c (.ifs (.val (.call c (.c (.v i) (.c (.v f) .n)))) (.c (.set (.v i) (.v f)) .n) .n) (.c (.set (.sub (.v p) (.v j)) (.v i)) .n)) ρ1 S1)=.ok (.nx (mk (nmD (mx m o.2)) (some (.int o.1)) (some (nmD o.2)))) (S++[.dis (cD (l++[(o.1,mx m o.2)]))])):
  ∃m a b,forLoop (λdd ρ S=>(asg F (.t (.c (.v j) (.c (.v f) .n))) dd ρ S).bind λρ1 S1=>exs F NW (.c (.ifs (.val (.call c (.c (.v i) (.c (.v f) .n)))) (.c (.set (.v i) (.v f)) .n) .n) (.c (.set (.sub (.v p) (.v j)) (.v i)) .n)) ρ1 S1) ((strW w).1.map offD) (mk (nmD (0,1)) x5 x6) (S++[.dis []])=.ok (.nx (mk m a b)) (S++[.dis (cD (runC (0,1) (strW w).1))]):=by
 have v:=h.c2;have n:((strW w).1.map (·.1)).Nodup:=by rw[jP];exact qeA _ _ (jQ w)
 obtain⟨ρ1,S1,e,a,b,rfl,rfl⟩:=yM (g:=offD) (body:=λdd ρ S=>(asg F (.t (.c (.v j) (.c (.v f) .n))) dd ρ S).bind λρ1 S1=>exs F NW (.c (.ifs (.val (.call c (.c (.v i) (.c (.v f) .n)))) (.c (.set (.v i) (.v f)) .n) .n) (.c (.set (.sub (.v p) (.v j)) (.v i)) .n)) ρ1 S1)
  (λpre ρ U=>∃a b,ρ=mk (nmD (mxE (0,1) pre)) a b/\U=S++[.dis (cD (runC (0,1) pre))]) (strW w).1 (ρ:=mk (nmD (0,1)) x5 x6) (S:=S++[.dis []]) ⟨_,_,rfl,rfl⟩ (by
   rintro pre o s ρ U d ⟨a,b,rfl,rfl⟩;have u:=congrArg List.length d;rw[qeE,wm,w8]at u;have q:o.1∉(runC (0,1) pre).map (·.1):=λz=>by
    rw[jn]at z;rw[d,xV,wS]at n;exact(uO.mp n).2.2 _ z _ wL rfl
   have r:(runC (0,1) pre).length<=100:=by
    have:=congrArg List.length (jn pre (0,1));rw[wH,wH]at this;lia
   refine⟨_,_,H o _ _ a b (qh3 _ _ nm0 λx hx=>qdx h x (by rw[d];simp[hx])) (qdx h o (by rw[d];simp)) r q,_,_,by rw[qh2],by rw[qcN]⟩)
 exact⟨_,_,_,e⟩
def qbJ{d:Nat}(h:WbOk w):G (d+10) 18 [webD w] S=.ok (.t ((rI w.costs.length).map λx=>nmD (cor w x))) S:=by
 have hm:=h.c2;have u:PySem.sizeLine>=2:=by unfold PySem.sizeLine;lia
 rw[G_at (c:=c_18) rfl];obtain⟨m,a,b,v⟩:=qh6 (F:=G (d+9)) (S:=S) (c:=4) h 5 6 4 3 (λm a b=>[some (webD w),some (.t ((strW w).1.map offD)),some (tupI (strW w).2),some (.ref S.length),some m,a,b]) (x5:=none) (x6:=none) (λo m l a b y z A B=>by
  have eu:=jm (d:=d+8) (S:=S++[.dis (cD l)]) y z;rw[show asg (G (d+9)) (.t (.c (.v 5) (.c (.v 6) .n))) (offD o) [some (webD w),some (.t ((strW w).1.map offD)),some (tupI (strW w).2),some (.ref S.length),some (nmD m),a,b] (S++[.dis (cD l)])=.ok [some (webD w),some (.t ((strW w).1.map offD)),some (tupI (strW w).2),some (.ref S.length),some (nmD m),some (.int o.1),some (nmD o.2)] (S++[.dis (cD l)])from rfl,Res.bind_ok];have e:tst (G (d+9)) (.val (.call 4 (.c (.v 4) (.c (.v 6) .n)))) [some (webD w),some (.t ((strW w).1.map offD)),some (tupI (strW w).2),some (.ref S.length),some (nmD m),some (.int o.1),some (nmD o.2)] (S++[.dis (cD l)])=.ok (und m o.2) (S++[.dis (cD l)]):=t_of (qj rfl eu);have p:=λm=>qnm (S:=S) (m:=m) A B
  unfold mx;cases hu:und m o.2 with
  |true =>
   rw[hu]at e;rw[wM rfl];exact yW e (x_set rfl rfl qI) (x_set rfl (qhL rfl rfl (p _)) qI)
  |false =>
   rw[hu]at e;rw[wN 02];exact x_no e (x_set rfl (qhL rfl rfl (p _)) qI))
 refine qaX (f:=c_18) (S1:=S) (S2:=[.dis (cD (runC (0,1) (strW w).1))]) rfl rfl ?_ rfl ?_
 .have i:(S++[SO.dis (cD (runC (0,1) (strW w).1))])[S.length]?=some (.dis (cD (runC (0,1) (strW w).1))):=by simp
  have j:bltD .len [.t ((strW w).1.map offD)] (S++[SO.dis (cD (runC (0,1) (strW w).1))])=.ok (.int w.costs.length) (S++[SO.dis (cD (runC (0,1) (strW w).1))]):=by
   rw[<-qeE w];simp[bltD,one,bLen,lenD]
  have s:=qeB (g:=.int) (F:=G (d+9)) (fr:=[3]) (nt:=1) (elt:=.idk (.v 0) (.v 1)) (tg:=.v 1) (it:=.rng (.c (.blt .len (.c (.v 1) .n)) .n)) (ifs:=.nil) (ρ:=[some (webD w),some (.t ((strW w).1.map offD)),some (tupI (strW w).2),some (.ref S.length),some m,a,b]) (S:=S++[SO.dis (cD (runC (0,1) (strW w).1))]) (S1:=S++[SO.dis (cD (runC (0,1) (strW w).1))]) (rI w.costs.length) (λ_=>true) (λx=>nmD (cor w x)) (λρ=>∃x,ρ=[some (.ref S.length),x]) (i_rng (n:=w.costs.length) (qd (qu rfl j) rfl) 00) rfl ⟨_,rfl⟩ (by rw[q8];unfold PySem.sizeLine;lia) (by
   rintro q C ρ ⟨x,rfl⟩;exact⟨_,rfl,⟨_,rfl⟩,rfl,λ_=>qhU rfl rfl (qnn i C)⟩)
  rw[zb]at s;exact qlv (qj rfl (yk (S:=S) h)) (x_set (qj rfl (yk h)) (ρ1:=[some (webD w),some (.t ((strW w).1.map offD)),some (tupI (strW w).2),none,none,none,none]) rfl qI) (qar (x_set (d:=.ref S.length) (S1:=S++[.dis []]) (by simp only[ev]) (ρ1:=[some (webD w),some (.t ((strW w).1.map offD)),some (tupI (strW w).2),some (.ref S.length),none,none,none]) rfl qI) (qar (x_set (d:=nmD (0,1)) (zd (qd rfl (qd rfl rfl)) u) (ρ1:=[some (webD w),some (.t ((strW w).1.map offD)),some (tupI (strW w).2),some (.ref S.length),some (nmD (0,1)),none,none]) rfl qI) (qar (qaj rfl v qI) (qds s))))
 .refine zh _ ?_
  show refsLts 0 _=true;generalize rI w.costs.length=l;induction l with
  |nil=>rfl
  |cons a r E=>rw[wS,refsLts,E];rfl
def qeF{n:Nat}{q:Int}(b:0<=q)(c:q<n)(T:Sr):idxD T (.t ((rI n).map f)) (.int q)=some (f q):=by
 obtain⟨k,rfl⟩:∃k:Nat,q=k:=⟨q.toNat,by lia⟩;have a:k<n:=by lia
 have hx:L2.ixN ((rI n).map f).length (k:Int)=some k:=by
  unfold L2.ixN;rw[wM 00,wH,q8,wM 00];rfl
 simp only[idxD,seqOf,w5,L2.atI,hx];unfold rI;rw[vH,wU,List.getElem?_range a];rfl
def qbK{d:Nat}{w:Wb}{q:Int}(e:0<=q)(f:q<w.costs.length):G (d+4) 14 [webD w,.int q] S=.ok .non S:=by
 rw[G_at (c:=c_14) rfl];have e1:G (d+3) 13 [webD w,.int q] S=.ok (.bl true) S:=by
  rw[G_at (c:=c_13) rfl];have:=zR (d:=d) (i:=q) (a:=0) (b:=(w.costs.length:Int)-1) (S:=S);rw[w4 e,w4 (show q<=(w.costs.length:Int)-1 by lia)]at this;exact qo rfl (qm (qj (qd rfl (qd rfl (qd (qB (qu (qd (qD (S1:=S) rfl rfl rfl) rfl) (ji _ _)) rfl rfl) rfl))) this))
 exact qel rfl (x_no (S1:=S) (tc (t_no (x:=true) (t_of (qj rfl e1)))) qI)
noncomputable def cprt(w:Wb)(c:Int×Int):List Int:=(rI w.costs.length).filter λx=>!und (cor w x) c
def qcO{d:Nat}{q:Int}(h:WbOk w)(e:0<=q)(f:q<w.costs.length):G (d+11) 19 [webD w,.int q] S=.ok (tupI (cprt w (cor w q))) S:=by
 have hm:=h.c2;rw[G_at (c:=c_19) rfl];have b:bltD .len [.t ((rI w.costs.length).map λx=>nmD (cor w x))] S=.ok (.int w.costs.length) S:=by
  have:=q8 w.costs.length;simp[bltD,one,bLen,lenD,this]
 have i:=qeB (g:=.int) (F:=G (d+10)) (fr:=[2,1]) (nt:=1) (elt:=.v 2) (tg:=.v 2) (it:=.rng (.c (.blt .len (.c (.v 2) .n)) .n)) (ifs:=.c (.not (.val (.call 4 (.c (.idx (.v 0) (.v 2)) (.c (.idx (.v 0) (.v 1)) .n))))) .n) (ρ:=[some (webD w),some (.int q),some (.t ((rI w.costs.length).map λx=>nmD (cor w x)))]) (S:=S) (S1:=S) (rI w.costs.length) (λx=>!und (cor w x) (cor w q)) D.int (λρ=>∃x,ρ=[some (.t ((rI w.costs.length).map λx=>nmD (cor w x))),some (.int q),x]) (i_rng (n:=w.costs.length) (qd (qu rfl b) rfl) 00) rfl ⟨_,rfl⟩ (by rw[q8];unfold PySem.sizeLine;lia) (by
  rintro x hx ρ ⟨y,rfl⟩;have a:=jC.mp hx;exact⟨_,rfl,⟨_,rfl⟩,qhp (t_no (t_of (qj (qd (qD rfl rfl (qeF a.1 a.2 S)) (qd (qD rfl rfl (qeF e f S)) rfl)) (jm (d:=d+9) (qh5 h x) (qh5 h q))))),λ_=>rfl⟩)
 exact qo rfl (x_expr (qj rfl (yE h)) (x_expr (qj rfl (qbK e f)) (x_set (qj rfl (qbJ h)) rfl (qds i))))
def lex_tr:∀{a b c:03},HT.lexLt a b=true->HT.lexLt b c=true->HT.lexLt a c=true
 |[],[],_,h,_=>by simp[HT.zU]at h
 |[],y::b,[],_,h=>by simp[HT.qY]at h
 |[],y::b,z::c,_,_=>HT.zH z c
 |x::a,[],_,h,_=>by simp[HT.qY]at h
 |x::a,y::b,[],_,h=>by simp[HT.qY]at h
 |x::a,y::b,z::c,h,h2=>by
  rw[HT.qX]at h h2 ⊢;by_cases e1:x=y
  .subst e1
   rw[wM rfl]at h;by_cases d:x=z
   .subst d;rw[wM rfl]at h2 ⊢;exact lex_tr h h2
   .rw [wN d]at h2 ⊢;exact h2
  .rw [wN e1,w6]at h
   by_cases d:y=z
   .subst d;rw[wN e1];exact w4 h
   .rw [wN d,w6]at h2
    rw[wN 00];exact w4 00
def qdy{d:Type}{r:d->d->Bool}(tr:∀a b c,r a b=true->r b c=true->r a c=true):∀l:List d,((l.zip (l.drop 1)).all λp=>r p.1 p.2)=true->l.Pairwise λa b=>r a b=true
 |[],_=>.nil
 |[a],_=>uu _ _
 |a::b::t,h=>by
  simp only[uS,uf,vm,va,wK]at h;have e:=qdy tr (b::t) (by simpa using h.2);refine wq.mpr ⟨λx hx=>?_,e⟩;rcases wQ.mp hx with rfl|hx
  .exact h.1
  .exact tr _ _ _ h.1 ((wq.mp e).1 x hx)
def qh7(h:upB l=true):l.Pairwise (· < ·):=by
 have:=qdy (r:=λa b:Int=>decide (a<b)) (λa b c d e=>by simp at d e ⊢;lia) l h;exact this.imp λh=>by simpa using h
def qlK(h:upT l=true):l.Pairwise λa b=>HT.lexLt a b=true:=qdy (r:=HT.lexLt) (λ_ _ _=>lex_tr) l h
def qno{n:Nat}(h:placesB n (tupI p)=true):PlOk n p:=by
 have h':(match intsOf (p.map D.int)with|some ns=>!ns.isEmpty&&ns.all (λi=>decide (0<=i)&&decide (i<=(n:Int)-1))&&upB ns|none=>false)=true:=h;rw[qE]at h';simp only[wK,wy,w6]at h';refine⟨λe=>by rw[e]at h';simp at h',λx hx=>?_,qh7 h'.2⟩;have:=h'.1.2 x hx;lia
def qlL(h:isWebB x=true):∃w:Wb,WbOk w/\x=webD w:=by
 unfold isWebB at h;split at h
 .rename_i c t
  rw[wK]at h;obtain⟨b,a⟩:=h;cases c with
  |t l =>
   simp only[costsB,wK,w6]at b;have d:=yN 1 100 l;rw[b.2]at d;cases z:intsOf l with
   |none=>rw[z]at d;cases d
   |some ns =>
    rw[z]at d;have f:ns.all (λi=>decide ((1:Int)<=i)&&decide (i<=100))=true:=d.symm;have m:=intsOf_eq z;have hn:ns.length=l.length:=by rw[m,wH]
    cases t with
    |t ts =>
     simp only[tiesB,wK,w6]at a;obtain⟨o,e1,p⟩:=jO a.1.2;refine⟨⟨ns,o⟩,⟨by show 1<=ns.length;lia,by show ns.length<=12;lia,λc b=>?_,?_,λt j=>?_,?_⟩,?_⟩
     .have:=wy.mp f c b
      simp at this;lia
     .have:=a.1.1
      rw[e1,wH]at this;exact this
     .have q:=wy.mp a.1.2 (tieD t) (by rw[e1];exact List.mem_map_of_mem j)
      have e:(placesB (lenT (.t l)) (tupI t.1)&&decide ((t.1.map D.int).length<=4)&&(decide ((1:Int)<=t.2)&&decide (t.2<=1000000)))=true:=q;simp only[wK,w6,wH]at e;refine⟨qno (n:=ns.length) ?_,e.1.2,e.2⟩;rw[hn];exact e.1.1
     .have:=qlK a.2
      rw[p]at this;exact this
     .rw [m,e1];rfl
    |_=>simp[tiesB]at a
  |_=>simp[costsB]at b
 .cases h
def idxN{k:Nat}(h:l[k]?=some y):idxD S (.t l) (.int k)=some y:=by
 have a:k<l.length:=(wP.mp h).1;have:L2.ixN l.length (k:Int)=some k:=by
  unfold L2.ixN;rw[wM 00,wM 00];simp
 show(L2.ixN l.length (k:Int)).bind (λj=>l[j]?)=_;rw[this];exact h
def qau{a:Type}(l:List a)(p:a->Bool)(S:Sr):bltD .all [.l (l.map λx=>.bl (p x))] S=.ok (.bl (l.all p)) S:=by
 have:=qni (l.map p) S;rw[vH,gE]at this;exact this
def adj{c:Type}(r:c->c->Bool)(z:c):∀xs:List c,((xs.zip (xs.drop 1)).all λp=>r p.1 p.2)=(List.range (xs.length-1)).all λk=>r (xs.getD k z) (xs.getD (k+1) z)
 |[]=>rfl
 |[a]=>rfl
 |a::b::t=>by
  have d:=adj r z (b::t);simp only[uS,uf,vm,va,w8,Nat.add_sub_cancel]at d ⊢;rw[List.range_succ_eq_map,va,gE];rw[d];rfl
def qav{d:Nat}{a b:Int}(hx:refsLt 0 x=true):G (d+1) 25 [x,.int a,.int b] S=.ok (.bl (wholeB a b x)) S:=by
 rw[G_at (c:=c_25) rfl];cases x with
 |ref n=>simp[refsLt]at hx
 |exc n=>simp[refsLt]at hx
 |int i =>
  refine qo rfl (qm ?_);by_cases z:a<=i <;> simp[ev,varE,Res.bind,isiD,cmpD,z,wholeB]
 |_=>exact qo rfl (qm rfl)
def qjq{n:Nat}(h:ev F e ρ S=.ok (.int n) S)(b:1<=n)(hn:n<=1000):evI F (.rng (.c (.bin .sub e 06) .n)) ρ S=.ok ((List.range (n-1)).map λ(k:Nat)=>D.int k) S:=by
 have a:ev F (.bin .sub e 06) ρ S=.ok (.int ((n-1:Nat):Int)) S:=qB h rfl (by
  show some (D.int ((n:Int)-1))=some (.int ((n-1:Nat):Int));congr 2;omega)
 rw[i_rng (n:=n-1) (qd a rfl) 04];unfold rI;rw[vH];rfl
def qh8{n:Nat}(h:ev F e ρ S=.ok (.int n) S)(hn:n<=1000):evI F (.rng (.c (.bin .sub e 06) .n)) ρ S=.ok ((List.range (n-1)).map λ(k:Nat)=>D.int k) S:=by
 rcases Nat.eq_zero_or_pos n with z|z
 .subst z
  have a:evs F (.c (.bin .sub e 06) .n) ρ S=.ok [.int (-1)] S:=qd (qB h rfl rfl) rfl;simp only[evI,a,Res.bind];rfl
 .exact qjq h z hn
def qlM(a b:03)(S:Sr):cmpD .lt (tupI a) (tupI b) S=some (HT.lexLt a b):=by
 simp only[cmpD,tupI,qE]
def qeG:∀(l c:03),c.Nodup->(l.foldl PyProof.Rows.step_dedup c).Nodup/\∀x,x∈l.foldl PyProof.Rows.step_dedup c ↔ x∈c\/x∈l
 |[],c,h=>⟨h,λx=>by simp⟩
 |k::r,c,h=>by
  have d:(PyProof.Rows.step_dedup c k).Nodup/\∀x,x∈PyProof.Rows.step_dedup c k ↔ x∈c\/x=k:=by
   unfold PyProof.Rows.step_dedup;by_cases q:c.any (· == k)=true
   .rw [wM q]
    obtain⟨y,i,e⟩:=vr.mp q;have e:y=k:=by simpa using e
    subst e;exact⟨h,λx=>⟨.inl,λz=>z.elim id λe=>e ▸ i⟩⟩
   .rw [wN q]
    refine⟨uO.mpr ⟨h,by simp,λa ha b f e=>q (vr.mpr ⟨a,ha,?_⟩)⟩,λx=>by simp⟩;rw[wY]at f;simp[e,f]
  obtain⟨j,m⟩:=qeG r _ d.1;refine⟨j,λx=>?_⟩;rw[xW,m,d.2,wQ,or_assoc]
def qjY:∀(l a:03),(l.foldl PyProof.Rows.step_dedup a).length<=a.length+l.length
 |[],a=>by simp
 |k::r,a=>by
  have:=qjY r (PyProof.Rows.step_dedup a k);have b:(PyProof.Rows.step_dedup a k).length<=a.length+1:=by unfold PyProof.Rows.step_dedup;split <;> simp
  rw[xW,w8];lia
def qlN{l:03}(h:l.length<64)(S:Sr):bltD (.sset false) [tupI l] S=.ok (.l ((sortI (ddI l)).map .int)) S:=by
 have a:=qjY l [];have b:l.length<4000/\(ddI l).length<64:=⟨by lia,by unfold ddI;simp at a;lia⟩;simp only[bltD,one,bSset,tupI,qE,wM b,newL];rfl
def qh9(n:Nat):∀l m:List Int,eqL (eqD (n+1)) (l.map D.int) (m.map D.int)=some (l == m)
 |[],[]=>rfl
 |[],_::_=>rfl
 |_::_,[]=>rfl
 |a::r,b::t=>by
  have c:=qh9 n r t;have e:eqD (n+1) (D.int a) (D.int b)=some (a == b):=rfl;rw[wS,wS,eqL,e,c];cases z:(a == b)with
  |true=>simp[z]
  |false=>simp[z]
def qjr(l:03):(l == sortI (ddI l))=upB l:=by
 have f:=qeG l [] .nil;have up:=qcA f.1;rw[u6,vd];constructor
 .intro e
  have:=qdq up;unfold upB;rw[e];exact this
 .intro h
  refine qhF (qh7 h) up λx=>?_
  rw[(qT _).mem_iff];have:=f.2 x;unfold ddI;rw[this];simp
def qnp(a b:03)(S:Sr):cmpD .eq (.l (a.map .int)) (.l (b.map .int)) S=some (a == b):=by
 simp only[cmpD,eqD,wH];by_cases h:a.length=b.length
 .rw [wM h];exact qh9 18 a b
 .rw [wN h]
  have:a≠b:=λe=>h (by rw[e])
  rw[vA.mpr this]
def qfy{d:Nat}{many:Int}(hx:refsLt 0 x=true):G (d+2) 26 [x,.int many] S=.ok (.bl (tieB many x)) S:=by
 rw[G_at (c:=c_26) rfl];cases x with
 |ref n=>simp[refsLt]at hx
 |exc n=>simp[refsLt]at hx
 |t k =>
  by_cases r:k.length=2
  .match k,r with
   |[p,w],_ =>
    have s:refsLt 0 p=true:=ql hx 02;have A:refsLt 0 w=true:=ql hx 02;have t1:tst (G (d+1)) (.val (.cmp .ne (.blt .len (.c (.v 0) .n)) (.k (.int 2)))) [some (.t [p,w]),some (.int many)] S=.ok false S:=t_of (qV (qu rfl (qL _ _)) rfl (ne2 _ _));have B:tieB many (.t [p,w])=(placesB many p&&decide (lenT p<=4)&&wholeB 1 1000000 w):=rfl;have C:=qav (d:=d) (a:=1) (b:=1000000) (S:=S) A;rw[B];cases p with
    |ref n=>simp[refsLt]at s
    |exc n=>simp[refsLt]at s
    |t l =>
     refine qo rfl (x_no (S1:=S) (qM (t_no (x:=true) (t_of rfl)) (qM t1 (t_no (x:=true) (t_of rfl)))) ?_);have j:tst (G (d+1)) (.not (.val (.chain .le .le 06 (.blt .len (.c (.idx (.v 0) 09) .n)) (.k (.int 4))))) [some (.t [.t l,w]),some (.int many)] S=.ok (!(decide ((1:Int)<=l.length)&&decide ((l.length:Int)<=4))) S:=t_no (t_of (chainN _ _ _ (qu (qd (qD rfl rfl rfl) rfl) (qL _ _))));by_cases E:1<=l.length/\l.length<=4
     .rw [w4 (show(1:Int)<=l.length by omega),w4 (show(l.length:Int)<=4 by omega)]at j
      have e:=jF (g:=λy:D=>y) (F:=G (d+1)) (fr:=[1]) (nt:=1) (elt:=.call 25 (.c (.v 1) (.c 09 (.c (.bin .sub (.v 0) 06) .n)))) (tg:=.v 1) (it:=.seq (.idx (.v 0) 09)) (ifs:=.nil) (ρ:=[some (.t [.t l,w]),some (.int many)]) (S:=S) (S1:=S) (ds:=l) l (λ_=>true) (λy=>.bl (wholeB 0 (many-1) y)) (λρ=>∃y,ρ=[some (.int many),y]) rfl 02 ⟨_,rfl⟩ (by unfold PySem.sizeLine;omega) (by
       rintro q H ρ m ⟨y,rfl⟩;exact⟨_,rfl,⟨_,rfl⟩,rfl,λ_=>⟨qj rfl (qav (ql s H)),rfl⟩⟩)
      rw[zb]at e;have o:tst (G (d+1)) (.not (.val (.blt .all (.c (.lc false [1] 1 (.call 25 (.c (.v 1) (.c 09 (.c (.bin .sub (.v 0) 06) .n)))) (.v 1) (.seq (.idx (.v 0) 09)) .n) .n)))) [some (.t [.t l,w]),some (.int many)] S=.ok (!l.all (wholeB 0 (many-1))) S:=t_no (t_of (qu (qd e rfl) (qau l _ S)));have f:=yN 0 (many-1) l;have I:decide (lenT (.t l)<=4)=true:=w4 E.2;cases z:intsOf l with
      |none =>
       rw[z]at f;rw[f]at o;have:placesB many (.t l)=false:=by simp[placesB,z]
       rw[this,wx,wx];exact qO (qM j o) (qm rfl)
      |some ns =>
       rw[z]at f;replace f:l.all (wholeB 0 (many-1))=ns.all (λi=>decide (0<=i)&&decide (i<=many-1)):=f;have h:=qbz z;have u:ns.length=l.length:=by rw[h,wH]
       have v:ns.isEmpty=false:=by
        cases ns with
        |nil=>simp at u;omega
        |cons b t=>rfl
       cases za:ns.all (λi=>decide (0<=i)&&decide (i<=many-1))with
       |false =>
        rw[za]at f;rw[f]at o;have:placesB many (.t l)=false:=by simp only[placesB,z,za,uL,wx]
        rw[this,wx,wx];exact qO (qM j o) (qm rfl)
       |true =>
        rw[za]at f;rw[f]at o;have:placesB many (.t l)=upB ns:=by
         simp only[placesB,z,za,v,Bool.not_false,uJ,xr]
        rw[this,I,xr];refine x_no (qM j o) (qm (qcz ?_ (qj (qd (qD rfl rfl rfl) (qd rfl (qd (pow6 _ _ _) rfl))) C)));have es:=qlN (l:=ns) 04 S;rw[show tupI ns=.t l from by rw[h];rfl]at es;refine qV (qu (qd (qD (S1:=S) rfl rfl rfl) rfl) (show bltD (.list false) [.t l] S=.ok (.l l) S from rfl)) (qu (qd (qD (S1:=S) rfl rfl rfl) rfl) es) ?_;rw[<-qjr,<-qnp ns _ S,<-h]
     .have hd:(decide ((1:Int)<=l.length)&&decide ((l.length:Int)<=4))=false:=by
       rw[uK,wn,wn];omega
      rw[hd]at j;have:(placesB many (.t l)&&decide (lenT (.t l)<=4))=false:=by
       rcases Nat.lt_or_ge 4 l.length with z|z
       .rw [wa (show ¬lenT (.t l)<=4 by show ¬l.length<=4;omega),uL]
       .have:l=[]:=vC.mp 04
        subst this;rfl
      rw[this,wx];exact qO (zN j) (qm rfl)
    |_=>exact qo rfl (qO (S1:=S) (qM (t_no (x:=true) (t_of rfl)) (qM t1 (t_no (x:=false) (t_of rfl)))) (qm rfl))
  .have:tieB many (.t k)=false:=by
    unfold tieB;split
    .rename_i e;cases e;simp at r
    .rfl
   rw[this];have e:cmpD .ne (.int k.length) (.int 2) S=some true:=by rw[ne2,wa r];rfl
   exact qo rfl (qO (S1:=S) (qM (t_no (x:=true) (t_of rfl)) (zN (t_of (qV (qu rfl (qL _ _)) rfl e)))) (qm rfl))
 |_=>exact qo rfl (qO (S1:=S) (zN rfl) (qm rfl))
noncomputable def isT:D->Bool
 | .t _=>true
 |_=>false
def qlO(h:refsLt 0 d=true):isiD S .tuple d=some (isT d):=by
 cases d <;> first|rfl|(simp[refsLt]at h)
def qnq(h:ev F e ρ S=.ok d S)(hd:refsLt 0 d=true):ev F (.isi .tuple e) ρ S=.ok (.bl (isT d)) S:=by
 simp only[ev,h,Res.bind,qlO hd,wf,ofO]
def qfz{d:Nat}(hx:refsLt 0 x=true):G (d+3) 27 [x] S=.ok (.bl (isWebB x)) S:=by
 rw[G_at (c:=c_27) rfl];cases x with
 |ref n=>simp[refsLt]at hx
 |exc n=>simp[refsLt]at hx
 |t k =>
  by_cases s:k.length=2
  .match k,s with
   |[c,t],_ =>
    have u:refsLt 0 c=true:=ql hx 02;have v:refsLt 0 t=true:=ql hx 02;have H:=jF (g:=λy:D=>y) (F:=G (d+2)) (fr:=[]) (nt:=1) (elt:=.isi .tuple (.v 0)) (tg:=.v 0) (it:=.seq (.v 0)) (ifs:=.nil) (ρ:=[some (.t [c,t]),none,none]) (S:=S) (S1:=S) (ds:=[c,t]) [c,t] (λ_=>true) (λy=>.bl (isT y)) (λρ=>∃y,ρ=[y]) rfl 02 ⟨_,rfl⟩ (by simp[PySem.sizeLine]) (by
     rintro z hz ρ m ⟨y,rfl⟩;exact⟨_,rfl,⟨_,rfl⟩,rfl,λ_=>⟨qnq rfl (ql hx hz),rfl⟩⟩)
    rw[zb]at H;have A:tst (G (d+2)) (.or (.not (.val (.isi .tuple (.v 0)))) (.or (.val (.cmp .ne (.blt .len (.c (.v 0) .n)) (.k (.int 2)))) (.not (.val (.blt .all (.c (.lc false [] 1 (.isi .tuple (.v 0)) (.v 0) (.seq (.v 0)) .n) .n)))))) [some (.t [c,t]),none,none] S=.ok (!([c,t].all isT)) S:=qM (t_no (x:=true) (t_of rfl)) (qM (t_of (qV (qu rfl (qL _ _)) rfl (ne2 _ _))) (t_no (t_of (qu (qd H rfl) (qau [c,t] isT S)))));cases c with
    |ref n=>simp[refsLt]at u
    |exc n=>simp[refsLt]at u
    |t q =>
     cases t with
     |ref n=>simp[refsLt]at v
     |exc n=>simp[refsLt]at v
     |t l =>
      refine qo rfl (x_no (S1:=S) A (x_set (d:=.t [.t q,.t l]) (S1:=S) rfl (ρ1:=[some (.t [.t q,.t l]),some (.t q),some (.t l)]) rfl ?_));have h:isWebB (.t [.t q,.t l])=(costsB (.t q)&&tiesB (lenT (.t q)) (.t l)):=rfl;rw[h];have f:tst (G (d+2)) (.not (.val (.chain .le .le 06 (.blt .len (.c (.v 1) .n)) (.k (.int 12))))) [some (.t [.t q,.t l]),some (.t q),some (.t l)] S=.ok (!(decide ((1:Int)<=q.length)&&decide ((q.length:Int)<=12))) S:=t_no (t_of (chainN _ _ _ (qu rfl (qL _ _))));by_cases I:1<=q.length/\q.length<=12
      .rw [w4 (show(1:Int)<=q.length by omega),w4 (show(q.length:Int)<=12 by omega)]at f
       have e:=jF (g:=λy:D=>y) (F:=G (d+2)) (fr:=[]) (nt:=1) (elt:=.call 25 (.c (.v 0) (.c 06 (.c (.k (.int 100)) .n)))) (tg:=.v 0) (it:=.seq (.v 1)) (ifs:=.nil) (ρ:=[some (.t [.t q,.t l]),some (.t q),some (.t l)]) (S:=S) (S1:=S) (ds:=q) q (λ_=>true) (λy=>.bl (wholeB 1 100 y)) (λρ=>∃y,ρ=[y]) rfl 02 ⟨_,rfl⟩ (by unfold PySem.sizeLine;omega) (by
        rintro z hz ρ m ⟨y,rfl⟩;exact⟨_,rfl,⟨_,rfl⟩,rfl,λ_=>⟨qj rfl (qav (ql u hz)),rfl⟩⟩)
       rw[zb]at e;have i:tst (G (d+2)) (.not (.val (.blt .all (.c (.lc false [] 1 (.call 25 (.c (.v 0) (.c 06 (.c (.k (.int 100)) .n)))) (.v 0) (.seq (.v 1)) .n) .n)))) [some (.t [.t q,.t l]),some (.t q),some (.t l)] S=.ok (!q.all (wholeB 1 100)) S:=t_no (t_of (qu (qd e rfl) (qau q _ S)));have B:costsB (.t q)=q.all (wholeB 1 100):=by simp[costsB,I.1,I.2]
       rw[B];have p:tst (G (d+2)) (.val (.cmp .gt (.blt .len (.c (.v 2) .n)) (.k (.int 30)))) [some (.t [.t q,.t l]),some (.t q),some (.t l)] S=.ok (decide ((30:Int)<l.length)) S:=t_of (qV (qu rfl (qL _ _)) rfl (gtN _ _ _));cases za:q.all (wholeB 1 100)with
       |false =>
        rw[za]at i;exact qO (qM f (zN i)) (qm rfl)
       |true =>
        rw[za]at i;rw[uJ];by_cases o:l.length<=30
        .rw [wa 04]at p
         refine x_no (qM f (qM i p)) ?_;have J:=jF (g:=λy:D=>y) (F:=G (d+2)) (fr:=[1]) (nt:=1) (elt:=.call 26 (.c (.v 1) (.c (.blt .len (.c (.v 0) .n)) .n))) (tg:=.v 1) (it:=.seq (.v 2)) (ifs:=.nil) (ρ:=[some (.t [.t q,.t l]),some (.t q),some (.t l)]) (S:=S) (S1:=S) (ds:=l) l (λ_=>true) (λy=>.bl (tieB q.length y)) (λρ=>∃y,ρ=[some (.t q),y]) rfl 02 ⟨_,rfl⟩ (by unfold PySem.sizeLine;omega) (by
          rintro z hz ρ m ⟨y,rfl⟩;exact⟨_,rfl,⟨_,rfl⟩,rfl,λ_=>⟨qj (qd rfl (qd (qu rfl (qL _ _)) rfl)) (qfy (d:=d) (ql v hz)),rfl⟩⟩)
         rw[zb]at J;have r:tst (G (d+2)) (.not (.val (.blt .all (.c (.lc false [1] 1 (.call 26 (.c (.v 1) (.c (.blt .len (.c (.v 0) .n)) .n))) (.v 1) (.seq (.v 2)) .n) .n)))) [some (.t [.t q,.t l]),some (.t q),some (.t l)] S=.ok (!l.all (tieB q.length)) S:=t_no (t_of (qu (qd J rfl) (qau l _ S)));cases zt:l.all (tieB q.length)with
         |false =>
          rw[zt]at r;have:tiesB (lenT (.t q)) (.t l)=false:=by
           show(decide (l.length<=30)&&l.all (tieB (q.length:Int))&&_)=false;rw[zt,uL,wx]
          rw[this];exact qO r (qm rfl)
         |true =>
          rw[zt]at r;obtain⟨ts,K,Q⟩:=jO zt;have:tiesB (lenT (.t q)) (.t l)=upT (ts.map (·.1)):=by
           show(decide (l.length<=30)&&l.all (tieB (q.length:Int))&&upT (l.map keyT))=_;rw[zt,w4 o,Q];rfl
          rw[this];have C:l.length=ts.length:=by rw[K,wH]
          have L:=jF (g:=λk:Nat=>D.int k) (F:=G (d+2)) (fr:=[2]) (nt:=1) (elt:=.cmp .lt (.idx (.idx (.v 0) (.v 1)) 09) (.idx (.idx (.v 0) (.bin .add (.v 1) 06)) 09)) (tg:=.v 1) (it:=.rng (.c (.bin .sub (.blt .len (.c (.v 2) .n)) 06) .n)) (ifs:=.nil) (ρ:=[some (.t [.t q,.t l]),some (.t q),some (.t l)]) (S:=S) (S1:=S) (List.range (l.length-1)) (λ_=>true) (λk=>.bl (HT.lexLt ((ts.map (·.1)).getD k []) ((ts.map (·.1)).getD (k+1) []))) (λρ=>∃y,ρ=[some (.t l),y]) (qh8 (qu rfl (qL _ _)) 04) rfl ⟨_,rfl⟩ (by simp[PySem.sizeLine];omega) (by
           rintro k U ρ m ⟨y,rfl⟩;have W:=uA.mp U;have M:∀j,j<ts.length->∃w:Int,l[j]?=some (.t [tupI ((ts.map (·.1)).getD j []),.int w]):=by
            intro j N;refine⟨ts[j].2,?_⟩;rw[K,wU,wD N,wt,wU,wD N];rfl
           obtain⟨Z,X⟩:=M k 04;obtain⟨w2,Y⟩:=M (k+1) 04;exact⟨_,rfl,⟨_,rfl⟩,rfl,λ_=>⟨qV (S1:=S++[.l m]) (qD (S1:=S++[.l m]) (qD (S1:=S++[.l m]) rfl rfl (idxN X)) rfl rfl) (qD (S1:=S++[.l m]) (qD (S1:=S++[.l m]) (d2:=.int ((k+1:Nat):Int)) rfl (qB rfl rfl rfl) (idxN Y)) rfl rfl) (qlM _ _ _),rfl⟩⟩)
          rw[zb]at L;have O:=qau (List.range (l.length-1)) (λk=>HT.lexLt ((ts.map (·.1)).getD k []) ((ts.map (·.1)).getD (k+1) [])) S;have E:(ts.map (·.1)).length=l.length:=by rw[wH];exact C.symm
          have P:=adj (λa b=>HT.lexLt a b) [] (ts.map (·.1));rw[E]at P;rw[<-P]at O;exact x_no r (qm (qu (qd L rfl) O))
        .rw [w4 04]at p
         have:tiesB (lenT (.t q)) (.t l)=false:=by
          show(decide (l.length<=30)&&_&&_)=false;rw[wa o,wx,wx]
         rw[this];exact qO (qM f (qM i p)) (qm rfl)
      .have hd:(decide ((1:Int)<=q.length)&&decide ((q.length:Int)<=12))=false:=by
        rw[uK,wn,wn];omega
       rw[hd]at f;have:costsB (.t q)=false:=by
        have:(decide (1<=q.length)&&decide (q.length<=12))=false:=by
         rw[uK,wn,wn];omega
        simp only[costsB,this,wx]
       rw[this,wx];exact qO (zN f) (qm rfl)
     |_ =>
      have:∀b:Bool,(b&&false)=false:=λb=>uL b
      refine qo rfl (qO (S1:=S) A (qm ?_));rw[show isWebB (.t [.t q,_])=(costsB (.t q)&&false)from rfl,uL];rfl
    |_=>exact qo rfl (qO (S1:=S) A (qm rfl))
  .have:isWebB (.t k)=false:=by
    unfold isWebB;split
    .rename_i e;cases e;simp at s
    .rfl
   rw[this];have e:cmpD .ne (.int k.length) (.int 2) S=some true:=by rw[ne2,wa s];rfl
   exact qo rfl (qO (S1:=S) (qM (t_no (x:=true) (t_of rfl)) (zN (t_of (qV (qu rfl (qL _ _)) rfl e)))) (qm rfl))
 |_=>exact qo rfl (qO (S1:=S) (zN rfl) (qm rfl))
noncomputable def dropS:Nat->CSs->CSs
 |0,b=>b
 |n+1,.cons _ r=>dropS n r
 |_+1,.nil=>.nil
def qbL{l:List D}{r:Int}{T:Sr}(b:0<=r)(c:r<l.length):∃x∈l,idxD T (.l l) (.int r)=some x:=by
 obtain⟨k,rfl⟩:∃k:Nat,r=k:=⟨r.toNat,by lia⟩;have a:k<l.length:=by lia
 refine⟨l[k],uV a,?_⟩;have:L2.ixN l.length (k:Int)=some k:=by
  unfold L2.ixN;rw[wM 00,wM 00];simp
 show(L2.ixN l.length (k:Int)).bind (λj=>l[j]?)=_;rw[this,w5,wD a]
def qlP{t:Tie}{m:Nat}(h:PlOk m t.1)(hm:m<=12)(c:t.1.length<=4)(d:1<=t.2/\t.2<=1000000):tr (tieD t)=true:=by
 have a:trs (t.1.map D.int)=true:=by
  rw[jj,wy];intro x hx;obtain⟨q,b,rfl⟩:=vD.mp hx;have:=h.rng q b;simp only[tr,w6];lia
 simp only[tieD,tupI,tr,trs,a,wH,w8,ws,xr,uJ,wK,w6];lia
def qjs(h:WbOk w):tr (webD w)=true:=by
 have c1:=h.c2;have c2:=h.t1;have d:trs (w.costs.map D.int)=true:=by
  rw[jj,wy];intro x hx;obtain⟨q,e,rfl⟩:=vD.mp hx;have:=h.c3 q e;simp only[tr,w6];lia
 have f:trs (w.ties.map tieD)=true:=by
  rw[jj,wy];intro x hx;obtain⟨t,i,rfl⟩:=vD.mp hx;obtain⟨a,b,c⟩:=h.t2 t i;exact qlP a h.c2 b c
 simp only[webD,tupI,tr,trs,d,f,wH,w8,ws,xr,uJ,wK,w6];lia
def SpQ(n:Nat)(S:Sr):D->Sr->Prop:=λy T=>refsLt 0 y=true/\∃u,0<=u/\T=pk S n u
def qlQ(l:List D)(S:Sr):cmpD .eq (.t l) (.t []) S=some l.isEmpty:=by
 cases l <;> rfl
def eqk(r k:Int)(S:Sr):cmpD .eq (.int r) (.int k) S=some (r == k):=rfl
def qia{F:Fs}{x:D}{a b c e f:Option D}{T:Sr}:ev F (.l false (.c (.k .non) (.c (.k (.bl true)) (.c (.neg 06) (.c 09 (.c (.k (.int 101)) (.c (.bin .add (.bin .pow (.k (.int 10)) (.k (.int 6))) 06) (.c (.k (.str (PySem.Str.ofString "0"))) (.c (.l false .nil) (.c (.t .nil) (.c (.dic false) (.c (.t (.c (.v 1) .n)) (.c (.l false (.c (.v 1) .n)) (.c 06 (.c (.k (.int 12)) (.c (.k (.bl false)) .n))))))))))))))))  [a,some x,b,c,e,f] T
  = .ok (.l [.non,.bl true,.int (-1),.int 0,.int 101,.int (1000000+1),.str (PySem.Str.ofString "0"),.l [],.t [],.emp,.t [x],.l [x],.int 1,.int 12,.bl false]) T :=
 yn (qd rfl (qd rfl (qd rfl (qd rfl (qd rfl (qd (qB (pow6 _ _ _) rfl badd) (qd rfl (qd (yn rfl 02) (qd (zd rfl (by simp[PySem.sizeLine])) (qd rfl (qd (zd (qd rfl rfl) (by simp[PySem.sizeLine])) (qd (yn (qd rfl rfl) 02) (qd rfl (qd rfl (qd rfl rfl))))))))))))))) 02
def qjt{n D0 deep:Nat}{S:Sr}(hn:n<S.length)(I:tr (.t l)=true)(J:l≠[])(H:∀(x:D) (v:Int),tr x=true->0<=v->Ok (G (D0+2) 28 [.ref n,x,.int ((deep:Int)-1)] (pk S n v)) (SpQ n S)){v:Int}(U:0<=v)(i:Option D):
  Ok (exs (G (D0+2)) NW (dropS 1 c_28.body) [some (.ref n),some (.t l),some (.int deep),i,none,none] (pk S n v)) λf T=>∃y u,f=.rt y/\refsLt 0 y=true/\0<=u/\T=pk S n u:=by
 simp only[tr,wK,w6]at I;have W:0<l.length:=List.length_pos_iff.mpr J;have q:∀y∈l,tr y=true:=λy p=>by
  have:=I.2;rw[jj]at this;exact wy.mp this y p
 have X:∀y∈l,refsLt 0 y=true:=λy p=>qbB y (qhD y (q y p))
 have f:=fm (v:=v) (m:=(l.length:Int)) 00;have K:=zv (d:=D0+1) (n:=n) (v:=v) (m:=l.length) (S:=S) hn 00 00;have w:0<=v.fdiv l.length:=vJ U 00;generalize v.fdiv l.length=v1 at K w;obtain⟨k,Y⟩:∃k:Nat,v.fmod l.length=k:=⟨(v.fmod l.length).toNat,by lia⟩;rw[Y]at K f;have r:=zv (d:=D0+1) (n:=n) (v:=v1) (m:=6) (S:=S) hn 01 01;have o:0<=v1.fdiv 6:=vJ w 01;generalize v1.fdiv 6=v2 at r o;generalize v1.fmod 6=pick at r;have A:k<l.length:=by lia
 have ha:l[k]?=some l[k]:=wD A;have s1:∀(a b:Option Int),(∀y∈cutD l a b,refsLt 0 y=true)/\(cutD l a b).length<=60:=λa b=>⟨λy p=>X y ((qet l a b).1 y p),vG (qet l a b).2 I.1⟩
 have B:∀T,ev (G (D0+2)) (.slc (.v 1) .none (.some (.v 4))) [some (.ref n),some (.t l),some (.int deep),i,some (.int k),some (.int pick)] T=.ok (.t (cutD l none (some (k:Int)))) T:=λT=>qeu rfl rfl rfl
 have M:∀T,ev (G (D0+2)) (.slc (.v 1) (.some (.bin .add (.v 4) 06)) .none) [some (.ref n),some (.t l),some (.int deep),i,some (.int k),some (.int pick)] T=.ok (.t (cutD l (some ((k:Int)+1)) none)) T:=λT=>qeu rfl rfl rfl
 have Z:∀T,ev (G (D0+2)) (.slc (.v 1) (.some (.v 4)) (.some (.bin .add (.v 4) 06))) [some (.ref n),some (.t l),some (.int deep),i,some (.int k),some (.int pick)] T=.ok (.t (cutD l (some (k:Int)) (some ((k:Int)+1)))) T:=λT=>qeu rfl rfl rfl
 have N:∀T,ev (G (D0+2)) (.slc (.v 1) (.some (.v 4)) .none) [some (.ref n),some (.t l),some (.int deep),i,some (.int k),some (.int pick)] T=.ok (.t (cutD l (some (k:Int)) none)) T:=λT=>qeu rfl rfl rfl
 have tk:∀(j:Int) T,tst (G (D0+2)) (.val (.cmp .eq (.v 5) (.k (.int j)))) [some (.ref n),some (.t l),some (.int deep),i,some (.int k),some (.int pick)] T=.ok (pick == j) T:=λj T=>t_of (qV rfl rfl (eqk _ _ _))
 have no:∀(j:Int) T,pick≠j->tst (G (D0+2)) (.val (.cmp .eq (.v 5) (.k (.int j)))) [some (.ref n),some (.t l),some (.int deep),i,some (.int k),some (.int pick)] T=.ok false T:=λj T h=>by rw[tk,vA.mpr h]
 have s:∀(j:Int) T,pick=j->tst (G (D0+2)) (.val (.cmp .eq (.v 5) (.k (.int j)))) [some (.ref n),some (.t l),some (.int deep),i,some (.int k),some (.int pick)] T=.ok true T:=λj T h=>by rw[tk,h,beq_self_eq_true]
 have c:∀{a b:List D},(∀y∈a,refsLt 0 y=true)->(∀y∈b,refsLt 0 y=true)->∀y∈a++b,refsLt 0 y=true:=λ{a b} h1 h2 y p=>(wi.mp p).elim (h1 y) (h2 y)
 have C:=s1 none (some (k:Int));have O:=s1 (some ((k:Int)+1)) none;have a3:=s1 (some (k:Int)) (some ((k:Int)+1));have P:=s1 (some (k:Int)) none;simp only[dropS,c_28];refine jk (Ok.of (qj (qd rfl (qd (qu rfl (qL _ _)) rfl)) K) (Ok.of (a:=[some (.ref n),some (.t l),some (.int deep),i,some (.int k),none]) rfl ?_));refine jk (Ok.of (qj rfl r) (Ok.of (a:=[some (.ref n),some (.t l),some (.int deep),i,some (.int k),some (.int pick)]) rfl ?_));by_cases E:pick=0
 .exact Ok.of (qO (s 0 _ E) (qm (qB (B _) (M _) (bcatT 00)))) ⟨_,_,rfl,qJ (c C.1 O.1),o,rfl⟩
 by_cases L:pick=1
 .exact Ok.of (x_no (no 0 _ E) (qO (s 1 _ L) (qm (qB (qB (B _) (Z _) (bcatT 00)) (N _) (bcatT (by rw[wm];lia)))))) ⟨_,_,rfl,qJ (c (c C.1 a3.1) P.1),o,rfl⟩
 by_cases Q:pick=2
 .exact Ok.of (x_no (no 0 _ E) (x_no (no 1 _ L) (qO (s 2 _ Q) (qm (qB (N _) (B _) (bcatT 00)))))) ⟨_,_,rfl,qJ (c P.1 C.1),o,rfl⟩
 obtain⟨y,T,e,p,u,hu,rfl⟩:=(H l[k] v2 (q _ (uV A)) o).ex;have c1:evs (G (D0+2)) (.c (.v 0) (.c (.idx (.v 1) (.v 4)) (.c (.bin .sub (.v 2) 06) .n))) [some (.ref n),some (.t l),some (.int deep),i,some (.int k),some (.int pick)] (pk S n v2)=.ok [.ref n,l[k],.int ((deep:Int)-1)] (pk S n v2):=qd rfl (qd (qD rfl rfl (idxN ha)) (qd (qB rfl rfl rfl) rfl));have c2:=qj (F:=G (D0+2)) c1 e;exact Ok.of (x_no (no 0 _ E) (x_no (no 1 _ L) (x_no (no 2 _ Q) (qm (qB (qB (B _) (zd (qd c2 rfl) (by simp[PySem.sizeLine])) (bcatT (by simp;lia))) (M _) (bcatT (by rw[wm];simp;lia))))))) ⟨_,_,rfl,qJ (c (c C.1 (λz hz=>by rw[wY.mp hz];exact p)) O.1),hu,rfl⟩
def qeH{n D0 deep:Nat}{S:Sr}(hn:n<S.length)(H:deep≠0->∀(x:D) (v:Int),tr x=true->0<=v->Ok (G (D0+2) 28 [.ref n,x,.int ((deep:Int)-1)] (pk S n v)) (SpQ n S))(x:D)(v:Int)(hx:tr x=true)(p:0<=v):Ok (G (D0+3) 28 [.ref n,x,.int deep] (pk S n v)) (SpQ n S):=by
 rw[G_at (c:=c_28) rfl];refine qbC (f:=c_28) rfl rfl ?_;have z:refsLt 0 x=true:=qbB x (qhD x hx);have fin:∀(y:D) (u:Int),refsLt 0 y=true->0<=u->(pk S n v).length<=(pk S n u).length/\refsLt (pk S n v).length y=true/\SpQ n S y ((pk S n u).take (pk S n v).length):=λy u e q=>⟨by rw[qF,qF];exact wG _,zh y e,e,u,q,by rw[qF,<-qF S n u,xK]⟩
 have F:Ok (tst (G (D0+2)) (.or (.val (.cmp .eq (.v 2) 09)) (.or (.not (.val (.isi .tuple (.v 1)))) (.or (.val (.cmp .eq (.v 1) (.t .nil))) (.val (.cmp .eq (.call 22 (.c (.v 0) (.c (.k (.int 5)) .n))) 09))))) [some (.ref n),some x,some (.int deep),none,none,none] (pk S n v)) λb T=>∃u,0<=u/\T=pk S n u/\(b=false->deep≠0/\∃l,x=.t l/\l≠[]):=by
  by_cases s:deep=0
  .subst s
   exact Ok.of (zN (t_of (qV rfl rfl rfl))) ⟨v,p,rfl,λh=>by cases h⟩
  .have A:tst (G (D0+2)) (.val (.cmp .eq (.v 2) 09)) [some (.ref n),some x,some (.int deep),none,none,none] (pk S n v)=.ok false (pk S n v):=t_of (qV rfl rfl (by rw[eqk,vA.mpr 00]))
   cases x with
   |t l =>
    have e1:tst (G (D0+2)) (.val (.cmp .eq (.v 1) (.t .nil))) [some (.ref n),some (.t l),some (.int deep),none,none,none] (pk S n v)=.ok l.isEmpty (pk S n v):=t_of (qV rfl (zd rfl 02) (qlQ _ _));cases l with
    |nil=>exact Ok.of (qM A (qM (t_no (x:=true) (t_of rfl)) (zN e1))) ⟨v,p,rfl,λh=>by cases h⟩
    |cons a r =>
     have j:=zv (d:=D0+1) (n:=n) (v:=v) (m:=5) (S:=S) hn 01 01;refine o_or (Ok.of A ?_);rw[wN 01];refine o_or (Ok.of (t_no (x:=true) (t_of rfl)) ?_);rw[wN 01];refine o_or (Ok.of e1 ?_);rw[wN 02];exact Ok.of (t_of (qV (qj rfl j) rfl (eqk _ _ _))) ⟨_,vJ p 01,rfl,λ_=>⟨s,_,rfl,by simp⟩⟩
   |int i=>exact Ok.of (qM A (zN (t_no (x:=false) (t_of rfl)))) ⟨v,p,rfl,λh=>by cases h⟩
   |_=>simp[tr]at hx
 rw[show c_28.body=.c (.ifs (.or (.val (.cmp .eq (.v 2) 09)) (.or (.not (.val (.isi .tuple (.v 1)))) (.or (.val (.cmp .eq (.v 1) (.t .nil))) (.val (.cmp .eq (.call 22 (.c (.v 0) (.c (.k (.int 5)) .n))) 09))))) (.c (.set (.v 3) (.l false (.c (.k .non) (.c (.k (.bl true)) (.c (.neg 06) (.c 09 (.c (.k (.int 101)) (.c (.bin .add (.bin .pow (.k (.int 10)) (.k (.int 6))) 06) (.c (.k (.str (PySem.Str.ofString "0"))) (.c (.l false .nil) (.c (.t .nil) (.c (.dic false) (.c (.t (.c (.v 1) .n)) (.c (.l false (.c (.v 1) .n)) (.c 06 (.c (.k (.int 12)) (.c (.k (.bl false)) .n))))))))))))))))) (.c (.ret (.idx (.v 3) (.call 22 (.c (.v 0) (.c (.k (.int 15)) .n))))) .n)) .n) (dropS 1 c_28.body)from rfl];refine o_if ?_;obtain⟨b,T,I,u,q,rfl,J⟩:=F.ex;refine Ok.of I ?_;cases b with
 |true =>
  rw[wM rfl];have f:=fm (v:=u) (m:=15) 01;have j:=zv (d:=D0+1) (n:=n) (v:=u) (m:=15) (S:=S) hn 01 01;have o:0<=u.fdiv 15:=vJ q 01;obtain⟨y,e,B⟩:=qbL (l:=[.non,.bl true,.int (-1),.int 0,.int 101,.int (1000000+1),.str (PySem.Str.ofString "0"),.l [],.t [],.emp,.t [x],.l [x],.int 1,.int 12,.bl false]) (r:=u.fmod 15) (T:=pk S n (u.fdiv 15)) f.1 f.2;generalize u.fdiv 15=u1 at j o B;generalize u.fmod 15=r at j B;have C:refsLt 0 y=true:=by
   simp only[wQ,vO,xB]at e;rcases e with rfl|rfl|rfl|rfl|rfl|rfl|rfl|rfl|rfl|rfl|rfl|rfl|rfl|rfl|rfl <;> first|rfl|simp[refsLt,refsLts,z]
  refine jk (Ok.of qia (Ok.of (a:=[some (.ref n),some x,some (.int deep),some (.l [.non,.bl true,.int (-1),.int 0,.int 101,.int (1000000+1),.str (PySem.Str.ofString "0"),.l [],.t [],.emp,.t [x],.l [x],.int 1,.int 12,.bl false]),none,none]) rfl ?_));exact qhE (Ok.of (qD rfl (qj rfl j) B) (fin y u1 C o))
 |false =>
  obtain⟨s,l,rfl,E⟩:=J rfl;rw[wN 01];refine qa0 ?_;refine(qjt (D0:=D0) hn hx E (H s) q none).mono ?_;rintro f T ⟨y,w,rfl,e,K,rfl⟩;exact fin y w e K
def qcP{n:Nat}{S:Sr}(hn:n<S.length):∀(deep d:Nat) (x:D) (v:Int),tr x=true->0<=v->Ok (G (d+deep+3) 28 [.ref n,x,.int deep] (pk S n v)) (SpQ n S)
 |0,d,x,v,hx,a=>qeH (deep:=0) hn (λh=>absurd rfl h) x v hx a
 |k+1,d,x,v,hx,a=>qeH (D0:=d+k+1) (deep:=k+1) hn (λ_ x v hx a=>by
   have:=qcP hn k d x v hx a;rw[show((k+1:Nat):Int)-1=(k:Int) by lia];exact this) x v hx a
section
variable{d:Nat}{x p:D}{S:Sr}
theorem jJ(hx:refsLt 0 x=true)(h:isWebB x=false):G (d+9) 16 [x] S=.err (.exc 72) S:=by
 rw[G_at (c:=c_16) rfl];exact qa1 rfl (zu (yX (zS rfl (jH hx h))))
theorem qib(hx:refsLt 0 x=true)(h:isWebB x=false):G (d+10) 18 [x] S=.err (.exc 72) S:=by
 rw[G_at (c:=c_18) rfl];exact qa1 rfl (zu (qjh (zS rfl (jJ (d:=d) hx h))))
theorem qbM(hx:refsLt 0 x=true)(h:isWebB x=false):G (d+11) 19 [x,p] S=.err (.exc 72) S:=by
 rw[G_at (c:=c_19) rfl];exact qa1 rfl (zu (yX (zS rfl (jH (d:=d+2) hx h))))
theorem qaF{w:Wb}(e:refsLt 0 p=true)(h:wholeB 0 ((w.costs.length:Int)-1) p=false):G (d+4) 14 [webD w,p] S=.err (.exc 84) S:=by
 rw[G_at (c:=c_14) rfl];have e1:G (d+3) 13 [webD w,p] S=.ok (.bl false) S:=by
  rw[G_at (c:=c_13) rfl];have:=yP (d:=d) (a:=0) (b:=(w.costs.length:Int)-1) (S:=S) e;rw[h]at this;exact qo rfl (qm (qj (qd rfl (qd rfl (qd (qB (qu (qd (qD (S1:=S) rfl rfl rfl) rfl) (ji _ _)) rfl rfl) rfl))) this))
 exact qa1 rfl (zu (qbG (S1:=S) (tc (t_no (x:=false) (t_of (qj rfl e1)))) (zu rfl)))
theorem qbN(a:WbOk w)(b:refsLt 0 p=true)(h:wholeB 0 ((w.costs.length:Int)-1) p=false):G (d+11) 19 [webD w,p] S=.err (.exc 84) S:=by
 rw[G_at (c:=c_19) rfl];exact qa1 rfl (x_expr (S1:=S) (qj rfl (yE (d:=d+2) a)) (zu (yX (zS rfl (qaF (d:=d+6) b h)))))
end
noncomputable def tryB:CSs->CSs
 | .cons _ (.c (.tryX _ _ b _) _)=>b
 |_=>.nil
noncomputable def tryS:CSs->CSs
 | .cons _ (.c (.tryX _ _ _ s) _)=>s
 |_=>.nil
def qlR{N:Nat}{i:Nat}(h:exs F N b ρ S=.err (.exc C) S1)(c:lookA C t=some true)(d:exs F N s (ρ.set i (some (.exc C))) S1=.ok (.nx a) S2)(e:exs F N r (a.set i none) S2=X):exs F N (.c (.tryX t i b s) r) ρ S=X:=by
 simp only[exs,ex,h,c,d,Res.bind];exact e
def qnr{N:Nat}{i:Nat}(h:exs F N b ρ S=.ok (.nx ρ1) S1)(a:exs F N r ρ1 S1=X):exs F N (.c (.tryX t i b s) r) ρ S=X:=by
 simp only[exs,ex,h,Res.bind];exact a
def qaw(h:ev F e ρ S=.ok x S)(a:isxD t x=some b):ev F (.isx t e) ρ S=.ok (.bl b) S:=by
 simp only[ev,h,Res.bind,a,wf,ofO]
def qns(h:ev F a ρ S=.ok (.bl false) S)(c:ev F b ρ S=.ok y S):ev F (.or a b) ρ S=.ok y S:=by
 simp[ev,h,c,Res.bind]
noncomputable def wrd(C:PySem.Addr):D:=if C=72 then .str (PySem.Str.ofString "web")else .str (PySem.Str.ofString "part")
def qlS{d:Nat}{k:Int}(a:C=72\/C=84):exs (G d) NW (tryS c_29.body) [some (.int k),some x,some p,some (.str (PySem.Str.ofString "told")),some (.exc C),none] S=.ok (.nx [some (.int k),some x,some p,some (wrd C),some (.exc C),some (.bl false)]) S:=by
 simp only[tryS,c_29];have q1:isxD [(84,false),(72,false)] (.exc C)=some false:=by rcases a with rfl|rfl <;> rfl
 have q2:isxD [(84,true),(72,true)] (.exc C)=some true:=by rcases a with rfl|rfl <;> rfl
 refine x_set (S1:=S) (qaw rfl q1) (ρ1:=[some (.int k),some x,some p,some (.str (PySem.Str.ofString "told")),some (.exc C),some (.bl false)]) rfl ?_;refine x_set (S1:=S) (qns rfl (qaw rfl q1)) (ρ1:=[some (.int k),some x,some p,some (.str (PySem.Str.ofString "told")),some (.exc C),some (.bl false)]) rfl ?_;refine x_set (S1:=S) (d:=.str (PySem.Str.ofString "other")) rfl (ρ1:=[some (.int k),some x,some p,some (.str (PySem.Str.ofString "other")),some (.exc C),some (.bl false)]) rfl ?_;refine yW (S1:=S) (qm5 (x:=true) (y:=true) (t_of (qaw rfl q2)) λ_=>t_no (x:=false) (t_of rfl)) (x_set (S1:=S) (d:=wrd C) (qD (d1:=.l [.str (PySem.Str.ofString "other"),.str (PySem.Str.ofString "web"),.str (PySem.Str.ofString "part"),.str (PySem.Str.ofString "other")]) (d2:=.int (if C=72 then 1 else 2)) (S1:=S) (yn (qd rfl (qd rfl (qd rfl (qd rfl rfl)))) 02) ?_ ?_) rfl qI) qI
 .rcases a with rfl|rfl
  .exact qB (d1:=.int 1) (qu (qd (qaw (b:=true) rfl rfl) rfl) rfl) (qB (d2:=.int 0) rfl (qu (qd (qaw (b:=false) rfl rfl) rfl) rfl) (bmul (yL 01))) badd
  .exact qB (d1:=.int 0) (qu (qd (qaw (b:=false) rfl rfl) rfl) rfl) (qB (d2:=.int 1) rfl (qu (qd (qaw (b:=true) rfl rfl) rfl) rfl) (bmul (yL 01))) badd
 .rcases a with rfl|rfl <;> rfl
def qeI{d:Nat}{k:Int}(a:C=72\/C=84)(h:exs (G (d+12)) NW (tryB c_29.body) [some (.int k),some x,some p,some (.str (PySem.Str.ofString "told")),none,none] S=.err (.exc C) S):G (d+13) 29 [.int k,x,p] S=.ok (wrd C) S:=by
 rw[G_at (c:=c_29) rfl];have b:lookA C [(84,true),(72,true)]=some true:=by rcases a with rfl|rfl <;> decide
 exact qo rfl (x_set (S1:=S) (d:=.str (PySem.Str.ofString "told")) (ρ1:=[some (.int k),some x,some p,some (.str (PySem.Str.ofString "told")),none,none]) rfl rfl (qlR h b (qlS a) (qm rfl)))
def qju{d:Nat}{k:Int}(h:exs (G (d+12)) NW (tryB c_29.body) [some (.int k),some x,some p,some (.str (PySem.Str.ofString "told")),none,none] S=.ok (.nx [some (.int k),some x,some p,some (.str (PySem.Str.ofString "told")),none,none]) S):G (d+13) 29 [.int k,x,p] S=.ok (.str (PySem.Str.ofString "told")) S:=by
 rw[G_at (c:=c_29) rfl];exact qo rfl (x_set (S1:=S) (d:=.str (PySem.Str.ofString "told")) (ρ1:=[some (.int k),some x,some p,some (.str (PySem.Str.ofString "told")),none,none]) rfl rfl (qnr h (qm rfl)))
def q_eq{k j:Int}:tst F (.cal (.val (.cmp .eq (.v 0) (.k (.int j))))) [some (.int k),some x,some p,some (.str (PySem.Str.ofString "told")),none,none] S=.ok (k == j) S:=tc (t_of (qV rfl rfl rfl))
def qic{N:Nat}(h:tst F c ρ S=.ok false S1)(d:exs F N b ρ S1=.ok (.nx ρ1) S2)(e:exs F N r ρ1 S2=X):exs F N (.c (.ifs c a b) r) ρ S=X:=by simp[exs,ex,h,d,e,Res.bind]
def qeJ{d:Nat}{k:Int}(a:k=0\/k=1\/k=2)(hx:refsLt 0 x=true)(h:isWebB x=false):G (d+13) 29 [.int k,x,p] S=.ok (.str (PySem.Str.ofString "web")) S:=by
 refine qeI (C:=72) (.inl rfl) ?_;simp only[tryB,c_29];rcases a with rfl|rfl|rfl
 .exact zu (qbG (S1:=S) q_eq (zu (yX (zS rfl (jJ (d:=d+3) hx h)))))
 .exact zu (jl (S1:=S) q_eq (zu (qbG (S1:=S) q_eq (zu (yX (zS rfl (qib (d:=d+2) hx h)))))))
 .exact zu (jl (S1:=S) q_eq (zu (jl (S1:=S) q_eq (zu (yX (zS rfl (qbM (d:=d+1) hx h)))))))
def qjv{d:Nat}(a:WbOk w)(b:refsLt 0 p=true)(h:wholeB 0 ((w.costs.length:Int)-1) p=false):G (d+13) 29 [.int 2,webD w,p] S=.ok (.str (PySem.Str.ofString "part")) S:=by
 refine qeI (C:=84) (.inr rfl) ?_;simp only[tryB,c_29];exact zu (jl (S1:=S) q_eq (zu (jl (S1:=S) q_eq (zu (yX (zS rfl (qbN (d:=d+1) a b h)))))))
def qjw{d:Nat}{k:Int}(b:k=0\/k=1\/k=2)(a:WbOk w):G (d+13) 29 [.int k,webD w,.int 0] S=.ok (.str (PySem.Str.ofString "told")) S:=by
 have c1:=a.c1;refine qju ?_;simp only[tryB,c_29];rcases b with rfl|rfl|rfl
 .exact yW (S1:=S) q_eq (x_expr (qj rfl (yk (d:=d+3) a)) qI) qI
 .exact qic (S1:=S) q_eq (yW (S1:=S) q_eq (x_expr (qj rfl (qbJ (d:=d+2) a)) qI) qI) qI
 .exact qic (S1:=S) q_eq (qic (S1:=S) q_eq (x_expr (qj rfl (qcO (d:=d+1) a 01 00)) qI) qI) qI
def qjZ(n:Nat):∀ps:List Int,eqL (eqD (n+1)) (ps.map .int) (ps.map .int)=some true
 |[]=>rfl
 |p::r=>by
  have e:eqD (n+1) (.int p) (.int p)=some true:=by
   show some (p == p)=_;simp
  rw[wS,eqL,e,qjZ n r];rfl
def qeK(n:Nat):∀ps:List Of,eqL (eqD (n+3)) (ps.map offD) (ps.map offD)=some true
 |[]=>rfl
 |p::r=>by
  have e:eqD (n+3) (offD p) (offD p)=some true:=by
   show some ((p.1 == p.1)&&(((p.2.1 == p.2.1)&&((p.2.2 == p.2.2)&&true))&&true))=_;simp
  rw[wS,eqL,e,qeK n r];rfl
def qid(n:Nat)(f:Int->Int×Int):∀ps:List Int,eqL (eqD (n+2)) (ps.map λx=>nmD (f x)) (ps.map λx=>nmD (f x))=some true
 |[]=>rfl
 |p::r=>by
  have e:eqD (n+2) (nmD (f p)) (nmD (f p))=some true:=by
   show some (((f p).1 == (f p).1)&&(((f p).2 == (f p).2)&&true))=_;simp
  rw[wS,eqL,e,qid n f r];rfl
noncomputable def coD(w:Wb):D:=.t ((rI w.costs.length).map λx=>nmD (cor w x))
noncomputable def bothD(w:Wb):D:=.t [strD (strW w),coD w]
def qjx(w:Wb)(S:Sr):cmpD .eq (bothD w) (bothD w) S=some true:=by
 have e1:eqD 19 (strD (strW w)) (strD (strW w))=some true:=by
  have e1:eqD 18 (.t ((strW w).1.map offD)) (.t ((strW w).1.map offD))=some true:=qeK 14 _;have a:eqD 18 (tupI (strW w).2) (tupI (strW w).2)=some true:=qjZ 16 _;show eqL (eqD 18) [.t ((strW w).1.map offD),tupI (strW w).2] [.t ((strW w).1.map offD),tupI (strW w).2]=_;rw[eqL,eqL,eqL,e1,a];rfl
 have a:eqD 19 (coD w) (coD w)=some true:=qid 16 _ _;have e:eqD 20 (bothD w) (bothD w)=some true:=by
  show eqL (eqD 19) [strD (strW w),coD w] [strD (strW w),coD w]=_;rw[eqL,eqL,eqL,e1,a];rfl
 simp only[cmpD,e]
def qie{d:Nat}(h:WbOk w)(b:ρ[0]?=some (some (webD w))):ev (G (d+13)) (.t (.c (.call 16 (.c (.v 0) .n)) (.c (.call 18 (.c (.v 0) .n)) .n))) ρ S=.ok (bothD w) S:=by
 have a:ev (G (d+13)) (.v 0) ρ S=.ok (webD w) S:=by simp only[ev,varE,b]
 exact zd (qd (qj (qd a rfl) (yk (d:=d+4) h)) (qd (qj (qd a rfl) (qbJ (d:=d+3) h)) rfl)) (by simp[PySem.sizeLine])
def qeL(h:cmpD .ne s t S=some false)(c:ev F e ρ b=.ok s S)(ha:t=.str a):tst F (.val (.cmp .ne e (.k (.str a)))) ρ b=.ok false S:=by
 subst ha;exact t_of (qV c rfl h)
def ne_s(a:PySem.Str)(S:Sr):cmpD .ne (.str a) (.str a) S=some false:=by
 show some (!(a == a))=_;simp
def noPl(n:Nat)(x:D):Prop:=refsLt 0 x=true/\wholeB 0 ((n:Int)-1) x=false
noncomputable def rE(w:Wb)(n:Nat)(L:List D)(a a6 a7 a8 b:Option D):En:=[some (webD w),some (.ref n),some (bothD w),some (.int w.costs.length),some (.l L),a,a6,a7,a8,b]
def rI_3{q:Int}(h:q∈rI 3):q=0\/q=1\/q=2:=by have:=jC.mp h;omega
def brepT{a:List D}{k:Nat}(h:a.length*k<=1000)(b:k<=1000):binD .mul (.t a) (.int k) S=some (.t (rep a k)):=by
 have:repOk a (k:Int)=true:=by
  unfold repOk PySem.sizeLine;rw[w6];refine⟨by omega,by omega,?_⟩;have:((k:Int)).toNat=k:=by omega
  rw[this];omega
 simp[binD,this]
def qjy{d n:Nat}{v:Int}{w:Wb}{S:Sr}(B:WbOk w)(hn:n<S.length)(hv:0<=v):Ok (G (d+14) 30 [webD w,.ref n] (pk S n v)) λr U=>r=.bl true/\∃u,0<=u/\U=pk S n u:=by
 have a2:=B.c1;have H:=B.c2;rw[G_at (c:=c_30) rfl];refine qbC (f:=c_30) rfl rfl ?_;rw[qF];rw[show c_30.body=.c (.set (.v 2) (.t (.c (.call 16 (.c (.v 0) .n)) (.c (.call 18 (.c (.v 0) .n)) .n)))) (dropS 1 c_30.body)from rfl];refine jk (Ok.of (qie (d:=d) B rfl) (Ok.of (a:=[some (webD w),some (.ref n),some (bothD w),none,none,none,none,none,none,none]) rfl ?_));rw[show dropS 1 c_30.body=.c (.set (.v 3) (.blt .len (.c (.idx (.v 0) 09) .n))) (dropS 2 c_30.body)from rfl];refine jk (Ok.of (qu (qd (qD rfl rfl rfl) rfl) (ji _ _)) (Ok.of (a:=[some (webD w),some (.ref n),some (bothD w),some (.int w.costs.length),none,none,none,none,none,none]) rfl ?_));rw[show dropS 2 c_30.body=.c (.set (.v 4) (.l false (.c (.neg 06) (.c (.v 3) (.c (.k .non) (.c (.k (.bl true)) (.c (.k (.bl false)) (.c (.k (.str (PySem.Str.ofString "0"))) (.c (.t (.c 09 .n)) (.c (.l false (.c 09 .n)) (.c (.t .nil) (.c (.dic false) (.c (.bin .pow (.k (.int 10)) (.k (.int 9))) .n))))))))))))) (dropS 3 c_30.body)from rfl];obtain⟨L,F⟩:∃L:List D,L=[.int (-1),.int w.costs.length,.non,.bl true,.bl false,.str (PySem.Str.ofString "0"),.t [.int 0],.l [.int 0],.t [],.emp,.int 1000000000]:=⟨_,rfl⟩;have I:L.length=11:=by rw[F];rfl
 have J:∀y∈L,noPl w.costs.length y:=by
  intro y h;rw[F]at h;simp only[wQ,vO,xB]at h;rcases h with rfl|rfl|rfl|rfl|rfl|rfl|rfl|rfl|rfl|rfl|rfl
  .exact ⟨rfl,rfl⟩
  .exact ⟨rfl,by simp[wholeB];omega⟩
  all_goals first|exact⟨rfl,rfl⟩|exact⟨rfl,by simp only[wholeB];rw[wa (show ¬(1000000000:Int)<=(w.costs.length:Int)-1 by lia),uL]⟩
 have eL:ev (G (d+13)) (.l false (.c (.neg 06) (.c (.v 3) (.c (.k .non) (.c (.k (.bl true)) (.c (.k (.bl false)) (.c (.k (.str (PySem.Str.ofString "0"))) (.c (.t (.c 09 .n)) (.c (.l false (.c 09 .n)) (.c (.t .nil) (.c (.dic false) (.c (.bin .pow (.k (.int 10)) (.k (.int 9))) .n)))))))))))) [some (webD w),some (.ref n),some (bothD w),some (.int w.costs.length),none,none,none,none,none,none] (pk S n v)=.ok (.l L) (pk S n v):=by
  rw[F];exact yn (qd rfl (qd rfl (qd rfl (qd rfl (qd rfl (qd rfl (qd (zd (qd rfl rfl) (by simp[PySem.sizeLine])) (qd (yn (qd rfl rfl) 02) (qd (zd rfl (by simp[PySem.sizeLine])) (qd rfl (qd (qB (d:=.int 1000000000) rfl rfl (by simp[binD,binI])) rfl))))))))))) 02
 refine jk (Ok.of eL (Ok.of (a:=rE w n L none none none none none) rfl ?_));clear F eL;rw[show dropS 3 c_30.body=.c 004 (dropS 4 c_30.body)from rfl];refine qev (g:=.int) (λ_ ρ U=>∃u C a6 a7 a8 b,0<=u/\U=pk S n u/\ρ=rE w n L C a6 a7 a8 b) (rI 6) (Ok.of (i_rng (n:=6) rfl 01) ⟨rfl,v,_,_,_,_,_,hv,rfl,rfl⟩) ?_ ?_
 .rintro pre q K ρ U j ⟨u,C,a6,a7,a8,b,e,rfl,rfl⟩
  refine Ok.of (a:=rE w n L (some (.int q)) a6 a7 a8 b) rfl ?_;have f:=fm (v:=u) (m:=11) 01;have o:=zv (d:=d+12) (n:=n) (v:=u) (m:=11) (S:=S) hn 01 01;have i:0<=u.fdiv 11:=vJ e 01;obtain⟨y,h,N⟩:=qbL (l:=L) (r:=u.fmod 11) (T:=pk S n (u.fdiv 11)) f.1 (by rw[I];exact f.2);generalize u.fdiv 11=u1 at o i N;generalize u.fmod 11=r at o N;obtain⟨O,P⟩:=J y h;refine jk (Ok.of (qD (d1:=.l L) rfl (qj rfl o) N) (Ok.of (a:=rE w n L (some (.int q)) (some y) a7 a8 b) rfl ?_));refine o_no (Ok.of (qeL (ne_s _ _) (qj rfl (qjv (d:=d) B O P)) rfl) ⟨rfl,?_⟩);obtain⟨z,T,ez,hz,u2,Q,rfl⟩:=(qcP (S:=S) hn 4 (d+6) (webD w) u1 (qjs B) i).ex;refine jk (Ok.of (qj rfl ez) (Ok.of (a:=rE w n L (some (.int q)) (some y) (some z) a8 b) rfl ?_));refine jk (Ok.of (qj rfl (qfz (d:=d+10) hz)) (Ok.of (a:=rE w n L (some (.int q)) (some y) (some z) (some (.bl (isWebB z))) b) rfl ?_));refine qev (g:=.int) (λ_ ρ U=>∃u b,0<=u/\U=pk S n u/\ρ=rE w n L (some (.int q)) (some y) (some z) (some (.bl (isWebB z))) b) (rI 3) (Ok.of (i_rng (n:=3) rfl 01) ⟨rfl,u2,_,Q,rfl,rfl⟩) ?_ ?_
  .rintro a0 k a1 ρ U s ⟨u,b,e,rfl,rfl⟩
   have hk:k=0\/k=1\/k=2:=rI_3 (by rw[s];simp);refine Ok.of (a:=rE w n L (some (.int q)) (some y) (some z) (some (.bl (isWebB z))) (some (.int k))) rfl ?_;cases hg:isWebB z with
   |false =>
    have f2:=fm (v:=u) (m:=2) 01;have A:=zv (d:=d+12) (n:=n) (v:=u) (m:=2) (S:=S) hn 01 01;have E:0<=u.fdiv 2:=vJ e 01;obtain⟨p,hp,ep⟩:=qbL (l:=[.int 0,y]) (r:=u.fmod 2) (T:=pk S n (u.fdiv 2)) f2.1 f2.2;generalize u.fdiv 2=u3 at A E ep;generalize u.fmod 2=r2 at A ep;refine o_no (qew (Ok.of (t_no (x:=false) (t_of rfl)) ?_));rw[wM (by rfl)];refine Ok.of (qeL (ne_s _ _) (qj (l:=[.int k,z,p]) (qd rfl (qd rfl (qd (qD (yn (qd rfl (qd rfl rfl)) 02) (qj rfl A) ep) rfl))) (qeJ (d:=d) hk hz hg)) rfl) ⟨rfl,?_⟩;refine o_no (qew (Ok.of (t_of rfl) ?_));rw[wN 01];exact⟨rfl,qa0 ⟨u3,_,E,rfl,rfl⟩⟩
   |true =>
    obtain⟨w2,W,rfl⟩:=qlL hg;refine o_no (qew (Ok.of (t_no (x:=true) (t_of rfl)) ?_));rw[wN 01];refine⟨rfl,?_⟩;refine o_no (qew (Ok.of (t_of rfl) ?_));rw[wM rfl];exact Ok.of (qeL (ne_s _ _) (qj rfl (qjw (d:=d) hk W)) rfl) ⟨rfl,qa0 ⟨u,_,e,rfl,rfl⟩⟩
  .rintro ρ U ⟨u,b,e,rfl,rfl⟩
   exact qa0 ⟨u,_,_,_,_,_,e,rfl,rfl⟩
 rintro ρ U ⟨u,C,a6,a7,a8,b,e,rfl,rfl⟩;simp only[dropS,c_30];have a3:=qcH (w:=w);have rc:refsLts 0 (w.costs.map D.int)=true:=refsI 0 w.costs;have rt:refsLts 0 (w.ties.map tieD)=true:=qJ (by intro y h;obtain⟨z,_,rfl⟩:=vD.mp h;exact yD 0 z);obtain⟨M,hM⟩:∃M:List D,M=[.non,.int 7,.str (PySem.Str.ofString "1; 0:1"),.l [],.emp,.l [tupI w.costs,.t (w.ties.map tieD)],.t [.l (w.costs.map .int),.t (w.ties.map tieD)],.t [.t (rep (w.costs.map .int) 13),.t (w.ties.map tieD)]]:=⟨_,rfl⟩;have X:13<=(rep (w.costs.map D.int) 13).length:=by
  unfold rep;simp;omega
 have Y:refsLts 0 (rep (w.costs.map D.int) 13)=true:=by
  refine qJ λx hx=>?_
  unfold rep at hx;simp at hx;obtain⟨y,_,rfl⟩:=hx;rfl
 have Z:∀y∈M,refsLt 0 y=true/\isWebB y=false:=by
  intro y h;rw[hM]at h;simp only[wQ,vO,xB]at h;rcases h with rfl|rfl|rfl|rfl|rfl|rfl|rfl|rfl
  all_goals first|exact⟨rfl,rfl⟩|skip
  .exact ⟨by simp[refsLt,refsLts,tupI,rc,rt],rfl⟩
  .exact ⟨by simp[refsLt,refsLts,rc,rt],rfl⟩
  .refine ⟨by simp[refsLt,refsLts,Y,rt],?_⟩
   have:costsB (.t (rep (w.costs.map D.int) 13))=false:=by
    simp only[costsB];rw[wa (show ¬(rep (w.costs.map D.int) 13).length<=12 by omega),uL,wx]
   simp only[isWebB,this,wx]
 have eM:∀T,ev (G (d+13)) (.l false (.c (.k .non) (.c (.k (.int 7)) (.c (.k (.str (PySem.Str.ofString "1; 0:1"))) (.c (.l false .nil) (.c (.dic false) (.c (.blt (.list false) (.c (.v 0) .n)) (.c (.t (.c (.blt (.list false) (.c (.idx (.v 0) 09) .n)) (.c (.idx (.v 0) 06) .n))) (.c (.t (.c (.bin .mul (.idx (.v 0) 09) (.k (.int 13))) (.c (.idx (.v 0) 06) .n))) .n))))))))) (rE w n L C a6 a7 a8 b) T=.ok (.l M) T:=by
  intro T;rw[hM];exact yn (qd rfl (qd rfl (qd rfl (qd (yn rfl 02) (qd rfl (qd (qu (l:=[webD w]) rfl rfl) (qd (zd (qd (qu (l:=[tupI w.costs]) (qd (qD rfl rfl rfl) rfl) rfl) (qd (qD rfl rfl rfl) rfl)) (by simp[PySem.sizeLine])) (qd (zd (qd (qB (d1:=tupI w.costs) (qD rfl rfl rfl) rfl (brepT (by rw[wH];exact vG (Nat.mul_le_mul_right 13 H) 01) 01)) (qd (qD rfl rfl rfl) rfl)) (by simp[PySem.sizeLine])) rfl)))))))) 02
 refine qev (g:=λy:D=>y) (λ_ ρ U=>∃u a7,0<=u/\U=pk S n u/\ρ=rE w n L C a6 a7 a8 b) M (Ok.of (qls (eM _)) ⟨by simp,u,_,e,rfl,rfl⟩) ?_ ?_
 .rintro pre y K ρ U j ⟨u,a7,e,rfl,rfl⟩
  obtain⟨h1,h2⟩:=Z y (by rw[j];simp);refine Ok.of (a:=rE w n L C a6 (some y) a8 b) rfl ?_;have f:=fm (v:=u) (m:=3) 01;have o:=zv (d:=d+12) (n:=n) (v:=u) (m:=3) (S:=S) hn 01 01;have i:0<=u.fdiv 3:=vJ e 01;generalize u.fdiv 3=u1 at o i;generalize u.fmod 3=r at o f;exact o_no (Ok.of (qeL (ne_s _ _) (qj (l:=[.int r,y,.int 0]) (qd (qj rfl o) (qd rfl (qd rfl rfl))) (qeJ (d:=d) 04 h1 h2)) rfl) ⟨rfl,qa0 ⟨u1,_,i,rfl,rfl⟩⟩)
 rintro ρ U ⟨u,a7,e,rfl,rfl⟩;exact qhE (Ok.of (qV (qie (d:=d) B rfl) rfl (qjx w _)) ⟨by rw[qF];exact wG _,rfl,rfl,u,e,by rw[<-qF S n u,xK]⟩)
noncomputable def bodyF:CSs->CSs
 | .c (.forS _ _ b) _=>b
 |_=>.nil
def turn{d:Nat}{ns:03}(c:ns.length<=63){k:Int}(l:0<=k)(m:k<50){S:Sr}:
  Ok (exs (G (d+15)) NW (bodyF qcy.body) [some (.l (ns.map .int)),some (.int k)] S) λf _=>f=.nx [some (.l (ns.map .int)),some (.int k)]:=by
 obtain⟨v,o,ep⟩:=qhJ (d:=d+13) c (k:=k) (S:=S) l 04;have b:pk (S++[.l [.int v]]) S.length v=S++[.l [.int v]]:=qeo 02;obtain⟨w,u,p,q,_,_,y,e⟩:=qne (d:=d+12) (n:=S.length) (v:=v) (mo:=9) (tn:=12) (S:=S++[.l [.int v]]) 02 o 01 01 01 01;rw[b]at e;generalize pk (S++[.l [.int v]]) S.length u=T at e;obtain⟨v2,h,i⟩:=qhJ (d:=d+13) c (k:=k+12) (S:=T) 04 04;have a:pk (T++[.l [.int v2]]) T.length v2=T++[.l [.int v2]]:=qeo 02;obtain⟨r,z,j,rfl,A,s,_⟩:=(qjy (d:=d+1) (n:=T.length) (v:=v2) (w:=w) (S:=T++[.l [.int v2]]) p 02 h).ex;rw[a]at j;simp only[bodyF,qcy];refine o_no (Ok.of (t_no (x:=true) (t_of (qj (qd (qj (qd (qj rfl ep) (qd rfl (qd rfl rfl))) e) (qd (qj (qd rfl (qd (qB rfl rfl badd) rfl)) i) rfl)) j))) ⟨rfl,qa0 rfl⟩)
def qlT{d:Nat}{ns:03}(h:ns.length<=63):G (d+16) 31 [.l (ns.map .int)] []=.ok (.bl true) []:=by
 have:Ok (G (d+16) 31 [.l (ns.map .int)] []) λr S=>r=.bl true/\S=[]:=by
  rw[G_at (c:=qcy) rfl];refine qbC rfl rfl ?_;obtain⟨n,hn,j⟩:=qnd (F:=G (d+15)) (ρ:=[some (.l (ns.map .int)),none]) (S:=[]) (ns:=ns) (c:=12) rfl 01 01;refine qev (g:=λk:Nat=>D.int (0+2*k)) (λpre ρ _=>∃i,ρ=[some (.l (ns.map .int)),i]) (List.range n) (Ok.of j ⟨rfl,_,rfl⟩) ?_ ?_
  .rintro pre q l ρ T b ⟨i,rfl⟩
   have m:q∈List.range n:=by rw[b];simp
   have o:=uA.mp m;refine Ok.of (a:=[some (.l (ns.map .int)),some (.int (0+2*q))]) rfl ?_;refine(turn (d:=d) h (k:=0+2*(q:Int)) 04 04).mono ?_;rintro f S1 rfl;exact⟨_,rfl⟩
  .rintro ρ T ⟨i,rfl⟩
   exact qhE (Ok.of rfl ⟨vN _,rfl,rfl,by simp⟩)
 obtain⟨a,S,e,rfl,rfl⟩:=this.ex;exact e
def pure_law(ns:03)(h:ns.length<=63):∃a,R.run prg NW 16 31 [.l (ns.map .int)] []=.ok (.bl true) a:=⟨[],by rw[<-qhG];exact qlT (d:=0) h⟩
end RP
section
namespace PySem.W.Fast
def tw15041232635760926002:Nat:=0
def tw8453103341155191716:Nat:=0
def tw2991433175201869657:Nat:=0
def tw3232605276898924432:Nat:=0
def tw5437810233896737161:Nat:=0
def tw14212466242186164349:Nat:=0
def tw8595057793162694742:Nat:=0
def tw15389708996083651475:Nat:=0
def tw7474295991570383431:Nat:=0
def tw12669224918767554451:Nat:=0
def tw6078645190618214219:Nat:=0
def tw1923983911412918459:Nat:=0
def tw12911215193738062597:Nat:=0
def tw9499505782898481364:Nat:=0
def tw6532001187272275470:Nat:=0
def tw11729458129119032243:Nat:=0
def tw3124903784051310552:Nat:=0
def tw11762212905122576990:Nat:=0
def tw12401990796032920724:Nat:=0
def tw6203650495955829638:Nat:=0
def tw13753721556256829000:Nat:=0
def tw7480823651644733598:Nat:=0
def tw3222324474306207614:Nat:=0
def tw7899443245914554332:Nat:=0
def tw12192743056434861293:Nat:=0
def tw5157389220862551725:Nat:=0
def tw8218620502300476543:Nat:=0
def tw16024940357157912912:Nat:=0
def tw1291557481759540131:Nat:=0
def tw11463725989284629543:Nat:=0
def tw3051716906114038258:Nat:=0
def tw6427027496852719512:Nat:=0
def tw7847360890393901316:Nat:=0
def tw5599968626254842403:Nat:=0
def tw4005117706001524709:Nat:=0
def tw4523051936315861698:Nat:=0
def tw11211868604774183798:Nat:=0
def tw2460240358745352121:Nat:=0
def tw15771421291859093433:Nat:=0
def tw3506471475478421572:Nat:=0
def tw1658333648233006971:Nat:=0
def tw443166139099660735:Nat:=0
def tw10964340906415908245:Nat:=0
def tw16132166278747882963:Nat:=0
def tw8020580042404005594:Nat:=0
def tw11493742711526030757:Nat:=0
def tw6412734983185649853:Nat:=0
def tw129762452956988242:Nat:=0
def tw6912950105436286588:Nat:=0
def tw476287368855470865:Nat:=0
def tw7007004055336422758:Nat:=0
def tw6480705499994180550:Nat:=0
def tw10906107486426189462:Nat:=0
def tw16856943304343991281:Nat:=0
def tw9219232391881500410:Nat:=0
def tw8934063165159851419:Nat:=0
def tw2554468203508135417:Nat:=0
def tw9602398197380526138:Nat:=0
def tw9301264414806558692:Nat:=0
def tw11041597746481394785:Nat:=0
def tw12454742167670037664:Nat:=0
def tw13819664810781596991:Nat:=0
def tw8713265489446842946:Nat:=0
def tw17627074623430481716:Nat:=0
def tw18083950037415610731:Nat:=0
def tw5338143610207330922:Nat:=0
def tw3919920570469714425:Nat:=0
def tw9491515964989325311:Nat:=0
def tw11996462063493990272:Nat:=0
def tw12829046958801402724:Nat:=0
def tw8293924249977601152:Nat:=0
def tw97614816316975174:Nat:=0
def tw12067746614015714877:Nat:=0
def tw10602683037727820937:Nat:=0
def tw10386731242524309334:Nat:=0
def tw6108963784151968012:Nat:=0
def tw16807678974692065298:Nat:=0
end PySem.W.Fast
noncomputable def PySem.W.Fast.tw10097812121571612367:PySem.Program:=PySem.Challenge.pw_weblayers_k39_places_of_no_web
theorem PySem.W.Fast.te10097812121571612367:PySem.Challenge.pw_weblayers_k39_places_of_no_web=PySem.W.Fast.tw10097812121571612367:=rfl
namespace RP
open PySem PySem.W PyProof.Rows R
noncomputable abbrev KOf2{K:07}{h:Heap}(_:K.In h):PySem.W.Frag:=K
end RP
open PySem PySem.W PyProof.Rows R
set_option maxRecDepth 100000 in
set_option maxHeartbeats 0 in
theorem PySem.Challenge.cw_weblayers_k39_places_of_no_web_holds : PySem.Challenge.rw_weblayers_k39_places_of_no_web.Holds := by
 w_on;o_law;k_head;(case hw=>w_witness2)
 k_fill
 refine R.qkS (l:=PySem.Challenge.rw_weblayers_k39_places_of_no_web) (n:=63) (k:=48) (x:="_law_script") (g:=R.run RP.prg RP.NW 16 31) rfl (by decide) rfl ⟨rfl,by decide,by decide⟩ (λw h Y=>PySem.W.kIn_of Y) ?zp ?zc ?zF RP.pure_law
 case zp=>intro P;rfl
 case zc=>intro P;rfl
 case zF =>
  intro w mg fa h KX G hmg
  have p:RP.Pre (RP.KOf2 KX) mg:=by
   dsimp only[RP.KOf2]
   constructor
   case gb=>constructor <;> (refine' mg_none_of KX G ?a;case a=>k_is)
   case v0|v1|v2|v3|v4=>refine' qk1 KX G ?a ?b;(case a=>k_is);(case b=>exact rfl)
   case v5|v6|v7|v8|v9|v10|v11|v12|v13|v14|v15|v16|v17=>refine' R.qlh KX G ?a ?b;(case a=>k_is);(case b=>exact rfl)
   case v18=>refine' mg_none_of KX G ?a;(case a=>k_is)
   case v23|v30=>refine' ⟨?a,?b,?c,?d,?e,?f,?g,?h⟩;(case a|b|c|d|e|f|g=>k_is);(case h=>rfl)
   case v22|v29=>k_exc
   case v19|v20|v21|v24|v25|v26|v27|v28|v31|v32|v33|v34|v35=>rfl
   all_goals
    refine' qk0 KX G ?a ?l ?c ?d ?h ?t ?k ?b
    (case a|l|c|d=>k_is);(case h|t=>rfl);(case k=>k_is)
    (case b=>intro _ _ _ _ _ _ _ q;first|(obtain⟨_,rfl⟩:=len1 q;rfl)|(obtain⟨_,_,rfl⟩:=len2 q;rfl)|(obtain⟨_,_,_,rfl⟩:=len3 q;rfl))
  obtain⟨f,fd,c,t,hm,U,hb⟩:=p.u_31
  have e0:=hmg.symm.trans hm
  cases e0
  obtain⟨oc,od,kV,doc,pm,an,ct,osl,rfl,lk,hcd⟩:=U.ex
  exact⟨_,λs u=>.of_eq rfl,λbase kb _=>RP.o_law p kb (RP.qho p kb 15) U⟩
end
