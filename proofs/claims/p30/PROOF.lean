import PyProof.Rows.All
import Wide.All
import OpenK.AllK
import Wide.FinOn
import Lean
import PyProof.EqAt
import PyProof.EqKinds
import PyProof.TupleCall
import PyProof.DictTruth
import PyProof.Conv_int_bool
import PyProof.SumAnyB
import PySem.Challenge.RW_weblayers_k30_worth_of_layings
set_option autoImplicit true
set_option relaxedAutoImplicit true
set_option Elab.async false
set_option linter.all false
set_option maxRecDepth 100000
set_option maxHeartbeats 4000000
set_option genSizeOf false
set_option genSizeOfSpec false
set_option hygiene false
set_option compiler.extract_closed false
local macro_rules
|`(00)=>`(by lia)
|`(01)=>`(by decide)
|`(02)=>`(.v 0)
|`(03)=>`(List Addr)
|`(04)=>`(List D)
|`(05)=>`(.k (.int 1))
|`(06)=>`(.v 1)
|`(07)=>`(by simp)
|`(08)=>`(qc 0)
|`(09)=>`(Shared)
|`(000)=>`(.v 3)
|`(001)=>`(m2 c)
|`(002)=>`(.v 2)
|`(003)=>`(.k (.int 0))
|`(004)=>`(qc 1)
|`(005)=>`(List Value)
|`(006)=>`(model X.prog X.w)
|`(007)=>`(En->Sr->Res D)
|`(008)=>`(List Int)
|`(009)=>`(PySem.W.Frag)
|`(010)=>`(List Expr)
|`(011)=>`(List (Addr×Obj))
|`(012)=>`(webD w)
|`(013)=>`(lyD l)
|`(014)=>`(List Str)
|`(015)=>`(Value->Shared->Prop)
|`(016)=>`(Inv X pins σ H s)
|`(017)=>`(X.calm=true)
|`(018)=>`(model prog w)
|`(019)=>`(Stp.refl _ _)
|`(020)=>`(List (List Am))
|`(021)=>`(qb qg qd)
|`(022)=>`(En->Sr->Res Bool)
|`(023)=>`(qw (S1:=S) rfl rfl rfl)
|`(024)=>`(D->En->Sr->Res En)
|`(025)=>`(Str->Option Value)
|`(026)=>`(qb 004 qd)
|`(027)=>`(.c 06 .n)
|`(028)=>`(Array Value)
|`(029)=>`(ps.map nmD)
local macro_rules
|`(030)=>`(by simp;lia)
|`(031)=>`(qu c 08 qg)
|`(032)=>`(.c 002 .n)
|`(033)=>`(qb (qc 2) qd)
|`(034)=>`(.c 06 032)
|`(035)=>`(.c 02 027)
|`(036)=>`(by simp[PySem.sizeLine])
|`(037)=>`(.ref S.length)
|`(038)=>`(En->Sr->Res (List D))
|`(039)=>`(.blt .len (.c 02 .n))
|`(040)=>`(Str.ofString t.nm)
|`(041)=>`(.ret (.k (.bl false)))
|`(042)=>`(by simpa using hi)
|`(043)=>`(.ref s.heap.objs.size)
|`(044)=>`(∀x,foldedSetIterable iter X.env x=pure x)
|`(045)=>`(S.length+w.costs.length)
|`(046)=>`(layP w.costs.length pre)
|`(047)=>`(PySem.Str.ofString "above")
|`(048)=>`(qi a.h_31 001 (qb 08 021))
|`(049)=>`(.t (.c 003 (.c 05 .n)))
|`(050)=>`(cscB X.env.scope.names X.N sc fr xs ts=true)
|`(051)=>`(sIx items.size items.size hi-sIx items.size 0 lo)
section
open PySem PySem.Spec PyProof.Rows Spec
def wh:=@Int.eq_of_mul_eq_mul_right
def wi:=@Array.getElem?_eq_some_iff
def wr:=@Nat.zero_le
def ws:=@List.pairwise_cons
def vV:=@List.mem_replicate
def vW:=@List.getElem?_set_self
def vX:=@Int.fmod_nonneg_of_pos
def vY:=@PySem.W.kia_one
def vZ:=@List.length_take
def va:=@List.set_append_right
def vb:=@List.length_replicate
def vc:=@codeAny_builtin
def vd:=@Obj.data_mapFields
def ve:=@Nat.lt_irrefl
def vf:=@Bool.false_eq_true
def vg:=@Nat.mul_le_mul_right
def vh:=@List.mem_of_mem_take
def vi:=@List.getElem?_set_ne
def vj:=@Nat.ne_of_gt
def vk:=@PySem.F.excBase_ValueError
def vl:=@wpAny_truthy_bool
def vm:=@sizeLine_eq
def vn:=@PySem.mem_of_lookup
def vo:=@List.nodup_append
def vp:=@Heap.size_push
def vq:=@List.length_zip
def vr:=@List.length_singleton
def vt:=@List.foldl_cons
def vu:=@List.append_nil
def vw:=@List.lookup_cons
def vx:=@Heap.size_update
def vy:=@wpAny_standAt
def vz:=@List.all_cons
def uA:=@F.slot_dict_keyiterator_next
def uB:=@List.mem_range
def uC:=@beq_iff_eq
def uD:=@List.flatten_cons
def uE:=@PyProof.Rows.callWith_type1
def uF:=@List.length_nil
def uG:=@List.getElem_of_mem
def uH:=@Bool.eq_iff_iff
def uI:=@Array.length_toList
def uJ:=@call_meets
def uK:=@List.sum_cons
def uL:=@List.map_replicate
def uM:=@Calls.spliced_cons
def uN:=@wpAny_setField
def uO:=@if_true
def uP:=@List.mem_or_eq_of_mem_set
def uQ:=@List.foldl_append
def uR:=@plainId_quiet
def uS:=@List.getElem?_cons_zero
def uT:=@List.filterMap_cons
def uU:=@List.any_cons
def uV:=@wpAny_typeNameOfWhole_keyiter
def uW:=@wpAny_seqItems
def uX:=@Int.mul_le_mul
def uY:=@wpAny_setField_rec
def uZ:=@List.zip_cons_cons
def u3:=@Int.lt_of_le_of_lt
def u4:=@wpAny_passesOwn
def u5:=@Obj.isFreed_of_fields
def u6:=@List.nodup_cons
def u7:=@Array.getElem?_toList
def u8:=@or_false
def u9:=@Nat.lt_succ_of_lt
def ua:=@F.plain_list_iadd
def ub:=@Bool.not_eq_true'
def uc:=@Int.fdiv_eq_ediv_of_nonneg
def ud:=@F.slot_tuple_iterator_next
def ue:=@Int.pow_lt_pow_of_lt
def uf:=@List.getElem?_zip_eq_some
def ug:=@List.drop_zero
def uh:=@Array.getElem?_eq_getElem
def ui:=@if_false
def uj:=@List.take_length
def uk:=@wpAny_typeNameOf_keyiter
def ul:=@List.map_set
def um:=@List.getElem?_take_of_lt
def uo:=@wpAny_attempt
def uq:=@wpAny_Call_Name_kw
def ur:=@List.find?_cons
def ut:=@Int.fmod_lt_of_pos
def uw:=@List.drop_of_length_le
def ux:=@wpAny_rule
def uy:=@List.all_eq_false
def uz:=@Calls.spliced_nil
def xA:=@F.called_tuple
def xB:=@List.all_map
def xC:=@List.prefix_refl
def xD:=@Array.toArray_toList
def xE:=@wpAny_execs_nil
def xF:=@Nat.mul_le_mul_left
def xG:=@List.drop_succ_cons
def xH:=@Array.getElem_setIfInBounds
def xI:=@wpAny_typeOf
def xJ:=@Nat.succ_mul
def xK:=@Nat.lt_of_lt_of_eq
def xL:=@Nat.le_of_eq
def xM:=@List.zip_map
def xN:=@List.map_nil
def xO:=@List.drop_eq_getElem_cons
def xP:=@wpAny_dictEntries
def xQ:=@PySem.F.args_tuple_add_2
def xR:=@Int.toNat_natCast
def xS:=@F.plain_tuple_new
def xT:=@PySem.W.mg_of
def xU:=@PySem.F.plainAttrs_list
def xV:=@PySem.F.entry_tuple_add
def xW:=@Int.pos_of_mul_pos_left
def xX:=@Option.bind_none
def xY:=@Nat.lt_succ_self
def xZ:=@Nat.le_add_right
def xa:=@List.getElem_map
def xb:=@List.getElem_inj
def xc:=@PySem.F.slot_tuple_add
def xf:=@Array.getElem?_eq_none
def xg:=@get?_update_seq
def xh:=@List.length_set
def xj:=@List.getElem?_eq_none
def xk:=@List.forIn_cons
def xl:=@F.slot_zip_next
def xm:=@F.slot_int_rmul
def xn:=@F.plain_proto_collect
def xo:=@F.entry_proto_collect
def xp:=@Bool.and_eq_false_iff
def xq:=@wpAny_updateSeq_pair
def xr:=@List.getElem_toArray
def xt:=@wpAny_fieldsOf
def xu:=@Int.natAbs_mul
end
section
open PySem PySem.Spec PyProof.Rows Spec
def wA:=@wpAny_bind
def wB:=@Heap.get?_push_of_some
def wC:=@List.getElem?_eq_getElem
def wD:=@wpAny_pure
def wF:=@List.length_map
def wG:=@List.getElem?_eq_some_iff
def wH:=@Nat.le_refl
def wI:=@Heap.lt_size
def wJ:=@Heap.get?_push_size
def wK:=@List.getElem?_append_right
def wL:=@List.getElem?_append_left
def wM:=@List.mem_cons_of_mem
def wN:=@if_pos
def wO:=@List.size_toArray
def wP:=@List.length_append
def wQ:=@decide_eq_true
def wR:=@List.mem_cons_self
def wS:=@Bool.and_eq_true
def wT:=@if_neg
def wU:=@decide_eq_false
def wV:=@List.mem_singleton
def wW:=@List.mem_cons
def wX:=@Option.bind_some
def wY:=@List.length_cons
def wZ:=@Heap.get?_update_other
def w6:=@Nat.lt_of_lt_of_le
def w8:=@List.mem_map
def w9:=@List.mem_append_right
def wa:=@List.mem_append
def wb:=@List.all_eq_true
def wc:=@Int.fdiv_nonneg
def wd:=@Bool.false_ne_true
def we:=@List.getD_eq_getElem?_getD
def wf:=@wpAny_newObj_type
def wg:=@Nat.ne_of_lt
def wj:=@List.map_cons
def wk:=@List.getElem?_map
def wm:=@Int.mul_le_mul_of_nonneg_right
def wn:=@Option.map_some
def wo:=@List.map_map
def wp:=@List.length_eq_zero_iff
def wq:=@List.mem_of_getElem?
def wt:=@wpAny_mono
def wu:=@List.mem_append_left
def wv:=@beq_eq_false_iff_ne
def ww:=@List.replicate_succ
def wx:=@List.not_mem_nil
def wy:=@List.append_assoc
def wz:=@Int.mul_le_mul_of_nonneg_left
def vA:=@wpAny_callSpecial?_slot
def vB:=@List.of_mem_zip
def vC:=@List.getElem?_replicate
def vD:=@Int.le_trans
def vE:=@Bool.and_false
def vF:=@Nat.le_trans
def vG:=@wpAny_field
def vH:=@decide_eq_true_eq
def vI:=@wpAny_call_entry
def vJ:=@Around.under_plainId
def vK:=@List.map_congr_left
def vL:=@List.map_append
def vM:=@List.eq_nil_or_concat
def vN:=@List.concat_eq_append
def vO:=@Heap.get?_update_self
def vP:=@Bool.false_and
def vQ:=@wpAny_holding
def vR:=@of_decide_eq_true
def vS:=@decide_eq_false_iff_not
def vT:=@PyProof.Rows.slot_tuple_getitem
def vU:=@Bool.true_and
end
namespace L2
open PySem PySem.Spec PyProof.Rows
noncomputable abbrev Key:=Sum Int Str
noncomputable def keyIs:Key->Value->Bool
 | .inl k,v=>Value.isInt k v
 | .inr x,v=>Value.isStrOf x v
noncomputable def keyH(w:World):Key->Int
 | .inl k=>hashInt k
 | .inr x=>hashStr w x
def keyIs_shape:∀{k:Key} {v:Value},keyIs k v=true->(∃i t,k=Sum.inl i/\v=Value.int i t)\/(∃x t,k=Sum.inr x/\v=Value.str x t)
 | .inl i,v,h=>by
  obtain⟨t,e⟩:=Value.isInt_shape (k:=i) (v:=v) h;exact .inl ⟨i,t,rfl,e⟩
 | .inr x,v,h=>by
  obtain⟨t,e⟩:=Value.isStrOf_shape (x:=x) (v:=v) h;exact .inr ⟨x,t,rfl,e⟩
def qe3(i:Int)(t:Tok):keyIs (.inl i) (.int i t)=true:=by simp[keyIs,Value.isInt]
def qe4(x:Str)(t:Tok):keyIs (.inr x) (.str x t)=true:=by simp[keyIs,Value.isStrOf]
def qki(a b:Int):decide ((Sum.inl a:Key)=Sum.inl b)=(a == b):=by
 by_cases e:a=b
 .subst e;simp
 .have h:¬(Sum.inl a:Key)=Sum.inl b:=λq=>e (Sum.inl.inj q)
  rw[wU h];exact(wv.mpr e).symm
def qkj(a b:Str):decide ((Sum.inr a:Key)=Sum.inr b)=decide (a=b):=by
 by_cases e:a=b
 .subst e;simp
 .have h:¬(Sum.inr a:Key)=Sum.inr b:=λq=>e (Sum.inr.inj q)
  rw[wU h,wU e]
def qkk(a:Int)(b:Str):decide ((Sum.inl a:Key)=Sum.inr b)=false:=wU (λq=>nomatch q)
def qkl(a:Str)(b:Int):decide ((Sum.inr a:Key)=Sum.inl b)=false:=wU (λq=>nomatch q)
noncomputable def mixKind(prog:Program)(w:World):PySem.KeyKind prog w Key where
 is:=keyIs
 hash:=keyH w
 inj:=λv a b ha hb=>by
  rcases keyIs_shape ha with ⟨i,t,rfl,rfl⟩|⟨x,t,rfl,rfl⟩
  .rcases keyIs_shape hb with ⟨j,u,rfl,e⟩|⟨y,u,rfl,e⟩
   .injection e with e1 _;rw[e1]
   .exact nomatch e
  .rcases keyIs_shape hb with ⟨j,u,rfl,e⟩|⟨y,u,rfl,e⟩
   .exact nomatch e
   .injection e with e1 _;rw[e1]
 byValue:=λk v h=>by
  rcases keyIs_shape h with ⟨i,t,rfl,rfl⟩|⟨x,t,rfl,rfl⟩ <;> rfl
 pyHash:=λc h=>by
  rcases keyIs_shape c with ⟨i,t,rfl,rfl⟩|⟨x,t,rfl,rfl⟩
  .exact wpAny_pyHash_int h
  .exact wpAny_pyHash_str h
 eqBool:=λd c h=>by
  rcases keyIs_shape d with ⟨i,t,rfl,rfl⟩|⟨x,t,rfl,rfl⟩
  .rcases keyIs_shape c with ⟨j,u,rfl,rfl⟩|⟨y,u,rfl,rfl⟩
   .rw [qki]at h;exact wpAny_eqBool_int h
   .rw [qkk]at h;exact SeqAt.EqAt.int_str i t y u _ _ _ _ h
  .rcases keyIs_shape c with ⟨j,u,rfl,rfl⟩|⟨y,u,rfl,rfl⟩
   .rw [qkl]at h;exact SeqAt.EqAt.str_int x t j u _ _ _ _ h
   .rw [qkj]at h;exact wpAny_eqBool_str h
 «strs»:=λk x t v h=>by
  rcases keyIs_shape h with ⟨i,u,rfl,e⟩|⟨y,u,rfl,e⟩
  .exact nomatch e
  .injection e with e1 _
   subst e1;cases v <;> rfl
def qch(prog:Program)(w:World)(i:Int)(t:Tok):(mixKind prog w).is (.inl i) (.int i t)=true:=qe3 i t
def qci(prog:Program)(w:World)(x:Str)(t:Tok):(mixKind prog w).is (.inr x) (.str x t)=true:=qe4 x t
inductive V where
 |non|bl (b:Bool)|int (i:Int)|str (x:Str)|byt (b:Array UInt8)|flt (b:UInt64)|ref (a:Addr)|ty (n:String)
 deriving DecidableEq
def RelV:V->Value->Prop
 | .non,u=>u=Value.none
 | .bl b,u=>u=Value.bool b
 | .int i,u=>∃t,u=Value.int i t
 | .str x,u=>∃t,u=Value.str x t
 | .byt b,u=>∃t,u=Value.bytes b t
 | .flt b,u=>∃t,u=Value.float b t
 | .ref a,u=>u=Value.ref a
 | .ty n,u=>u=Value.type n
noncomputable abbrev Vals:List V->List Value->Prop:=Paired RelV
def Vals.length{xs:List V}{us:005}(r:Vals xs us):xs.length=us.length:=Paired.length r
def Vals.get:∀{xs:List V} {us:005} {i:Nat} {x:V},Vals xs us->xs[i]?=some x->∃u,us[i]?=some u/\RelV x u
 |_,_,_,_,.nil,e=>by simp at e
 |_,_,0,_,.cons r _,e=>by simp at e;subst e;exact⟨_,rfl,r⟩
 |_,_,i+1,x,.cons _ t,e=>by
  obtain⟨u,a,c⟩:=Vals.get (i:=i) (x:=x) t (by simpa using e);exact⟨u,by simpa using a,c⟩
def Vals.set{x:V}{u:Value}(r:RelV x u):∀{xs:List V} {us:005} (i:Nat),Vals xs us->Vals (xs.set i x) (us.set i u)
 |_,_,_,.nil=>.nil
 |_,_,0,.cons _ t=>.cons r t
 |_,_,i+1,.cons q t=>.cons q (Vals.set r i t)
def Vals.append:∀{xs ys:List V} {us a:005},Vals xs us->Vals ys a->Vals (xs++ys) (us++a)
 |_,_,_,_,.nil,s=>s
 |_,_,_,_,.cons r t,s=>.cons r (Vals.append t s)
def Vals.take:∀{xs:List V} {us:005} (n:Nat),Vals xs us->Vals (xs.take n) (us.take n)
 |_,_,0,_=>.nil
 |_,_,_+1,.nil=>.nil
 |_,_,n+1,.cons r t=>.cons r (Vals.take n t)
def Vals.drop:∀{xs:List V} {us:005} (n:Nat),Vals xs us->Vals (xs.drop n) (us.drop n)
 |_,_,0,r=>r
 |_,_,_+1,.nil=>.nil
 |_,_,n+1,.cons _ t=>Vals.drop n t
def RelO:Option V->Option Value->Prop
 |some v,some u=>RelV v u
 |none,none=>True
 |_,_=>False
noncomputable def KV{κ:Type}:List (κ×V)->List (κ×Value)->Prop:=Paired λ(p:κ×V) (q:κ×Value)=>p.1=q.1/\RelV p.2 q.2
noncomputable def kV:Key->V
 | .inl i=>.int i
 | .inr x=>.str x
inductive HO where
 |l (xs:List V)
 |t (xs:List V)
 |dK (kvs:List (Key×V))|dT (kvs:List (List Key×V))
 |set (S:Int->Bool) (n:Nat)
 |ins (C dx:Addr) (fs:List (Str×V))
 |own (x:Addr)
 |xd (fs:List (Str×V))
 |met (f x:Addr)
 |rng (lo hi:Int)
 |frz (o:Obj) (u:HO)
 |tbl (ps:028)
 |ext (φ:Heap->Prop)
noncomputable abbrev Hp:=Addr->Option HO
noncomputable def upd(H:Hp)(a:Addr)(o:HO):Hp:=λb=>if b=a then some o else H b
def qK{H:Hp}{a:Addr}{o:HO}:upd H a o a=some o:=by unfold upd;rw[wN rfl]
def qD{H:Hp}{a b:Addr}{o:HO}(h:b≠a):upd H a o b=H b:=by unfold upd;rw[wT h]
def ql6{H:Hp}{a b:Addr}{o u:HO}(h:H a=some o)(h':H b=some u)(d:o≠u):a≠b:=by
 intro e;subst e;rw[h]at h';exact d (Option.some.inj h')
def zO{H:Hp}{a b:Addr}{o:HO}(h:H a=some o)(h':H b=none):a≠b:=by
 intro e;subst e;rw[h]at h';cases h'
def jf(h:Heap)(a:028):∀o,(h.push {cls:=.type "tuple",data:=.seq a}).get? h.objs.size=some o->o.dict=none:=λo q=>by
 rw[wJ _ rfl]at q;cases q;rfl
section
variable(P:Program)(w:World)
def ObjOk(H:Hp)(h:Heap)(a:Addr):HO->Prop
 | .l xs=>xs.length<=sizeLine/\∃(c:005) (n:Nat),Vals xs c/\h.get? a=some {cls:=.type "list",data:=.seq c.toArray n}
 | .t xs=>xs.length<=sizeLine/\∃c:List Value,Vals xs c/\IsTup h a c.toArray/\∀o,h.get? a=some o->o.dict=none
 | .dK kvs=>kvs.length<=sizeLine/\(a == sysModules)=false/\∃vs,KV kvs vs/\h.DictOf (mixKind P w) a vs
 | .dT kvs=>kvs.length<=sizeLine/\(a == sysModules)=false/\∃xs:List (List Key×Addr×Value),
   Paired (λ(p:List Key×V) (q:List Key×Addr×Value)=>p.1=q.1/\H q.2.1=some (.t (p.1.map kV))/\RelV p.2 q.2.2) kvs xs /\
   ∃o es l,h.get? a=some o/\o.ExactDict/\o.data=.dict es l/\es.toList=xs.map (entryOfKey (tupleKind (mixKind P w)))/\(xs.map (·.1)).Nodup
 | .set S n=>h.SetOf (intKind P w) a S n
 | .ins C dx fs=>H dx=some (.own a)/\fs.length<=1000/\dx≠a/\h.get? a=some (PySem.W.instObj C dx) /\
   ∃mA,h.Ns1 dx mA/\(∀f,RelO (fs.lookup f) (mA f))/\PySem.Within mA (fs.map (·.1))
 | .own _=>∃o,h.get? a=some o
 | .xd fs=>∃mA,h.Ns1 a mA/\∀f,RelO (fs.lookup f) (mA f)
 | .rng lo hi=>∃t u v,h.get? a=some {cls:=.type "range",data:=.fields #[.int lo t,.int hi u,.int 1 v]}
 | .frz o u=>h.get? a=some o/\ObjOk H h a u
 | .tbl ps=>h.get? a=some {cls:=.none,data:=.fields ps}/\TriplesOk ps.toList
 | .met f x=>h.get? a=some (PySem.W.methodObj (.ref f) (.ref x))
 | .ext d=>d h/\(∃o,h.get? a=some o)/\∀i j:Heap,d i->(∀o,i.get? a=some o->j.get? a=some o)->d j
def HOk(H:Hp)(h:Heap):Prop:=∀a o,H a=some o->ObjOk P w H h a o
end
section
variable{P:Program}{w:World}{H H':Hp}{h h':Heap}{a:Addr}{o:HO}
theorem ObjOk.lt(x:ObjOk P w H h a o):a<h.objs.size:=by
 cases o with
 |l xs=>obtain⟨_,_,_,_,e⟩:=x;exact wI e
 |t xs=>obtain⟨_,_,_,p,_⟩:=x;exact p.lt
 |dK kvs=>obtain⟨_,_,_,_,o,_,_,e,_⟩:=x;exact wI e
 |dT kvs=>obtain⟨_,_,_,_,o,_,_,e,_⟩:=x;exact wI e
 |set S n=>obtain⟨o,_,_,_,e,_⟩:=x;exact wI e
 |ins C dx fs=>obtain⟨_,_,_,e,_⟩:=x;exact wI e
 |own y=>obtain⟨_,e⟩:=x;exact wI e
 |xd fs=>obtain⟨_,⟨_,_,_,e,_⟩,_⟩:=x;exact wI e
 |rng lo hi=>obtain⟨_,_,_,e⟩:=x;exact wI e
 |frz ob u=>obtain⟨e,_⟩:=x;exact wI e
 |tbl ps=>exact wI (show h.get? a=some _ from x.1)
 |met f y=>exact wI (show h.get? a=some _ from x)
 |ext c=>obtain⟨_,⟨_,e⟩,_⟩:=x;exact wI e
theorem Paired.mapP{i j:Type}{F G:i->j->Prop}:∀{c:List i} {d:List j},Paired F c d->(∀a b,F a b->G a b)->Paired G c d
 |_,_,.nil,_=>.nil
 |_,_,.cons r t,f=>.cons (f _ _ r) (Paired.mapP t f)
theorem ObjOk.stay(x:ObjOk P w H h a o)(k:∀b u,(b=a\/H b=some (.own a))->h.get? b=some u->h'.get? b=some u)(l:∀b,H b=some (.own a)->H' b=some (.own a))(m:∀b xs,H b=some (.t xs)->H' b=some (.t xs)):ObjOk P w H' h' a o:=by
 induction o with
 |l xs=>obtain⟨z,j,n,r,e⟩:=x;exact⟨z,j,n,r,k _ _ (.inl rfl) e⟩
 |t xs=>obtain⟨z,j,r,⟨ob,e,c⟩,nd⟩:=x;exact⟨z,j,r,⟨ob,k _ _ (.inl rfl) e,c⟩,λo q=>by rw[k _ _ (.inl rfl) e]at q;cases q;exact nd _ e⟩
 |dK kvs=>obtain⟨z,y,vs,r,ob,es,i,e,c⟩:=x;exact⟨z,y,vs,r,ob,es,i,k _ _ (.inl rfl) e,c⟩
 |dT kvs =>
  obtain⟨z,y,xs,r,ob,es,i,e,c⟩:=x;exact⟨z,y,xs,Paired.mapP r λp q z=>⟨z.1,m _ _ z.2.1,z.2.2⟩,ob,es,i,k _ _ (.inl rfl) e,c⟩
 |set S n=>obtain⟨ob,es,i,t,e,c⟩:=x;exact⟨ob,es,i,t,k _ _ (.inl rfl) e,c⟩
 |ins C dx fs =>
  obtain⟨d,z,ne,e,mA,⟨od,es,i,e2,c⟩,r⟩:=x;exact⟨l _ d,z,ne,k _ _ (.inl rfl) e,mA,⟨od,es,i,k _ _ (.inr d) e2,c⟩,r⟩
 |own y=>obtain⟨ob,e⟩:=x;exact⟨ob,k _ _ (.inl rfl) e⟩
 |xd fs=>obtain⟨mA,⟨od,es,i,e,c⟩,r⟩:=x;exact⟨mA,⟨od,es,i,k _ _ (.inl rfl) e,c⟩,r⟩
 |rng lo hi=>obtain⟨t,u,v,e⟩:=x;exact⟨t,u,v,k _ _ (.inl rfl) e⟩
 |frz ob u s=>obtain⟨e,q⟩:=x;exact⟨k _ _ (.inl rfl) e,s q⟩
 |tbl ps =>
  obtain⟨e,z⟩:=x;exact⟨k a _ (.inl rfl) e,z⟩
 |met f y =>
  have e:h.get? a=some (PySem.W.methodObj (.ref f) (.ref y)):=x;show h'.get? a=some (PySem.W.methodObj (.ref f) (.ref y));exact k a _ (.inl rfl) e
 |ext A=>obtain⟨p,⟨o,e⟩,st⟩:=x;exact⟨st _ _ p λo q=>k _ _ (.inl rfl) q,⟨o,k _ _ (.inl rfl) e⟩,st⟩
theorem HOk.lt(x:HOk P w H h)(e:H a=some o):a<h.objs.size:=(x a o e).lt
theorem HOk.fresh(x:HOk P w H h)(e:h.objs.size<=a):H a=none:=by
 cases q:H a with
 |none=>rfl
 |some u=>exact absurd (w6 (x.lt q) e) (ve _)
theorem HOk.kept(x:HOk P w H h)(k:∀b u,h.get? b=some u->h'.get? b=some u):HOk P w H h':=λa o e =>
 (x a o e).stay (λb u _ q=>k b u q) (λ_ q=>q) λ_ _ q=>q
theorem HOk.laid(x:HOk P w H h)(k:∀b u,h.get? b=some u->h'.get? b=some u)(d:h.objs.size<=a)(new:ObjOk P w (upd H a o) h' a o):HOk P w (upd H a o) h':=λb u e=>by
 have hn:=x.fresh d;by_cases hb:b=a
 .subst hb;rw[qK]at e;cases e;exact new
 .rw [qD hb]at e
  exact(x b u e).stay (λc v _ q=>k c v q) (λc q=>by rw[qD (zO q hn)];exact q) λc xs q=>by rw[qD (zO q hn)];exact q
end
def Rd(H:Hp)(a:Addr)(u:HO):Prop:=H a=some u\/∃o,H a=some (.frz o u)
def Rd.ok{P:Program}{w:World}{H:Hp}{h:Heap}{a:Addr}{u:HO}(r:Rd H a u)(x:HOk P w H h):ObjOk P w H h a u:=by
 rcases r with r|⟨o,r⟩
 .exact x a u r
 .obtain ⟨_,q⟩:=x a _ r
  exact q
def Mut:Option HO->Prop
 |some (.l _)=>True
 |some (.dK _)=>True
 |some (.dT _)=>True
 |some (.set _ _)=>True
 |some (.ins _ _ _)=>True
 |some (.ext _)=>True
 |_=>False
section
variable{P:Program}{w:World}{H:Hp}{h h':Heap}{x e:Addr}{o':HO}
theorem HOk.write(ok:HOk P w H h)(i:Mut (H x))(l:e=x\/H e=some (.own x))(k:∀b u,b≠e->h.get? b=some u->h'.get? b=some u)(j:∃u,h'.get? e=some u)(new:ObjOk P w (upd H x o') h' x o'):HOk P w (upd H x o') h':=λb u q=>by
 have d:∀c y,H c=some (.own y)->c≠x:=λc y r z=>by subst z;rw[r]at i;exact i
 have f:∀c xs,H c=some (.t xs)->c≠x:=λc xs r z=>by subst z;rw[r]at i;exact i
 by_cases hb:b=x
 .subst hb;rw[qK]at q;cases q;exact new
 .rw [qD hb]at q
  by_cases a:b=e
  .have m:H b=some (.own x):=by
    rcases l with z|z
    .exact absurd (a.trans z) hb
    .rw [a];exact z
   rw[q]at m;cases m;obtain⟨v,n⟩:=j;exact⟨v,by rw[a];exact n⟩
  .refine (ok b u q).stay (λc v hc r=>k c v ?_ r) (λc r=>by rw[qD (d c b r)];exact r) λc xs r=>by rw[qD (f c xs r)];exact r
   rcases hc with rfl|hc
   .exact a
   .rintro rfl
    rcases l with z|z
    .exact d c b hc z
    .rw [hc]at z;cases z;exact hb rfl
end
structure Un (fs ex:03) (H H':Hp) (h h':Heap):Prop where
 keep:∀b o,h.get? b=some o->H b=none->b∉fs->b∉ex->h'.get? b=some o
 slot:∀b o,h.get? b=some o->H b=none->b∈fs->b∉ex->∃sl,h'.get? b=some {o with slots:=sl}
 free:∀b o,h.get? b=some o->H b=none->b∉ex->H' b=none
 there:∀b o,h.get? b=some o->b∉ex->∃o',h'.get? b=some o'
 tups:∀b xs,H b=some (.t xs)->H' b=some (.t xs)
 frzs:∀b o u,H b=some (.frz o u)->H' b=some (.frz o u)
 tbls:∀b ps,H b=some (.tbl ps)->∃more,H' b=some (.tbl (ps++more))
section
variable{fs fs' ex ex':List Addr}{H H1 H2:Hp}{h h1 h2 h':Heap}{a x e:Addr}{o:HO}
theorem Un.any(u:Un fs ex H H1 h h1){b:Addr}{ob:Obj}(q:h.get? b=some ob)(n:H b=none)(c:b∉ex):∃sl,h1.get? b=some {ob with slots:=sl}:=by
 by_cases hb:b∈fs
 .exact u.slot b ob q n hb c
 .exact ⟨ob.slots,u.keep b ob q n hb c⟩
theorem Un.kept(k:∀b u,h.get? b=some u->h'.get? b=some u):Un fs ex H H h h' :=
 ⟨λb ob q _ _ _=>k b ob q,λb ob q _ _ _=>⟨ob.slots,k b ob q⟩,λ_ _ _ n _=>n,λb ob q _=>⟨ob,k b ob q⟩,λ_ _ q=>q,λ_ _ _ q=>q,λ_ ps q=>⟨#[],by rw[q];simp⟩⟩
theorem Un.refl:Un fs ex H H h h:=Un.kept λ_ _ q=>q
theorem Un.laid(k:∀b u,h.get? b=some u->h'.get? b=some u)(c:h.objs.size<=a)(hn:H a=none):Un fs ex H (upd H a o) h h' where
 keep:=λb u q _ _ _=>k b u q
 slot:=λb u q _ _ _=>⟨u.slots,k b u q⟩
 free:=λb u q n _=>by rw[qD (wg (w6 (wI q) c))];exact n
 there:=λb u q _=>⟨u,k b u q⟩
 tups:=λb xs q=>by rw[qD (zO q hn)];exact q
 frzs:=λb u xs q=>by rw[qD (zO q hn)];exact q
 tbls:=λb ps q=>⟨#[],by rw[qD (zO q hn),q];simp⟩
theorem Un.write(d:Mut (H x))(j:e=x\/H e=some (.own x))(k:∀b u,b≠e->h.get? b=some u->h'.get? b=some u)(f:∃u,h'.get? e=some u):Un fs ex H (upd H x o) h h':=by
 have i:∀b,H b=none->b≠x:=λb n z=>by subst z;rw[n]at d;exact d
 have hb:∀b,H b=none->b≠e:=λb n z=>by
  subst z;rcases j with r|r
  .exact i b n r
  .rw [n]at r;cases r
 have hm:∀b u,H b=some u->¬Mut (some u)->b≠x:=λb u q nm z=>by subst z;rw[q]at d;exact nm d
 refine⟨λb u q n _ _=>k b u (hb b n) q,λb u q n _ _=>⟨u.slots,k b u (hb b n) q⟩,λb u q n _=>by rw[qD (i b n)];exact n,λb u q _=>?_,
  λb xs q=>by rw[qD (hm b _ q λz=>z)];exact q,λb u xs q=>by rw[qD (hm b _ q λz=>z)];exact q,λb ps q=>⟨#[],by rw[qD (hm b _ q λz=>z),q];simp⟩⟩
 by_cases c:b=e
 .subst c;exact f
 .exact ⟨u,k b u c q⟩
end
structure GK (g g':Array GenState):Prop where
 bare:AllBare g'
 sz:g.size<=g'.size
 old:∀i,i<g.size->g'[i]?=g[i]?
def GK.refl{g:Array GenState}(b:AllBare g):GK g g:=⟨b,wH _,λ_ _=>rfl⟩
def GK.self{g g':Array GenState}(x:GK g g'):GK g' g':=GK.refl x.bare
def GK.trans{g g1 g2:Array GenState}(a:GK g g1)(b:GK g1 g2):GK g g2:=⟨b.bare,vF a.sz b.sz,λi hi=>(b.old i (w6 hi a.sz)).trans (a.old i hi)⟩
noncomputable def sameName(vs:028):Bool:=match(vs[0]?:Option Value),(vs[1]?:Option Value)with
 |some (.str a _),some (.str b _)=>a == b
 |_,_=>false
noncomputable def codeTab(K:009)(c T:Addr):Bool:=match K.lookup c with
 |some ⟨cls,_,.fields vs,_⟩=>(cls == .type "code"&&sameName vs)&&(match(vs.getD 11 Value.none:Value),(vs[11]?:Option Value),(vs.getD 18 Value.none:Value),(vs.getD 7 Value.none:Value),(vs.getD 9 Value.none:Value),(vs.getD 10 Value.none:Value)with
  | .ref a,some (.ref b),.str _ _,.int _ _,.bool _,.int _ _=>a == T&&b == T&&c != T
  |_,_,_,_,_,_=>false)
 |_=>false
noncomputable def trk(h:Heap)(H:Hp):List Addr:=(List.range h.objs.size).filter λa=>(H a).isSome
noncomputable def hidT(h:Heap)(H:Hp):Heap:=PySem.W.hideAll h (trk h H)
def qe5(h:Heap)(H:Hp):(hidT h H).objs.size=h.objs.size:=PySem.W.hideAll_size _ _
def qfN{h:Heap}{H:Hp}{b:Addr}{o:Obj}(e:h.get? b=some o)(n:H b=none):(hidT h H).get? b=some o :=
 PySem.W.hideAll_get _ e λhm=>by
  have q:(H b).isSome=true:=(List.mem_filter.mp hm).2;rw[n]at q;simp at q
def qij{h:Heap}{H:Hp}{b:Addr}{o:Obj}(e:(hidT h H).get? b=some o):h.get? b=some o/\H b=none:=by
 have e':h.get? b=some o:=PySem.W.of_hideAll (trk h H) e;refine⟨e',?_⟩;cases q:H b with
 |none=>rfl
 |some x =>
  have hm:b∈trk h H:=List.mem_filter.mpr ⟨uB.mpr (wI e'),by simp[q]⟩;have z:(hidT h H).get? b=none:=PySem.W.hideAll_none (trk h H) hm;rw[z]at e;cases e
noncomputable def allNews(g h:Heap)(L:Addr):List (Addr×Obj):=(List.range h.objs.size).filterMap λa=>if a=L\/(g.get? a).isSome=true then none else(h.get? a).map λo=>(a,o)
noncomputable def rest(g h:Heap)(L d:Addr):List (Addr×Obj):=(allNews g h L).filter λp=>decide (p.1≠d)
structure Mod (K:009) (mg:025) (base:Heap):Prop where
 kin:K.In base
 glob:base.Ns mainGlobals mg
 blt:∃mb,base.Ns builtinsNs mb/\∀x:Str,x≠"__name__"->mb x=bootBuiltins x
 nolimit:base.NoLimit
 bmod:∃bm ob,mg "__builtins__"=some (.ref bm)/\bm≠builtinsNs/\base.get? bm=some ob/\ob.cls=.type "module"/\ob.dict=some builtinsNs/\ob.data=.plain
structure Cx where
 prog:Program
 w:World
 K:PySem.W.Frag
 mg:Str->Option Value
 base:Heap
 A:Around
 N:List Str
 s₀:Shared
 H₀:Hp
 env:Env
 outer:List Env
 stack:List Env
 ex:List Addr
 fn:Str->Bool
 calm:Bool
 pn:List (Addr×Obj)
 xe:Value->Shared->Prop
noncomputable def frs(l:List Env):List Addr:=l.filterMap (·.frame)
noncomputable abbrev Cx.fs(X:Cx):List Addr:=frs X.outer
def Vis(sc:Scope)(x:Str):Prop:=sc.names.lookup x=some .local\/sc.names.lookup x=some .cell\/sc.names.lookup x=some .free
def Loc(sc:Scope)(x:Str):Prop:=sc.names.lookup x=some .local\/sc.names.lookup x=some .cell
noncomputable def Look(env:Env)(h:Heap)(m:025)(x:Str)(u:Value):Prop :=
 (env.kindOf x=some .local/\m x=some u)\/((env.kindOf x=some .cell\/env.kindOf x=some .free)/\∃c,env.cells.lookup x=some c/\h.IsCell c (some u))
structure Cx.Ok (X:Cx):Prop where
 mod:Mod X.K X.mg X.base
 kind:X.env.scope.kind=.function
 glob:X.env.globals=mainGlobals
 blt:X.env.builtins=builtinsNs
 above:X.s₀.heap.objs.size<=X.env.locals
 inj:∀x y c,X.env.cells.lookup x=some c->X.env.cells.lookup y=some c->x=y
 has:∀x,(X.env.kindOf x=some .cell\/X.env.kindOf x=some .free)->∃c,X.env.cells.lookup x=some c
 cab:∀x c,X.fn x=true->X.env.cells.lookup x=some c->X.s₀.heap.objs.size<=c
 hd:X.calm=true->X.A.handled=none
 frames:X.A.frames=some X.stack
 stk:X.stack=X.outer\/(X.stack=X.env::X.outer/\X.env.frame=some X.env.locals)
 exf:∀b∈X.ex,b≠X.env.locals/\∀x c,X.env.cells.lookup x=some c->c≠b
 bs:∀b o,X.base.get? b=some o->X.s₀.heap.get? b=some o/\X.H₀ b=none
 bsz:X.base.objs.size<=X.s₀.heap.objs.size
 noex:∀b o,X.base.get? b=some o->b∉X.ex
 exfs:∀b∈X.ex,b∉X.fs
 funs:X.s₀.heap.FunFrames X.base X.outer
 frf:∀b∈X.fs,X.H₀ b=none
 tab:∀c T,codeTab X.K c T=true->∃ps,X.H₀ T=some (.tbl ps)
structure Inv (X:Cx) (pins:011) (σ:List (Option V)) (H:Hp) (s:09):Prop where
 ok:X.Ok
 os:s.os=X.s₀.os
 bare:GK X.s₀.gens s.gens
 base:Un X.fs X.ex X.H₀ H X.s₀.heap s.heap
 loc:∃m,s.heap.Ns X.env.locals m/\∀(i:Nat) (x:Str) (v:V),X.N[i]?=some x->σ[i]?=some (some v)->Vis X.env.scope x->∃u,RelV v u/\Look X.env s.heap m x u
 cell:∀x c,X.env.cells.lookup x=some c->∃v,s.heap.IsCell c v
 free:H X.env.locals=none
 freeC:∀x c,X.env.cells.lookup x=some c->H c=none
 pin:∀p∈X.pn++pins,s.heap.get? p.1=some p.2/\H p.1=none/\p.1≠X.env.locals/\p.1∉X.fs/\∀v,p.2.data≠.cell v
 hok:HOk X.prog X.w H s.heap
 len:σ.length=X.N.length
section
variable{X:Cx}{pins:List (Addr×Obj)}{σ:List (Option V)}{H H':Hp}{s:Shared}{h':Heap}
theorem Cx.Ok.nofr(ok:X.Ok){b:Addr}{o:Obj}(e:X.base.get? b=some o):b∉X.fs:=λhb=>by
 have:=(ok.funs.mem hb).1;rw[e]at this;cases this
theorem Inv.bs(I:016):∀b o,X.base.get? b=some o->s.heap.get? b=some o/\H b=none:=λb o e =>
 ⟨I.base.keep b o (I.ok.bs b o e).1 (I.ok.bs b o e).2 (I.ok.nofr e) (I.ok.noex b o e),I.base.free b o (I.ok.bs b o e).1 (I.ok.bs b o e).2 (I.ok.noex b o e)⟩
theorem Inv.bk(I:016):∀b o,X.base.get? b=some o->s.heap.get? b=some o:=λb o e=>(I.bs b o e).1
theorem Inv.mod(I:016):Mod X.K X.mg X.base:=I.ok.mod
theorem Inv.kIn(I:016):X.K.In s.heap:=I.ok.mod.kin.keeps I.bk
theorem Inv.nolimit(I:016):s.heap.NoLimit:=I.ok.mod.nolimit.keeps I.bk
theorem Inv.lt(I:016):X.env.locals<s.heap.objs.size:=let ⟨_,hn,_⟩:=I.loc;hn.lt
theorem Inv.sz(I:016):X.s₀.heap.objs.size<=s.heap.objs.size:=vF I.ok.above (Nat.le_of_lt I.lt)
theorem Inv.nofs(I:016){a:Addr}(h:s.heap.objs.size<=a):a∉X.fs:=λhb=>by
 obtain⟨_,o,c,_⟩:=I.ok.funs.mem hb;exact absurd (w6 (wI c) (vF I.sz h)) (ve _)
theorem Inv.cne(I:016):∀x c,X.env.cells.lookup x=some c->c≠X.env.locals:=λx c e z=>by
 obtain⟨v,o,f,hd⟩:=I.cell x c e;obtain⟨m,⟨o',es,h,a,d,_⟩,_⟩:=I.loc;rw[z,a]at f;cases f;rw[d]at hd;cases hd
theorem Inv.funs(I:016):s.heap.FunFrames X.base X.outer:=by
 have all:∀(l:List Env),(∀b∈frs l,b∈X.fs)->X.s₀.heap.FunFrames X.base l->s.heap.FunFrames X.base l:=by
  intro l;induction l with
  |nil=>intro _ _;trivial
  |cons env r d =>
   intro hs hl;obtain⟨f,⟨L,o,a,hn,h,hd⟩,i⟩:=hl;have c:L∈X.fs:=hs L (by unfold frs;rw[uT,a];exact wR);obtain⟨sl,e⟩:=I.base.slot L o h (I.ok.frf L c) c λz=>I.ok.exfs L z c
   exact⟨f,⟨L,_,a,hn,e,hd⟩,d (λb hb=>hs b (by unfold frs;rw[uT,a];exact wM _ hb)) i⟩
 exact all X.outer (λ_ hb=>hb) I.ok.funs
theorem Inv.stack(I:016):s.heap.FunFrames X.base X.stack:=by
 rcases I.ok.stk with e|⟨e,hf⟩
 .rw [e];exact I.funs
 .rw [e]
  obtain⟨m,hn,_⟩:=I.loc;refine .cons (by rw[I.ok.kind];decide) hf hn ?_ I.funs;exact Heap.get?_none_of_le (vF I.ok.bsz I.ok.above)
theorem Inv.stkSub(I:016):∀b∈frs X.stack,b∈X.env.locals::X.fs:=λb hb=>by
 rcases I.ok.stk with e|⟨e,hf⟩
 .rw [e]at hb;exact wM _ hb
 .rw [e]at hb
  unfold frs at hb;rw[uT,hf]at hb;exact hb
theorem Inv.stkFree(I:016):∀b∈frs X.stack,H b=none:=λb hb=>by
 rcases wW.mp (I.stkSub b hb)with e|hb
 .rw [e];exact I.free
 .obtain ⟨_,o,a,_⟩:=I.ok.funs.mem hb
  exact I.base.free b o a (I.ok.frf b hb) λz=>I.ok.exfs b z hb
theorem Inv.step{g':Array GenState}{t':Nat}{d':Drawn}{ch:03}(I:016)(f:∀b∈ch,(b∈X.ex\/X.s₀.heap.objs.size<=b)/\b≠X.env.locals/\(∀x c,X.env.cells.lookup x=some c->c≠b)/\∀p∈X.pn++pins,p.1≠b)(keep:∀b o,b≠X.env.locals->b∉X.fs->b∉ch->s.heap.get? b=some o->H b=none->h'.get? b=some o)(slot:∀b o,b≠X.env.locals->b∈X.fs->b∉ch->s.heap.get? b=some o->H b=none->∃sl,h'.get? b=some {o with slots:=sl})(free:∀b o,b∉ch->s.heap.get? b=some o->H b=none->H' b=none)(there:∀b o,b∉ch->s.heap.get? b=some o->∃o',h'.get? b=some o')(tups:∀b xs,H b=some (.t xs)->H' b=some (.t xs))(frzs:∀b o u,H b=some (.frz o u)->H' b=some (.frz o u))(tbls:∀b ps,H b=some (.tbl ps)->∃more,H' b=some (.tbl (ps++more)))(ns:∀m,s.heap.Ns X.env.locals m->h'.Ns X.env.locals m)(hok:HOk X.prog X.w H' h')(J:GK s.gens g'):
  Inv X pins σ H' {s with heap:=h',gens:=g',drawn:=d',toks:=t' }:=by
 have B:∀b o,X.s₀.heap.get? b=some o->b≠X.env.locals:=λb o e=>wg (w6 (wI e) I.ok.above)
 have y:∀b o,X.s₀.heap.get? b=some o->b∉X.ex->b∉ch:=λb o e a hb=>by
  rcases(f b hb).1 with z|z
  .exact a z
  .exact absurd (w6 (wI e) z) (ve _)
 have h:∀x c,X.env.cells.lookup x=some c->∀v,s.heap.IsCell c v->h'.IsCell c v:=λx c e v ⟨o,A,hd⟩=>by
  have j:c∉ch:=λz=>(f c z).2.2.1 x c e rfl
  by_cases hc:c∈X.fs
  .obtain ⟨sl,q⟩:=slot c o (I.cne x c e) hc j A (I.freeC x c e)
   exact⟨_,q,hd⟩
  .exact ⟨o,keep c o (I.cne x c e) hc j A (I.freeC x c e),hd⟩
 refine⟨I.ok,I.os,I.bare.trans J,⟨λb o e n hb a=>?_,λb o e n hb a=>?_,λb o e n a=>?_,λb o e a=>?_,λb xs e=>tups b xs (I.base.tups b xs e),λb o xs e=>frzs b o xs (I.base.frzs b o xs e),λb ps e=>?_⟩,?_,λx c e=>?_,?_,λx c e=>?_,λp E=>?_,hok,I.len⟩
 .exact keep b o (B b o e) hb (y b o e a) (I.base.keep b o e n hb a) (I.base.free b o e n a)
 .obtain ⟨sl,e1⟩:=I.base.slot b o e n hb a
  obtain⟨C,e2⟩:=slot b _ (B b o e) hb (y b o e a) e1 (I.base.free b o e n a);exact⟨C,e2⟩
 .obtain ⟨o',e1⟩:=I.base.there b o e a
  exact free b o' (y b o e a) e1 (I.base.free b o e n a)
 .obtain ⟨o',e1⟩:=I.base.there b o e a
  exact there b o' (y b o e a) e1
 .obtain ⟨m1,e1⟩:=I.base.tbls b ps e
  obtain⟨m2,e2⟩:=tbls b _ e1;exact⟨m1++m2,by rw[e2,Array.append_assoc]⟩
 .obtain ⟨m,hn,hl⟩:=I.loc
  refine⟨m,ns m hn,λi x v e1 e2 K=>?_⟩;obtain⟨u,r,l⟩:=hl i x v e1 e2 K;refine⟨u,r,?_⟩;rcases l with l|⟨k,c,e,z⟩
  .exact .inl l
  .exact .inr ⟨k,c,e,h x c e _ z⟩
 .obtain ⟨v,z⟩:=I.cell x c e
  exact⟨v,h x c e v z⟩
 .obtain ⟨m,⟨o,_,_,A,_⟩,_⟩:=I.loc
  exact free _ o (λz=>(f _ z).2.1 rfl) A I.free
 .obtain ⟨v,o,A,hd⟩:=I.cell x c e
  exact free c o (λz=>(f c z).2.2.1 x c e rfl) A (I.freeC x c e)
 .obtain ⟨e,n,ne,F,d⟩:=I.pin p E
  have j:p.1∉ch:=λz=>(f p.1 z).2.2.2 p E rfl
  exact⟨keep p.1 p.2 ne F j e n,free p.1 p.2 j e n,ne,F,d⟩
theorem Inv.un{t':Nat}(I:016)(u:Un X.fs [] H H' s.heap h')(hok:HOk X.prog X.w H' h'):Inv X pins σ H' {s with heap:=h',toks:=t' }:=by
 obtain⟨m,⟨o,es,j,f,r⟩,_⟩:=id I.loc;obtain⟨sl,h⟩:=u.any f I.free 07;exact I.step (g':=s.gens) (d':=s.drawn) (ch:=[]) (λ_ z=>nomatch z) (λb o _ hb _ e n=>u.keep b o e n hb 07) (λb o _ hb _ e n=>u.slot b o e n hb 07) (λb o _ e n=>u.free b o e n 07) (λb o _ e=>u.there b o e 07) u.tups u.frzs u.tbls (λl hm=>by
  obtain⟨o',c,d,a,i⟩:=hm;rw[f]at a;cases a;exact⟨_,c,d,h,i⟩) hok I.bare.self
theorem Inv.call{g':Array GenState}{t':Nat}{d':Drawn}{ch:03}(I:016)(u:Un (frs X.stack) ch H H' s.heap h')(hok:HOk X.prog X.w H' h')(l:GK s.gens g')(a:∀b∈ch,(b∈X.ex\/X.s₀.heap.objs.size<=b)/\b≠X.env.locals/\(∀x c,X.env.cells.lookup x=some c->c≠b)/\∀p∈X.pn++pins,p.1≠b):
  Inv X pins σ H' {s with heap:=h',gens:=g',drawn:=d',toks:=t' }:=by
 obtain⟨m,⟨o,es,v,j,r⟩,_⟩:=id I.loc;obtain⟨sl,f⟩:=u.any j I.free λz=>(a _ z).2.1 rfl
 exact I.step (ch:=ch) a (λb o f hb hc e n=>u.keep b o e n (λz=>(wW.mp (I.stkSub b z)).elim f hb) hc) (λb o _ _ hc e n=>u.any e n hc) (λb o hc e n=>u.free b o e n hc) (λb o hc e=>u.there b o e hc) u.tups u.frzs u.tbls (λy hm=>by
  obtain⟨o',h,i,d,q⟩:=hm;rw[j]at d;cases d;exact⟨_,h,i,f,q⟩) hok l
theorem Inv.turned{t':Nat}{it:Addr}(I:016)(k:∀b o,b≠it->s.heap.get? b=some o->h'.get? b=some o)(hn:H it=none)(d:it≠X.env.locals)(f:it∈X.ex\/X.s₀.heap.objs.size<=it)(h:∀x c,X.env.cells.lookup x=some c->c≠it)(i:∀p∈X.pn++pins,p.1≠it):Inv X pins σ H {s with heap:=h',toks:=t' }:=by
 have a:∀b u,H b=some u->b≠it:=λb u e z=>by rw[z,hn]at e;cases e
 refine I.step (g':=s.gens) (d':=s.drawn) (ch:=[it]) (λb hb=>?_) (λb o _ _ hc e _=>k b o (λz=>hc (by simp[z])) e) (λb o _ _ hc e _=>⟨o.slots,k b o (λz=>hc (by simp[z])) e⟩) (λ_ _ _ _ n=>n)
  (λb o hc e=>⟨o,k b o (λz=>hc (by simp[z])) e⟩) (λ_ _ e=>e) (λ_ _ _ e=>e) (λb ps e=>⟨#[],by rw[e];simp⟩) (λm hm=>?_) (λb u e=>?_) I.bare.self
 .have e:b=it:=by simpa using hb
  subst e;exact⟨f,d,h,i⟩
 .obtain ⟨o,es,j,l,r⟩:=hm
  exact⟨o,es,j,k _ o (Ne.symm d) l,r⟩
 .refine (I.hok b u e).stay (λc v hc q=>k c v ?_ q) (λ_ q=>q) λ_ _ q=>q
  rcases hc with z|z
  .rw [z];exact a b u e
  .exact a c _ z
theorem Inv.tok(I:016)(t:Nat):Inv X pins σ H {s with toks:=t}:=I.un (h':=s.heap) (t':=t) Un.refl I.hok
theorem Inv.kept{t':Nat}(I:016)(k:∀b u,s.heap.get? b=some u->h'.get? b=some u):Inv X pins σ H {s with heap:=h',toks:=t' }:=I.un (Un.kept k) (I.hok.kept k)
theorem Inv.laid{a:Addr}{o:HO}{t':Nat}(I:016)(k:∀b u,s.heap.get? b=some u->h'.get? b=some u)(c:s.heap.objs.size<=a)(new:ObjOk X.prog X.w (upd H a o) h' a o):
  Inv X pins σ (upd H a o) {s with heap:=h',toks:=t' }:=I.un (Un.laid k c (I.hok.fresh c)) (I.hok.laid k c new)
theorem Inv.write{x e:Addr}{o:HO}{t':Nat}(I:016)(c:Mut (H x))(d:e=x\/H e=some (.own x))(k:∀b u,b≠e->s.heap.get? b=some u->h'.get? b=some u)(a:∃u,h'.get? e=some u)(new:ObjOk X.prog X.w (upd H x o) h' x o):Inv X pins σ (upd H x o) {s with heap:=h',toks:=t' }:=I.un (Un.write c d k a) (I.hok.write c d k a new)
theorem Inv.pins_of{a:011}(I:016)(h:∀p∈a,s.heap.get? p.1=some p.2/\H p.1=none/\p.1≠X.env.locals/\p.1∉X.fs/\∀v,p.2.data≠.cell v):Inv X a σ H s :=
 ⟨I.ok,I.os,I.bare,I.base,I.loc,I.cell,I.free,I.freeC,λp c=>(wa.mp c).elim (λz=>I.pin p (wu _ z)) (h p),I.hok,I.len⟩
theorem qaq{N:014}(c:N.Nodup){i j:Nat}{x:Str}(a:N[i]?=some x)(b:N[j]?=some x):i=j:=by
 obtain⟨d,e1⟩:=wG.mp a;obtain⟨f,e2⟩:=wG.mp b;exact(xb c).mp (e1.trans e2.symm)
theorem jQ{M:Model}{A:Around}{E:015}{i:Nat}{x:Str}{v:V}{u:Value}{Q:Unit->Shared->Prop}(I:016)(hN:X.N.Nodup)(hi:X.N[i]?=some x)(l:Loc X.env.scope x)(r:RelV v u)(h:∀s',Inv X pins (σ.set i (some v)) H s'->(∃a,Heap.SameBut a s.heap s'.heap/\(a=X.env.locals\/X.env.cells.lookup x=some a))->Q () s')(hf:X.fn x=true\/X.env.scope.names.lookup x=some .local:=by first|exact .inl rfl|exact .inr rfl|assumption):wpAny M A (storeName X.env x u) Q E s:=by
 obtain⟨m,hn,hl⟩:=id I.loc;have L:(X.env.scope.kind == .class || (X.env.scope.kind == .module&&X.env.locals != X.env.globals))=false:=by rw[I.ok.kind];rfl
 have C:i<σ.length:=by rw[I.len];exact(wG.mp hi).1
 have cne:=I.cne;have f:∀{a:Addr} {h':Heap},(∃o,s.heap.get? a=some o/\H a=none)->Heap.SameBut a s.heap h'->HOk X.prog X.w H h':=λ{a h'} ha hs b ob e=>by
  obtain⟨_,_,B⟩:=ha;refine(I.hok b ob e).stay (λc W hc q=>(hs.2 c ?_).trans q) (λ_ q=>q) λ_ _ q=>q
  rintro rfl;rcases hc with rfl|hc
  .rw [B]at e;cases e
  .rw [B]at hc;cases hc
 rcases l with F|F
 .refine wpAny_storeName_local F hn (λh' Z hs=>?_) L
  obtain⟨oL,_,_,a0,_⟩:=id hn;refine h _ ⟨I.ok,I.os,I.bare,⟨λb o e n hb l=>?_,λb o e n hb l=>?_,I.base.free,λb o e l=>?_,I.base.tups,I.base.frzs,I.base.tbls⟩,⟨_,Z,λj y v' e1 e2 e3=>?_⟩,λy c e=>?_,I.free,I.freeC,λp hp=>?_,f ⟨oL,a0,I.free⟩ hs,by simpa using I.len⟩ ⟨_,hs,.inl rfl⟩
  .exact (hs.2 b (wg (w6 (wI e) I.ok.above))).trans (I.base.keep b o e n hb l)
  .obtain ⟨sl,e1⟩:=I.base.slot b o e n hb l
   exact⟨sl,(hs.2 b (wg (w6 (wI e) I.ok.above))).trans e1⟩
  .obtain ⟨o',e1⟩:=I.base.there b o e l
   exact⟨o',(hs.2 b (wg (w6 (wI e) I.ok.above))).trans e1⟩
  .by_cases J:j=i
   .subst J
    rw[hi]at e1;cases e1;rw[vW C]at e2;cases e2;exact⟨u,r,.inl ⟨F,by simp⟩⟩
   .rw [vi (Ne.symm J)]at e2
    obtain⟨u',r',q⟩:=hl j y v' e1 e2 e3;refine⟨u',r',?_⟩;rcases q with ⟨k,e⟩|⟨k,c,e,z⟩
    .refine .inl ⟨k,?_⟩
     have:y≠x:=λe=>J (qaq hN e1 (e ▸ hi))
     simp[this,e]
    .exact .inr ⟨k,c,e,z.sameBut hs (cne y c e)⟩
  .obtain ⟨W,z⟩:=I.cell y c e
   exact⟨W,z.sameBut hs (cne y c e)⟩
  .obtain ⟨e,n,ne,nf,d⟩:=I.pin p hp
   exact⟨(hs.2 p.1 ne).trans e,n,ne,nf,d⟩
 .have K:X.fn x=true:=by
   rcases hf with z|z
   .exact z
   .rw [z]at F;cases F
  obtain⟨c,hc⟩:=I.ok.has x (.inl F);obtain⟨W,z⟩:=I.cell x c hc;refine wpAny_storeName_cell I.ok.kind F hc z (λh' O hs=>?_);obtain⟨oc,P,S⟩:=id z;refine h {s with heap:=h' } ⟨I.ok,I.os,I.bare,⟨λb o e n hb l=>?_,λb o e n hb l=>?_,I.base.free,λb o e l=>?_,I.base.tups,I.base.frzs,I.base.tbls⟩,⟨m,hn.sameBut hs (Ne.symm (cne x c hc)),λj y v' e1 e2 e3=>?_⟩,λy Y e=>?_,I.free,I.freeC,λp hp=>?_,f ⟨oc,P,I.freeC x c hc⟩ hs,by simpa using I.len⟩ ⟨c,hs,.inr hc⟩
  .exact (hs.2 b (wg (w6 (wI e) (I.ok.cab x c K hc)))).trans (I.base.keep b o e n hb l)
  .obtain ⟨sl,e1⟩:=I.base.slot b o e n hb l
   exact⟨sl,(hs.2 b (wg (w6 (wI e) (I.ok.cab x c K hc)))).trans e1⟩
  .obtain ⟨o',e1⟩:=I.base.there b o e l
   exact⟨o',(hs.2 b (wg (w6 (wI e) (I.ok.cab x c K hc)))).trans e1⟩
  .by_cases J:j=i
   .subst J
    rw[hi]at e1;cases e1;rw[vW C]at e2;cases e2;exact⟨u,r,.inr ⟨.inl F,c,hc,O⟩⟩
   .rw [vi (Ne.symm J)]at e2
    obtain⟨u',r',q⟩:=hl j y v' e1 e2 e3;refine⟨u',r',?_⟩;rcases q with q|⟨k,Y,e,z'⟩
    .exact .inl q
    .refine .inr ⟨k,Y,e,z'.sameBut hs ?_⟩
     rintro rfl;exact J (qaq hN e1 (I.ok.inj _ _ _ e hc ▸ hi))
  .by_cases U:Y=c
   .subst U;exact⟨_,O⟩
   .obtain ⟨w2,z2⟩:=I.cell y Y e
    exact⟨w2,z2.sameBut hs U⟩
  .obtain ⟨e,n,ne,nf,d⟩:=I.pin p hp
   refine⟨(hs.2 p.1 ?_).trans e,n,ne,nf,d⟩;intro q;rw[q,P]at e;have q':oc=p.2:=Option.some.inj e;exact d W (by rw[<-q'];exact S)
theorem yL{M:Model}{A:Around}{E:015}{i:Nat}{x:Str}{v:V}{u:Value}{Q:Unit->Shared->Prop}(I:016)(a:X.N.Nodup)(hi:X.N[i]?=some x)(c:Loc X.env.scope x)(r:RelV v u)(h:∀s',Inv X pins (σ.set i (some v)) H s'->Q () s')(d:X.fn x=true\/X.env.scope.names.lookup x=some .local:=by first|exact .inl rfl|exact .inr rfl|assumption):wpAny M A (storeName X.env x u) Q E s :=
 jQ I a hi c r (λs' f _=>h s' f) d
theorem Inv.call'{s':09}{ch:03}(I:016)(d:s'.os=s.os)(u:Un (frs X.stack) ch H H' s.heap s'.heap)(hok:HOk X.prog X.w H' s'.heap)(f:GK s.gens s'.gens)(a:∀b∈ch,(b∈X.ex\/X.s₀.heap.objs.size<=b)/\b≠X.env.locals/\(∀x c,X.env.cells.lookup x=some c->c≠b)/\∀p∈X.pn++pins,p.1≠b):Inv X pins σ H' s':=by
 obtain⟨h',g',d',t',o'⟩:=s';have e:o'=s.os:=d;subst e;exact I.call (g':=g') (t':=t') (d':=d') u hok f a
end
noncomputable abbrev XK:=Value->Option Addr->Hp->Prop
noncomputable abbrev St:=List (Option V)
noncomputable abbrev VK:=V->Hp->Prop
noncomputable abbrev TE:=St->Hp->VK->Prop
noncomputable abbrev TT:=St->Hp->(Bool->Hp->Prop)->Prop
noncomputable abbrev TA:=St->Hp->(List V->Hp->Prop)->Prop
structure Ends where
 nx:St->Hp->Prop
 rt:VK
 bk:St->Hp->Prop:=λ_ _=>False
 ct:St->Hp->Prop:=λ_ _=>False
noncomputable abbrev TS:=Ends->St->Hp->Prop
def EP(X:Cx)(pins:011)(a:St)(Q:VK)(u:Value)(s':09):Prop:=∃v H',Inv X pins a H' s'/\RelV v u/\Q v H'
def TP(X:Cx)(pins:011)(a:St)(Q:Bool->Hp->Prop)(b:Bool)(s':09):Prop:=∃H',Inv X pins a H' s'/\Q b H'
def AP(X:Cx)(pins:011)(a:St)(Q:List V->Hp->Prop)(us:005)(s':09):Prop:=∃vs H',Inv X pins a H' s'/\Vals vs us/\Q vs H'
noncomputable def SP(X:Cx)(pins:011)(D:Ends)(f:Flow)(s':09):Prop :=
 match f with
 | .next=>∃a H',Inv X pins a H' s'/\D.nx a H'
 | .brk=>∃a H',Inv X pins a H' s'/\D.bk a H'
 | .cont=>∃a H',Inv X pins a H' s'/\D.ct a H'
 | .ret u=>∃v a H',Inv X pins a H' s'/\RelV v u/\D.rt v H'
noncomputable def PE(X:Cx)(e:Expr)(t:TE):Prop :=
 ∀(pins:011) (s:09) (a:St) (H:Hp) (Q:VK),Inv X pins a H s->t a H Q->wpAny 006 X.A (eval e X.env) (EP X pins a Q) X.xe s
noncomputable def PT(X:Cx)(e:Expr)(t:TT):Prop :=
 ∀(pins:011) (s:09) (a:St) (H:Hp) (Q:Bool->Hp->Prop),Inv X pins a H s->t a H Q->wpAny 006 X.A (isTrue e X.env (eval e X.env)) (TP X pins a Q) X.xe s
noncomputable def PW(X:Cx)(e:Expr)(t:TT):Prop :=
 ∀(a:Sem Value) (pins:011) (s:09) (c:St) (H:Hp) (Q:Bool->Hp->Prop),Inv X pins c H s->t c H Q->wpAny 006 X.A (isTrue e X.env a) (TP X pins c Q) X.xe s
def PW.pt{X:Cx}{e:Expr}{t:TT}(h:PW X e t):PT X e t:=h _
noncomputable def PA(X:Cx)(es:010)(t:TA):Prop :=
 ∀(pos:Pos) (pins:011) (s:09) (a:St) (H:Hp) (Q:List V->Hp->Prop),Inv X pins a H s->t a H Q->wpAny 006 X.A (spliced (backTo pos (starEach es X.env))) (AP X pins a Q) X.xe s
noncomputable def PS(X:Cx)(st:Stmt)(t:TS):Prop :=
 ∀(pins:011) (s:09) (a:St) (H:Hp) (D:Ends),Inv X pins a H s->t D a H->wpAny 006 X.A (exec st X.env) (SP X pins D) X.xe s
noncomputable def PSs(X:Cx)(st:List Stmt)(t:TS):Prop :=
 ∀(pins:011) (s:09) (a:St) (H:Hp) (D:Ends),Inv X pins a H s->t D a H->wpAny 006 X.A (execs st X.env) (SP X pins D) X.xe s
def thn{c:Type}{t:Sem c}{Q Q':c->Shared->Prop}{M:Model}{A:Around}{E:015}{s:09}(h:wpAny M A t Q E s)(d:∀a s,Q a s->Q' a s):wpAny M A t Q' E s:=wt h d λ_ _ x=>x
section
variable{X:Cx}
theorem bin{a b:Expr}{l m:TE}(ha:PE X a l)(hb:PE X b m){pins:011}{s:09}{c:St}{H:Hp}{R:V->V->Hp->Prop}(I:Inv X pins c H s)(h:l c H λx j=>m c j λy H2=>R x y H2){n:Type}{Q:n->Shared->Prop}{f:Value->Value->Sem n}(o:∀v u s2 x y H2,Inv X pins c H2 s2->RelV x v->RelV y u->R x y H2->wpAny 006 X.A (f v u) Q X.xe s2):
  wpAny 006 X.A (eval a X.env) (λv d=>wpAny 006 X.A (eval b X.env) (λu i=>wpAny 006 X.A (f v u) Q X.xe i) X.xe d) X.xe s:=by
 refine thn (ha pins s c H _ I h) λv s1 ⟨x,j,p,q,q1⟩=>?_
 refine thn (hb pins s1 c j _ p q1) λu s2 ⟨y,H2,r,B,q2⟩=>?_
 exact o v u s2 x y H2 r q B q2
noncomputable def tVar(i:Nat):TE:=λa H Q=>∃v,a[i]?=some (some v)/\Q v H
noncomputable def tC(v:V):TE:=λ_ H Q=>Q v H
abbrev _root_.sE(X:Cx)(e:Expr)(es:010):Prop:=starEach (e::es) X.env=(false,eval e X.env)::starEach es X.env
abbrev _root_.bT(X:Cx)(es:010)(pos:Pos):Prop:=(backTo pos (starEach es X.env)).any (·.1)=false
abbrev _root_.dB(x:Str):Prop:=(x == ("__debug__":Str))=false
theorem qkm{i:Nat}{x:Str}{pos:Pos}(f:X.N[i]?=some x)(j:Vis X.env.scope x)(hd:dB x:=by decide)(d:(x == ("__classdict__":Str))=false:=by decide):PE X (.Name x pos) (tVar i):=by
 intro pins s n H Q I h;obtain⟨v,e,h⟩:=h;obtain⟨m,hn,hl⟩:=I.loc;obtain⟨u,r,l⟩:=hl i x v f e j;have fin:EP X pins n Q u s:=⟨v,H,I,r,h⟩;rcases l with ⟨a,hm⟩|⟨a,c,hc,hcell⟩
 .exact wpAny_Name (wpAny_loadName_local I.ok.kind a hn hm fin) hd
 .rcases a with a|a
  .exact wpAny_Name (wpAny_loadName_cell I.ok.kind a hc hcell fin) hd
  .exact wpAny_Name (wpAny_loadName_free I.ok.kind a hc hcell fin d) hd
theorem qkn{i j pos}:PE X (.Constant (.int i) j pos) (tC (.int i)):=λ_ _ _ H _ I h=>wpAny_Constant_int ⟨.int i,H,I.tok _,⟨_,rfl⟩,h⟩
theorem qfO{b j pos}:PE X (.Constant (.bool b) j pos) (tC (.bl b)):=λ_ _ _ H _ I h=>Constant_bool ⟨.bl b,H,I,rfl,h⟩
theorem qko{j pos}:PE X (.Constant .none j pos) (tC .non):=λ_ _ _ H _ I h=>Constant_none ⟨.non,H,I,rfl,h⟩
theorem qkp{x j pos}:PE X (.Constant (.str x) j pos) (tC (.str x)):=λ_ _ _ H _ I h=>Calls.Constant_str ⟨.str x,H,I.tok _,⟨_,rfl⟩,h⟩
def Gl(X:Cx)(x:Str):Prop:=X.env.kindOf x=some .globalImplicit
theorem jy{E:015}{pins:011}{s:09}{a:St}{H:Hp}{x:Str}{u:Value}{pos:Pos}{Q:015}(I:Inv X pins a H s)(c:Gl X x)(hm:X.mg x=some u)(h:Q u s)(hd:dB x:=by decide):wpAny 006 X.A (eval (.Name x pos) X.env) Q E s :=
 Calls.Name_function_global I.ok.kind c (Calls.loadGlobal_global (by rw[I.ok.glob];exact I.mod.glob.keeps I.bk) hm h) hd
theorem yM{E:015}{pins:011}{s:09}{a:St}{H:Hp}{x:Str}{u:Value}{pos:Pos}{Q:015}(I:Inv X pins a H s)(c:Gl X x)(hm:X.mg x=none)(d:bootBuiltins x=some u)(h:Q u s)(hn:x≠"__name__":=by decide)(hd:dB x:=by decide):wpAny 006 X.A (eval (.Name x pos) X.env) Q E s:=by
 obtain⟨mb,f,i⟩:=I.mod.blt;exact Calls.Name_function_global I.ok.kind c (Calls.loadGlobal_builtin (by rw[I.ok.glob];exact I.mod.glob.keeps I.bk) hm (by rw[I.ok.blt];exact f.keeps I.bk) ((i x hn).trans d) h) hd
theorem qbz{x:Str}{v:V}{u:Value}{pos:Pos}(a:Gl X x)(hm:X.mg x=some u)(r:RelV v u)(hd:dB x:=by decide):PE X (.Name x pos) (tC v) :=
 λ_ _ _ H _ I h=>jy I a hm ⟨v,H,I,r,h⟩ hd
theorem qdY{x:Str}{v:V}{u:Value}{pos:Pos}(a:Gl X x)(hm:X.mg x=none)(c:bootBuiltins x=some u)(r:RelV v u)(hn:x≠"__name__":=by decide)(hd:dB x:=by decide):PE X (.Name x pos) (tC v) :=
 λ_ _ _ H _ I h=>yM I a hm c ⟨v,H,I,r,h⟩ hn hd
variable{a b:Expr}{ta tb:TE}{pos:Pos}
variable{tA tB':TT}{rest:List Expr}
noncomputable def tAnd(t u:TT):TT:=λd H Q=>t d H λc f=>if c=true then u d f Q else Q false f
noncomputable def tOr(t u:TT):TT:=λd H Q=>t d H λc f=>if c=true then Q true f else u d f Q
noncomputable def tNot(t:TT):TT:=λd H Q=>t d H λc f=>Q (!c) f
theorem qik(ha:PT X a tA):PW X (.BoolOp .And [a] pos) tA:=by
 intro f pins s d H Q I h;refine isTrue_and (thn (ha pins s d H Q I h) λc s1 e=>?_);cases c with
 |true=>exact isTrue_and_nil e
 |false=>exact e
theorem qkq(ha:PT X a tA):PW X (.BoolOp .Or [a] pos) tA:=by
 intro f pins s d H Q I h;refine isTrue_or (thn (ha pins s d H Q I h) λc s1 e=>?_);cases c with
 |false=>exact isTrue_or_nil e
 |true=>exact e
theorem qkr(ha:PT X a tA)(hb:PW X (.BoolOp .And (b::rest) pos) tB'):PW X (.BoolOp .And (a::b::rest) pos) (tAnd tA tB'):=by
 intro j pins s d H Q I h;refine isTrue_and (thn (ha pins s d H _ I h) λc s1 ⟨f,i,q1⟩=>?_);cases c with
 |true=>exact hb j pins s1 d f Q i q1
 |false=>exact⟨f,i,q1⟩
theorem ql7(ha:PT X a tA)(hb:PW X (.BoolOp .Or (b::rest) pos) tB'):PW X (.BoolOp .Or (a::b::rest) pos) (tOr tA tB'):=by
 intro j pins s d H Q I h;refine isTrue_or (thn (ha pins s d H _ I h) λc s1 ⟨f,i,q1⟩=>?_);cases c with
 |true=>exact⟨f,i,q1⟩
 |false=>exact hb j pins s1 d f Q i q1
theorem qfP(ha:PT X a tA):PT X (.UnaryOp .Not a pos) (tNot tA):=by
 intro pins s d H Q I h;exact isTrue_not (ha pins s d H (λc f=>Q (!c) f) I h)
noncomputable def tAndV(ta tb:TE):TE:=λd H Q=>ta d H λx f=>∃c,x=.bl c/\if c=true then tb d f Q else Q (.bl false) f
noncomputable def tNotV(ta:TE):TE:=λd H Q=>ta d H λx f=>∃c,x=.bl c/\Q (.bl (!c)) f
theorem qks{op}{t:TE}(h:PE X a t):PE X (.BoolOp op [a] pos) t:=λpins s c H Q I hw=>BoolOp_one (h pins s c H Q I hw)
theorem qkt(ha:PE X a ta)(hb:PE X (.BoolOp .And (b::rest) pos) tb):PE X (.BoolOp .And (a::b::rest) pos) (tAndV ta tb):=by
 intro pins s d H Q I h;refine BoolOp_and (thn (ha pins s d H _ I h) λv s1 ⟨x,f,i,j,q1⟩=>?_);obtain⟨c,rfl,q1⟩:=q1;cases j;refine vl ?_;cases c with
 |true=>exact hb pins s1 d f Q i q1
 |false=>exact⟨.bl false,f,i,rfl,q1⟩
theorem qku(ha:PE X a ta):PE X (.UnaryOp .Not a pos) (tNotV ta):=by
 intro pins s d H Q I h;refine UnaryOp_ (thn (ha pins s d H _ I h) λv s1 ⟨x,f,i,j,q1⟩=>?_);obtain⟨c,rfl,q1⟩:=q1;cases j;exact not_of (vl ⟨.bl (!c),f,i,rfl,q1⟩)
noncomputable def tIf(t:TT)(ta tb:TE):TE:=λd H Q=>t d H λc f=>if c=true then ta d f Q else tb d f Q
theorem qfQ{c:Expr}(hc:PT X c tA)(ha:PE X a ta)(hb:PE X b tb):PE X (.IfExp c a b pos) (tIf tA ta tb):=by
 intro pins s f H Q I h;refine wpAny_IfExp (thn (hc pins s f H _ I h) λd s1 ⟨i,j,q1⟩=>?_);cases d with
 |true=>exact ha pins s1 f i Q j q1
 |false=>exact hb pins s1 f i Q j q1
end
noncomputable def SqL(K:009)(H:Hp)(a:Addr)(xs:List V):Prop :=
 Rd H a (.l xs) \/
  ∃(o:Obj) (c:028) (n:Nat),K.lookup a=some o/\o.cls=.type "list"/\o.dict=none/\o.data=.seq c n/\c.size<=sizeLine/\Vals xs c.toList
noncomputable def SqT(K:009)(H:Hp)(a:Addr)(xs:List V):Prop :=
 Rd H a (.t xs) \/
  ∃(o:Obj) (c:028) (n:Nat),K.lookup a=some o/\o.cls=.type "tuple"/\o.data=.seq c n/\c.size<=sizeLine/\Vals xs c.toList
noncomputable def absV:Value->Option V
 | .none=>some .non
 | .bool b=>some (.bl b)
 | .int i _=>some (.int i)
 | .str x _=>some (.str x)
 | .bytes b _=>some (.byt b)
 | .float b _=>some (.flt b)
 | .ref a=>some (.ref a)
 | .type n=>some (.ty n)
 |_=>none
def RelV.abs{x:V}{u:Value}(r:RelV x u):absV u=some x:=by
 cases x with
 |non=>cases r;rfl
 |bl _=>cases r;rfl
 |int _=>obtain⟨t,rfl⟩:=r;rfl
 |str _=>obtain⟨t,rfl⟩:=r;rfl
 |byt _=>obtain⟨t,rfl⟩:=r;rfl
 |flt _=>obtain⟨t,rfl⟩:=r;rfl
 |ref _=>cases r;rfl
 |ty _=>cases r;rfl
def RelV.inj{x y:V}{u:Value}(r:RelV x u)(q:RelV y u):x=y:=Option.some.inj (r.abs.symm.trans q.abs)
def Vals.inj:∀{xs ys:List V} {us:005},Vals xs us->Vals ys us->xs=ys
 |_,_,_,.nil,.nil=>rfl
 |_,_,_,.cons r t,.cons r' t'=>by rw[r.inj r',Vals.inj t t']
section
variable{X:Cx}{pins:List (Addr×Obj)}{σ:St}{H:Hp}{s:Shared}{a:Addr}{xs ys:List V}
theorem Inv.list(I:016)(h:SqL X.K H a xs):∃c:List Value,Vals xs c/\PlainL s.heap a c.toArray/\xs.length<=sizeLine:=by
 rcases h with h|⟨o,c,n,hk,hc,hd,hs,hz,r⟩
 .obtain ⟨z,c,n,r,e⟩:=h.ok I.hok
  exact⟨c,r,⟨_,n,e,rfl,rfl,rfl⟩,z⟩
 .refine ⟨c.toList,r,⟨o,n,I.kIn a o hk,hc,hd,by simpa using hs⟩,?_⟩
  have e:=r.length;simp only[uI]at e;lia
theorem Inv.tuple(I:016)(h:SqT X.K H a xs):∃c:List Value,Vals xs c/\IsTup s.heap a c.toArray/\xs.length<=sizeLine:=by
 rcases h with h|⟨o,c,n,hk,hc,hs,hz,r⟩
 .obtain ⟨z,c,r,p,_⟩:=h.ok I.hok
  exact⟨c,r,p,z⟩
 .refine ⟨c.toList,r,⟨o,I.kIn a o hk,hc,n,by simpa using hs⟩,?_⟩
  have e:=r.length;simp only[uI]at e;lia
theorem Inv.list_inj(I:016)(h:SqL X.K H a xs)(h':SqL X.K H a ys):xs=ys:=by
 obtain⟨c,r,⟨o,n,e,_,_,d⟩,_⟩:=I.list h;obtain⟨its',f,⟨o',i,e',_,_,d'⟩,_⟩:=I.list h';rw[e]at e';cases e';rw[d]at d';injection d' with d1 _;have:c=its':=by simpa using congrArg Array.toList d1
 subst this;exact r.inj f
theorem Inv.tuple_inj(I:016)(h:SqT X.K H a xs)(h':SqT X.K H a ys):xs=ys:=by
 obtain⟨c,r,⟨o,e,_,n,d⟩,_⟩:=I.tuple h;obtain⟨its',f,⟨o',e',_,i,d'⟩,_⟩:=I.tuple h';rw[e]at e';cases e';rw[d]at d';injection d' with d1 _;have:c=its':=by simpa using congrArg Array.toList d1
 subst this;exact r.inj f
end
noncomputable abbrev Cx.wish(X:Cx)(E:015):Cx:={X with xe:=E}
noncomputable abbrev Cx.nox(X:Cx):Cx:=X.wish λ_ _=>False
def Cx.Ok.wish{X:Cx}(ok:X.Ok)(E:015):(X.wish E).Ok :=
 ⟨ok.mod,ok.kind,ok.glob,ok.blt,ok.above,ok.inj,ok.has,ok.cab,ok.hd,ok.frames,ok.stk,ok.exf,ok.bs,ok.bsz,ok.noex,ok.exfs,ok.funs,ok.frf,ok.tab⟩
def Cx.Ok.unwish{X:Cx}{E:015}(ok:(X.wish E).Ok):X.Ok :=
 ⟨ok.mod,ok.kind,ok.glob,ok.blt,ok.above,ok.inj,ok.has,ok.cab,ok.hd,ok.frames,ok.stk,ok.exf,ok.bs,ok.bsz,ok.noex,ok.exfs,ok.funs,ok.frf,ok.tab⟩
section
variable{X:Cx}{pins:List (Addr×Obj)}{σ:St}{H:Hp}{s:Shared}{E:Value->Shared->Prop}
theorem Inv.wish(I:016)(E:015):Inv (X.wish E) pins σ H s:=⟨I.ok.wish E,I.os,I.bare,I.base,I.loc,I.cell,I.free,I.freeC,I.pin,I.hok,I.len⟩
theorem Inv.unwish(I:Inv (X.wish E) pins σ H s):Inv X pins σ H s:=⟨I.ok.unwish,I.os,I.bare,I.base,I.loc,I.cell,I.free,I.freeC,I.pin,I.hok,I.len⟩
theorem SP.unwish{D:Ends}{f:Flow}{s':09}(h:SP (X.wish E) pins D f s'):SP X pins D f s':=by
 cases f with
 |next=>obtain⟨a,H',I,q⟩:=h;exact⟨a,H',I.unwish,q⟩
 |brk=>obtain⟨a,H',I,q⟩:=h;exact⟨a,H',I.unwish,q⟩
 |cont=>obtain⟨a,H',I,q⟩:=h;exact⟨a,H',I.unwish,q⟩
 |ret u=>obtain⟨v,a,H',I,r,q⟩:=h;exact⟨v,a,H',I.unwish,r,q⟩
theorem PT.nox{e:Expr}{t:TT}(h:PT X.nox e t):PT X e t:=λpins s σ H Q I hw =>
 wt (h pins s σ H Q (I.wish _) hw) (λ_ _ ⟨H',a,q⟩=>⟨H',a.unwish,q⟩) λ_ _ z=>False.elim z
theorem PSs.nox{st:List Stmt}{t:TS}(h:PSs X.nox st t):PSs X st t:=λpins s σ H D I hw =>
 wt (h pins s σ H D (I.wish _) hw) (λ_ _ q=>q.unwish) λ_ _ z=>False.elim z
end
section
variable{X:Cx}{st:Stmt}{rest:List Stmt}{t u:TS}{e:Expr}{te:TE}{pos:Pos}
noncomputable def tNext:TS:=λD a H=>D.nx a H
noncomputable def tSeq(t u:TS):TS:=λD a H=>t {D with nx:=u D} a H
theorem qdZ:PSs X [] tNext:=λ_ _ a H _ I h=>xE ⟨a,H,I,h⟩
theorem qcj(c:PS X st t)(d:PSs X rest u):PSs X (st::rest) (tSeq t u):=by
 intro pins s i H D I h;refine wpAny_execs_cons (thn (c pins s i H {D with nx:=u D} I h) λf s1 q=>?_);cases f with
 |next =>
  obtain⟨a,H',j,q⟩:=q;exact d pins s1 a H' D j q
 |ret v=>exact q
 |brk=>exact q
 |cont=>exact q
theorem Inv.quiet{pins:011}{a:St}{H:Hp}{s:09}(I:Inv X pins a H s):interactive X.env=false:=by simp[interactive,I.ok.kind]
noncomputable def tDrop(te:TE):TS:=λD a H=>te a H λ_ c=>D.nx a c
theorem qd0(c:PE X e te)(hs:swapsWith e none pos.line X.env=pure false:=by rfl):PS X (.Expr e pos) (tDrop te):=by
 intro pins s a H D I h;exact wpAny_Expr_any (thn (c pins s a H _ I h) λv s1 ⟨x,d,f,i,q1⟩=>⟨a,d,f,q1⟩) I.quiet hs
noncomputable def tRet(te:TE):TS:=λD a H=>te a H D.rt
theorem qfR(c:PE X e te):PS X (.Return (some e) pos) (tRet te):=by
 intro pins s a H D I h;exact wpAny_Return_some (thn (c pins s a H _ I h) λv s1 ⟨x,d,f,i,q1⟩=>⟨x,a,d,f,i,q1⟩)
noncomputable def tIfS(c:TT)(t u:TS):TS:=λD a H=>c a H λb d=>if b=true then t D a d else u D a d
theorem qjL{c:Expr}{a b:List Stmt}{tc:TT}(hc:PT X c tc)(ha:PSs X a t)(hb:PSs X b u):PS X (.If c a b pos) (tIfS tc t u):=by
 intro pins s f H D I h;refine wpAny_If (thn (hc pins s f H _ I h) λd s1 ⟨i,j,q1⟩=>?_);cases d with
 |true=>exact ha pins s1 f i D j q1
 |false=>exact hb pins s1 f i D j q1
noncomputable def tNever:TS:=λ_ _ _=>False
theorem qfS:PS X st tNever:=λ_ _ _ _ _ _ h=>h.elim
end
noncomputable abbrev TG:=V->St->Hp->(St->Hp->Prop)->Prop
noncomputable abbrev TGs:=List V->St->Hp->(St->Hp->Prop)->Prop
noncomputable def PG(X:Cx)(a:Expr)(t:TG):Prop :=
 ∀(pins:011) (s:09) (d:St) (H:Hp) (v:V) (u:Value) (Q:St->Hp->Prop),Inv X pins d H s->RelV v u->t v d H Q ->
  wpAny 006 X.A (assign a X.env u) (λ_ s'=>∃c H',Inv X pins c H' s'/\Q c H') X.xe s
noncomputable def PGs(X:Cx)(ts:010)(t:TGs):Prop :=
 ∀(pins:011) (s:09) (c:St) (H:Hp) (vs:List V) (us:005) (Q:St->Hp->Prop),Inv X pins c H s->Vals vs us->t vs c H Q ->
  wpAny 006 X.A (assignInOrder ((assignEach ts X.env).map (·.2)) us) (λ_ s'=>∃a H',Inv X pins a H' s'/\Q a H') X.xe s
noncomputable abbrev TSet:=V->V->V->Hp->(Hp->Prop)->Prop
noncomputable def PSet(X:Cx)(t:TSet):Prop :=
 ∀(pins:011) (s:09) (a:St) (H:Hp) (o i v:V) (c d u:Value) (Q:Hp->Prop),Inv X pins a H s->RelV o c->RelV i d->RelV v u->t o i v H Q ->
  wpAny 006 X.A (setItem c d u) (λ_ s'=>∃H',Inv X pins a H' s'/\Q H') X.xe s
section
variable{X:Cx}{pos:Pos}
noncomputable def gName(i:Nat):TG:=λv a H Q=>Q (a.set i (some v)) H
theorem qd1{i:Nat}{x:Str}(a:X.N.Nodup)(hi:X.N[i]?=some x)(c:Loc X.env.scope x)(d:X.fn x=true\/X.env.scope.names.lookup x=some .local:=by first|exact .inl rfl|exact .inr rfl|assumption):PG X (.Name x pos) (gName i):=by
 intro pins s j H v u Q I r h;exact wpAny_assign_Name (yL I a hi c r (λs' f=>⟨_,H,f,h⟩) d)
noncomputable def gNil:TGs:=λvs a H Q=>vs=[]/\Q a H
noncomputable def gCons(t:TG)(u:TGs):TGs:=λvs c H Q=>∃v r,vs=v::r/\t v c H λa H'=>u r a H' Q
theorem qil:PGs X [] gNil:=by
 intro pins s a H vs us Q I r h;obtain⟨e,h⟩:=h;subst e;cases r;exact assignInOrder_nil ⟨a,H,I,h⟩
theorem qfT{e:Expr}{es:010}{t:TG}{u:TGs}(c:PG X e t)(d:PGs X es u)(hs:(assignEach (e::es) X.env).map (·.2)=assign e X.env::(assignEach es X.env).map (·.2):=by rfl):PGs X (e::es) (gCons t u):=by
 intro pins s f H vs us Q I r h;obtain⟨v,m,e1,h⟩:=h;subst e1;cases r with
 |cons r i =>
  rw[hs];refine assignInOrder_cons (thn (c pins s f H _ _ _ I r h) λ_ s1 ⟨a,j,l,q1⟩=>?_);exact d pins s1 a j _ _ Q l i q1
noncomputable def gTup(K:009)(n:Nat)(t:TGs):TG:=λv c H Q=>∃a xs,v=.ref a/\SqT K H a xs/\xs.length=n/\t xs c H Q
theorem qkv{es:010}{k:Nat}{t:TGs}{n:Nat}(hc:017)(h:PGs X es t)(hn:(assignEach es X.env).length=n:=by rfl)(c:(assignEach es X.env).findIdx? (·.1)=none:=by rfl):PG X (.Tuple es k pos) (gTup X.K n t):=by
 intro pins s d H v u Q I r hw;obtain⟨a,xs,e1,i,hl,hw⟩:=hw;subst e1;cases r;obtain⟨j,f,l,q⟩:=I.tuple i;refine assign_Tuple_tuple (I.ok.hd hc) l (by simp[hn,<-hl,f.length]) c λh' m=>?_
 have p:Inv X pins d H {s with heap:=h' }:=I.kept (t':=s.toks) λb o e=>m b o (wg (wI e)) e
 exact h pins _ d H xs _ Q p (by simpa using f) hw
noncomputable def gSub(c ti:TE)(t:TSet):TG:=λv a H Q=>c a H λo d=>ti a d λi H2=>t o i v H2 λH3=>Q a H3
theorem qkw{o i:Expr}{f ti:TE}{t:TSet}(j:PE X o f)(hi:PE X i ti)(hs:PSet X t)(ha:∀v,assign (.Subscript o i pos) X.env v=(do
   let a <-holding [v] (eval o X.env)
   let c <-holding [v,a] (eval i X.env)
   standAt pos
   holding [v,a,c] (setItem a c v)
   release [v,a,c] []):=by intro _;rfl):PG X (.Subscript o i pos) (gSub f ti t):=by
 intro pins s d H v u Q I r h;rw[ha];refine wA (vQ (thn (j pins s d H _ I h) λa s1 ⟨x,l,m,n,q1⟩=>?_));refine wA (vQ (thn (hi pins s1 d l _ m q1) λc s2 ⟨y,H2,p,q,q2⟩=>?_));refine wA (vy (wA (vQ (thn (hs pins s2 d H2 x y v a c u _ p n q r q2) λ_ B ⟨H3,w,A⟩=>?_))));exact wpAny_release ⟨d,H3,w,A⟩
noncomputable def tAsg(c:TE)(g:TG):TS:=λD a H=>c a H λx d=>g x a d D.nx
theorem qkx{tg e:Expr}{a:TE}{g:TG}(d:PE X e a)(f:PG X tg g)(hs:swapsWithSole [tg] e pos.line X.env=pure false:=by rfl)(hw:swappedStores [tg] e X.env=pure none:=by rfl)(i:(assignEach [tg] X.env).map (·.2)=[assign tg X.env]:=by rfl):PS X (.Assign [tg] e pos) (tAsg a g):=by
 intro pins s c H D I h;refine wpAny_Assign_stores (thn (d pins s c H _ I h) λv s1 ⟨x,j,l,m,q1⟩=>?_) hs hw;rw[i];exact thn (f pins s1 c j x v _ l m q1) λ_ s2 q=>q
theorem qky{i:Nat}{x:Str}{e:Expr}{c:TE}{a:Pos}(d:X.N.Nodup)(hi:X.N[i]?=some x)(f:Loc X.env.scope x)(j:PE X e c)(hs:swapsWith e (some (.Name x a)) pos.line X.env=pure false:=by rfl)(l:X.fn x=true\/X.env.scope.names.lookup x=some .local:=by first|exact .inl rfl|exact .inr rfl|assumption):
  PS X (.Assign [.Name x a] e pos) (tAsg c (gName i)):=by
 intro pins s m H D I h;refine wpAny_Assign_Name (thn (j pins s m H _ I h) λv s1 ⟨y,n,o,p,q1⟩=>?_) hs;exact yL o d hi f p (λs2 q=>⟨_,n,q,q1⟩) l
noncomputable def tPar(i j:Nat)(c:TA):TS:=λD a H=>c a H λvs d=>∃v w,vs=[v,w]/\D.nx ((a.set i (some v)).set j (some w)) d
theorem qkz{i j:Nat}{x y:Str}{a b:Expr}{u:TA}{f l pt:Pos}{kt k2 pt2}(hc:017)(B:X.N.Nodup)(hi:X.N[i]?=some x)(L:X.N[j]?=some y)(m:i≠j)(C:X.env.scope.names.lookup x=some .local)(E:X.env.scope.names.lookup y=some .local)(ha:PA X [a,b] u)(hw:swappedStores [.Tuple [.Name x f,.Name y l] kt pt] (.Tuple [a,b] k2 pt2) X.env=pure (some [x,y]))(hs:swapsWithSole [.Tuple [.Name x f,.Name y l] kt pt] (.Tuple [a,b] k2 pt2) pos.line X.env=pure false:=by rfl):
  PS X (.Assign [.Tuple [.Name x f,.Name y l] kt pt] (.Tuple [a,b] k2 pt2) pos) (tPar i j u):=by
 intro pins s F H D I h;rw[exec_Assign_arm];refine wA (vy ?_);rw[hs];refine wA (wD ?_);rw[wT 01];refine wA (Tuple_ (thn (ha _ pins s F H _ I h) λus s1 ⟨vs,J,M,O,q1⟩=>?_));obtain⟨v,w,e1,q1⟩:=q1;subst e1;obtain⟨c,d,rfl,P,n⟩:∃c d,us=[c,d]/\RelV v c/\RelV w d:=by
  cases O with
  |cons p q =>
   cases q with
   |cons Q S =>
    cases S;exact⟨_,_,rfl,p,Q⟩
 refine wf ?_ (by show 2<=sizeLine;decide);have U:Inv X pins F J {s1 with heap:=s1.heap.push {cls:=.type "tuple",data:=.seq [c,d].toArray}}:=M.kept (t':=s1.toks) λb o e=>wB _ e
 rw[hw];refine wA (wD ?_);show wpAny 006 X.A (do rule "assign.swapped-stores";let items <-unpackItems (.ref s1.heap.objs.size) 2 none;assignInOrder [λv=>bindName X.env y v,λv=>bindName X.env x v] items.reverse;pure Flow.next) _ _ _;refine wA (ux (wA (unpackItems_tuple (items:=#[c,d]) (I.ok.hd hc) (IsTup.new s1.heap _) λh' r=>?_)));have W:=U.kept (h':=h') (t':=s1.toks) λb o e=>r b o (wg (wI e)) e
 show wpAny _ _ (assignInOrder [λv=>bindName X.env y v,λv=>bindName X.env x v] [d,c] >>= λ_=>pure Flow.next) _ _ _;refine wA (assignInOrder_cons (wpAny_bindName (yL W B L (.inl E) n (λs2 Y=>?_) (.inr E))));refine assignInOrder_cons (wpAny_bindName (yL Y B hi (.inl C) P (λZ K=>assignInOrder_nil (wD ?_)) (.inr C)));rw[List.set_comm _ _ (Ne.symm m)]at K;exact⟨_,J,K,q1⟩
end
section
variable{X:Cx}{pos:Pos}
noncomputable def tWhile(c:TT)(i:TS):TS:=λD a H=>∃W:Nat->St->Hp->Prop,(∃m,W m a H)/\∀m a H,W m a H ->
 c a H λb f=>if b=true then ∃N:St->Hp->Prop,(∀d H',N d H'->∃h,h<m/\W h d H')/\i {D with nx:=N,ct:=N,bk:=D.nx} a f else D.nx a f
theorem qfU{c:Expr}{body:List Stmt}{tc:TT}{q:TS}(r:PassesOwn 006 X.A X.env X.xe)(hc:PT X c tc)(hb:PSs X body q):PS X (.While c body [] pos) (tWhile tc q):=by
 intro pins s B H D I h;obtain⟨W,⟨m0,C⟩,turn⟩:=h;refine wpAny_While (codeAny_whileLoop (λn s'=>∃i H',Inv X pins i H' s'/\W n i H') ?_ m0 ⟨B,H,I,C⟩);rintro n s1 ⟨d,u,E,F⟩;refine u4 r (thn (hc pins s1 d u _ E (turn n d u F)) λb s2 ⟨H2,x,q2⟩=>?_);cases b with
 |true =>
  obtain⟨N,y,q2⟩:=q2;rw[wN rfl];refine u4 r (thn (hb pins s2 d H2 _ x q2) λf J j=>?_);cases f with
  |next =>
   obtain⟨a,H3,l,m⟩:=j;obtain⟨o,hm,p⟩:=y a H3 m;exact⟨o,hm,a,H3,l,p⟩
  |cont =>
   obtain⟨a,H3,l,m⟩:=j;obtain⟨o,hm,p⟩:=y a H3 m;exact⟨o,hm,a,H3,l,p⟩
  |brk=>exact j
  |ret v=>exact j
 |false =>
  rw[wT wd];exact xE ⟨d,H2,x,q2⟩
end
structure It where
 go:Nat->Hp->Prop
 yld:Nat->Hp->V->Hp->Prop
 stop:Nat->Hp->Prop
noncomputable def FpOk(X:Cx)(pins:011)(H:Hp)(b:Addr):Prop :=
 H b=none/\b≠X.env.locals/\b∉X.fs/\(b∈X.ex\/X.s₀.heap.objs.size<=b)/\(∀x c,X.env.cells.lookup x=some c->c≠b)/\∀p∈X.pn++pins,p.1≠b
def Inv.fpOk{X:Cx}{pins:011}{a:St}{H H':Hp}{s:09}{b:Addr}(I:Inv X pins a H s)(hb:s.heap.objs.size<=b)(hn:H' b=none):FpOk X pins H' b:=by
 refine⟨hn,vj (w6 I.lt hb),I.nofs hb,.inr (vF I.sz hb),λx c e z=>?_,λp d z=>?_⟩
 .obtain ⟨v,q⟩:=I.cell x c e
  exact absurd (w6 q.lt (by rw[z];exact hb)) (ve _)
 .exact absurd (w6 (wI (I.pin p d).1) (by rw[z];exact hb)) (ve _)
structure Turn (P:Program) (w:World) (K:009) (tg:Expr) (J:It) (fp:03) (it:Addr) (tn:Nat->Heap->Prop):Prop where
 mem:it∈fp
 obj:∀i h,tn i h->∀b∈fp,∃o,h.get? b=some o/\∀v,o.data≠.cell v
 keep:∀i h h',tn i h->(∀b∈fp,∀o,h.get? b=some o->h'.get? b=some o)->tn i h'
 item:∀(X:Cx),X.prog=P->X.w=w->X.K=K->X.calm=true->∀(i:Nat) (pins:011) (s:09) (σ:St) (H:Hp) (E:015),Inv X pins σ H s->(∀b∈fp,FpOk X pins H b)->tn i s.heap->J.go i H ->
  wpAny (model P w) X.A (pyNext (.ref it)) (λr s1=>∃u,r=some u /\
   wpAny (model P w) X.A (letOwnedTupleGo tg (.ref it) u) (λ_ s2=>∃x H',Inv X pins σ H' s2/\RelV x u/\J.yld i H x H'/\tn (i+1) s2.heap/\∀b∈fp,H' b=none) E s1) E s
 done:∀(X:Cx),X.prog=P->X.w=w->X.K=K->X.calm=true->∀(i:Nat) (pins:011) (s:09) (σ:St) (H:Hp) (E:015),Inv X pins σ H s->(∀b∈fp,FpOk X pins H b)->tn i s.heap->J.stop i H ->
  wpAny (model P w) X.A (pyNext (.ref it)) (λr s1=>r=none/\Inv X pins σ H s1) E s
 self:∀(A:Around) (i:Nat) (s:09) (Q:015) (E:015),tn i s.heap->Q (.ref it) s->wpAny (model P w) A (pyIter (.ref it)) Q E s
noncomputable abbrev TI:=St->Hp->(It->Hp->Prop)->Prop
noncomputable def PIE(X:Cx)(pins:011)(c:St)(tg:Expr)(R:It->Hp->Prop)(a:Value)(s2:09):Prop :=
 ∃(it:Addr) (fp:03) (tn:Nat->Heap->Prop) (J:It) (H':Hp),a=.ref it/\Inv X pins c H' s2/\Turn X.prog X.w X.K tg J fp it tn/\tn 0 s2.heap/\(∀b∈fp,FpOk X pins H' b)/\R J H'
noncomputable def PI(X:Cx)(tg iter:Expr)(c:TI):Prop :=
 ∀(pins:011) (s:09) (a:St) (H:Hp) (R:It->Hp->Prop),Inv X pins a H s->c a H R ->
  wpAny 006 X.A (eval iter X.env) (λv s1=>wpAny 006 X.A (pyIter v) (PIE X pins a tg R) X.xe s1) X.xe s
def qfV{M:Model}{A:Around}{E:015}{s:09}{tg:Expr}{it:Addr}{u:Value}{o:Obj}{n:String}{vs:028}{Q:Unit->Shared->Prop}(c:s.heap.get? it=some o)(hc:o.cls=.type n)(hd:o.data=.fields vs)(hn:["enumerate","zip","dict_itemiterator","dict_reverseitemiterator","odict_iterator","itertools.zip_longest","itertools.pairwise"].contains n=false)(a:Q () s):wpAny M A (letOwnedTupleGo tg (.ref it) u) Q E s:=by
 unfold letOwnedTupleGo;cases tg <;> first
  |exact wD a
  | (cases u <;> first
    |exact wD a
    | (refine wA (wpAny_load c ?_)
       rw[hc,hd];show wpAny M A (if(["enumerate","zip","dict_itemiterator","dict_reverseitemiterator","odict_iterator","itertools.zip_longest","itertools.pairwise"].contains n&&vs[0]? == some (rawInt _))=true then _ else _) Q E s;rw[wT (by intro h;rw[hn,vP]at h;cases h)];exact wD a))
noncomputable def Itl(K:009)(a:Addr):It :=
 ⟨λi H=>∃xs x,SqL K H a xs/\xs[i]?=some x,λi H x H'=>H'=H/\∀xs,SqL K H a xs->xs[i]?=some x,λi H=>∃xs,SqL K H a xs/\xs.length<=i⟩
noncomputable def Itt(K:009)(a:Addr):It :=
 ⟨λi H=>∃xs x,SqT K H a xs/\xs[i]?=some x,λi H x H'=>H'=H/\∀xs,SqT K H a xs->xs[i]?=some x,λi H=>∃xs,SqT K H a xs/\xs.length<=i⟩
def qe6{P:Program}{w:World}{K:009}{tg:Expr}(a it:Addr):Turn P w K tg (Itl K a) [it] it (λi h=>h.IsListIter it a i) where
 mem:=by simp
 obj:=λi h st b hb=>by
  have e:b=it:=by simpa using hb
  subst e;obtain⟨o,e,c,d⟩:=st;exact⟨o,e,λv z=>by rw[d]at z;cases z⟩
 keep:=λi h h' st k=>st.at λo e=>k it 07 o e
 item:=by
  intro X m hw n hc i pins s M H E I j st q;subst m hw n;obtain⟨xs,x,l,r⟩:=q;obtain⟨y,A,p,N⟩:=I.list l;obtain⟨u,O,Q⟩:=A.get r;obtain⟨B,C,S,F,J,L⟩:=j it 07;refine wpAny_pyNext_list_item st p.isList (x:=u) (by simpa using O) λh' f U=>?_
  have Y:Inv X pins M H {s with heap:=h' }:=I.turned (t':=s.toks) (λb o hb e=>(U.2 b hb).trans e) B C F J L;obtain⟨o,e,c,d⟩:=id f;exact⟨u,rfl,qfV (s:={s with heap:=h' }) e c d 01 ⟨x,H,Y,Q,⟨rfl,λys Z=>by rw[I.list_inj Z l];exact r⟩,f,λb hb=>(j b hb).1⟩⟩
 done:=by
  intro X m hw n hc i pins s M H E I j st q;subst m hw n;obtain⟨xs,l,r⟩:=q;obtain⟨y,A,p,N⟩:=I.list l;obtain⟨B,C,S,F,J,L⟩:=j it 07;have hl:=A.length;exact wpAny_pyNext_list_end (I.ok.hd hc) st p.isList 030 λh' eb=>⟨rfl,I.turned (t':=s.toks) (λb o hb e=>eb b o hb e) B C F J L⟩
 self:=λ_ _ _ _ _ st h=>wpAny_pyIter_listiter st h
def qdd{P:Program}{w:World}{K:009}{tg:Expr}(a it:Addr):Turn P w K tg (Itt K a) [it] it (λi h=>h.IsTupleIter it a i) where
 mem:=by simp
 obj:=λi h st b hb=>by
  have e:b=it:=by simpa using hb
  subst e;obtain⟨o,e,c,d⟩:=st;exact⟨o,e,λv z=>by rw[d]at z;cases z⟩
 keep:=λi h h' st k=>st.at λo e=>k it 07 o e
 item:=by
  intro X n hw q hc i pins s M H E I l st r;subst n hw q;obtain⟨xs,x,m,y⟩:=r;obtain⟨f,A,p,N⟩:=I.tuple m;obtain⟨u,O,Q⟩:=A.get y;obtain⟨B,C,S,F,J,L⟩:=l it 07;refine wpAny_pyNext_tuple_item st (show s.heap.IsTuple a f.toArray from p) (x:=u) (by simpa using O) λh' j U=>?_
  have Y:Inv X pins M H {s with heap:=h' }:=I.turned (t':=s.toks) (λb o hb e=>(U.2 b hb).trans e) B C F J L;obtain⟨o,e,c,d⟩:=id j;exact⟨u,rfl,qfV (s:={s with heap:=h' }) e c d 01 ⟨x,H,Y,Q,⟨rfl,λys Z=>by rw[I.tuple_inj Z m];exact y⟩,j,λb hb=>(l b hb).1⟩⟩
 done:=by
  intro X n hw q hc i pins s M H E I l st r;subst n hw q;obtain⟨xs,m,y⟩:=r;obtain⟨f,A,p,N⟩:=I.tuple m;obtain⟨B,C,S,F,J,L⟩:=l it 07;have hl:=A.length;exact wpAny_pyNext_tuple_end (I.ok.hd hc) st (show s.heap.IsTuple a f.toArray from p) 030 λh' eb=>⟨rfl,I.turned (t':=s.toks) (λb o hb e=>eb b o hb e) B C F J L⟩
 self:=λ_ _ _ _ _ st h=>wpAny_pyIter_tupleiter st h
section
variable{X:Cx}{tg:Expr}
noncomputable def tFor(h:TI)(g:TG)(j:TS):TS:=λD a H=>h a H λJ l=>∃W:Nat->Nat->St->Hp->Prop,(∃m,W 0 m a l)/\∀i m a H,W i m a H ->
 (J.stop i H/\D.nx a H)\/(J.go i H/\∃N:St->Hp->Prop,(∀c H',N c H'->∃f,f<m/\W (i+1) f c H')/\∀x H',J.yld i H x H'->g x a H' λd H2=>j {D with nx:=N,ct:=N,bk:=D.nx} d H2)
noncomputable def pinsAt(fp:03)(h:Heap):List (Addr×Obj):=fp.filterMap λb=>(h.get? b).map λo=>(b,o)
theorem zu{fp:03}{h:Heap}{b:Addr}{o:Obj}(hb:b∈fp)(e:h.get? b=some o):(b,o)∈pinsAt fp h:=List.mem_filterMap.mpr ⟨b,hb,by rw[e];rfl⟩
theorem qe7{fp:03}{h:Heap}{p:Addr×Obj}(a:p∈pinsAt fp h):p.1∈fp/\h.get? p.1=some p.2:=by
 obtain⟨b,hb,e⟩:=List.mem_filterMap.mp a;cases q:h.get? b with
 |none=>rw[q]at e;cases e
 |some o =>
  rw[q]at e;have e':(b,o)=p:=Option.some.inj e;subst e';exact⟨hb,q⟩
theorem Inv.pinned{pins:011}{a:St}{H:Hp}{s:09}{fp:03}(I:Inv X pins a H s)(c:∀b∈fp,FpOk X pins H b)(f:∀b∈fp,∃o,s.heap.get? b=some o/\∀v,o.data≠.cell v):Inv X (pins++pinsAt fp s.heap) a H s :=
 I.pins_of λp h=>(wa.mp h).elim (λz=>I.pin p (w9 _ z)) λz=>by
  obtain⟨hb,e⟩:=qe7 z;obtain⟨i,j,l,_⟩:=c p.1 hb;obtain⟨o,e',d⟩:=f p.1 hb;rw[e]at e';cases e';exact⟨e,i,j,l,d⟩
theorem Inv.unpinned{pins pl:011}{a:St}{H:Hp}{s:09}(I:Inv X (pins++pl) a H s):Inv X pins a H s:=I.pins_of λp c=>I.pin p (w9 _ (wu _ c))
theorem qkA{iter:Expr}{body:List Stmt}{Y:TI}{g:TG}{Z:TS}{pos:Pos}(E:PassesOwn 006 X.A X.env X.xe)(hc:017)(hi:PI X tg iter Y)(hg:PG X tg g)(hb:PSs X body Z)(hs:044:=by intro _;rfl):PS X (.For tg iter body [] pos) (tFor Y g Z):=by
 intro pins s σ H D I h;refine wpAny_For (thn (hi pins s σ H _ I h) λv s1 h1=>thn h1 λa0 s2 h2=>?_) hs;obtain⟨it,fp,tn,J,H2,e,I2,T,M,f2,W,⟨m0,w0⟩,turn⟩:=h2;subst e;have c:∀{H':Hp},(∀b∈fp,H' b=none)->∀b∈fp,FpOk X pins H' b:=λhn b hb=>⟨hn b hb,(f2 b hb).2⟩
 refine codeAny_forLoop_any (λn s'=>∃i j H',Inv X pins j H' s'/\tn i s'.heap/\(∀b∈fp,H' b=none)/\W i n j H') ?_ m0 ⟨0,σ,H2,I2,M,λb hb=>(f2 b hb).1,w0⟩;rintro n s3 ⟨i,l,H3,I3,F,K,w3⟩;rcases turn i n l H3 w3 with ⟨stop,qn⟩|⟨go,N,hN,step⟩
 .refine u4 E (thn (T.done X rfl rfl rfl hc i pins s3 l H3 X.xe I3 (c K) F stop) λr s4 ⟨O,I4⟩=>?_)
  subst O;exact xE ⟨l,H3,I4,qn⟩
 .refine u4 E (thn (T.item X rfl rfl rfl hc i pins s3 l H3 X.xe I3 (c K) F go) λr s4 ⟨u,O,h4⟩=>?_)
  subst O;refine u4 E (thn h4 λ_ s5 ⟨x,H5,I5,r5,y5,C,P⟩=>?_);have Q:=I5.pinned (c P) (T.obj _ _ C);refine u4 E (thn (hg _ s5 l H5 x u _ Q r5 (step x H5 y5)) λ_ s6 ⟨S,H6,I6,q6⟩=>?_);refine u4 E (thn (hb _ s6 S H6 _ I6 q6) λf U B=>?_);have p:∀{a:St} {q:Hp},Inv X (pins++pinsAt fp s5.heap) a q U->N a q->∃m,m<n/\∃i j H',Inv X pins j H' U/\tn i U.heap/\(∀b∈fp,H' b=none)/\W i m j H':=λ{a q} y L=>by
   obtain⟨m',hm,w7⟩:=hN a q L;refine⟨m',hm,i+1,a,q,y.unpinned,T.keep _ _ _ C λb hb o e=>(y.pin (b,o) (w9 _ (w9 _ (zu hb e)))).1,λb hb=>?_,w7⟩;obtain⟨o,e,d⟩:=T.obj _ _ C b hb;exact(y.pin (b,o) (w9 _ (w9 _ (zu hb e)))).2.1
  cases f with
  |next=>obtain⟨a,q,y,L⟩:=B;exact p y L
  |cont=>obtain⟨a,q,y,L⟩:=B;exact p y L
  |brk=>obtain⟨a,q,y,B⟩:=B;exact⟨a,q,y.unpinned,B⟩
  |ret v=>obtain⟨x7,a,q,y,r7,B⟩:=B;exact⟨x7,a,q,y.unpinned,r7,B⟩
end
noncomputable abbrev R2:=V->V->Hp->VK->Prop
noncomputable def OpR(X:Cx)(f:Value->Value->Sem Value)(r:R2):Prop :=
 ∀(pins:011) (s:09) (a:St) (H:Hp) (x y:V) (v u:Value) (Q:VK),Inv X pins a H s->RelV x v->RelV y u->r x y H Q ->
  wpAny 006 X.A (f v u) (EP X pins a Q) X.xe s
noncomputable def UnR(X:Cx)(f:Value->Sem Value)(r:V->Hp->VK->Prop):Prop :=
 ∀(pins:011) (s:09) (a:St) (H:Hp) (x:V) (v:Value) (Q:VK),Inv X pins a H s->RelV x v->r x H Q ->
  wpAny 006 X.A (f v) (EP X pins a Q) X.xe s
noncomputable def CallR(X:Cx)(f:Value)(r:List V->Hp->VK->Prop):Prop :=
 ∀(pins:011) (s:09) (a:St) (H:Hp) (xs:List V) (us:005) (Q:VK),Inv X pins a H s->Vals xs us->r xs H Q ->
  wpAny 006 X.A (call f us) (EP X pins a Q) X.xe s
noncomputable def TruR(X:Cx)(r:V->Hp->(Bool->Hp->Prop)->Prop):Prop :=
 ∀(pins:011) (s:09) (a:St) (H:Hp) (x:V) (v:Value) (Q:Bool->Hp->Prop),Inv X pins a H s->RelV x v->r x H Q ->
  wpAny 006 X.A (truthy v) (TP X pins a Q) X.xe s
noncomputable def tOp(r:R2)(c d:TE):TE:=λa H Q=>c a H λx f=>d a f λy H2=>r x y H2 Q
noncomputable def tUn(r:V->Hp->VK->Prop)(a:TE):TE:=λc H Q=>a c H λx d=>r x d Q
noncomputable def rI(C:Int->Int->Prop)(g:Int->Int->V):R2:=λx y H Q=>∃i j,x=.int i/\y=.int j/\C i j/\Q (g i j) H
noncomputable def rI0(g:Int->Int->V):R2:=λx y H Q=>∃i j,x=.int i/\y=.int j/\Q (g i j) H
def rU(g:Int->V):V->Hp->VK->Prop:=λx H Q=>∃i,x=.int i/\Q (g i) H
section
variable{X:Cx}{a b c:Expr}{ta tb tc:TE}{pos:Pos}
theorem binT(ha:PE X a ta)(hb:PE X b tb){pins:011}{s:09}{d:St}{H:Hp}{R:V->V->Hp->Prop}(I:Inv X pins d H s)(h:ta d H λx l=>tb d l λy H2=>R x y H2){Q:015}{f:Value->Value->Sem Value}(m:∀v u s2 x y H2,Inv X pins d H2 s2->RelV x v->RelV y u->R x y H2->wpAny 006 X.A (f v u) Q X.xe s2):
  wpAny 006 X.A (eval a X.env) (λv i=>wpAny 006 X.A (eval b X.env) (λu j=>wpAny 006 X.A (f v u) Q X.xe j) X.xe i) X.xe s:=by
 refine thn (ha pins s d H _ I h) λv s1 ⟨x,l,n,o,q1⟩=>?_
 refine thn (hb pins s1 d l _ n q1) λu s2 ⟨y,H2,p,q,q2⟩=>?_
 exact m v u s2 x y H2 p o q q2
theorem ql8{op:Operator}{r:R2}(d:OpR X (binaryOp op) r)(ha:PE X a ta)(hb:PE X b tb):PE X (.BinOp a op b pos) (tOp r ta tb):=by
 intro pins s f H Q I h;exact wpAny_BinOp (binT ha hb I h λv u s2 x y H2 i j l q=>d pins s2 f H2 x y v u Q i j l q)
theorem ql9{op:UnaryOp}{r:V->Hp->VK->Prop}(f:UnR X (unaryOp op) r)(ha:PE X a ta):PE X (.UnaryOp op a pos) (tUn r ta):=by
 intro pins s d H Q I h;exact UnaryOp_ (thn (ha pins s d H _ I h) λv s1 ⟨x,i,j,l,q1⟩=>f pins s1 d i x v Q j l q1)
theorem opB0{f:Value->Value->Sem Value}{g:Int->Int->Bool}(d:∀(i j:Int) (t u:Tok) (s:09) (Q:015) (E:015),Q (.bool (g i j)) s->wpAny 006 X.A (f (.int i t) (.int j u)) Q E s):
  OpR X f (rI0 λi j=>.bl (g i j)):=by
 intro pins s n H x y v u Q I l m h;obtain⟨i,j,rfl,rfl,q⟩:=h;obtain⟨t,rfl⟩:=l;obtain⟨t',rfl⟩:=m;exact d i j t t' s _ _ ⟨.bl (g i j),H,I,rfl,q⟩
theorem unI{f:Value->Sem Value}{g:Int->Int}(d:∀(i:Int) (t:Tok) (s:09) (Q:015) (E:015),Q (.int (g i) s.toks) {s with toks:=s.toks+1}->wpAny 006 X.A (f (.int i t)) Q E s):
  UnR X f (rU λi=>.int (g i)):=by
 intro pins s l H x v Q I j h;obtain⟨i,rfl,q⟩:=h;obtain⟨t,rfl⟩:=j;exact d i t s _ _ ⟨.int (g i),H,I.tok _,⟨_,rfl⟩,q⟩
theorem qkC:UnR X (unaryOp .USub) (rU λi=>.int (-i)):=unI λ_ _ _ _ _ q=>neg_int q
end
section
variable{X:Cx}{a b c:Expr}{ta tb tc:TE}{pos:Pos}
theorem qfW{pins:011}{d:St}{H:Hp}{s:09}{Q:VK}{k f:Bool}(I:Inv X pins d H s)(q:Q (.bl k) H)(e:k=f):EP X pins d Q (.bool f) s:=by
 subst e;exact⟨.bl k,H,I,rfl,q⟩
theorem qma:OpR X (compareOp .Lt) (rI0 λi j=>.bl (decide (i<j))):=opB0 λ_ _ _ _ _ _ _ q=>lt_int q
theorem qmb:OpR X (compareOp .LtE) (rI0 λi j=>.bl (decide (i<=j))):=opB0 λ_ _ _ _ _ _ _ q=>le_int q
theorem qmc:OpR X (compareOp .Gt) (rI0 λi j=>.bl (decide (j<i))):=opB0 λ_ _ _ _ _ _ _ q=>gt_int q
theorem qmd:OpR X (compareOp .GtE) (rI0 λi j=>.bl (decide (j<=i))):=opB0 λ_ _ _ _ _ _ _ q=>ge_int q
theorem qkD:OpR X (compareOp .Is) (λx y H Q=>y=.non/\Q (.bl (decide (x=.non))) H):=by
 intro pins s i H x y v u Q I d f h;obtain⟨rfl,q⟩:=h;cases f;refine is_none_gen (qfW I q ?_);cases x <;> first
  | (cases d;rfl)
  | (obtain⟨t,rfl⟩:=d;rfl)
theorem qin{op:CmpOp}{r:R2}(d:OpR X (compareOp op) r)(ha:PE X a ta)(hb:PE X b tb)(hm:behindInMarks op b=false):PE X (.Compare a [op] [b] pos) (tOp r ta tb):=by
 intro pins s f H Q I h;exact wpAny_Compare1 (binT ha hb I h λv u s2 x y H2 i j l q=>d pins s2 f H2 x y v u Q i j l q) hm
noncomputable def tTest(t:TE):TT:=λd H Q=>t d H λx H'=>∃k,x=.bl k/\Q k H'
theorem qio{op:CmpOp}{r:R2}(f:OpR X (compareOp op) r)(ha:PE X a ta)(hb:PE X b tb)(hm:behindInMarks op b=false):PT X (.Compare a [op] [b] pos) (tTest (tOp r ta tb)):=by
 intro pins s d H Q I h;refine wpAny_isTrue_Compare1 (thn (ha pins s d H _ I h) λv s1 ⟨x,i,j,l,q1⟩=>thn (hb pins s1 d i _ j q1) λu s2 ⟨y,H2,m,n,q2⟩ =>
  thn (f pins s2 d H2 x y v u _ m l n q2) λc w ⟨z,H3,o,p,k,e,q⟩=>?_) hm
 subst e;cases p;exact vl ⟨H3,o,q⟩
noncomputable def tChain(r f:R2)(ta tb tc:TE):TE:=λd H Q=>ta d H λx h=>tb d h λy H2=>r x y H2 λz H3=>∃k,z=.bl k /\
 (if k=true then tc d H3 λi j=>f y i j Q else Q (.bl false) H3)
theorem qfX{op f:CmpOp}{r l:R2}(p:OpR X (compareOp op) r)(j:OpR X (compareOp f) l)(ha:PE X a ta)(hb:PE X b tb)(hc:PE X c tc)(hm:lastMarks [op,f] [b,c]=false:=by with_unfolding_all rfl):PE X (.Compare a [op,f] [b,c] pos) (tChain r l ta tb tc):=by
 intro pins s i H Q I h;refine Compare_chain (thn (ha pins s i H _ I h) λv s1 ⟨x,q,w,A,q1⟩=>chain_link (thn (hb pins s1 i q _ w q1) λu s2 ⟨y,H2,B,m,q2⟩ =>
  thn (p pins s2 i H2 x y v u _ B A m q2) λd C ⟨z,H3,n,E,k,e,o⟩=>?_)) hm
 subst e;cases E;refine vl ?_;cases k with
 |false=>exact ite_ff ⟨.bl false,H3,n,rfl,o⟩
 |true=>exact ite_tt (chain_last (thn (hc pins C i H3 _ n o) λF J ⟨K,L,M,N,O⟩=>j pins J i L y K u F Q M m N O))
theorem qfY{op f:CmpOp}{r l:R2}(p:OpR X (compareOp op) r)(j:OpR X (compareOp f) l)(ha:PE X a ta)(hb:PE X b tb)(hc:PE X c tc)(hm:lastMarks [op,f] [b,c]=false:=by with_unfolding_all rfl):PT X (.Compare a [op,f] [b,c] pos) (tTest (tChain r l ta tb tc)):=by
 intro pins s i H Q I h;refine isTrue_chain (thn (ha pins s i H _ I h) λv s1 ⟨x,q,w,A,q1⟩=>test_link (thn (hb pins s1 i q _ w q1) λu s2 ⟨y,H2,B,m,q2⟩ =>
  thn (p pins s2 i H2 x y v u _ B A m q2) λd C ⟨z,H3,n,E,k,e,o⟩=>?_)) hm
 subst e;cases E;refine vl ?_;cases k with
 |false =>
  obtain⟨Z,e',F⟩:=o;cases e';exact ite_ff ⟨H3,n,F⟩
 |true =>
  refine ite_tt (test_last (thn (hc pins C i H3 _ n o) λJ K ⟨L,M,N,O,P⟩=>thn (j pins K i M y L u J _ N m O P) λd' s5 ⟨z2,S,U,W,k2,e2,Y⟩=>?_));subst e2;cases W;exact vl ⟨S,U,Y⟩
noncomputable def TruV(K:009)(x:V)(H:Hp)(k:Bool):Prop :=
 match x with
 | .non=>k=false
 | .bl b=>k=b
 | .int i=>k=(i != 0)
 | .str y=>y.length<=sizeLine/\k=((y.length:Int) != 0)
 | .byt y=>y.size<=sizeLine/\k=((y.size:Int) != 0)
 | .ref p=>(∃xs,SqL K H p xs/\k=!xs.isEmpty)\/(∃xs,SqT K H p xs/\k=!xs.isEmpty)\/∃kvs,H p=some (.dK kvs)/\k=!kvs.isEmpty
 |_=>False
theorem qdf{κ:Type}{kvs:List (κ×V)}{vs:List (κ×Value)}(r:KV kvs vs):(!vs.isEmpty)=!kvs.isEmpty:=by
 cases r <;> rfl
theorem qar{xs:List V}{d:005}(r:Vals xs d):(!d.toArray.isEmpty)=!xs.isEmpty:=by
 cases r <;> simp
theorem line63:(sizeLine:Nat)<2^63:=by rw[vm];decide
theorem qkE:TruR X (λx H Q=>∃k,TruV X.K x H k/\Q k H):=by
 intro pins s A H x v Q I f h;obtain⟨k,e,q⟩:=h;have hl:=line63;have hs:sizeLine=16777216:=vm;cases x with
 |non =>
  cases f;have e':k=false:=e;subst e';exact truthy_none ⟨H,I,q⟩
 |bl b =>
  cases f;have e':k=b:=e;subst e';exact vl ⟨H,I,q⟩
 |int i =>
  obtain⟨t,rfl⟩:=f;have e':k=(i != 0):=e;subst e';exact PySem.P.truthy_int ⟨H,I,q⟩
 |str y =>
  obtain⟨t,rfl⟩:=f;obtain⟨o,e'⟩:y.length<=sizeLine/\k=((y.length:Int) != 0):=e;subst e';exact PySem.P.truthy_str 00 ⟨H,I.tok _,q⟩
 |byt y =>
  obtain⟨t,rfl⟩:=f;obtain⟨o,e'⟩:y.size<=sizeLine/\k=((y.size:Int) != 0):=e;subst e';exact PySem.W.truthy_bytes 00 ⟨H,I.tok _,q⟩
 |ref p =>
  cases f;have e':(∃xs,SqL X.K H p xs/\k=!xs.isEmpty)\/(∃xs,SqT X.K H p xs/\k=!xs.isEmpty)\/∃kvs,H p=some (.dK kvs)/\k=!kvs.isEmpty:=e;rcases e' with ⟨xs,j,e'⟩|⟨xs,j,e'⟩|⟨kvs,j,e'⟩
  .subst e'
   obtain⟨l,r,pl,n⟩:=I.list j;have d:=r.length;exact wpAny_truthy_list pl.isList (by simp only[wO];lia) ⟨H,I.tok _,by rw[qar r];exact q⟩
  .subst e'
   obtain⟨l,r,pl,n⟩:=I.tuple j;have d:=r.length;exact truthy_tuple pl (by simp only[wO];lia) ⟨H,I.tok _,by rw[qar r];exact q⟩
  .subst e'
   obtain⟨n,u,vs,r,m⟩:kvs.length<=sizeLine/\(p == sysModules)=false/\∃vs,KV kvs vs/\s.heap.DictOf (mixKind X.prog X.w) p vs:=I.hok p _ j;have d:kvs.length=vs.length:=Paired.length r;exact wpAny_truthy_dict u m 00 ⟨H,I.tok _,by rw[qdf r];exact q⟩
 |_=>exact(show False from e).elim
theorem qck(ha:PE X a ta)(i:∀d,isTrue a X.env d=(do let v <-d;standAt a.pos;holding [v] (truthy v))):
  PT X a (λf H Q=>ta f H λx H'=>∃k,TruV X.K x H' k/\Q k H'):=by
 intro pins s f H Q I h;exact isTrue_plain (thn (ha pins s f H _ I h) λv s1 ⟨x,j,l,m,q1⟩=>qkE pins s1 f j x v Q l m q1) (i _)
theorem vals1{x:V}{us:005}(r:Vals [x] us):∃u,us=[u]/\RelV x u:=by
 cases r with
 |cons d f=>cases f;exact⟨_,rfl,d⟩
theorem vals2{x y:V}{us:005}(r:Vals [x,y] us):∃u d,us=[u,d]/\RelV x u/\RelV y d:=by
 cases r with
 |cons f h =>
  cases h with
  |cons i j=>cases j;exact⟨_,_,rfl,f,i⟩
theorem qfZ:CallR X (.builtin "abs") (λxs H Q=>∃i,xs=[.int i]/\Q (.int (if i<0 then -i else i)) H):=by
 intro pins s d H xs us Q I r h;obtain⟨i,rfl,q⟩:=h;obtain⟨u,rfl,t,rfl⟩:=vals1 r;exact call_abs_int λu tk=>⟨.int (if i<0 then -i else i),H,I.tok _,⟨_,rfl⟩,q⟩
theorem qe8(hc:017):CallR X (.builtin "max") (λxs H Q=>∃i j,xs=[.int i,.int j]/\Q (.int (if j>i then j else i)) H):=by
 intro pins s f H xs us Q I r h;obtain⟨i,j,rfl,q⟩:=h;obtain⟨u,l,rfl,⟨t,rfl⟩,⟨t',rfl⟩⟩:=vals2 r;refine max_two_ints (I.ok.hd hc) λh' tk k=>⟨_,H,I.kept k,?_,q⟩
 by_cases d:j>i
 .rw [wN d,wN d];exact⟨_,rfl⟩
 .rw [wT d,wT d];exact⟨_,rfl⟩
theorem qe9(hc:017):CallR X (.builtin "min") (λxs H Q=>∃i j,xs=[.int i,.int j]/\Q (.int (if j<i then j else i)) H):=by
 intro pins s f H xs us Q I r h;obtain⟨i,j,rfl,q⟩:=h;obtain⟨u,l,rfl,⟨t,rfl⟩,⟨t',rfl⟩⟩:=vals2 r;refine min_two_ints (I.ok.hd hc) λh' tk k=>⟨_,H,I.kept k,?_,q⟩
 by_cases d:j<i
 .rw [wN d,wN d];exact⟨_,rfl⟩
 .rw [wT d,wT d];exact⟨_,rfl⟩
noncomputable def LenV(K:009)(x:V)(H:Hp)(n:Nat):Prop :=
 match x with
 | .str y=>y.length<=sizeLine/\n=y.length
 | .byt y=>y.size<=sizeLine/\n=y.size
 | .ref p=>(∃xs,SqL K H p xs/\n=xs.length)\/∃xs,SqT K H p xs/\n=xs.length
 |_=>False
theorem qf0:CallR X (.builtin "len") (λxs H Q=>∃x n,xs=[x]/\LenV X.K x H n/\Q (.int n) H):=by
 intro pins s v H xs us Q I r h;obtain⟨x,n,rfl,e,q⟩:=h;obtain⟨u,rfl,f⟩:=vals1 r;have hl:=line63;have hs:sizeLine=16777216:=vm;cases x with
 |str y =>
  obtain⟨t,rfl⟩:=f;obtain⟨m,e'⟩:y.length<=sizeLine/\n=y.length:=e;subst e';exact len_str 00 ⟨.int _,H,I.tok _,⟨_,rfl⟩,q⟩
 |byt y =>
  obtain⟨t,rfl⟩:=f;obtain⟨m,e'⟩:y.size<=sizeLine/\n=y.size:=e;subst e';exact PySem.W.len_bytes 00 ⟨.int _,H,I.tok _,⟨_,rfl⟩,q⟩
 |ref p =>
  cases f;have e':(∃xs,SqL X.K H p xs/\n=xs.length)\/∃xs,SqT X.K H p xs/\n=xs.length:=e;rcases e' with ⟨xs,i,e'⟩|⟨xs,i,e'⟩
  .subst e'
   obtain⟨j,l,pl,o⟩:=I.list i;have d:=l.length;exact Calls.call_len_list pl.isList (by simp only[wO];lia) ⟨.int xs.length,H,I.tok _,⟨_,by simp only[wO];rw[d]⟩,q⟩
  .subst e'
   obtain⟨j,l,pl,o⟩:=I.tuple i;have d:=l.length;exact len_tuple pl (by simp only[wO];lia) ⟨.int xs.length,H,I.tok _,⟨_,by simp only[wO];rw[d]⟩,q⟩
 |_=>exact(show False from e).elim
end
structure ObjM (h:Heap) (x dx C:Addr) (mA:025):Prop where
 obj:h.get? x=some (PySem.W.instObj C dx)
 ns:h.Ns1 dx mA
 ne:dx≠x
def qfa{h:Heap}{dx:Addr}{mA:025}(n:h.Ns1 dx mA):∃od,h.get? dx=some od/\∀name,PySem.W.lookIn name od=some (mA name):=by
 obtain⟨o,es,l,d,hd,f,_,hm⟩:=n;refine⟨o,d,λname=>?_⟩;have e:=hm name;unfold nsFind findBy at e;rw[<-Array.find?_toList]at e;unfold PySem.W.lookIn;rw[hd];dsimp only;split
 .rename_i y q
  rw[q]at e;exact congrArg some e
 .rename_i q
  rw[q]at e;have a:es.toList.any (·.refKey)=false:=by
   rw[List.any_eq_false];intro y i;obtain⟨z,t,c⟩:=f y (Array.mem_toList_iff.mp i);simp[DictEntry.refKey,c]
  have j:¬es.toList.any (·.refKey)=true:=by rw[a];exact wd
  rw[wT j];exact congrArg some e
def ObjM.look{h:Heap}{x dx C:Addr}{mA:025}(I:ObjM h x dx C mA):∃od,PySem.W.InstAt h x (PySem.W.instObj C dx) C (some od)/\∀name,PySem.W.lookIn name od=some (mA name) :=
 let ⟨od,a,hl⟩:=qfa I.ns
 ⟨od,⟨I.obj,rfl,rfl,a⟩,hl⟩
def RelO.some_of{v:V}{o:Option Value}(r:RelO (some v) o):∃u,o=some u/\RelV v u:=by
 cases o with
 |none=>exact(show False from r).elim
 |some u=>exact⟨u,rfl,r⟩
structure Cls (K:009) (C:Addr):Prop where
 pg:PySem.W.plainGet K C Str.empty=true
 hd:PySem.W.hasDictIn K C=true
 po:PySem.W.plainOver K C=true
 sa:PySem.W.findIn K (.ref C) "__setattr__"=some (some (.builtin "object.__setattr__"))
def Cls.get{K:009}{C:Addr}(c:Cls K C)(f:Str):PySem.W.plainGet K C f=true:=c.pg
section
variable{X:Cx}{pins:List (Addr×Obj)}{σ:St}{H:Hp}{s:Shared}{A:Around}{E:Value->Shared->Prop}{Q:Value->Shared->Prop}{c:Value}{b:Bool}
inductive TyOf (K:009) (H:Hp):V->Value->Prop where
 |non:TyOf K H .non (.type "NoneType")
 |bl (x:Bool):TyOf K H (.bl x) (.type "bool")
 |int (i:Int):TyOf K H (.int i) (.type "int")
 |str (x:Str):TyOf K H (.str x) (.type "str")
 |l {a:Addr} {xs:List V} (e:H a=some (.l xs)):TyOf K H (.ref a) (.type "list")
 |frz {a:Addr} {o:Obj} {xs:List V} (e:H a=some (.frz o (.l xs))):TyOf K H (.ref a) (.type "list")
 |t {a:Addr} {xs:List V} (e:H a=some (.t xs)):TyOf K H (.ref a) (.type "tuple")
 |dK {a:Addr} {kvs:List (Key×V)} (e:H a=some (.dK kvs)):TyOf K H (.ref a) (.type "dict")
theorem qfb{x:V}{u t:Value}(I:016)(d:RelV x u)(ty:TyOf X.K H x t)(e:PySem.W.kitOne X.K t c=some b)(h:∀tk,Q (.bool b) {s with toks:=tk}):
  wpAny 006 A (call (.builtin "isinstance") [u,c]) Q E s:=by
 cases ty with
 |non=>cases (show u=Value.none from d);exact vY PySem.W.kitx_none I.kIn True.intro e (λz=>nomatch z) h
 |bl y=>cases (show u=Value.bool y from d);exact vY PySem.W.kitx_bool I.kIn True.intro e (λz=>nomatch z) h
 |int i=>obtain⟨t,q⟩:=(show ∃t,u=Value.int i t from d);cases q;exact vY PySem.W.kitx_int I.kIn True.intro e (λz=>nomatch z) h
 |str y=>obtain⟨t,q⟩:=(show ∃t,u=Value.str y t from d);cases q;exact vY PySem.W.kitx_str I.kIn True.intro e (λz=>nomatch z) h
 | @l a xs f =>
  cases (show u=Value.ref a from d);obtain⟨_,_,n,_,j⟩:=(show ObjOk X.prog X.w H s.heap a (.l xs)from I.hok a _ f);exact vY PySem.W.kitx_list I.kIn ⟨_,j,rfl⟩ e (λz=>nomatch z) h
 | @frz a ob xs f =>
  cases (show u=Value.ref a from d);obtain⟨_,_,_,n,_,j⟩:=(show ObjOk X.prog X.w H s.heap a (.frz ob (.l xs))from I.hok a _ f);exact vY PySem.W.kitx_list I.kIn ⟨_,j,rfl⟩ e (λz=>nomatch z) h
 | @t a xs f =>
  cases (show u=Value.ref a from d);obtain⟨_,_,_,p,_⟩:=(show ObjOk X.prog X.w H s.heap a (.t xs)from I.hok a _ f);obtain⟨o,j,l,_⟩:=p;exact vY PySem.W.kitx_tuple I.kIn ⟨o,j,l⟩ e (λz=>nomatch z) h
 | @dK a kvs f =>
  cases (show u=Value.ref a from d);obtain⟨_,_,vs,_,p⟩:=(show ObjOk X.prog X.w H s.heap a (.dK kvs)from I.hok a _ f);obtain⟨o,es,m,j,l,_⟩:=p;exact vY PySem.W.kitx_dict I.kIn ⟨o,j,l.1⟩ e (λz=>nomatch z) h
end
structure Room (k:Nat) (A:Around):Prop where
 hd:A.handled=none
 dp:A.depth+3*k+5<recursionLimit
 un:A.units+16*k+200<cLine
def Room.mono{j k:Nat}{A:Around}(r:Room k A)(h:j<=k):Room j A:=⟨r.hd,by have:=r.dp;lia,by have:=r.un;lia⟩
def Room.deeper{k:Nat}{A:Around}(r:Room (k+1) A)(env:Env):Room k (A.deeper env) :=
 ⟨r.hd,by have:=r.dp;show A.depth+1+3*k+5<_;lia,by have:=r.un;show A.units+3+16*k+200<_;lia⟩
def Room.depth{k:Nat}{A:Around}(r:Room k A):A.depth<recursionLimit:=by have:=r.dp;lia
def Room.units{k:Nat}{A:Around}(r:Room k A):A.units+64<cLine:=by have:=r.un;lia
noncomputable def tNil:TA:=λ_ H Q=>Q [] H
noncomputable def tCons(c:TE)(tr:TA):TA:=λa H Q=>c a H λx d=>tr a d λxs H2=>Q (x::xs) H2
section
variable{X:Cx}{e:Expr}{es:List Expr}{te:TE}{t:TA}{pos:Pos}
theorem jo:PA X [] tNil:=λ_ _ _ _ H Q I h=>uz ⟨[],H,I,.nil,h⟩
theorem yf(ha:PE X e te)(c:PA X es t)(hs:sE X e es:=by rfl):PA X (e::es) (tCons te t):=by
 intro pos pins s a H Q I h;rw[hs];show wpAny _ _ (spliced ((false,eval e X.env)::backTo pos (starEach es X.env))) _ _ s;refine uM (thn (ha pins s a H _ I h) λu s1 ⟨x,d,f,i,q1⟩=>?_);exact thn (c pos pins s1 a d _ f q1) λus s2 ⟨xs,H2,j,l,q2⟩=>⟨x::xs,H2,j,.cons i l,q2⟩
noncomputable def tTup(t:TA):TE:=λc H Q=>t c H λxs a=>xs.length<=sizeLine/\∀p,a p=none->Q (.ref p) (upd a p (.t xs))
noncomputable def tLst(t:TA):TE:=λc H Q=>t c H λxs a=>xs.length<=sizeLine/\∀p,a p=none->Q (.ref p) (upd a p (.l xs))
theorem qkF{x1}(h:PA X es t):PE X (.Tuple es x1 pos) (tTup t):=by
 intro pins s d H Q I f;refine wpAny_Tuple_spliced (thn (h pos pins s d H _ I f) λus s1 ⟨xs,a,c,r,z,q⟩=>⟨by rw[<-r.length];exact z,?_⟩);have i:a s1.heap.objs.size=none:=c.hok.fresh (wH _);refine⟨.ref s1.heap.objs.size,upd a s1.heap.objs.size (.t xs),c.laid (t':=s1.toks) (λb u e=>wB _ e) (wH _) ?_,rfl,q _ i⟩;exact⟨z,us,r,⟨_,wJ _ rfl,rfl,_,rfl⟩,jf _ _⟩
theorem qf1(h:PA X es t):PE X (.List es pos) (tLst t):=by
 intro pins s d H Q I f;refine wpAny_List_spliced (thn (h pos pins s d H _ I f) λus s1 ⟨xs,a,c,r,z,q⟩=>⟨by rw[<-r.length];exact z,?_⟩);have i:a s1.heap.objs.size=none:=c.hok.fresh (wH _);refine⟨.ref s1.heap.objs.size,upd a s1.heap.objs.size (.l xs),c.laid (t':=s1.toks) (λb u e=>wB _ e) (wH _) ?_,rfl,q _ i⟩;exact⟨z,us,0,r,wJ _ rfl⟩
end
noncomputable abbrev Sp:=List V->Hp->VK->XK->Prop
noncomputable abbrev CXT:=List Env->Hp->Shared->XK->Value->Shared->Prop
structure Env0 (P:Program) (w:World) (K:009) (mg:025) (base:Heap) (A:Around) (outer:List Env) (s:09) (H:Hp):Prop where
 frames:A.frames=some outer
 mod:Mod K mg base
 bs:∀b o,base.get? b=some o->s.heap.get? b=some o/\H b=none
 bsz:base.objs.size<=s.heap.objs.size
 funs:s.heap.FunFrames base outer
 frf:∀b∈frs outer,H b=none
 hok:HOk P w H s.heap
 bare:AllBare s.gens
 tab:∀c T,codeTab K c T=true->∃ps,H T=some (.tbl ps)
noncomputable def CE(outer:List Env)(P:Program)(w:World)(H:Hp)(s:09)(Q:VK)(u:Value)(s':09):Prop :=
 ∃v H',s'.os=s.os/\GK s.gens s'.gens/\Un (frs outer) [] H H' s.heap s'.heap/\HOk P w H' s'.heap/\RelV v u/\Q v H'
noncomputable def CR(CX:CXT)(outer:List Env)(P:Program)(w:World)(H:Hp)(s:09)(Q:VK)(E:XK)(r:Result)(s':09):Prop :=
 match r with
 | .ok (.ret u)=>CE outer P w H s Q u s'
 | .ok _=>False
 | .error e=>CX outer H s E e s'
structure FnOk (P:Program) (w:World) (K:009) (mg:025) (base:Heap) (CX:CXT) (k:Nat) (f:Addr) (fd:FuncData) (ps:014) (sp:Sp):Prop where
 len:∀vs H Q E,sp vs H Q E->vs.length=ps.length
 run:∀(A:Around) (outer:List Env) (s:09) (H:Hp) (args:Args) (us:005) (vs:List V) (Q:VK) (E:XK),Room k A->Env0 P w K mg base A outer s H->BindsTo s fd args (ps.zip us)->Vals vs us->sp vs H Q E ->
  codeAny (model P w) A (.call (.ref f) args) (CR CX outer P w H s Q E) s
section
variable{X:Cx}{pins:List (Addr×Obj)}{σ:St}{H:Hp}{s s':Shared}
theorem Inv.env0(I:016):Env0 X.prog X.w X.K X.mg X.base X.A X.stack s H :=
 ⟨I.ok.frames,I.ok.mod,I.bs,vF I.ok.bsz I.sz,I.stack,I.stkFree,I.hok,I.bare.bare,λc T z=>let ⟨ps,e⟩:=I.ok.tab c T z;let ⟨m,e'⟩:=I.base.tbls _ _ e;⟨_,e'⟩⟩
theorem Inv.after{Q:VK}{u:Value}(I:016)(h:CE X.stack X.prog X.w H s Q u s'):EP X pins σ Q u s':=by
 obtain⟨v,H',os,bare,un,hok,r,q⟩:=h;obtain⟨c,g,d,t,a⟩:=s';obtain rfl:a=s.os:=os;exact⟨v,H',I.call (h':=c) (g':=g) (d':=d) (t':=t) (ch:=[]) un hok bare (λb z=>absurd z 07),r,q⟩
end
noncomputable def tCall(sp:Sp)(dvs:List V)(E:XK)(t:TA):TE:=λa H Q=>t a H λvs c=>sp (vs++dvs) c Q E
noncomputable def Binds(K:009)(fd:FuncData)(ps:014)(ds:005):Prop :=
 ∀(s:09) (us:005),K.In s.heap->(us++ds).length=ps.length->BindsTo s fd ⟨us,[]⟩ (ps.zip (us++ds))
def Binds.all{K:009}{fd:FuncData}{ps:014}(h:∀us:List Value,us.length=ps.length->bindArgs fd ⟨us,[]⟩=pure (ps.zip us)):Binds K fd ps []:=λs us _ hl=>by
 rw[vu]at hl ⊢;exact .of_eq (h us hl)
def Passes(CX:CXT)(X:Cx)(E:XK):Prop:=∀(pins:011) (a:St) (H:Hp) (s:09) (e:Value) (s':09),Inv X pins a H s->CX X.stack H s E e s'->X.xe e s'
section
variable{X:Cx}{CX:CXT}{k:Nat}{f C:Addr}{fd:FuncData}{ps:List Str}{sp:Sp}{dvs:List V}{ds:List Value}{E:XK}{x m:Str}{p pos apos:Pos}{e o:Expr}{es:List Expr}{ta:TE}{t:TA}
theorem qkG{pins:011}{c:St}{H:Hp}{s:09}{Q:VK}{us:005}{vs:List V}(F:FnOk X.prog X.w X.K X.mg X.base CX k f fd ps sp)(i:Room k X.A)(hb:Binds X.K fd ps ds)(hd:Vals dvs ds)(j:Passes CX X E)(I:Inv X pins c H s)(r:Vals vs us)(h:sp (vs++dvs) H Q E):wpAny 006 X.A (call (.ref f) us) (EP X pins c Q) X.xe s:=by
 have d:Vals (vs++dvs) (us++ds):=r.append hd;have hl:(us++ds).length=ps.length:=by rw[<-d.length];exact F.len _ _ _ _ h
 refine wpAny_call (codeAny_mono (F.run X.A X.stack s H ⟨us,[]⟩ (us++ds) (vs++dvs) Q E i I.env0 (hb s us I.kIn hl) d h) λr s' a=>?_);cases r with
 |error e=>exact j pins c H s e s' I a
 |ok l =>
  cases l with
  |ret u=>exact I.after a
  |next=>exact False.elim a
  |brk=>exact False.elim a
  |cont=>exact False.elim a
theorem qbA(F:FnOk X.prog X.w X.K X.mg X.base CX k f fd ps sp)(i:Room k X.A)(j:Gl X x)(hm:X.mg x=some (.ref f))(l:PySem.W.keepIn X.K (.ref f)=true)(hb:Binds X.K fd ps ds)(hd:Vals dvs ds)(n:Passes CX X E)(ha:PA X (e::es) t)(a:dB x:=by decide)(u:sE X e es:=by rfl)(c:bT X es pos:=by rfl):
  PE X (.Call (.Name x p) (e::es) [] pos) (tCall sp dvs E t):=by
 intro pins s v H Q I h;refine uq (jy I j hm ?_ a);refine PySem.W.callWith_K (h₀:=X.base) I.ok.mod.kin l (thn (ha pos pins s v H _ I h) λus s1 ⟨vs,y,d,r,q⟩=>⟨d.kIn,?_⟩) u c;exact qkG F i hb hd n d r q
end
structure FnScope (N P:014) (sc:Scope):Prop where
 kind:sc.kind=.function
 co:sc.isCoroutine=false
 gen:sc.isGenerator=false
 nd:N.Nodup
 pre:N.take P.length=P
 par:∀x∈P,sc.names.lookup x=some .local\/sc.names.lookup x=some .cell
 nofree:∀y∈sc.names,y.2≠.free
def qbb{kindOf:Str->Option NameKind}{x:Str}:∀{a:List (Str×Value)} {m:025},(∀v,(x,v)∉a)->bindL kindOf a m x=m x
 |[],_,_=>rfl
 | (n,v)::r,m,h=>by
  unfold bindL;rw[qbb λw hw=>h w (wM _ hw)];split
  .have:x≠n:=by rintro rfl;exact h v wR
   simp[this]
  .rfl
def qbc{kindOf:Str->Option NameKind}{x:Str}:∀{a:List (Str×Value)} {m:025},(∀v,(x,v)∉a)->bindC kindOf a m x=m x
 |[],_,_=>rfl
 | (n,v)::r,m,h=>by
  unfold bindC;rw[qbc λw hw=>h w (wM _ hw)];split
  .rfl
  .have:x≠n:=by rintro rfl;exact h v wR
   simp[this]
def qbd{kindOf:Str->Option NameKind}{x:Str}{v:Value}:∀{P:014} {vs:005} {i:Nat} {m:025},P.Nodup->P[i]?=some x->vs[i]?=some v->kindOf x=some .local ->
  bindL kindOf (P.zip vs) m x=some v
 |[],_,_,_,_,h,_,_=>by simp at h
 |_::_,[],_,_,_,_,h,_=>by simp at h
 |p::P,w::vs,0,m,nd,h1,h2,hk=>by
  simp at h1 h2;subst h1;subst h2;show bindL kindOf ((p,w)::P.zip vs) m p=_;unfold bindL;rw[qbb λv a=>(u6.mp nd).1 (vB a).1,wN hk];simp
 |p::P,w::vs,i+1,m,nd,h1,h2,hk=>by
  show bindL kindOf ((p,w)::P.zip vs) m x=_;unfold bindL;exact qbd (i:=i) (u6.mp nd).2 (by simpa using h1) (by simpa using h2) hk
def qbe{kindOf:Str->Option NameKind}{x:Str}{v:Value}:∀{P:014} {vs:005} {i:Nat} {m:025},P.Nodup->P[i]?=some x->vs[i]?=some v->kindOf x≠some .local ->
  bindC kindOf (P.zip vs) m x=some v
 |[],_,_,_,_,h,_,_=>by simp at h
 |_::_,[],_,_,_,_,h,_=>by simp at h
 |p::P,w::vs,0,m,nd,h1,h2,hk=>by
  simp at h1 h2;subst h1;subst h2;show bindC kindOf ((p,w)::P.zip vs) m p=_;unfold bindC;rw[qbc λv a=>(u6.mp nd).1 (vB a).1,wT hk];simp
 |p::P,w::vs,i+1,m,nd,h1,h2,hk=>by
  show bindC kindOf ((p,w)::P.zip vs) m x=_;unfold bindC;exact qbe (i:=i) (u6.mp nd).2 (by simpa using h1) (by simpa using h2) hk
noncomputable def start(N:014)(vs:List V):St:=vs.map some++List.replicate (N.length-vs.length) none
noncomputable def cxOf(CX:CXT)(P:Program)(w:World)(K:009)(mg:025)(base:Heap)(N:014)(a:Str)(scope:Scope)(f:Addr)(c:Value)(A:Around)(outer:List Env)(s:09)(H:Hp)(E:XK):Cx where
 prog:=P
 w:=w
 K:=K
 mg:=mg
 base:=base
 A:=A.deeper (envOfC a scope s.heap.objs.size f c)
 N:=N
 s₀:=s
 H₀:=H
 env:=envOfC a scope s.heap.objs.size f c
 outer:=outer
 stack:=envOfC a scope s.heap.objs.size f c::outer
 ex:=[]
 calm:=true
 fn:=λ_=>true
 pn:=[]
 xe:=λe s'=>wpAny (model P w) (A.deeper (envOfC a scope s.heap.objs.size f c)) (leaving (envOfC a scope s.heap.objs.size f c) e) (λ_ s''=>CX outer H s E e s'') (λe' s''=>CX outer H s E e' s'') s'
def qcl{sc:Scope}{n:Nat}{x:Str}(h:sc.names.lookup x=some .cell):∃c,(cellsFrom n sc.names []).lookup x=some c:=by
 have q:=PySem.W.cellsFrom_some sc.names n [] (.inl h);exact Option.isSome_iff_exists.mp q
def qfc{CX:CXT}{P:Program}{w:World}{K:009}{mg:025}{base:Heap}{N ps:014}{d:Str}{scope:Scope}{f:Addr}{F:Value}{A:Around}{outer:List Env}{s s1:09}{H:Hp}{E:XK}{us:005}{vs:List V}(S:FnScope N ps scope)(hd:A.handled=none)(l:Env0 P w K mg base A outer s H)(hl:vs.length=ps.length)(r:Vals vs us)(x:InCallC s s.heap.objs.size (bindL (envOfC d scope s.heap.objs.size f F).kindOf (ps.zip us) λ_=>none) (cellsFrom (s.heap.objs.size+1) scope.names []) (bindC (envOfC d scope s.heap.objs.size f F).kindOf (ps.zip us) λ_=>none) s1):
  Inv (cxOf CX P w K mg base N d scope f F A outer s H E) [] (start N vs) H s1:=by
 have M:ps.length<=N.length:=by have:=congrArg List.length S.pre;rw[vZ]at this;lia
 obtain⟨I,tk,rfl,J⟩:=x.done;have m:∀b:Addr,b∉(cxOf CX P w K mg base N d scope f F A outer s H E).ex:=λb z=>absurd (show b∈([]:List Addr)from z) 07
 refine⟨⟨l.mod,S.kind,rfl,rfl,wH _,λy z c I j=>?_,λy o=>?_,λy c _ h=>?_,λ_=>hd,Around.frames_deeper l.frames,.inr ⟨rfl,rfl⟩,λb z=>absurd z (m b),l.bs,l.bsz,λb _ _=>m b,λb z=>absurd z (m b),l.funs,l.frf,l.tab⟩,
  rfl,GK.refl l.bare,Un.kept J,⟨_,x.toInCall.ns,λi y v I j Q=>?_⟩,λy c h=>⟨_,x.cell y c h⟩,l.hok.fresh (wH _),λy c h=>?_,λp B=>absurd (show p∈([]:List (Addr×Obj))from B) 07,l.hok.kept J,?_⟩
 .exact name_of_addr x.apart (vn I) (vn j)
 .have o:scope.names.lookup y=some .cell\/scope.names.lookup y=some .free:=o
  rcases o with o|o
  .exact qcl o
  .exact absurd rfl (S.nofree _ (vn o))
 .exact Nat.le_of_lt (x.above y c (vn h))
 .have hi:i<vs.length:=by
   unfold start at j;by_cases hi:i<vs.length
   .exact hi
   .rw [wK 042]at j
    rw[vC]at j;split at j <;> cases j
  have ha:vs[i]?=some v:=by
   unfold start at j;rw[wL 042,wk]at j;cases e:vs[i]? with
   |none=>rw[e]at j;cases j
   |some a=>rw[e]at j;cases j;rfl
  obtain⟨u,L,O⟩:=r.get ha;have B:ps[i]?=some y:=by
   rw[<-S.pre,um 00];exact I
  have C:ps.Nodup:=by rw[<-S.pre];exact S.nd.sublist (List.take_sublist _ _)
  refine⟨u,O,?_⟩;rcases S.par y (wq B)with k|k
  .exact .inl ⟨k,qbd C B L k⟩
  .obtain ⟨c,e⟩:=qcl (n:=s.heap.objs.size+1) k
   refine .inr ⟨.inl k,c,e,?_⟩;have q:=x.cell y c e;rw[qbe C B L (by show scope.names.lookup y≠_;rw[k];decide)]at q;exact q
 .exact l.hok.fresh (Nat.le_of_lt (x.above y c (vn h)))
 .unfold start
  show _=N.length;rw[wP,wF,vb];lia
def qjM{CX:CXT}{P:Program}{w:World}{K:009}{mg:025}{base:Heap}{k:Nat}{f:Addr}{name a:Str}{d:Arguments}{body:List Stmt}{scope:Scope}{L kV doc pm c ct oc:Value}{an od:Option Addr}{osl:Array (Option Value)}{N ps:014}{sp:Sp}(O:K.lookup f=some ⟨oc,od,.func (PySem.W.fnOf name a d body scope L kV doc pm an c ct),osl⟩)(p:PySem.W.codeIn K c a=true)(S:FnScope N ps scope)(len:∀vs H Q E,sp vs H Q E->vs.length=ps.length)(i:∀(A:Around) (outer:List Env) (s:09) (H:Hp) (vs:List V) (Q:VK) (E:XK),Room k (A.deeper (envOfC a scope s.heap.objs.size f c))->sp vs H Q E ->
   ∃t,PSs (cxOf CX P w K mg base N a scope f c A outer s H E) body t/\t {nx:=λ_ H'=>Q .non H',rt:=Q} (start N vs) H):
  FnOk P w K mg base CX (k+1) f (PySem.W.fnOf name a d body scope L kV doc pm an c ct) ps sp:=by
 refine⟨len,λA outer s H args us vs Q E B l hb r m=>?_⟩;have hl:=len _ _ _ _ m;have M:K.In s.heap:=l.mod.kin.keeps λb o e=>(l.bs b o e).1
 have C:s.heap.NoLimit:=l.mod.nolimit.keeps λb o e=>(l.bs b o e).1
 have j:∀y∈ps.zip us,scope.names.lookup y.1=some .local\/(scope.names.lookup y.1=some .cell/\((cellsFrom (s.heap.objs.size+1) scope.names []).lookup y.1).isSome=true):=λ⟨n,v⟩ U=>by
  rcases S.par n (vB U).1 with q|q
  .exact .inl q
  .exact .inr ⟨q,PySem.W.cellsFrom_some _ _ _ (.inl q)⟩
 refine codeAny_call_function B.depth (M _ _ O) rfl S.co S.gen rfl (PySem.W.codeRec_of M p) (hb _ _ _ _ ?_);refine wpAny_newFunctionEnv_cells S.kind j λenv X s1 x=>?_
 subst X;refine⟨C.keeps x.toInCall.keep,codeAny_func ?_⟩;obtain⟨t,Y,Z⟩:=i A outer s H vs Q E (B.deeper _) m;have I:Inv (cxOf CX P w K mg base N a scope f c A outer s H E) [] (start N vs) H s1:=qfc S B.hd l hl r x;refine wt (Y [] s1 (start N vs) H _ I Z) (λfl s' hs=>?_) λe s' hs=>hs
 have fin:∀{h:St} {H':Hp} {v:V} {u:Value},Inv (cxOf CX P w K mg base N a scope f c A outer s H E) [] h H' s'->RelV v u->Q v H'->CE outer P w H s Q u s' :=
  λ{h H' v u} J F q=>⟨v,H',J.os,J.bare,J.base,J.hok,F,q⟩
 cases fl with
 |ret u =>
  obtain⟨v,h,H',J,F,q⟩:=hs;exact fin J F q
 |next =>
  obtain⟨h,H',J,q⟩:=hs;exact fin (v:=V.non) (u:=Value.none) J rfl q
 |brk =>
  obtain⟨_,_,_,q⟩:=hs;exact False.elim q
 |cont =>
  obtain⟨_,_,_,q⟩:=hs;exact False.elim q
section
variable{X:Cx}{x:Str}{p pos:Pos}{e:Expr}{es:List Expr}{t:TA}{id T:String}{r:List V->Hp->VK->Prop}
noncomputable def tCB(r:List V->Hp->VK->Prop)(t:TA):TE:=λa H Q=>t a H λvs c=>r vs c Q
theorem qas(hc:CallR X (.builtin id) r)(f:Gl X x)(hm:X.mg x=none)(i:bootBuiltins x=some (.builtin id))(ha:PA X (e::es) t)(hn:x≠"__name__":=by decide)(a:dB x:=by decide)(j:sE X e es:=by rfl)(c:bT X es pos:=by rfl):PE X (.Call (.Name x p) (e::es) [] pos) (tCB r t):=by
 intro pins s d H Q I h;refine uq (yM I f hm i ?_ hn a);exact PyProof.Rows.callWith_builtin1 (thn (ha pos pins s d H _ I h) λus s1 ⟨vs,l,m,n,q1⟩=>hc pins s1 d l vs us Q m n q1) j c
theorem qbf(hc:CallR X (.type T) r)(f:Gl X x)(hm:X.mg x=none)(i:bootBuiltins x=some (.type T))(ha:PA X (e::es) t)(hn:x≠"__name__":=by decide)(a:dB x:=by decide)(j:sE X e es:=by rfl)(c:bT X es pos:=by rfl):PE X (.Call (.Name x p) (e::es) [] pos) (tCB r t):=by
 intro pins s d H Q I h;refine uq (yM I f hm i ?_ hn a);exact uE (thn (ha pos pins s d H _ I h) λus s1 ⟨vs,l,m,n,q1⟩=>hc pins s1 d l vs us Q m n q1) j c
end
end L2
namespace HT
open PySem PyProof.Rows
noncomputable def lexLt:List Int->List Int->Bool
 |[],[]=>false
 |[],_::_=>true
 |_::_,[]=>false
 |x::xs,y::ys=>if x=y then lexLt xs ys else decide (x<y)
def zA(x y:Int)(xs ys:008):lexLt (x::xs) (y::ys)=if x=y then lexLt xs ys else decide (x<y):=rfl
def jl:lexLt [] []=false:=rfl
def yN(y:Int)(ys:008):lexLt [] (y::ys)=true:=rfl
def yO(x:Int)(xs:008):lexLt (x::xs) []=false:=rfl
def qcm(A:Around)(s:09)(a:Int)(t:Tok)(c:Int)(u:Tok):∃e,SeqAt.EqAt A s (.int a t) (.int c u) e/\(e=true ↔ a=c) :=
 ⟨(a == c),SeqAt.EqAt.int_int a t c u,by simp⟩
def qf2(A:Around)(s:09)(a:Int)(t:Tok)(c:Int)(u:Tok)(prog:Program)(w:World)(E:015)(Q:015)(h:Q (.bool (decide (a<c))) s):
  wpAny 018 A (richCompare .Lt (.int a t) (.int c u)) Q E s :=
 (PyProof.Rows.lt_int h:wpAny 018 A (compareOp .Lt (.int a t) (.int c u)) Q E s)
section
open PySem.SeqAt
open PySem.AutoSeq1 (wpAny_loadPart')
open PySem.MeetsSeq PySem.MeetsSeq2 PySem.MeetsSeq3
def qa0(l b:Addr)(items f:028)(n P:Nat)(dd J:Option Addr)(sl K:Array (Option Value))(ns ms:008)(hi:IntsAre items.toList ns)(N:IntsAre f.toList ms):
  Meets (Builtin.«tuple.__lt__» ⟨[.ref l,.ref b],[]⟩)
   (λ_ R s=>s.heap.get? l=some {cls:=.type "tuple",dict:=dd,data:=.seq items n,slots:=sl}/\s.heap.get? b=some {cls:=.type "tuple",dict:=J,data:=.seq f P,slots:=K} /\
    R (.ok (.ret (.bool (lexLt ns ms)))) s) :=
 .of_wp λprog w A R s h=>by
  obtain⟨H,g,d,tk,os⟩:=s;obtain⟨hl,hb,h⟩:=h;have U:=AutoSeq1.sub_tuple_tuple;have W:items.size=ns.length:=by rw[<-hi.length];simp
  have X:f.size=ms.length:=by rw[<-N.length];simp
  wp_walk using wpAny_loadPart' hl,wpAny_loadPart' hb,wpAny_forIn_list _ (λrest b s'=>b.1=none/\s'=⟨H,g,d,tk,os⟩/\∃(vs I:005) (j m:008),rest=vs.zip I /\
   IntsAre vs j/\IntsAre I m/\j.length+f.size=m.length+items.size/\R (.ok (.ret (.bool (lexLt j m)))) ⟨H,g,d,tk,os⟩) _
  case turn =>
   rintro⟨y,x⟩ rest b s' ⟨B,rfl,vs,I,j,m,o,C,p,i,r⟩;cases C with
   |nil=>rw[List.zip_nil_left]at o;cases o
   |cons a t E =>
    cases p with
    |nil=>rw[List.zip_nil_right]at o;cases o
    |cons c u F =>
     rw[uZ]at o;injection o with L hrest;injection L with Q hx;subst Q hx;rw[zA]at r;simp only[wY]at i;obtain⟨e,S,v⟩:=qcm A.in1 ⟨H,g,d,tk,os⟩ a t c u;refine wA (S prog w _ _ ?_);cases e with
     |true =>
      rw[wN (v.mp rfl)]at r;wp_walk;exact⟨rfl,rfl,_,_,_,_,hrest,E,F,by lia,r⟩
     |false =>
      rw[wT (λq=>absurd (v.mpr q) wd)]at r;have M:=qf2 A.in1 ⟨H,g,d,tk,os⟩ a t c u prog w;wp_walk using M;exact⟨_,rfl,by simpa using r⟩
  case fin =>
   rintro⟨b1,b2⟩ s' ⟨B,rfl,vs,I,j,m,o,C,p,i,r⟩;simp only at B;subst B;have O:lexLt j m=decide (items.size<f.size):=by
    cases C with
    |nil =>
     cases p with
     |nil =>
      simp only[uF]at i;rw[jl];exact(wU 00).symm
     |cons c u hw =>
      simp only[uF,wY]at i;rw[yN];exact(wQ 00).symm
    |cons a t O =>
     cases p with
     |nil =>
      simp only[uF,wY]at i;rw[yO];exact(wU 00).symm
     |cons c u hw =>
      rw[uZ]at o;cases o
   rw[O]at r;wp_walk;exact⟨_,rfl,by simpa[Builtin.Tuple.tupleCompareSizes]using r⟩
  case h =>
   exact⟨rfl,rfl,items.toList,f.toList,ns,ms,rfl,hi,N,by lia,h⟩
end
section
variable{prog:Program}{w:World}{A:Around}{E:Value->Shared->Prop}{s:Shared}
theorem qdh{l b:Addr}{items a:028}{ns ms:008}{Q:015}(hl:IsTup s.heap l items)(hb:IsTup s.heap b a)(hi:IntsAre items.toList ns)(q:IntsAre a.toList ms)(r:A.units<cLine)(h:Q (.bool (lexLt ns ms)) s):wpAny 018 A (compareOp .Lt (.ref l) (.ref b)) Q E s:=by
 obtain⟨⟨cls,dd,data,sl⟩,o,hc,n,hd⟩:=id hl;obtain⟨⟨p,i,j,m⟩,c,d,u,f⟩:=id hb;simp only at hc hd d f;subst hc hd d f;exact richCompare_meets_room (op:=.Lt) ⟨_,o,rfl⟩ ⟨_,c,rfl⟩ PySem.F.slot_tuple_lt PySem.F.entry_tuple_lt (PySem.F.args_tuple_lt_2 _ _) (qa0 l b items a n u dd i sl m ns ms hi q)
  ⟨o,c,show Value.bool (lexLt ns ms)≠Value.notImplemented/\Q (.bool (lexLt ns ms)) s from⟨(λx=>nomatch x),h⟩⟩ r
theorem qiq{t b:Addr}{vs a:005}{Q:015}(q:IsTup s.heap t vs.toArray)(hb:IsTup s.heap b a.toArray)(m:vs≠[])(r:a=[]->Q (.ref t) s)(u:a≠[]->Q 043 {s with heap:=s.heap.push {cls:=.type "tuple",data:=.seq (vs++a).toArray}})(hsz:vs.length+a.length<=sizeLine):wpAny 018 A (binaryOp .Add (.ref t) (.ref b)) Q E s:=by
 obtain⟨⟨cls,dd,data,sl⟩,j,hc,n,hd⟩:=id q;obtain⟨⟨o,d,l,f⟩,c,h,p,i⟩:=id hb;simp only at hc hd h i;subst hc hd h i;have e:vs.toArray++a.toArray=(vs++a).toArray:=by simp
 by_cases hw:a=[]
 .exact concat_meets ⟨_,j,rfl⟩ ⟨_,c,rfl⟩ noFill_tuple_add seq_tuple_add xc xV (xQ _ _)
   (tuple_addW1 t b vs.toArray a.toArray n p dd d sl f (by simpa using m) (by simp[hw])) ⟨j,c,r hw⟩
 .refine concat_meets ⟨_,j,rfl⟩ ⟨_,c,rfl⟩ noFill_tuple_add seq_tuple_add xc xV (xQ _ _)
   (tuple_addW2 t b vs.toArray a.toArray n p dd d sl f (by simpa using m) (by simpa using hw) (by rw[wO,wO];exact hsz)) ⟨j,c,?_⟩
  rw[e];exact u hw
noncomputable def sIx(n d:Nat):Option Int->Nat
 |none=>d
 |some v=>if v<0 then(v+(n:Int)).toNat else min v.toNat n
theorem qkH(n d:Nat)(hd:d<=n)(o:Option Int):sIx n d o<=n:=by
 cases o with
 |none=>exact hd
 |some v =>
  show(if v<0 then(v+(n:Int)).toNat else min v.toNat n)<=n;by_cases a:v<0
  .rw [wN a];lia
  .rw [wT a];exact Nat.min_le_right _ _
theorem qd2(v:Int)(n d:Nat):(if v<0 then max (v+(n:Int)) 0 else min v (n:Int))=((sIx n d (some v):Nat):Int):=by
 show(if v<0 then max (v+(n:Int)) 0 else min v (n:Int))=(((if v<0 then(v+(n:Int)).toNat else min v.toNat n):Nat):Int);by_cases a:v<0
 .simp only[wN a];lia
 .simp only[wT a];lia
theorem qdi(lo hi:Option Int)(n:Nat):Builtin.Slice.sliceAdjust lo hi 1 (n:Int)=(((sIx n 0 lo:Nat):Int),((sIx n n hi:Nat):Int)):=by
 have a:¬((1:Int)<0):=by lia
 unfold Builtin.Slice.sliceAdjust;simp only[a,ui];refine Prod.ext ?_ ?_
 .cases lo with
  |none=>rfl
  |some v=>exact qd2 v n 0
 .cases hi with
  |none=>rfl
  |some v=>exact qd2 v n n
theorem qdj(i j:Nat):Builtin.Slice.slicePlaces (i:Int) (j:Int) 1=j-i:=by
 unfold Builtin.Slice.slicePlaces;have a:(1:Int)>0:=by lia
 simp only[a,uO,Int.ediv_one];split <;> lia
theorem qat{v:Value}{o:Option Int}{Q:Option Int->Shared->Prop}(p:IsPart v o)(h:Q o s):wpAny 018 A (Builtin.Slice.slicePartIndex v) Q E s:=by
 cases p with
 |none=>exact slicePart_none h
 |int i t=>exact slicePart_int h
theorem yw{sl:Addr}{d f:Value}{lo hi:Option Int}{n:Nat}{Q:Int×Int×Nat->Shared->Prop}(hs:s.heap.IsSliceOf sl d f .none)(pl:IsPart d lo)(i:IsPart f hi)(h:Q (((sIx n 0 lo:Nat):Int),1,sIx n n hi-sIx n 0 lo) s):wpAny 018 A (Builtin.Slice.sliceApplied (.ref sl) (pure (n:Int))) Q E s:=by
 obtain⟨os,a,j,c⟩:=id hs;unfold Builtin.Slice.sliceApplied Builtin.Slice.sliceFields;refine wA (wA (vG a c (x:=d) rfl (wA (vG a c (x:=f) rfl (wA (vG a c (x:=.none) rfl (wD ?_)))))));refine wA (slicePart_none ?_);show wpAny _ _ (if((1:Int) == 0)=true then _ else _) _ _ s;rw[wT 01];refine wA (qat pl (wA (qat i (wA (wD ?_)))));show wpAny _ _ (match Builtin.Slice.sliceAdjust lo hi 1 (n:Int)with|(lo,hi)=>pure (lo,(1:Int),Builtin.Slice.slicePlaces lo hi 1)) _ _ s;rw[qdi lo hi n];show wpAny _ _ (pure (((sIx n 0 lo:Nat):Int),(1:Int),Builtin.Slice.slicePlaces ((sIx n 0 lo:Nat):Int) ((sIx n n hi:Nat):Int) 1)) _ _ s;rw[qdj];exact wD h
theorem qf3(xs:028)(i k:Nat):((List.range k).filterMap λ(m:Nat)=>xs[((i:Int)+(m:Int)*1).toNat]?).toArray=((xs.toList.drop i).take k).toArray:=by
 have e:(λ(m:Nat)=>xs[((i:Int)+(m:Int)*1).toNat]?)=λm=>xs[i+m]?:=by
  funext m;have:((i:Int)+(m:Int)*1).toNat=i+m:=by lia
  rw[this]
 rw[e];have:=pick_run xs i k;rw[List.filterMap_map]at this;have e2:((λx=>xs[x]?)∘λx=>i+x)=λm=>xs[i+m]?:=rfl
 rw[e2]at this;rw[this]
theorem jz{t sl:Addr}{items:028}{l n:Value}{lo hi:Option Int}{Q:015}(c:IsTup s.heap t items)(hs:s.heap.IsSliceOf sl l n .none)(pl:IsPart l lo)(o:IsPart n hi)(hw:¬(sIx items.size 0 lo=0/\sIx items.size items.size hi=items.size))(h:Q 043 {s with heap:=s.heap.push {cls:=.type "tuple",data:=.seq ((items.toList.drop (sIx items.size 0 lo)).take 051).toArray}})(hsz:items.size<=sizeLine):wpAny 018 A (getItem (.ref t) (.ref sl)) Q E s:=by
 have a:sizeOk (.seq ((items.toList.drop (sIx items.size 0 lo)).take 051).toArray):=by
  show((items.toList.drop (sIx items.size 0 lo)).take 051).toArray.size<=sizeLine;rw[wO,vZ,List.length_drop,uI];lia
 have r:sIx items.size items.size hi<=items.size:=qkH _ _ (wH _) hi;obtain⟨os,d,f,p⟩:=id hs;have i:s.TypeIs (.ref sl) "slice":=⟨os,d,f⟩;unfold getItem
 try with_reducible refine vQ ?_
 first|refine wA (wD ?_)|skip
 refine wA (wpAny_sequenceKey c.typeIs 01 ?_);refine wA (vA (name:=Str.ofString "__getitem__") c.typeIs vT
  (vI vT c.typeIs entry_tuple_getitem ?_ (args_tuple_getitem _ _)))
 show wpAny _ _ (Builtin.Tuple.tupleItemsOf (.ref t) >>= _) _ _ s;refine wA (tupleItemsOf_ c ?_);refine wA (xI i ?_);rw[wN 01];refine wA (yw hs pl o ?_);have j:¬((((sIx items.size 0 lo:Nat):Int) == 0&&(1:Int) == 1&&051 == items.size)=true):=by
  intro q;rw[wS,wS]at q;have q1:((sIx items.size 0 lo:Nat):Int)=0:=eq_of_beq q.1.1;have q2:sIx items.size items.size hi-sIx items.size 0 lo=items.size:=eq_of_beq q.2;exact hw ⟨by lia,by lia⟩
 show wpAny _ _ (if(((sIx items.size 0 lo:Nat):Int) == 0&&(1:Int) == 1&&051 == items.size)=true then _ else _) _ _ s;rw[wT j,qf3]
 first
  |exact wA (m:=Builtin.Tuple.tupleExact _) (wf (wD ⟨_,rfl,wD h⟩) a)
  |exact wA (m:=Builtin.Tuple.tupleExact _) (wf (wA (wD (wD ⟨_,rfl,wD h⟩))) a)
  |exact wA (wA (m:=Builtin.Tuple.tupleExact _) (wf (wD (wD ⟨_,rfl,wD h⟩)) a))
  |exact wA (wA (m:=Builtin.Tuple.tupleExact _) (wf (wD ⟨_,rfl,wD h⟩) a))
end
end HT
namespace L2
open PySem PySem.Spec PyProof.Rows
noncomputable abbrev TO:=St->Hp->(Option Int->Hp->Prop)->Prop
noncomputable def PO(X:Cx)(e:Option Expr)(t:TO):Prop :=
 ∀(pins:011) (s:09) (a:St) (H:Hp) (Q:Option Int->Hp->Prop),Inv X pins a H s->t a H Q ->
  wpAny 006 X.A (evalPart e X.env) (λu s'=>∃o H',Inv X pins a H' s'/\IsPart u o/\Q o H') X.xe s
noncomputable def tNoPart:TO:=λ_ H Q=>Q none H
noncomputable def tPart(t:TE):TO:=λa H Q=>t a H λx c=>∃i,x=.int i/\Q (some i) c
def zB{ns:008}:∀{us:005},Vals (ns.map V.int) us->IntsAre us ns:=by
 induction ns with
 |nil=>intro us r;rw[xN]at r;cases r;exact .nil
 |cons n ns a =>
  intro us r;rw[wj]at r;cases r with
  |cons c d =>
   obtain⟨t,e⟩:=c;subst e;exact .cons n t (a d)
section
variable{X:Cx}{e:Expr}{te:TE}{lo hi:Option Expr}{tl th:TO}{pos p2:Pos}
theorem qir:PO X none tNoPart:=by
 intro pins s a H Q I h;rw[evalPart_none];exact wD ⟨none,H,I,.none,h⟩
theorem qis(h:PE X e te):PO X (some e) (tPart te):=by
 intro pins s a H Q I hw;rw[evalPart_some];refine thn (h pins s a H _ I hw) λu s1 ⟨x,c,d,f,q1⟩=>?_
 obtain⟨i,rfl,q⟩:=q1;obtain⟨t,rfl⟩:=f;exact⟨some i,c,d,.int i t,q⟩
noncomputable def SlR(X:Cx)(r:V->Option Int->Option Int->Hp->VK->Prop):Prop :=
 ∀(pins:011) (s:09) (a:St) (H:Hp) (x:V) (v c d:Value) (lo hi:Option Int) (sl:Addr) (Q:VK),Inv X pins a H s->RelV x v->s.heap.IsSliceOf sl c d .none->IsPart c lo->IsPart d hi->r x lo hi H Q ->
  ∃T id,typeLookup (.type T) "__getitem__"=pure (some (.builtin id))/\s.TypeIs v T/\wpAny 006 X.A (getItem v (.ref sl)) (EP X pins a Q) X.xe s
theorem SlR.or{r a:V->Option Int->Option Int->Hp->VK->Prop}(h:SlR X r)(h':SlR X a):SlR X (λx lo hi H Q=>r x lo hi H Q\/a x lo hi H Q):=by
 intro pins s c H x v d f lo hi sl Q I i hs pl j q;rcases q with q|q
 .exact h pins s c H x v d f lo hi sl Q I i hs pl j q
 .exact h' pins s c H x v d f lo hi sl Q I i hs pl j q
noncomputable def tSl(r:V->Option Int->Option Int->Hp->VK->Prop)(te:TE)(tl th:TO):TE:=λa H Q=>te a H λx c=>tl a c λl H2=>th a H2 λu H3=>r x l u H3 Q
theorem qf4{r:V->Option Int->Option Int->Hp->VK->Prop}(i:SlR X r)(j:PE X e te)(hl:PO X lo tl)(m:PO X hi th):PE X (.Subscript e (.Slice lo hi none p2) pos) (tSl r te tl th):=by
 intro pins s c H Q I h;refine Subscript_ (thn (j pins s c H _ I h) λv s1 ⟨x,n,o,p,q1⟩=>?_);refine wpAny_Slice (thn (hl pins s1 c n _ o q1) λd s2 ⟨l,H2,y,pl,q2⟩=>thn (m pins s2 c H2 _ y q2) λf a ⟨u,H3,B,C,E⟩=>?_);rw[evalPart_none];refine wD ?_;have F:Inv X pins c H3 {a with heap:=a.heap.push {cls:=.type "slice",data:=.fields #[d,f,.none]}}:=B.kept (t':=a.toks) λb ob q=>wB _ q
 obtain⟨T,id,J,K,L⟩:=i pins {a with heap:=a.heap.push {cls:=.type "slice",data:=.fields #[d,f,.none]}} c H3 x v d f l u a.heap.objs.size Q F p (Heap.IsSliceOf.new ..) pl C E;show wpAny 006 X.A (subscriptTail e (.Slice lo hi none p2) v (.ref a.heap.objs.size)) (EP X pins c Q) X.xe {a with heap:=a.heap.push {cls:=.type "slice",data:=.fields #[d,f,.none]}};exact tail_any (ops:=[.ref a.heap.objs.size,v]) K J L (by with_unfolding_all rfl)
noncomputable def cutV(xs:List V)(lo hi:Option Int):List V:=(xs.drop (HT.sIx xs.length 0 lo)).take (HT.sIx xs.length xs.length hi-HT.sIx xs.length 0 lo)
theorem qab(xs:List V)(lo hi:Option Int):(cutV xs lo hi).length<=xs.length:=by
 unfold cutV;rw[vZ,List.length_drop];lia
def rSlT(K:009):V->Option Int->Option Int->Hp->VK->Prop:=λx lo hi H Q=>∃a xs,x=.ref a/\SqT K H a xs /\
 ¬(HT.sIx xs.length 0 lo=0/\HT.sIx xs.length xs.length hi=xs.length)/\∀p,H p=none->Q (.ref p) (upd H p (.t (cutV xs lo hi)))
theorem qkI:SlR X (rSlT X.K):=by
 intro pins s n H x v p u lo hi sl Q I j hs pl l h;obtain⟨a,xs,rfl,m,hw,q⟩:=h;cases j;obtain⟨d,r,f,i⟩:=I.tuple m;have c:d.toArray.size=xs.length:=by rw[wO];exact r.length.symm
 refine⟨"tuple",_,vT.lookup,f.typeIs,?_⟩;refine HT.jz f hs pl l (by rw[c];exact hw) ?_ (by rw[c];exact i);rw[c];refine⟨.ref s.heap.objs.size,_,I.laid (t':=s.toks) (o:=.t (cutV xs lo hi)) (λb ob q=>wB _ q) (wH _) ?_,rfl,q _ (I.hok.fresh (wH _))⟩;exact⟨vF (qab xs lo hi) i,_,(r.drop (HT.sIx xs.length 0 lo)).take (HT.sIx xs.length xs.length hi-HT.sIx xs.length 0 lo),IsTup.new _ _,jf _ _⟩
noncomputable def rLtT(K:009):R2:=λx y H Q=>∃a b ns ms,x=.ref a/\y=.ref b/\SqT K H a (ns.map V.int)/\SqT K H b (ms.map V.int)/\Q (.bl (HT.lexLt ns ms)) H
theorem qkJ(f:X.A.units<cLine):OpR X (compareOp .Lt) (rLtT X.K):=by
 intro pins s o H x y v u Q I i j h;obtain⟨a,b,ns,ms,rfl,rfl,ha,hb,q⟩:=h;cases i;cases j;obtain⟨d,l,m,_⟩:=I.tuple ha;obtain⟨c,n,p2,_⟩:=I.tuple hb;have i1:IntsAre d.toArray.toList ns:=zB l;have i2:IntsAre c.toArray.toList ms:=zB n;exact HT.qdh m p2 i1 i2 f ⟨.bl (HT.lexLt ns ms),H,I,rfl,q⟩
noncomputable def rCatT(K:009):R2:=λx y H Q=>∃a b xs ys,x=.ref a/\y=.ref b/\SqT K H a xs/\SqT K H b ys/\xs≠[]/\xs.length+ys.length<=sizeLine /\
 (ys=[]->Q (.ref a) H)/\(ys≠[]->∀p,H p=none->Q (.ref p) (upd H p (.t (xs++ys))))
theorem Vals.nil_iff{xs:List V}{us:005}(r:Vals xs us):us=[] ↔ xs=[]:=by
 cases r with
 |nil=>simp
 |cons _ _=>simp
theorem qit:OpR X (binaryOp .Add) (rCatT X.K):=by
 intro pins s r H x y v u Q I j l h;obtain⟨a,b,xs,ys,rfl,rfl,ha,hb,m,f,q1,q2⟩:=h;cases j;cases l;obtain⟨n,d,p,_⟩:=I.tuple ha;obtain⟨i,c,p2,_⟩:=I.tuple hb;refine HT.qiq p p2 (λz=>m (d.nil_iff.mp z)) (λz=>⟨.ref a,H,I,rfl,q1 (c.nil_iff.mp z)⟩) (λz=>?_) (by rw[<-d.length,<-c.length];exact f);refine⟨.ref s.heap.objs.size,_,I.laid (t':=s.toks) (o:=.t (xs++ys)) (λb ob q=>wB _ q) (wH _) ?_,rfl,q2 (λw=>z (c.nil_iff.mpr w)) _ (I.hok.fresh (wH _))⟩;exact⟨by rw[wP];exact f,_,d.append c,IsTup.new _ _,jf _ _⟩
end
noncomputable def ixN(n:Nat)(i:Int):Option Nat:=if 0<=i then(if i<n then some i.toNat else none)else if -(n:Int)<=i then some (i+n).toNat else none
noncomputable def atI{a:Type}(xs:List a)(i:Int):Option a:=(ixN xs.length i).bind λj=>xs[j]?
def qd3{n:Nat}{i:Int}{j:Nat}(h:ixN n i=some j):seqIndex? i n=some j/\j<n/\-(n:Int)<=i/\i<n:=by
 unfold ixN at h;by_cases c:0<=i
 .rw [wN c]at h
  by_cases a:i<n
  .rw [wN a]at h
   have e:i.toNat=j:=Option.some.inj h;exact⟨by rw[seqIndex_of c a,e],by lia,by lia,a⟩
  .rw [wT a]at h;cases h
 .rw [wT c]at h
  by_cases a:-(n:Int)<=i
  .rw [wN a]at h
   have e:(i+n).toNat=j:=Option.some.inj h;exact⟨by rw[seqIndex_neg 00 a,e],by lia,a,by lia⟩
  .rw [wT a]at h;cases h
def qd4{a:Type}{xs:List a}{i:Int}{v:a}(h:atI xs i=some v):∃j,seqIndex? i xs.length=some j/\xs[j]?=some v/\j<xs.length/\-(xs.length:Int)<=i/\i<xs.length:=by
 unfold atI at h;cases e:ixN xs.length i with
 |none=>rw[e]at h;cases h
 |some j =>
  rw[e]at h;obtain⟨c,d,f,l⟩:=qd3 e;exact⟨j,c,h,d,f,l⟩
def PlainIx(b:Expr):Prop:=∀o i,subscripted b false o i=operate [o,i] (getItem o i)
noncomputable def IxR(X:Cx)(r:R2):Prop :=
 ∀(c a:Expr) (pins:011) (s:09) (d:St) (H:Hp) (x y:V) (v u:Value) (Q:VK),Inv X pins d H s->RelV x v->RelV y u->r x y H Q ->
  subscripted a false v u=operate [v,u] (getItem v u)->wpAny 006 X.A (subscriptTail c a v u) (EP X pins d Q) X.xe s
noncomputable def MtR(X:Cx)(id:String)(r:V->List V->Hp->VK->Prop):Prop :=
 ∀(pins:011) (s:09) (a:St) (H:Hp) (x:V) (xs:List V) (v:Value) (us:005) (Q:VK),Inv X pins a H s->RelV x v->Vals xs us->r x xs H Q ->
  wpAny 006 X.A (call (.builtin id) (v::us)) (EP X pins a Q) X.xe s
section
variable{X:Cx}{a b:Expr}{ta tb:TE}{pos:Pos}
theorem IxR.or{r f:R2}(h:IxR X r)(h':IxR X f):IxR X (λx y H Q=>r x y H Q\/f x y H Q):=by
 intro c d pins s i H x y v u Q I j l q hs;rcases q with q|q
 .exact h c d pins s i H x y v u Q I j l q hs
 .exact h' c d pins s i H x y v u Q I j l q hs
theorem qme{r:R2}(c:IxR X r)(ha:PE X a ta)(hb:PE X b tb)(hs:PlainIx b):PE X (.Subscript a b pos) (tOp r ta tb):=by
 intro pins s d H Q I h;exact Subscript_ (binT ha hb I h λv u s2 x y H2 f i j q=>c a b pins s2 d H2 x y v u Q f i j q (hs _ _))
noncomputable def rIxL(K:009):R2:=λx y H Q=>∃p xs i v,x=.ref p/\y=.int i/\SqL K H p xs/\atI xs i=some v/\Q v H
noncomputable def rIxT(K:009):R2:=λx y H Q=>∃p xs i v,x=.ref p/\y=.int i/\SqT K H p xs/\atI xs i=some v/\Q v H
theorem qiu:IxR X (rIxL X.K):=by
 intro d f pins s o H x y v u Q I C E h hs;obtain⟨p,xs,i,z,rfl,rfl,F,J,q⟩:=h;cases C;obtain⟨t,rfl⟩:=E;obtain⟨l,r,pl,O⟩:=I.list F;obtain⟨j,c,L,P,M,N⟩:=qd4 J;obtain⟨w,A,m⟩:=r.get L;have hl:=r.length;have hn:=line63;have fin:EP X pins o Q w s:=⟨z,H,I,m,q⟩;by_cases B:0<=i
 .have n:i.toNat=j:=by
   rw[seqIndex_of B N]at c;exact Option.some.inj c
  exact item_listR pl.isList B 00 (by rw[n];simpa using A) fin hs
 .have n:(i+(l.toArray.size:Int)).toNat=j:=by
   rw[seqIndex_neg 00 M]at c;rw[wO,<-hl];exact Option.some.inj c
  exact subscriptTail_builtinR (x:=w) pl.isList.typeIs slot_list_getitem.lookup
   (wpAny_getItem_list_neg (Q:=λr s'=>r=w/\EP X pins o Q r s') pl.isList 00 (by rw[wO] <;> lia) 00 (by rw[n];simpa using A) ⟨rfl,fin⟩) hs
theorem qkK:IxR X (rIxT X.K):=by
 intro c d pins s l H x y v u Q I m n h hs;obtain⟨p,xs,i,z,rfl,rfl,o,A,q⟩:=h;cases m;obtain⟨t,rfl⟩:=n;obtain⟨B,r,pl,J⟩:=I.tuple o;obtain⟨j,C,E,L,M,N⟩:=qd4 A;obtain⟨w,F,f⟩:=r.get E;have hl:=r.length;have hn:=line63;have fin:EP X pins l Q w s:=⟨z,H,I,f,q⟩;exact subscriptTail_builtinR (x:=w) pl.typeIs slot_tuple_getitem.lookup
  (getItem_tuple (j:=j) (Q:=λr s'=>r=w/\EP X pins l Q r s') pl 00 00 (by rw[wO,<-hl];exact C) (by simpa using F) ⟨rfl,fin⟩) hs
theorem qdk(c:005)(n j:Nat)(u:Value):Obj.mapSeq (·.setIfInBounds j u) {cls:=.type "list",data:=.seq c.toArray n}={cls:=.type "list",data:=.seq (c.set j u).toArray n}:=by
 simp[Obj.mapSeq]
theorem Inv.lst{pins:011}{d:St}{H:Hp}{s:09}{p:Addr}{xs:List V}(I:Inv X pins d H s)(h:H p=some (.l xs)):
  ∃(c:005) (n:Nat),Vals xs c/\s.heap.get? p=some {cls:=.type "list",data:=.seq c.toArray n}/\xs.length<=sizeLine:=by
 obtain⟨z,c,n,r,e⟩:=I.hok p _ h;exact⟨c,n,r,e,z⟩
theorem Inv.lstUpd{pins:011}{i:St}{H:Hp}{s:09}{p:Addr}{xs ys:List V}{c its':005}{n d:Nat}{f:Obj->Obj}(I:Inv X pins i H s)(h:H p=some (.l xs))(l:s.heap.get? p=some {cls:=.type "list",data:=.seq c.toArray n})(j:f {cls:=.type "list",data:=.seq c.toArray n}={cls:=.type "list",data:=.seq its'.toArray d})(r:Vals ys its')(m:ys.length<=sizeLine)(t:Nat):
  Inv X pins i (upd H p (.l ys)) {s with heap:=s.heap.update p f,toks:=t}:=by
 have e:(s.heap.update p f).get? p=some {cls:=.type "list",data:=.seq its'.toArray d}:=by
  rw[vO f l (by rw[j] <;> rfl),j]
 refine I.write (x:=p) (e:=p) (by rw[h];trivial) (.inl rfl) (λb u hb q=>(wZ _ _ (Ne.symm hb)).trans q) ⟨_,e⟩ ?_;exact⟨m,its',d,r,e⟩
noncomputable def rSetL:V->V->V->Hp->(Hp->Prop)->Prop:=λo i v H Q=>∃p xs k j,o=.ref p/\i=.int k/\H p=some (.l xs)/\ixN xs.length k=some j/\Q (upd H p (.l (xs.set j v)))
theorem qf5:PSet X rSetL:=by
 intro pins s B H o i v K L u Q I C ri E h;obtain⟨p,xs,k,j,rfl,rfl,m,F,q⟩:=h;cases C;obtain⟨t,rfl⟩:=ri;obtain⟨c,n,r,f,J⟩:=I.lst m;obtain⟨d,M,w,x⟩:=qd3 F;have hl:=r.length;have hn:=line63;have y:Inv X pins B (upd H p (.l (xs.set j v))) {s with heap:=s.heap.update p (Obj.mapSeq (·.setIfInBounds j u))} :=
  I.lstUpd m f (qdk c n j u) (r.set E j) (by rw[xh];exact J) s.toks
 by_cases A:0<=k
 .have l:k.toNat=j:=by
   rw[seqIndex_of A x]at d;exact Option.some.inj d
  exact PySem.W.ki_setAt f A 00 (by rw[wO,<-hl];exact x) (by rw[l];exact⟨_,y,q⟩)
 .have l:(k+(c.toArray.size:Int)).toNat=j:=by
   rw[seqIndex_neg 00 w]at d;rw[wO,<-hl];exact Option.some.inj d
  exact PySem.W.ki_setBack f 00 (by rw[wO,<-hl];exact w) 00 (by rw[l];exact⟨_,y,q⟩)
theorem qbB(lo hi:Option Int)(n:Nat):(sliceBounds lo hi none n).1=((HT.sIx n 0 lo:Nat):Int)/\(sliceBounds lo hi none n).2.1=((HT.sIx n n hi:Nat):Int)/\(sliceBounds lo hi none n).2.2=1:=by
 refine⟨?_,?_,rfl⟩
 .cases lo with
  |none=>simp[sliceBounds,HT.sIx]
  |some i =>
   simp only[sliceBounds,HT.sIx,Option.getD_none,show(1:Int)>0 by decide,uO];by_cases h:i<0
   .simp only[h,uO] <;> lia
   .simp only[h,ui] <;> lia
 .cases hi with
  |none=>simp[sliceBounds,HT.sIx]
  |some i =>
   simp only[sliceBounds,HT.sIx,Option.getD_none,show(1:Int)>0 by decide,uO];by_cases h:i<0
   .simp only[h,uO] <;> lia
   .simp only[h,ui] <;> lia
theorem qa1(c:005)(lo hi:Option Int):slicePick c.toArray lo hi none=((c.drop (HT.sIx c.length 0 lo)).take (HT.sIx c.length c.length hi-HT.sIx c.length 0 lo)).toArray:=by
 obtain⟨d,f,h⟩:=qbB lo hi c.toArray.size;unfold slicePick;rw[d,f,h];simp only[sliceRange_one,pick_run,wO] <;> rfl
def rSlL(K:009):V->Option Int->Option Int->Hp->VK->Prop:=λx lo hi H Q=>∃a xs,x=.ref a/\SqL K H a xs/\∀p,H p=none->Q (.ref p) (upd H p (.l (cutV xs lo hi)))
theorem qiv:SlR X (rSlL X.K):=by
 intro pins s n H x v p u lo hi sl Q I f hs pl i h;obtain⟨a,xs,rfl,j,q⟩:=h;cases f;obtain⟨l,r,d,m⟩:=I.list j;have c:=r.length;refine⟨"list",_,slot_list_getitem.lookup,d.isList.typeIs,?_⟩;refine wpAny_getItem_list_slice d.isList hs pl i .none 07 ?_ (by rw[wO] <;> lia);rw[qa1,<-c];refine⟨.ref s.heap.objs.size,_,I.laid (t':=s.toks) (o:=.l (cutV xs lo hi)) (λb ob q=>wB _ q) (wH _) ?_,rfl,q _ (I.hok.fresh (wH _))⟩;exact⟨vF (qab xs lo hi) m,_,0,(r.drop (HT.sIx xs.length 0 lo)).take (HT.sIx xs.length xs.length hi-HT.sIx xs.length 0 lo),wJ _ rfl⟩
noncomputable def flatV:V->Bool
 | .str _=>true
 |_=>false
noncomputable def eqV:V->V->Bool
 | .str a,.str b=>a == b
 |_,_=>false
theorem qkL{A:Around}{s:09}{y x:V}{u v:Value}(d:RelV y u)(c:RelV x v)(h:flatV y=true)(f:flatV x=true):SeqAt.EqAt A s u v (eqV y x):=by
 cases y with
 |str a =>
  obtain⟨t',rfl⟩:=d;cases x with
  |str b=>obtain⟨t,rfl⟩:=c;exact SeqAt.EqAt.str_str a t' b t
  |_=>exact absurd (show false=true from f) wd
 |_=>exact absurd (show false=true from h) wd
noncomputable def eqU(x:V)(u:Value):Bool:=match u with
 | .str z _=>eqV (.str z) x
 |_=>false
theorem qf6{x y:V}{u:Value}(r:RelV y u)(f:flatV y=true):eqU x u=eqV y x:=by
 cases y with
 |str z=>obtain⟨t,rfl⟩:=r;rfl
 |_=>exact absurd (show false=true from f) wd
theorem jA{x:V}:∀{xs:List V} {us:005},Vals xs us->xs.all flatV=true->us.any (eqU x)=xs.any λy=>eqV y x
 |_,_,.nil,_=>rfl
 |y::xs,u::us,.cons r t,f=>by
  rw[vz,wS]at f;rw[uU,uU,qf6 r f.1,jA t f.2]
theorem yP{A:Around}{s:09}{x:V}{v:Value}(d:RelV x v)(h:flatV x=true):∀{xs:List V} {us:005},Vals xs us->xs.all flatV=true->∀u∈us,SeqAt.EqAt A s u v (eqU x u)
 |_,_,.nil,_=>λu c=>by cases c
 |y::xs,u::us,.cons r t,f=>λi c=>by
  rw[vz,wS]at f;rcases wW.mp c with rfl|c
  .rw [qf6 r f.1];exact qkL r d f.1 h
  .exact yP d h t f.2 i c
noncomputable def inV(x:V)(xs:List V):Bool:=xs.any λy=>eqV y x
noncomputable def rIn(K:009)(c:Bool):R2:=λx y H Q=>∃p xs,y=.ref p/\SqT K H p xs/\flatV x=true/\xs.all flatV=true/\Q (.bl (if c then !inV x xs else inV x xs)) H
theorem qbC:OpR X (compareOp .NotIn) (rIn X.K true):=by
 intro pins s m H x y v u Q I f j h;obtain⟨p,xs,rfl,d,i,fs,q⟩:=h;cases j;obtain⟨c,r,pl,l⟩:=I.tuple d;refine SeqAt.notIn_tupleAt (eqU x) pl (λw hw=>yP f i r fs w (by simpa using hw)) ⟨.bl _,H,I,rfl,?_⟩;rw[show c.toArray.any (eqU x)=c.any (eqU x) by simp,jA r fs];exact q
theorem CallR.or{f:Value}{r c:List V->Hp->VK->Prop}(h:CallR X f r)(h':CallR X f c):CallR X f (λxs H Q=>r xs H Q\/c xs H Q):=by
 intro pins s d H xs us Q I i q;rcases q with q|q
 .exact h pins s d H xs us Q I i q
 .exact h' pins s d H xs us Q I i q
theorem qbD:CallR X (.type "list") (λxs H Q=>∃p ys,xs=[.ref p]/\(SqL X.K H p ys\/SqT X.K H p ys)/\∀l,H l=none->Q (.ref l) (upd H l (.l ys))):=by
 intro pins s x H xs us Q I r h;obtain⟨p,ys,rfl,i,q⟩:=h;obtain⟨u,rfl,y⟩:=vals1 r;cases y;have fin:∀(c:005),Vals ys c->ys.length<=sizeLine->∀(h':Heap) (d:Nat),(∀b o',s.heap.get? b=some o'->h'.get? b=some o') ->
   h'.get? s.heap.objs.size=some {cls:=.type "list",dict:=none,data:=.seq c.toArray d,slots:=#[]}->EP X pins x Q 043 {s with heap:=h' }:=λc f j h' d kp e =>
  ⟨.ref s.heap.objs.size,_,I.laid (t':=s.toks) kp (wH _) (show ObjOk X.prog X.w _ h' _ (.l ys)from⟨j,c,d,f,e⟩),rfl,q _ (I.hok.fresh (wH _))⟩
 rcases i with i|i
 .obtain ⟨c,f,pl,j⟩:=I.list i
  have m:=f.length;obtain⟨o,v,hc,n,hd⟩:=pl.isList;exact call_list_seq p (.inl rfl) v hc hd (λh' d kp e=>fin c f j h' d kp e) (by simp only[wO] <;> lia)
 .obtain ⟨c,f,pl,j⟩:=I.tuple i
  have m:=f.length;obtain⟨o,v,hc,n,hd⟩:=pl;exact call_list_seq p (.inr rfl) v hc hd (λh' d kp e=>fin c f j h' d kp e) (by simp only[wO] <;> lia)
theorem qa2:CallR X (.type "tuple") (λxs H Q=>∃p ys,xs=[.ref p]/\((SqL X.K H p ys/\∀l,H l=none->Q (.ref l) (upd H l (.t ys)))\/(SqT X.K H p ys/\Q (.ref p) H))):=by
 intro pins s i H xs us Q I r h;obtain⟨p,ys,rfl,h⟩:=h;obtain⟨u,rfl,v⟩:=vals1 r;cases v;rcases h with ⟨d,q⟩|⟨d,q⟩
 .obtain ⟨c,f,pl,j⟩:=I.list d
  have m:=f.length;refine call_tuple_list pl.isList (λh' kp=>?_) (by simp only[wO] <;> lia);have n:Inv X pins i H {s with heap:=h' }:=I.kept (t':=s.toks) kp;have x:Inv X pins i (upd H h'.objs.size (.t ys)) {s with heap:=h'.push {cls:=.type "tuple",data:=.seq c.toArray}} :=
   n.laid (t':=s.toks) (λb o e=>wB _ e) (wH _) (show ObjOk X.prog X.w _ _ _ (.t ys)from⟨j,c,f,IsTup.new _ _,jf _ _⟩)
  exact⟨.ref h'.objs.size,_,x,rfl,q _ (n.hok.fresh (wH _))⟩
 .obtain ⟨c,f,pl,j⟩:=I.tuple d
  exact call_tuple_same pl ⟨.ref p,H,I,rfl,q⟩
def tyV(K:009)(T:String)(x:V)(H:Hp):Prop:=match x with
 | .str _=>T="str"
 | .int _=>T="int"
 | .ref p=>(T="list"/\∃xs,SqL K H p xs)\/(T="tuple"/\∃o,K.lookup p=some o/\o.cls=.type "tuple"/\o.dict=none) \/
   (T="dict"/\((∃kvs,H p=some (.dK kvs))\/∃kvs,H p=some (.dT kvs)))\/(T="set"/\∃S n,H p=some (.set S n))
 |_=>False
theorem qkM{pins:011}{f:St}{H:Hp}{s:09}{T:String}{x:V}{v:Value}(I:Inv X pins f H s)(r:RelV x v)(ty:tyV X.K T x H):
  s.TypeIs v T/\∀a,v=.ref a->∃ob,s.heap.get? a=some ob/\ob.dict=none:=by
 cases x with
 |str z =>
  obtain⟨t,rfl⟩:=r;cases (show T="str" from ty);exact⟨typeIs_str s z t,λ_ e=>nomatch e⟩
 |int i =>
  obtain⟨t,rfl⟩:=r;cases (show T="int" from ty);exact⟨typeIs_int s i t,λ_ e=>nomatch e⟩
 |ref p =>
  cases r;rcases ty with ⟨rfl,xs,h⟩|⟨rfl,o,d,hc,hd⟩|⟨rfl,d⟩|⟨rfl,S,n,d⟩
  .obtain ⟨j,_,pl,_⟩:=I.list h
   refine⟨pl.isList.typeIs,λa e=>?_⟩;cases e;obtain⟨o,n,e,c,hd,_⟩:=pl;exact⟨o,e,hd⟩
  .refine ⟨⟨o,I.kIn p o d,hc⟩,λa e=>?_⟩
   cases e;exact⟨o,I.kIn _ o d,hd⟩
  .have z:∃o,s.heap.get? p=some o/\o.ExactDict:=by
    rcases d with ⟨kvs,d⟩|⟨kvs,d⟩
    .obtain ⟨_,_,_,_,o,_,_,e,ex,_⟩:=I.hok p _ d
     exact⟨o,e,ex⟩
    .obtain ⟨_,_,_,_,o,_,_,e,ex,_⟩:=I.hok p _ d
     exact⟨o,e,ex⟩
   obtain⟨o,e,ex⟩:=z;refine⟨⟨o,e,ex.1⟩,λa e2=>?_⟩;cases e2;exact⟨o,e,ex.2.1⟩
  .obtain ⟨o,_,_,_,e,ex,_⟩:=I.hok p _ d
   refine⟨⟨o,e,ex.1⟩,λa e2=>?_⟩;cases e2;exact⟨o,e,ex.2.1⟩
 |_=>exact False.elim ty
noncomputable def tBM(K:009)(T:String)(r:V->List V->Hp->VK->Prop)(f:TE)(t:TA):TE:=λc H Q=>f c H λx d=>tyV K T x d/\t c d λxs H2=>r x xs H2 Q
variable{o e:Expr}{es:List Expr}{to:TE}{t:TA}{name:Str}{apos cpos:Pos}{T id:String}{r:V->List V->Hp->VK->Prop}
theorem qf7(q:PlainAttrs T)(slot:Slot T name id)(j:typeOf (.builtin id)=pure (.type "method_descriptor"))(hm:MtR X id r)(u:PE X o to)(ha:PA X (e::es) t)(d:attributeBase o name X.env (eval o X.env)=eval o X.env:=by rfl)(i:((backTo cpos (starEach (e::es) X.env)).all (λx=>!x.1)&&(backToKw cpos (keywordEach [] X.env)).all (λx=>x.1.isSome)
   && decide ((e::es).length+([]:List Keyword).length+(if([]:List Keyword).isEmpty then 0 else 1)<30))=true:=by rfl)(f:(apos.endLine == cpos.line)=true:=by rfl)(hs:starEach (e::es) X.env=(false,eval e X.env)::starEach es X.env:=by rfl)(c:(backTo cpos (starEach es X.env)).any (·.1)=false:=by rfl):
  PE X (.Call (.Attribute o name apos) (e::es) [] cpos) (tBM X.K T r to t):=by
 intro pins s l H Q I h;refine wpAny_Call_method_late d i f rfl (thn (u pins s l H _ I h) λv s1 ⟨x,w,m,n,ty,q1⟩=>?_);obtain⟨y,A⟩:=qkM m n ty;refine⟨T,id,q,slot,j,y,A,?_⟩;have p:=ha cpos pins s1 l w _ m q1;rw[hs]at p ⊢;refine Calls.callWith_builtin (by show(false || (backTo cpos (starEach es X.env)).any (·.1))=false;rw[c] <;> rfl) (Calls.evalArgs_plain ?_);exact thn p λus s2 ⟨vs,H2,B,C,q2⟩=>hm pins s2 l H2 x vs v us Q B n C q2
end
noncomputable def MtM(X:Cx)(id:String)(r:V->List V->Hp->VK->Prop):Prop :=
 ∀(pins:011) (s:09) (a:St) (H:Hp) (x:V) (xs:List V) (v:Value) (us:005) (Q:VK),Inv X pins a H s->RelV x v->Vals xs us->r x xs H Q ->
  wpAny 006 X.A (call (.builtin id) (v::us)) (EP X pins a Q) X.xe s
def Vals.one:∀{x:V} {us:005},Vals [x] us->∃u,us=[u]/\RelV x u
 |_,_,.cons r .nil=>⟨_,rfl,r⟩
def Vals.eraseIdx:∀{xs:List V} {us:005} (i:Nat),Vals xs us->Vals (xs.eraseIdx i) (us.eraseIdx i)
 |_,_,_,.nil=>.nil
 |_,_,0,.cons _ t=>t
 |_,_,i+1,.cons r t=>.cons r (Vals.eraseIdx i t)
def Vals.rep{xs:List V}{us:005}(h:Vals xs us):∀k:Nat,Vals (List.replicate k xs).flatten (List.replicate k us).flatten
 |0=>.nil
 |k+1=>by
  rw[ww,ww,uD,uD];exact Vals.append h (Vals.rep h k)
def qbg{a:Type}:∀(l:List a) (i:Nat),(l.eraseIdx i).length<=l.length
 |[],_=>wH _
 |_::_,0=>Nat.le_succ _
 |_::r,i+1=>Nat.succ_le_succ (qbg r i)
def jR(a:005):∀(k:Nat) (c:005),
  List.foldl (λd f=>d++f) c.toArray (List.replicate k a.toArray)=(c++(List.replicate k a).flatten).toArray
 |0,c=>by simp
 |k+1,c=>by
  have e:c.toArray++a.toArray=(c++a).toArray:=by simp
  have e2:(c++a)++(List.replicate k a).flatten=c++(List.replicate (k+1) a).flatten:=by
   rw[ww,uD,wy]
  rw[<-e2,<-jR a k (c++a),<-e,ww,vt]
section
variable{X:Cx}{pins:List (Addr×Obj)}{σ:St}{H:Hp}{s:Shared}{l b:Addr}{xs ys zs:List V}
theorem Inv.lset{a its':005}{n:Nat}{f:Array Value->Array Value}{t':Nat}(I:016)(c:H l=some (.l xs))(e:s.heap.get? l=some {cls:=.type "list",data:=.seq a.toArray n})(d:f a.toArray=its'.toArray)(h:Vals ys its')(i:ys.length<=sizeLine):
  Inv X pins σ (upd H l (.l ys)) {s with heap:=s.heap.update l (Obj.mapSeq f),toks:=t' }:=by
 have q:=PySem.IsL.update e f;rw[d]at q;refine I.write (x:=l) (e:=l) (by rw[c];exact trivial) (.inl rfl) (λm u hb j=>(wZ s.heap (Obj.mapSeq f) (Ne.symm hb)).trans j) ⟨_,q⟩ ?_;exact⟨i,its',_,h,q⟩
theorem Inv.lnew{a:005}{t':Nat}(I:016)(c:Vals ys a)(d:ys.length<=sizeLine):
  Inv X pins σ (upd H s.heap.objs.size (.l ys)) {s with heap:=s.heap.push {cls:=.type "list",data:=.seq a.toArray},toks:=t' } :=
 I.laid (λ_ _ q=>wB _ q) (wH _) ⟨d,a,0,c,wJ _ rfl⟩
theorem Inv.fresh(I:016):H s.heap.objs.size=none:=I.hok.fresh (wH _)
theorem Inv.lstM(I:016)(c:H l=some (.l xs)):xs.length<=sizeLine/\∃(a:005) (n:Nat),Vals xs a/\xs.length=a.length/\s.heap.get? l=some {cls:=.type "list",data:=.seq a.toArray n}:=by
 obtain⟨z,a,n,r,e⟩:=I.hok l _ c;exact⟨z,a,n,r,r.length,e⟩
theorem notLongL{n:Nat}(h:n<=sizeLine):Builtin.List.listTooLong n=false:=by
 unfold Builtin.List.listTooLong;exact wU 00
end
section
variable{X:Cx}
def rAppend:V->List V->Hp->VK->Prop:=λx vs H Q=>∃l xs y,x=.ref l/\vs=[y]/\H l=some (.l xs)/\xs.length<sizeLine/\Q .non (upd H l (.l (xs++[y])))
theorem jS:MtM X "list.append" rAppend:=by
 intro pins s j H x vs v us Q I d f h;obtain⟨l,xs,y,rfl,rfl,c,m,q⟩:=h;cases d;obtain⟨u,rfl,i⟩:=f.one;obtain⟨z,a,n,r,hl,e⟩:=I.lstM c;refine uJ F.slot_list_append ⟨_,e,rfl⟩ F.entry_list_append (F.args_list_append_2 _ _) (PySem.list_append l a.toArray n u (by rw[wO];lia)) ⟨e,?_⟩;refine⟨.non,_,I.lset (its':=a++[u]) c e 07 (r.append (.cons i .nil)) ?_,rfl,q⟩;rw[wP,vr];lia
def rPopAt:V->List V->Hp->VK->Prop:=λx vs H Q=>∃l xs i k y,x=.ref l/\vs=[.int i]/\H l=some (.l xs)/\-(2^63)<=i/\i<2^63/\seqIndex? i xs.length=some k/\xs[k]?=some y/\Q y (upd H l (.l (xs.eraseIdx k)))
theorem qf8:MtM X "list.pop" rPopAt:=by
 intro pins s C H x vs v us Q I f j h;obtain⟨l,xs,i,k,y,rfl,rfl,d,m,o,p,A,q⟩:=h;cases f;obtain⟨u,rfl,B⟩:=j.one;obtain⟨t,rfl⟩:=B;obtain⟨z,a,n,r,hl,e⟩:=I.lstM d;obtain⟨w,hw,c⟩:=r.get A;refine uJ F.slot_list_pop ⟨_,e,rfl⟩ F.entry_list_pop (F.args_list_pop_2 _ _)
  (MeetsSeq.list_pop_at l a.toArray n i t k w (fitsIndex_both m o) (by rw[wO,<-hl];exact p) (by rw[<-u7];exact hw) (by rw[wO];lia)) ⟨e,?_⟩
 refine⟨y,_,I.lset (its':=a.eraseIdx k) d e ?_ (r.eraseIdx k) ?_,c,q⟩
 .show a.toArray.eraseIdxIfInBounds k=(a.eraseIdx k).toArray
  rw[List.eraseIdxIfInBounds_toArray]
 .have:=qbg xs k
  lia
theorem qbE{a:Type}(xs:List a)(k:Nat):(List.replicate k xs).flatten.length=k*xs.length:=by
 induction k with
 |zero=>simp
 |succ k c=>rw[ww,uD,wP,c,xJ,Nat.add_comm]
end
section
variable{prog:Program}{w:World}{A:Around}{E:Value->Shared->Prop}{s:Shared}
set_option maxRecDepth 100000 in
end
section
variable{κ:Type}[DecidableEq κ]
noncomputable def valV(kvs:List (κ×V))(k:κ):Option V:=(kvs.find? λa=>decide (a.1=k)).map (·.2)
noncomputable def putK(kvs:List (κ×V))(k:κ)(v:V):List (κ×V) :=
 if(kvs.any λa=>decide (a.1=k))=true then kvs.map (λa=>if a.1=k then(a.1,v)else a)else kvs++[(k,v)]
theorem jB{p:κ×V}{r:List (κ×V)}{k:κ}(e:p.1=k):valV (p::r) k=some p.2:=by simp[valV,ur,e]
theorem jC{p:κ×V}{r:List (κ×V)}{k:κ}(e:¬p.1=k):valV (p::r) k=valV r k:=by simp[valV,ur,e]
theorem qcn(k:κ):∀kvs:List (κ×V),(kvs.any λa=>decide (a.1=k))=(valV kvs k).isSome
 |[]=>rfl
 |p::r=>by
  rw[uU];by_cases e:p.1=k
  .simp only[jB e,wQ e,Bool.true_or,Option.isSome_some]
  .rw [jC e,wU e,Bool.false_or];exact qcn k r
theorem qac(kvs:List (κ×V))(k:κ)(v:V):(putK kvs k v).length<=kvs.length+1:=by
 unfold putK;split
 .rw [wF];lia
 .rw [wP,wY,uF];lia
theorem RelO.isSome_eq{o:Option V}{u:Option Value}(r:RelO o u):o.isSome=u.isSome:=by
 cases o with
 |none=>cases u with
  |none=>rfl
  |some _=>exact(show False from r).elim
 |some _=>cases u with
  |none=>exact(show False from r).elim
  |some _=>rfl
theorem KV.val{kvs:List (κ×V)}{vs:List (κ×Value)}(r:KV kvs vs)(k:κ):RelO (valV kvs k) (valueAt vs k):=by
 unfold KV at r;induction r with
 |nil=>exact True.intro
 | @cons p q ps qs h t c =>
  obtain⟨a,d⟩:=h;by_cases e:p.1=k
  .have e':q.1=k:=a.symm.trans e
   have b:valueAt (q::qs) k=some q.2:=by simp[valueAt,ur,e']
   rw[jB e,b];exact d
  .have e':¬q.1=k:=λz=>e (a.trans z)
   have b:valueAt (q::qs) k=valueAt qs k:=by simp[valueAt,ur,e']
   rw[jC e,b];exact c
theorem KV.any{kvs:List (κ×V)}{vs:List (κ×Value)}(r:KV kvs vs)(k:κ):(kvs.any λa=>decide (a.1=k))=vs.any λa=>decide (a.1=k):=by
 unfold KV at r;induction r with
 |nil=>rfl
 |cons h t c=>rw[uU,uU,c,h.1]
theorem KV.repl{kvs:List (κ×V)}{vs:List (κ×Value)}(r:KV kvs vs)(k:κ){y:V}{u:Value}(d:RelV y u):
  KV (kvs.map λa=>if a.1=k then(a.1,y)else a) (vs.map λa=>if a.1=k then(a.1,u)else a):=by
 unfold KV at r ⊢;induction r with
 |nil=>exact .nil
 | @cons p q ps qs h t f =>
  rw[wj,wj];refine .cons ?_ f;obtain⟨c,i⟩:=h;by_cases e:p.1=k
  .rw [wN e,wN (c.symm.trans e)];exact⟨c,d⟩
  .rw [wT e,wT (λz=>e (c.trans z))];exact⟨c,i⟩
theorem KV.put{kvs:List (κ×V)}{vs:List (κ×Value)}(r:KV kvs vs)(k:κ){y:V}{u:Value}(a:RelV y u):KV (putK kvs k y) (stored vs k u):=by
 unfold putK stored;rw[r.any k];by_cases e:(vs.any λc=>decide (c.1=k))=true
 .rw [wN e,wN e];exact r.repl k a
 .rw [wT e,wT e];exact Paired.snoc r ⟨rfl,a⟩
theorem KV.length{kvs:List (κ×V)}{vs:List (κ×Value)}(r:KV kvs vs):kvs.length=vs.length:=Paired.length r
end
def qf9{P:Program}{w:World}{k:Key}{u:Value}(r:RelV (kV k) u):(mixKind P w).is k u=true:=by
 cases k with
 |inl i=>obtain⟨t,e⟩:=(show ∃t,u=Value.int i t from r);subst e;exact qch P w i t
 |inr x=>obtain⟨t,e⟩:=(show ∃t,u=Value.str x t from r);subst e;exact qci P w x t
def qbh{P:Program}{w:World}:∀{ks:List Key} {us:005},Vals (ks.map kV) us->ItemsAre (mixKind P w) ks us
 |[],_,r=>by rw[xN]at r;cases r;exact .nil
 |k::ks,_,r=>by
  rw[wj]at r;cases r with
  |cons h t=>exact .cons (qf9 h) (qbh t)
noncomputable abbrev KT(H:Hp):List (List Key×V)->List (List Key×Addr×Value)->Prop:=Paired λp q=>p.1=q.1/\H q.2.1=some (.t (p.1.map kV))/\RelV p.2 q.2.2
def KT.val{H:Hp}{kvs:List (List Key×V)}{xs:List (List Key×Addr×Value)}(r:KT H kvs xs)(k:List Key):RelO (valV kvs k) ((atKey xs k).map (·.2)):=by
 induction r with
 |nil=>exact True.intro
 | @cons p q ps qs h t c =>
  obtain⟨a,_,d⟩:=h;by_cases e:p.1=k
  .have e':q.1=k:=a.symm.trans e
   have b:atKey (q::qs) k=some q.2:=by simp[atKey,ur,e']
   rw[jB e,b];exact d
  .have e':¬q.1=k:=λz=>e (a.trans z)
   have b:atKey (q::qs) k=atKey qs k:=by simp[atKey,ur,e']
   rw[jC e,b];exact c
def KT.repl{H:Hp}{kvs:List (List Key×V)}{xs:List (List Key×Addr×Value)}(r:KT H kvs xs)(k:List Key){y:V}{u:Value}(f:RelV y u):
  KT H (kvs.map λc=>if c.1=k then(c.1,y)else c) (xs.map (putAt k u)):=by
 induction r with
 |nil=>exact .nil
 | @cons p q ps qs h t i =>
  rw[wj,wj];refine .cons ?_ i;obtain⟨a,d,j⟩:=h;unfold putAt;by_cases e:p.1=k
  .rw [wN e,wN (a.symm.trans e)];exact⟨a,d,f⟩
  .rw [wT e,wT (λz=>e (a.trans z))];exact⟨a,d,j⟩
def KT.put{H:Hp}{kvs:List (List Key×V)}{xs:List (List Key×Addr×Value)}(r:KT H kvs xs)(k:List Key){b:Addr}{y:V}{u:Value}(hb:H b=some (.t (k.map kV)))(a:RelV y u):
  KT H (putK kvs k y) (storedH xs k b u):=by
 have e:(kvs.any λc=>decide (c.1=k))=(atKey xs k).isSome:=by
  rw[qcn,(r.val k).isSome_eq,Option.isSome_map]
 unfold putK storedH;rw[e];by_cases q:(atKey xs k).isSome=true
 .rw [wN q,wN q];exact r.repl k a
 .rw [wT q,wT q];exact Paired.snoc r ⟨rfl,hb,a⟩
def KT.keeps{H H':Hp}{kvs:List (List Key×V)}{xs:List (List Key×Addr×Value)}(r:KT H kvs xs)(a:∀b ys,H b=some (.t ys)->H' b=some (.t ys)):KT H' kvs xs :=
 Paired.mapP r λ_ _ z=>⟨z.1,a _ _ z.2.1,z.2.2⟩
section
variable{P:Program}{w:World}{H:Hp}{h:Heap}{a:Addr}
theorem qjN{u:HO}(ok:HOk P w H h)(e:Rd H a u):ObjOk P w H h a u:=e.ok ok
theorem qd5{kvs:List (Key×V)}(ok:HOk P w H h)(e:Rd H a (.dK kvs)):kvs.length<=sizeLine/\(a == sysModules)=false/\∃vs,KV kvs vs/\h.DictOf (mixKind P w) a vs :=
 show ObjOk P w H h a (.dK kvs)from qjN ok e
theorem qmf{kvs:List (Key×V)}(ok:HOk P w H h)(e:H a=some (.dK kvs)):kvs.length<=sizeLine/\(a == sysModules)=false/\∃vs,KV kvs vs/\h.DictOf (mixKind P w) a vs:=qd5 ok (.inl e)
theorem qdl{ks:List Key}(ok:HOk P w H h)(e:H a=some (.t (ks.map kV))):(tupleKind (mixKind P w)).is h ks a:=by
 obtain⟨_,c,r,⟨o,d,f,n,i⟩,_⟩:=(show ObjOk P w H h a (.t (ks.map kV))from ok a _ e);exact⟨o,c.toArray,n,d,f,i,by simpa using qbh r⟩
theorem qd6{kvs:List (List Key×V)}(ok:HOk P w H h)(e:Rd H a (.dT kvs)):kvs.length<=sizeLine/\(a == sysModules)=false /\
  ∃xs,KT H kvs xs/\h.DictOfH (tupleKind (mixKind P w)) a xs:=by
 obtain⟨z,y,xs,r,o,es,f,i,j,n,s,u⟩:=(show ObjOk P w H h a (.dT kvs)from qjN ok e);refine⟨z,y,xs,r,o,es,f,i,j,n,s,λx c=>?_,u⟩;have all:∀{l:List (List Key×V)} {m:List (List Key×Addr×Value)},KT H l m->∀x∈m,(tupleKind (mixKind P w)).is h x.1 x.2.1:=by
  intro l m q;induction q with
  |nil=>intro x c;exact nomatch c
  | @cons p q ps qs d t v =>
   intro x c;rcases wW.mp c with e|c
   .subst e
    exact qdl ok (by rw[<-d.1];exact d.2.1)
   .exact v x c
 exact all r x c
theorem qmg{kvs:List (List Key×V)}(ok:HOk P w H h)(e:H a=some (.dT kvs)):kvs.length<=sizeLine/\(a == sysModules)=false /\
  ∃xs,KT H kvs xs/\h.DictOfH (tupleKind (mixKind P w)) a xs:=qd6 ok (.inl e)
end
noncomputable def DGet(H:Hp)(a:Addr)(y:V)(r:Option V):Prop :=
 (∃kvs k,Rd H a (.dK kvs)/\y=kV k/\r=valV kvs k)\/∃kvs k b,Rd H a (.dT kvs)/\y=.ref b/\H b=some (.t (k.map kV))/\r=valV kvs k
noncomputable def DPut(H:Hp)(a:Addr)(y v:V)(H':Hp):Prop :=
 (∃kvs k,H a=some (.dK kvs)/\y=kV k/\kvs.length<sizeLine/\H'=upd H a (.dK (putK kvs k v))) \/
 ∃kvs k b,H a=some (.dT kvs)/\y=.ref b/\H b=some (.t (k.map kV))/\kvs.length<sizeLine/\H'=upd H a (.dT (putK kvs k v))
def DGet.t{H:Hp}{a b:Addr}{kvs:List (List Key×V)}{k:List Key}(e:H a=some (.dT kvs))(c:H b=some (.t (k.map kV))):DGet H a (.ref b) (valV kvs k):=.inr ⟨kvs,k,b,.inl e,rfl,c,rfl⟩
def DPut.k{H:Hp}{a:Addr}{kvs:List (Key×V)}{k:Key}{v:V}(e:H a=some (.dK kvs))(hl:kvs.length<sizeLine):DPut H a (kV k) v (upd H a (.dK (putK kvs k v))):=.inl ⟨kvs,k,e,rfl,hl,rfl⟩
def DPut.t{H:Hp}{a b:Addr}{kvs:List (List Key×V)}{k:List Key}{v:V}(e:H a=some (.dT kvs))(c:H b=some (.t (k.map kV)))(hl:kvs.length<sizeLine):
  DPut H a (.ref b) v (upd H a (.dT (putK kvs k v))):=.inr ⟨kvs,k,b,e,rfl,c,hl,rfl⟩
section
variable{X:Cx}{pins:List (Addr×Obj)}{σ:St}{H:Hp}{s:Shared}{a:Addr}{y v:V}{u r:Value}{o:Option V}{A:Around}{E:Value->Shared->Prop}
theorem Inv.big(I:016):sysModules<s.heap.objs.size:=by
 have h:mainGlobals<s.heap.objs.size:=(I.mod.glob.keeps I.bk).lt;exact Nat.lt_trans 01 h
theorem qfe{Q:015}(n:A.units+1<cLine)(I:016)(g:DGet H a y (some v))(m:RelV y u)(h:∀f s',Inv X pins σ H s'->RelV v f->Q f s'):
  wpAny 006 A (getItem (.ref a) u) Q E s:=by
 rcases g with ⟨kvs,k,e,i,l⟩|⟨kvs,k,b,e,i,eb,l⟩
 .subst i
  obtain⟨z,hd,vs,c,dd⟩:=qd5 I.hok e;obtain⟨f,hw,d⟩:=RelO.some_of (v:=v) (o:=valueAt vs k) (by rw[l];exact c.val k);exact wpAny_getItem_of (qf9 m) dd.mapOf hw (h f _ (I.tok _) d)
 .subst i
  cases (show u=Value.ref b from m);obtain⟨z,hd,xs,c,dd⟩:=qd6 I.hok e;obtain⟨f,hw,d⟩:=RelO.some_of (v:=v) (o:=(atKey xs k).map (·.2)) (by rw[l];exact c.val k);obtain⟨p,q,j⟩:=Option.map_eq_some_iff.mp hw;refine wpAny_getItem_heap (tupleKind_room_in1 n) (qdl I.hok eb) dd q ?_;rw[j];exact h f _ (I.tok _) d
theorem qd7{h':Heap}{t':Nat}{ob:HO}(I:016)(c:Mut (H a))(hs:Heap.SameBut a s.heap h')(d:∃q,h'.get? a=some q)(new:ObjOk X.prog X.w (upd H a ob) h' a ob):
  Inv X pins σ (upd H a ob) {s with heap:=h',toks:=t' } :=
 I.write (x:=a) (e:=a) c (.inl rfl) (λb q hb z=>(hs.2 b hb).trans z) d new
theorem qkN{P:Program}{w:World}{H':Hp}{h':Heap}{kvs:List (Key×V)}{vs:List (Key×Value)}(z:kvs.length<=sizeLine)(hd:(a == sysModules)=false)(c:KV kvs vs)(dd:h'.DictOf (mixKind P w) a vs):
  ObjOk P w H' h' a (.dK kvs):=⟨z,hd,vs,c,dd⟩
theorem qff{H':Hp}{Q:Unit->Shared->Prop}(C:A.units+1<cLine)(I:016)(g:DPut H a y v H')(p:RelV y u)(x:RelV v r)(h:∀s',Inv X pins σ H' s'->Q () s'):
  wpAny 006 A (setItem (.ref a) u r) Q E s:=by
 rcases g with ⟨kvs,k,e,j,l,m⟩|⟨kvs,k,b,e,j,eb,l,m⟩
 .subst j m
  obtain⟨z,hd,vs,d,dd⟩:=qmf I.hok e;have n:vs.length<=sizeLine:=by rw[<-d.length];exact z
  have hl:(putK kvs k v).length<=sizeLine:=by have:=qac kvs k v;lia
  refine wpAny_setItem_pairs (hsz:=n) (qf9 p) dd λh' f hs=>h _ ?_
  have F:∃q,h'.get? a=some q:=let ⟨q,_,_,i,_⟩:=f;⟨q,i⟩;exact qd7 I (by rw[e];exact True.intro) hs F (qkN hl hd (d.put k x) f)
 .subst j m
  cases (show u=Value.ref b from p);obtain⟨z,hd,xs,d,dd⟩:=qmg I.hok e;have n:xs.length<=sizeLine:=by rw[<-Paired.length d];exact z
  have hl:(putK kvs k v).length<=sizeLine:=by have:=qac kvs k v;lia
  refine wpAny_setItem_heap (hsz:=n) (tupleKind_room_in1 C) (qdl I.hok eb) dd λh' f hs=>h _ ?_
  obtain⟨q,es,J,i,K,L,M,_,N⟩:=f;refine qd7 I (by rw[e];exact True.intro) hs ⟨q,i⟩ ⟨hl,hd,_,(d.put k eb x).keeps λc ys B=>?_,q,es,J,i,K,L,M,N⟩;rw[qD (ql6 B e (λz=>nomatch z))];exact B
end
def qco{X:Cx}{pins:011}{c:St}{H:Hp}{s:09}{a:Addr}{y:V}{o:Option V}(I:Inv X pins c H s)(g:DGet H a y o):s.TypeIs (.ref a) "dict":=by
 rcases g with ⟨kvs,k,e,_,_⟩|⟨kvs,k,b,e,_,_,_⟩
 .obtain ⟨_,_,vs,_,dd⟩:=qd5 I.hok e
  exact dd.typeIs
 .obtain ⟨_,_,xs,_,dd⟩:=qd6 I.hok e
  exact dd.typeIs
def qga{P:Program}{w:World}{H:Hp}(h:Heap)(hb:sysModules<h.objs.size):ObjOk P w H (h.push {cls:=.type "dict",data:=.dict #[]}) h.objs.size (.dK []) :=
 ⟨wr _,wv.mpr (Ne.symm (wg hb)),[],.nil,Heap.DictOf.new h⟩
def qgb{P:Program}{w:World}{H:Hp}(h:Heap)(hb:sysModules<h.objs.size):ObjOk P w H (h.push {cls:=.type "dict",data:=.dict #[]}) h.objs.size (.dT []) :=
 ⟨wr _,wv.mpr (Ne.symm (wg hb)),[],.nil,_,#[],0,wJ _ rfl,⟨rfl,rfl,rfl⟩,rfl,rfl,List.nodup_nil⟩
noncomputable def tDNewK:TE:=λ_ H Q=>∀p,H p=none->Q (.ref p) (upd H p (.dK []))
noncomputable def tDNewT:TE:=λ_ H Q=>∀p,H p=none->Q (.ref p) (upd H p (.dT []))
section
variable{X:Cx}{pos:Pos}
theorem qgc:PE X (.Dict [] [] pos) tDNewK:=λpins s c H Q I h =>
 wpAny_Dict_empty ⟨.ref s.heap.objs.size,_,I.laid (a:=s.heap.objs.size) (o:=.dK []) (t':=s.toks) (λ_ _ q=>wB _ q) (wH _) (qga s.heap I.big),rfl,h _ (I.hok.fresh (wH _))⟩
theorem qgd:PE X (.Dict [] [] pos) tDNewT:=λpins s c H Q I h =>
 wpAny_Dict_empty ⟨.ref s.heap.objs.size,_,I.laid (a:=s.heap.objs.size) (o:=.dT []) (t':=s.toks) (λ_ _ q=>wB _ q) (wH _) (qgb s.heap I.big),rfl,h _ (I.hok.fresh (wH _))⟩
end
end L2
namespace Att
open PySem PySem.W PySem.Calls PyProof.Rows
def qai{P:Params}{h:Heap}:∀(ns:008) (vs:005),WellAll P h vs (ns.map WData.int)->IntsAre vs ns:=by
 intro ns;induction ns with
 |nil =>
  intro vs w;rw[xN]at w;cases w;exact .nil
 |cons n ns c =>
  intro vs w;rw[wj]at w;cases w with
  |cons a b =>
   cases a;exact .cons _ _ (c _ b)
def qfg{l:OpenLaw}{n:Nat}(hn:l.most=some n){P:Params}{h:Heap}{args:List WData}{c:005}(f:l.row.toRowW.claim.pre args=true)(p:WellAll P h c args):
  ∃a vs ns,c=[Value.ref a]/\args=[WData.list (ns.map WData.int)]/\h.get? a=some {cls:=.type "list",data:=.seq vs.toArray}/\IntsAre vs ns/\ns.length<=n:=by
 have s:WShape.hasAll [] args [.list .int]=true:=(pre_splitW f).1;have hc:l.pre.holds [] {args:=args}=true:=(pre_splitW f).2;obtain⟨d,r,rfl,u,v⟩:=hasAllW_cons s;obtain rfl:=hasAllW_nil v;obtain⟨xs,rfl,w⟩:=hasW_list u;obtain⟨ns,rfl⟩:=items_int w;have i:ns.length<=n:=by
  unfold OpenLaw.pre at hc;have m:(WTm.not (.lt (.lit (.int (n:Int))) (.len (.arg 0)))).holds [] {args:=[.list (ns.map .int)]}=true:=by
   have m:=(holds_andW hc).1;rw[hn]at m;exact m
  have o:=condW_of m (w_not (w_lt w_lit (w_len_list (w_arg rfl))));rw[wF]at o;refine Nat.le_of_not_lt λq=>?_
  have x:(n:Int)<((ns.length:Nat):Int):=by omega
  first
   | (rw[wQ x]at o;exact absurd o 01)
   | (simp at o;omega)
 cases p with
 |cons y A =>
  cases A;cases y with
  |list B j=>exact⟨_,_,ns,rfl,rfl,B,qai ns _ j,i⟩
def qfh(l:OpenLaw)(args:List WData):l.row.toRowW.claim.post args (.bool true) args=true :=
 postW_of (r:=l.row.toRowW) (X:=(true == true))
  (show WShape.has [] (.bool true) .bool=true by first|rfl|decide|simp[WShape.has,WShape.arms,WShape.armsAll])
  (show(WTm.eq .res (.lit (.bool true))).value [] {args:=args,res:=some (.bool true),after:=args}=some (.bool (true == true))from w_eq_bool (w_res rfl) w_lit) rfl
def attach_call{l:OpenLaw}{n:Nat}{q:Program}{h:014}{XP:(Str->Option Value)->Heap->Prop}{B:World->Heap->Prop}{d:DefRec}(hn:l.most=some n)(v:d.params.defaults=[])(call:∀(w:World) (s₀ c:09) (mg mb:025) (j:Addr) (o:Obj) (pm u doc:Value) (a:Addr) (vs:005) (ns:008),
   Ground q h [] XP w s₀ mg mb c.heap->B w c.heap ->
   c.heap.get? j=some o->o.data=.func (docDef d.name d.params d.body d.scope pm u doc)->c.heap.CodeRec u d.name->mg d.name=some (.ref j) ->
   c.heap.get? a=some {cls:=.type "list",data:=.seq vs.toArray}->IntsAre vs ns->ns.length<=n->c.gens=#[] ->
   codeAny (model l.prog w) callerA (.call (.ref j) ⟨[.ref a],[]⟩) (λr s'=>r=.ok (.ret (.bool true))/\OldK c.heap s'.heap/\s'.os=c.os/\AllBare s'.gens) c):
  WalkO q h XP B l.row.toRowW d [] (λf vs=>PySem.call f vs):=by
 intro w s₀ c mg mb G Y j o pm u doc H kV I hd x C y J args E as m F K A L;obtain rfl:H=.none:=Dflts.none C v;obtain rfl:kV=.none:=Dflts.noKw C;obtain⟨a,vs,ns,rfl,rfl,p,i,s⟩:=qfg hn m A;refine enter_call (codeAny_mono (call w s₀ c mg mb j o pm u doc a vs ns G Y I (fd_plain hd) x y p i s J) λr s' M=>?_);obtain⟨rfl,N,O,P⟩:=M;exact⟨.inl ⟨.bool true,.bool true,[],rfl,λ_=>rfl,.bool true,qfh l _,λ_=>⟨List.Pairwise.nil,λ_ hm=>(nomatch hm)⟩⟩,N,O,P⟩
end Att
namespace L2
open PySem PySem.Spec PyProof.Rows
def qbi:∀{vs:005} {ns:008},IntsAre vs ns->Vals (ns.map V.int) vs
 |_,_,.nil=>.nil
 |_,_,.cons n t h=>.cons ⟨t,rfl⟩ (qbi h)
noncomputable def defArgs(s:Stmt):Arguments:=match s with
 | .FunctionDef _ a _ _ _ _ _ _ _ _=>a
 |_=>{posonlyargs:=[],args:=[],vararg:=none,kwonlyargs:=[],kw_defaults:=[],kwarg:=none,defaults:=[]}
noncomputable def defBody(s:Stmt):List Stmt:=match s with
 | .FunctionDef _ _ b _ _ _ _ _ _ _=>b
 |_=>[]
noncomputable def defScope(s:Stmt):Scope:=match s with
 | .FunctionDef _ _ _ _ _ _ sc _ _ _=>sc
 |_=>{kind:=.function,names:=[],isGenerator:=false,isCoroutine:=false}
noncomputable abbrev CX0:CXT:=λ_ _ _ _ _ _=>False
noncomputable abbrev E0:XK:=λ_ _ _=>False
def pass0{X:Cx}:Passes CX0 X E0:=λ_ _ _ _ _ _ _ h=>h.elim
def qjO{A:Around}{k:Nat}(a:Room k A):A.units+1<cLine:=Nat.lt_of_le_of_lt (Nat.add_le_add_left (by decide:1<=64) _) a.units
end L2
namespace HT
open PySem PySem.Spec PyProof.Rows
section
variable{prog:Program}{w:World}{A:Around}{E:Value->Shared->Prop}{s:Shared}
theorem qa3{t:Addr}{items:028}{Q:Bool->Shared->Prop}(a:IsTup s.heap t items)(h:Q true s):wpAny 018 A (Builtin.Tuple.tupleIsExact (.ref t)) Q E s:=by
 unfold Builtin.Tuple.tupleIsExact;refine wA (xI a.typeIs ?_);exact wD h
theorem jk{t sl:Addr}{items:028}{j l:Value}{lo hi:Option Int}{Q:015}(a:IsTup s.heap t items)(hs:s.heap.IsSliceOf sl j l .none)(pl:IsPart j lo)(m:IsPart l hi)(hw:sIx items.size 0 lo=0/\sIx items.size items.size hi=items.size)(h:Q (.ref t) s):wpAny 018 A (getItem (.ref t) (.ref sl)) Q E s:=by
 obtain⟨os,d,f,n⟩:=id hs;have i:s.TypeIs (.ref sl) "slice":=⟨os,d,f⟩;unfold getItem
 try with_reducible refine vQ ?_
 first|refine wA (wD ?_)|skip
 refine wA (wpAny_sequenceKey a.typeIs 01 ?_);refine wA (vA (name:=Str.ofString "__getitem__") a.typeIs vT
  (vI vT a.typeIs entry_tuple_getitem ?_ (args_tuple_getitem _ _)))
 show wpAny _ _ (Builtin.Tuple.tupleItemsOf (.ref t) >>= _) _ _ s;refine wA (tupleItemsOf_ a ?_);refine wA (xI i ?_);rw[wN 01];refine wA (yw hs pl m ?_);have c:(((sIx items.size 0 lo:Nat):Int) == 0&&(1:Int) == 1&&051 == items.size)=true:=by
  rw[hw.1,hw.2];simp
 show wpAny _ _ (if(((sIx items.size 0 lo:Nat):Int) == 0&&(1:Int) == 1&&051 == items.size)=true then _ else _) _ _ s;rw[wN c];refine wA (qa3 a ?_);rw[wN rfl];refine wA (ux ?_);exact wA (wD (wD ⟨_,rfl,wD h⟩))
end
def jT:fillsNumberSlot (.type "tuple") "mul"=pure false :=
 PySem.fillsNumberSlot_seq (id:="tuple.__mul__") (r:=some (.builtin "tuple.__rmul__")) F.slot_tuple_mul.lookup (by decide +kernel) F.slot_tuple_rmul.lookup (by decide +kernel)
def qbF:seqRepeat? (.type "tuple")=pure (some (.builtin "tuple.__mul__")):=by
 unfold seqRepeat?;rw[PySem.seqSlot_of (T:="tuple") (name:="__mul__") (id:="tuple.__mul__") F.slot_tuple_mul.lookup (by decide +kernel),PySem.seqSlot_of (T:="tuple") (name:="__rmul__") (id:="tuple.__rmul__") F.slot_tuple_rmul.lookup (by decide +kernel)];rfl
section
variable{prog:Program}{w:World}{A:Around}{E:Value->Shared->Prop}{s:Shared}
theorem qge{a:Int}{t:Tok}{l:Addr}{items:028}{Q:_->Shared->Prop}(f:IsTup s.heap l items)(h:Q (.done (.ret Value.notImplemented)) s):wpAny 018 A (Builtin.«int.__rmul__» ⟨[.int a t,.ref l],[]⟩) Q E s:=by
 obtain⟨o,i,hc,n,hd⟩:=f;obtain⟨j,g,d,tk,os⟩:=s;obtain⟨c,dd,m,sl⟩:=o;cases hc;cases hd;wp_walk;exact h
theorem qiw{l:Addr}{items:028}{k:Int}{t:Tok}{Q:_->Shared->Prop}(j:IsTup s.heap l items)(B:-(2^63)<=k)(C:k<2^63)(p:items.size*k.toNat<=sizeLine)(hs:(items=#[]\/k=1)->Q (.done (.ret (.ref l))) s)(hn:(¬(items=#[]\/k=1))->Q (.done (.ret 043)) {s with heap:=s.heap.push {cls:=.type "tuple",data:=.seq ((List.replicate k.toNat items.toList).flatten).toArray}}):
  wpAny 018 A (Builtin.«tuple.__mul__» ⟨[.ref l,.int k t],[]⟩) Q E s:=by
 obtain⟨o,F,hc,n,hd⟩:=j;obtain⟨H,g,d,tk,os⟩:=s;obtain⟨c,dd,I,sl⟩:=o;cases hc;cases hd;have f:(decide (k < -(2^63)) || decide (k>=2^63))=false:=by simp;lia
 by_cases z:items=#[]\/k=1
 .have h:(items.isEmpty || k == 1)=true:=by
   rcases z with z|z
   .rw [z];rfl
   .rw [z];simp
  wp_walk;rw[wT (by rw[f];exact wd)];wp_walk;exact hs z
 .have h:(items.isEmpty || k == 1)=false:=by
   simp only[Bool.or_eq_false_iff,wv];exact⟨by rw[<-Bool.not_eq_true];intro q;exact z (.inl (by simpa using q)),λq=>z (.inr q)⟩
  wp_walk;rw[wT (by rw[f];exact wd)];wp_walk;have ne:items.isEmpty=false:=(Bool.or_eq_false_iff.mp h).1;by_cases k0:k<=0
  .have a:(decide (k<=0) || items.isEmpty)=true:=by rw[wQ k0];rfl
   rw[wN a];wp_walk;have e:k.toNat=0:=by lia
   have:=hn z;rw[e]at this;exact this
  .have a:(decide (k<=0) || items.isEmpty)=false:=by rw[wU k0,ne];rfl
   rw[wT (by rw[a];exact wd)];have i:(items.size:Int)*k=((items.size*k.toNat:Nat):Int):=by
    rw[Int.natCast_mul];congr 1;lia
   have r:¬((items.size:Int)*k>(2^63-1) / 8):=by
    rw[i];have:((sizeLine:Nat):Int)<=(2^63-1) / 8:=by decide
    lia
   have u:Builtin.Tuple.tupleTooMany ((items.size:Int)*k)=false:=by
    unfold Builtin.Tuple.tupleTooMany;rw[i,wU];lia
   have v:List.foldl (λx y=>x++y) #[] (List.replicate k.toNat items)=(List.replicate k.toNat items.toList).flatten.toArray:=by
    have:=L2.jR items.toList k.toNat [];rw[List.nil_append]at this;simpa using this
   rw[wT r];wp_walk;rw[v];rw[wT (by rw[u];exact wd)];have hl:sizeOk (.seq (List.replicate k.toNat items.toList).flatten.toArray):=by
    show(List.replicate k.toNat items.toList).flatten.toArray.size<=sizeLine;rw[wO,L2.qbE,uI,Nat.mul_comm];exact p
   show wpAny _ _ (Builtin.Tuple.tupleExact _ >>= _) _ _ _
   first
    |exact wA (m:=Builtin.Tuple.tupleExact _) (wf (wD (hn z)) hl)
    |exact wA (m:=Builtin.Tuple.tupleExact _) (wf (hn z) hl)
end
end HT
namespace L2
open PySem PySem.Spec PyProof.Rows
section
variable{X:Cx}
def rSlW(K:009):V->Option Int->Option Int->Hp->VK->Prop:=λx lo hi H Q=>∃a xs,x=.ref a/\SqT K H a xs /\
 (HT.sIx xs.length 0 lo=0/\HT.sIx xs.length xs.length hi=xs.length)/\Q x H
theorem qix:SlR X (rSlW X.K):=by
 intro pins s m H x v n o lo hi sl Q I i hs pl j h;obtain⟨a,xs,rfl,l,hw,q⟩:=h;cases i;obtain⟨d,r,f,p⟩:=I.tuple l;have c:d.toArray.size=xs.length:=by rw[wO];exact r.length.symm
 refine⟨"tuple",_,vT.lookup,f.typeIs,?_⟩;exact HT.jk f hs pl j (by rw[c];exact hw) ⟨.ref a,H,I,rfl,q⟩
noncomputable def rRepT(K:009):R2:=λx y H Q=>∃a k xs,x=.ref a/\y=.int k/\SqT K H a xs/\-(2^63)<=k/\k<2^63/\xs.length*k.toNat<=sizeLine /\
 ((xs=[]\/k=1)->Q x H)/\((¬(xs=[]\/k=1))->∀p,H p=none->Q (.ref p) (upd H p (.t (List.replicate k.toNat xs).flatten)))
theorem qiy:OpR X (binaryOp .Mult) (rRepT X.K):=by
 intro pins s B H x y v u Q I l m h;obtain⟨a,k,xs,rfl,rfl,n,p,w,j,q1,q2⟩:=h;cases l;obtain⟨t,rfl⟩:=m;obtain⟨d,r,i,A⟩:=I.tuple n;have c:d.length=xs.length:=r.length.symm;have f:(d.toArray=#[]\/k=1) ↔ (xs=[]\/k=1):=by
  constructor
  .rintro (z|z)
   .left
    have:d=[]:=by simpa using z
    rw[this]at c;exact wp.mp (by simpa using c.symm)
   .exact .inr z
  .rintro (z|z)
   .left
    rw[z]at c;have:d=[]:=wp.mp (by simpa using c);rw[this]
   .exact .inr z
 refine wpAny_binaryOp_repeat_ref (T:="tuple") (U:="int") 01 i.typeIs (λs'=>typeIs_int s' k t) HT.jT F.fills_int_mul xm HT.qbF F.slot_int_index.lookup ?_;refine vI xm (typeIs_int s k t) F.entry_int_rmul (HT.qge i ⟨_,rfl,rfl,i.typeIs,?_⟩) (F.args_int_rmul_2 _ _);refine vI F.slot_tuple_mul i.typeIs F.entry_tuple_mul (HT.qiw i p w (by rw[wO,c];exact j) (λz=>⟨_,rfl,.ref a,H,I,rfl,q1 (f.mp z)⟩) λz=>⟨_,rfl,?_⟩) (F.args_tuple_mul_2 _ _);refine⟨.ref s.heap.objs.size,_,I.laid (t':=s.toks) (o:=.t (List.replicate k.toNat xs).flatten) (λb ob q=>wB _ q) (wH _) ?_,rfl,q2 (λy=>z (f.mpr y)) _ (I.hok.fresh (wH _))⟩;exact⟨by rw[qbE,Nat.mul_comm];exact j,_,r.rep k.toNat,IsTup.new _ _,jf _ _⟩
end
end L2
namespace HT
open PySem PyProof.Rows
section
open PySem.SeqAt
open PySem.AutoSeq1 (wpAny_loadPart')
open PySem.MeetsSeq PySem.MeetsSeq2 PySem.MeetsSeq3
end
end HT
section
set_option maxHeartbeats 400000
end
section
set_option maxHeartbeats 400000
end
section
set_option maxHeartbeats 400000
end
section
set_option maxHeartbeats 400000
end
namespace R
open PySem PySem.Spec PyProof.Rows L2
namespace EX
def Errs(a C:Addr)(h:Heap):Prop:=∃o vs,h.get? a=some o/\o.cls=.ref C/\o.data=.fields vs
end EX
inductive D where
 |non|bl (b:Bool)|int (i:Int)|str (x:Str)
 |t (l:04)|l (l:04)|emp
 |ref (n:Nat)
 |exc (C:Addr)
mutual
def Den(ι:03)(H:Hp):D->V->Prop
 | .non,v=>v=.non
 | .bl b,v=>v=.bl b
 | .int i,v=>v=.int i
 | .str x,v=>v=.str x
 | .t ds,v=>∃a xs,v=.ref a/\a∉ι/\H a=some (.t xs)/\Dens ι H ds xs
 | .l ds,v=>∃a xs,v=.ref a/\a∉ι/\Rd H a (.l xs)/\Dens ι H ds xs
 | .emp,v=>∃a,v=.ref a/\a∉ι/\H a=some (.dK [])
 | .ref n,v=>∃a,v=.ref a/\ι[n]?=some a
 | .exc C,v=>∃a,v=.ref a/\a∉ι/\H a=some (.ext (EX.Errs a C))
def Dens(ι:03)(H:Hp):List D->List V->Prop
 |[],xs=>xs=[]
 |d::ds,xs=>∃x r,xs=x::r/\Den ι H d x/\Dens ι H ds r
end
def NT:HO->Prop
 | .tbl _=>False
 |_=>True
structure Stp (ι:03) (H:Hp) (ι':03) (H':Hp):Prop where
 pre:ι <+: ι'
 new:∀a∈ι',a∈ι\/H a=none
 keep:∀a o,H a=some o->a∉ι->NT o->H' a=some o
 there:∀a,H a≠none->H' a≠none
def Stp.refl(ι:03)(H:Hp):Stp ι H ι H:=⟨xC _,λ_ h=>.inl h,λ_ _ h _ _=>h,λ_ h=>h⟩
def Stp.notin{ι c:03}{H H':Hp}(s:Stp ι H c H'){a:Addr}{o:HO}(h:H a=some o)(n:a∉ι):a∉c:=λm=>by
 rcases s.new a m with z|z
 .exact n z
 .rw [h]at z;cases z
def Stp.trans{ι c d:03}{H f H2:Hp}(s:Stp ι H c f)(t:Stp c f d H2):Stp ι H d H2 where
 pre:=s.pre.trans t.pre
 new:=λa m=>by
  rcases t.new a m with z|z
  .exact s.new a z
  .cases q:H a with
   |none=>exact .inr rfl
   |some o=>exact absurd z (s.there a (by rw[q];simp))
 keep:=λa o h n z=>t.keep a o (s.keep a o h n z) (s.notin h n) z
 there:=λa h=>t.there a (s.there a h)
def Stp.get{ι c:03}{H H':Hp}(s:Stp ι H c H'){n:Nat}{a:Addr}(h:ι[n]?=some a):c[n]?=some a:=by
 obtain⟨t,rfl⟩:=s.pre;rw[wL (wG.mp h).1];exact h
def Stp.rd{ι c:03}{H H':Hp}(s:Stp ι H c H'){a:Addr}{u:HO}(h:Rd H a u)(n:a∉ι)(z:NT u:=by trivial):Rd H' a u/\a∉c:=by
 rcases h with h|⟨o,h⟩
 .exact ⟨.inl (s.keep _ _ h n z),s.notin h n⟩
 .exact ⟨.inr ⟨o,s.keep _ _ h n trivial⟩,s.notin h n⟩
mutual
def Den.mono{ι ι':03}{H H':Hp}(s:Stp ι H ι' H'):∀(d:D) {v:V},Den ι H d v->Den ι' H' d v
 | .non,_,h=>h
 | .bl _,_,h=>h
 | .int _,_,h=>h
 | .str _,_,h=>h
 | .t ds,_,h=>by
  obtain⟨a,xs,e,n,ha,r⟩:=h;exact⟨a,xs,e,s.notin ha n,s.keep _ _ ha n trivial,Dens.mono s ds r⟩
 | .l ds,_,h=>by
  obtain⟨a,xs,e,n,ha,r⟩:=h;exact⟨a,xs,e,(s.rd ha n).2,(s.rd ha n).1,Dens.mono s ds r⟩
 | .emp,_,h=>by
  obtain⟨a,e,n,ha⟩:=h;exact⟨a,e,s.notin ha n,s.keep _ _ ha n trivial⟩
 | .ref _,_,h=>by
  obtain⟨a,e,ha⟩:=h;exact⟨a,e,s.get ha⟩
 | .exc _,_,h=>by
  obtain⟨a,e,n,ha⟩:=h;exact⟨a,e,s.notin ha n,s.keep _ _ ha n trivial⟩
def Dens.mono{ι ι':03}{H H':Hp}(s:Stp ι H ι' H'):∀(ds:04) {xs:List V},Dens ι H ds xs->Dens ι' H' ds xs
 |[],_,h=>h
 |d::ds,_,h=>by
  obtain⟨x,r,e,h1,h2⟩:=h;exact⟨x,r,e,Den.mono s d h1,Dens.mono s ds h2⟩
end
def Dens.length{ι:03}{H:Hp}:∀{ds:04} {xs:List V},Dens ι H ds xs->ds.length=xs.length
 |[],_,h=>by cases (show _=[]from h);rfl
 |d::ds,_,h=>by
  obtain⟨x,r,rfl,_,a⟩:=h;simp[Dens.length a]
def Dens.append{ι:03}{H:Hp}:∀{ds es:04} {xs ys:List V},Dens ι H ds xs->Dens ι H es ys->Dens ι H (ds++es) (xs++ys)
 |[],_,_,_,h,k=>by cases (show _=[]from h);exact k
 |d::ds,_,_,_,h,k=>by
  obtain⟨x,r,rfl,a,c⟩:=h;exact⟨x,_,rfl,a,Dens.append c k⟩
def Dens.get{ι:03}{H:Hp}:∀{ds:04} {xs:List V} {i:Nat} {d:D},Dens ι H ds xs->ds[i]?=some d->∃x,xs[i]?=some x/\Den ι H d x
 |[],_,_,_,_,e=>by simp at e
 |d::ds,_,0,_,h,e=>by
  obtain⟨x,r,rfl,a,c⟩:=h;simp at e;subst e;exact⟨x,rfl,a⟩
 |d::ds,_,i+1,_,h,e=>by
  obtain⟨x,r,rfl,a,c⟩:=h;obtain⟨y,e1,e2⟩:=Dens.get (i:=i) c (by simpa using e);exact⟨y,by simpa using e1,e2⟩
def Dens.take{ι:03}{H:Hp}:∀{ds:04} {xs:List V} (n:Nat),Dens ι H ds xs->Dens ι H (ds.take n) (xs.take n)
 |_,_,0,_=>by simp[Dens]
 |[],_,n+1,h=>by cases (show _=[]from h);simp[Dens]
 |d::ds,_,n+1,h=>by
  obtain⟨x,r,rfl,a,c⟩:=h;exact⟨x,_,rfl,a,Dens.take n c⟩
def Dens.drop{ι:03}{H:Hp}:∀{ds:04} {xs:List V} (n:Nat),Dens ι H ds xs->Dens ι H (ds.drop n) (xs.drop n)
 |_,_,0,h=>by simpa using h
 |[],_,n+1,h=>by cases (show _=[]from h);simp[Dens]
 |d::ds,_,n+1,h=>by
  obtain⟨x,r,rfl,c,a⟩:=h;exact Dens.drop n a
def Dens.set{ι:03}{H:Hp}{d:D}{x:V}(hd:Den ι H d x):∀{ds:04} {xs:List V} (i:Nat),Dens ι H ds xs->Dens ι H (ds.set i d) (xs.set i x)
 |[],_,_,h=>by cases (show _=[]from h);simp[Dens]
 |d::ds,_,0,h=>by
  obtain⟨x,r,rfl,c,a⟩:=h;exact⟨_,_,rfl,hd,a⟩
 |d::ds,_,i+1,h=>by
  obtain⟨x,r,rfl,c,a⟩:=h;exact⟨_,_,rfl,c,Dens.set hd i a⟩
def Dens.snoc{ι:03}{H:Hp}{d:D}{x:V}{ds:04}{xs:List V}(h:Dens ι H ds xs)(hd:Den ι H d x):Dens ι H (ds++[d]) (xs++[x]) :=
 h.append ⟨x,[],rfl,hd,rfl⟩
mutual
noncomputable def refsLt(n:Nat):D->Bool
 | .ref k=>decide (k<n)
 | .t l=>refsLts n l
 | .l l=>refsLts n l
 | .exc _=>false
 |_=>true
noncomputable def refsLts(n:Nat):List D->Bool
 |[]=>true
 |d::r=>refsLt n d&&refsLts n r
end
def yQ(n:Nat):∀(a b:04),refsLts n (a++b)=(refsLts n a&&refsLts n b)
 |[],b=>by simp[refsLts]
 |d::r,b=>by simp only[List.cons_append,refsLts,yQ n r b,Bool.and_assoc]
def qB{n:Nat}:∀{l:04} {d:D},refsLts n l=true->d∈l->refsLt n d=true
 |[],_,_,h=>by cases h
 |x::r,d,h,m=>by
  simp only[refsLts,wS]at h;rcases wW.mp m with z|z
  .rw [z];exact h.1
  .exact qB h.2 z
def qJ{n:Nat}:∀{l:04},(∀d∈l,refsLt n d=true)->refsLts n l=true
 |[],_=>rfl
 |x::r,h=>by
  simp only[refsLts,wS];exact⟨h x wR,qJ λd m=>h d (wM _ m)⟩
mutual
def Den.less{ι:03}{H:Hp}{n:Nat}:∀(d:D) {v:V},refsLt n d=true->Den ι H d v->Den (ι.take n) H d v
 | .non,_,_,h=>h
 | .bl _,_,_,h=>h
 | .int _,_,_,h=>h
 | .str _,_,_,h=>h
 | .t ds,_,r,h=>by
  obtain⟨a,xs,e,m,ha,q⟩:=h;exact⟨a,xs,e,λz=>m (vh z),ha,Dens.less ds r q⟩
 | .l ds,_,r,h=>by
  obtain⟨a,xs,e,m,ha,q⟩:=h;exact⟨a,xs,e,λz=>m (vh z),ha,Dens.less ds r q⟩
 | .emp,_,_,h=>by
  obtain⟨a,e,m,ha⟩:=h;exact⟨a,e,λz=>m (vh z),ha⟩
 | .ref k,_,r,h=>by
  obtain⟨a,e,ha⟩:=h;exact⟨a,e,by rw[um (vR r)];exact ha⟩
 | .exc _,_,r,_=>by cases r
def Dens.less{ι:03}{H:Hp}{n:Nat}:∀(ds:04) {xs:List V},refsLts n ds=true->Dens ι H ds xs->Dens (ι.take n) H ds xs
 |[],_,_,h=>h
 |d::ds,_,r,h=>by
  obtain⟨x,t,e,h1,h2⟩:=h;simp only[refsLts,wS]at r;exact⟨x,t,e,Den.less d r.1 h1,Dens.less ds r.2 h2⟩
end
mutual
def zU{n:Nat}:∀(d:D),refsLt 0 d=true->refsLt n d=true
 | .non,_=>rfl
 | .bl _,_=>rfl
 | .int _,_=>rfl
 | .str _,_=>rfl
 | .t ds,h=>q8 ds h
 | .l ds,h=>q8 ds h
 | .emp,_=>rfl
 | .ref k,h=>absurd (vR (show decide (k<0)=true from h)) (Nat.not_lt_zero _)
 | .exc _,h=>by cases h
def q8{n:Nat}:∀(ds:04),refsLts 0 ds=true->refsLts n ds=true
 |[],_=>rfl
 |d::ds,h=>by
  simp only[refsLts,wS]at h ⊢;exact⟨zU d h.1,q8 ds h.2⟩
end
mutual
def qfk{m n:Nat}(h:m<=n):∀(d:D),refsLt m d=true->refsLt n d=true
 | .non,_=>rfl
 | .bl _,_=>rfl
 | .int _,_=>rfl
 | .str _,_=>rfl
 | .t ds,q=>yD h ds q
 | .l ds,q=>yD h ds q
 | .emp,_=>rfl
 | .ref k,q=>wQ (w6 (vR (show decide (k<m)=true from q)) h)
 | .exc _,h=>by cases h
def yD{m n:Nat}(h:m<=n):∀(ds:04),refsLts m ds=true->refsLts n ds=true
 |[],_=>rfl
 |d::ds,q=>by
  simp only[refsLts,wS]at q ⊢;exact⟨qfk h d q.1,yD h ds q.2⟩
end
inductive SO where
 |l (l:04)
 |dic (l:List (List Int×D))
 |dis (l:List (Key×D))
noncomputable def keyT(k:008):List Key:=k.map Sum.inl
noncomputable def DGs{κ K:Type}(f:κ->K)(ι:03)(H:Hp):List (κ×D)->List (K×V)->Prop
 |[],kvs=>kvs=[]
 |p::l,kvs=>∃v r,kvs=(f p.1,v)::r/\Den ι H p.2 v/\DGs f ι H l r
def DGs.mono{κ K:Type}{f:κ->K}{ι a:03}{H H':Hp}(s:Stp ι H a H'):∀{l:List (κ×D)} {kvs:List (K×V)},DGs f ι H l kvs->DGs f a H' l kvs
 |[],_,h=>h
 |_::_,_,h=>let ⟨v,r,e,c,d⟩:=h;⟨v,r,e,Den.mono s _ c,DGs.mono s d⟩
def DGs.length{κ K:Type}{f:κ->K}{ι:03}{H:Hp}:∀{l:List (κ×D)} {kvs:List (K×V)},DGs f ι H l kvs->l.length=kvs.length
 |[],_,h=>by cases (show _=[]from h);rfl
 |_::_,_,h=>by obtain⟨v,r,rfl,_,a⟩:=h;simp[DGs.length a]
def DGs.less{κ K:Type}{f:κ->K}{ι:03}{H:Hp}{n:Nat}:∀{l:List (κ×D)} {kvs:List (K×V)},refsLts n (l.map (·.2))=true->DGs f ι H l kvs->DGs f (ι.take n) H l kvs
 |[],_,_,h=>h
 |_::_,_,r,h=>by
  obtain⟨v,t,e,a,c⟩:=h;simp only[wj,refsLts,wS]at r;exact⟨v,t,e,Den.less _ r.1 a,DGs.less r.2 c⟩
def SOk(ι:03)(H:Hp)(a:Addr):SO->Prop
 | .l ds=>(∃j,ι[j]?=some a/\refsLts j ds=true)/\∃xs,H a=some (.l xs)/\Dens ι H ds xs
 | .dic l=>refsLts 0 (l.map (·.2))=true/\∃kvs,H a=some (.dT kvs)/\DGs keyT ι H l kvs
 | .dis l=>refsLts 0 (l.map (·.2))=true/\∃kvs,H a=some (.dK kvs)/\DGs id ι H l kvs
structure Sto (ι:03) (H:Hp) (S:List SO):Prop where
 len:ι.length=S.length
 nd:ι.Nodup
 obj:∀(n:Nat) (a:Addr) (so:SO),ι[n]?=some a->S[n]?=some so->SOk ι H a so
def SOk.some{ι:03}{H:Hp}{a:Addr}:∀{so:SO},SOk ι H a so->H a≠none
 | .l _,⟨_,_,h,_⟩=>by rw[h];simp
 | .dic _,⟨_,_,h,_⟩=>by rw[h];simp
 | .dis _,⟨_,_,h,_⟩=>by rw[h];simp
def Sto.there{ι:03}{H:Hp}{S:List SO}(s:Sto ι H S){a:Addr}(m:a∈ι):H a≠none:=by
 obtain⟨n,hn,e⟩:=uG m;have hs:n<S.length:=by rw[<-s.len];exact hn
 exact(s.obj n a S[n] (by rw[wC hn,e]) (wC hs)).some
def Sto.fresh{ι:03}{H:Hp}{S:List SO}(s:Sto ι H S){a:Addr}(h:H a=none):a∉ι:=λm=>s.there m h
def SOk.mono{ι c:03}{H H':Hp}(s:Stp ι H c H'){a:Addr}(d:H' a=H a):∀{so:SO},SOk ι H a so->SOk c H' a so
 | .l ds,⟨⟨j,e,f⟩,xs,h,r⟩=>⟨⟨j,s.get e,f⟩,xs,by rw[d];exact h,Dens.mono s _ r⟩
 | .dic l,⟨f,vs,h,r⟩=>⟨f,vs,by rw[d];exact h,DGs.mono s r⟩
 | .dis l,⟨f,vs,h,r⟩=>⟨f,vs,by rw[d];exact h,DGs.mono s r⟩
def Stp.laid{ι:03}{H:Hp}{p:Addr}(h:H p=none)(o:HO):Stp ι H ι (upd H p o) where
 pre:=xC _
 new:=λ_ m=>.inl m
 keep:=λa u e _ _=>by rw[qD (zO e h)];exact e
 there:=λa e=>by
  by_cases z:a=p
  .subst z;rw[qK];simp
  .rw [qD z];exact e
def Sto.laid{ι:03}{H:Hp}{S:List SO}(s:Sto ι H S){p:Addr}(h:H p=none)(o:HO):Sto ι (upd H p o) S where
 len:=s.len
 nd:=s.nd
 obj:=λn a so e1 e2=>(s.obj n a so e1 e2).mono (Stp.laid h o) (by
  rw[qD];intro z;subst z;exact s.there (wq e1) h)
def Stp.grow{ι:03}{H:Hp}{p:Addr}(h:H p=none)(o:HO):Stp ι H (ι++[p]) (upd H p o) where
 pre:=List.prefix_append _ _
 new:=λa m=>by
  rcases wa.mp m with z|z
  .exact .inl z
  .rw [wV.mp z];exact .inr h
 keep:=(Stp.laid (ι:=ι) h o).keep
 there:=(Stp.laid (ι:=ι) h o).there
def Sto.grow{ι:03}{H:Hp}{S:List SO}(s:Sto ι H S){p:Addr}(h:H p=none){o:HO}{so:SO}(k:SOk (ι++[p]) (upd H p o) p so):Sto (ι++[p]) (upd H p o) (S++[so]) where
 len:=by simp[s.len]
 nd:=by
  rw[vo];refine⟨s.nd,by simp,λa ha b hb e=>?_⟩;rw[wV.mp hb]at e;subst e;exact s.fresh h ha
 obj:=λn a x e1 e2=>by
  by_cases hn:n<ι.length
  .rw [wL hn]at e1
   rw[wL (by rw[<-s.len];exact hn)]at e2;exact(s.obj n a x e1 e2).mono (Stp.grow h o) (by
    rw[qD];intro z;subst z;exact s.there (wq e1) h)
  .rw [wK 00]at e1
   rw[wK (by rw[<-s.len];lia)]at e2;have z:n-ι.length=0:=by
    have:=(wG.mp e1).1;simp at this;lia
   rw[z]at e1;rw[<-s.len,z]at e2;simp at e1 e2;subst e1 e2;exact k
def Stp.put{ι:03}{H:Hp}{p:Addr}(m:p∈ι)(o:HO):Stp ι H ι (upd H p o) where
 pre:=xC _
 new:=λ_ m=>.inl m
 keep:=λa u e n _=>by rw[qD (λz=>n (by rw[z];exact m))];exact e
 there:=λa e=>by
  by_cases z:a=p
  .subst z;rw[qK];simp
  .rw [qD z];exact e
def zP{ι:03}(c:ι.Nodup){i j:Nat}{x:Addr}(a:ι[i]?=some x)(b:ι[j]?=some x):i=j:=by
 obtain⟨d,e1⟩:=wG.mp a;obtain⟨f,e2⟩:=wG.mp b;exact(xb c).mp (e1.trans e2.symm)
def Sto.put{ι:03}{H:Hp}{S:List SO}(s:Sto ι H S){n:Nat}{p:Addr}(c:ι[n]?=some p){o:HO}{so:SO}(k:SOk ι (upd H p o) p so):Sto ι (upd H p o) (S.set n so) where
 len:=by rw[xh];exact s.len
 nd:=s.nd
 obj:=λj a x e1 e2=>by
  by_cases d:j=n
  .subst d
   rw[c]at e1;obtain rfl:=Option.some.inj e1;have hl:j<S.length:=by rw[<-s.len];exact(wG.mp c).1
   rw[vW hl]at e2;obtain rfl:=Option.some.inj e2;exact k
  .rw [vi (Ne.symm d)]at e2
   refine(s.obj j a x e1 e2).mono (Stp.put (wq c) o) ?_;rw[qD];intro z;subst z;exact d (zP s.nd e1 c)
def Sto.less{ι:03}{H:Hp}{S:List SO}(s:Sto ι H S)(n:Nat):Sto (ι.take n) H (S.take n) where
 len:=by rw[vZ,vZ,s.len]
 nd:=s.nd.sublist (List.take_sublist _ _)
 obj:=λj a so e1 e2=>by
  have c:ι[j]?=some a:=by
   have:=(wG.mp e1).1;rw[vZ]at this;rw[um 00]at e1;exact e1
  have d:S[j]?=some so:=by
   have:=(wG.mp e2).1;rw[vZ]at this;rw[um 00]at e2;exact e2
  have k:=s.obj j a so c d;cases so with
  |l ds =>
   obtain⟨⟨i,m,f⟩,xs,h,r⟩:=k;have o:j<(ι.take n).length:=(wG.mp e1).1;rw[vZ]at o;obtain rfl:i=j:=zP s.nd m c;exact⟨⟨i,e1,f⟩,xs,h,Dens.less ds (yD 00 ds f) r⟩
  |dic l =>
   obtain⟨f,kvs,h,r⟩:=k;exact⟨f,kvs,h,DGs.less (q8 _ f) r⟩
  |dis l =>
   obtain⟨f,kvs,h,r⟩:=k;exact⟨f,kvs,h,DGs.less (q8 _ f) r⟩
def Stp.less{ι a:03}{H H':Hp}(s:Stp ι H a H'):Stp ι H (a.take ι.length) H':=by
 have e:a.take ι.length=ι:=by
  obtain⟨t,rfl⟩:=s.pre;simp
 rw[e];exact⟨xC _,λ_ m=>.inl m,s.keep,s.there⟩
def Stp.take_eq{ι a:03}{H H':Hp}(s:Stp ι H a H'):a.take ι.length=ι:=by
 obtain⟨t,rfl⟩:=s.pre;simp
noncomputable abbrev Sr:=List SO
noncomputable abbrev En:=List (Option D)
inductive Res (α:Type) where
 |ok (a:α) (S:Sr)|err (x:D) (S:Sr)|no
@[reducible] noncomputable def Res.bind{α β:Type}(r:Res α)(f:α->Sr->Res β):Res β:=match r with
 | .ok a S=>f a S
 | .err x S=>.err x S
 | .no=>.no
@[simp] theorem Res.bind_ok{α β:Type}(a:α)(S:Sr)(f:α->Sr->Res β):(Res.ok a S).bind f=f a S:=rfl
@[simp] theorem Res.bind_err{α β:Type}(x:D)(S:Sr)(f:α->Sr->Res β):(Res.err x S).bind f=.err x S:=rfl
@[simp] theorem Res.bind_no{α β:Type}(f:α->Sr->Res β):(Res.no:Res α).bind f=.no:=rfl
noncomputable def ofO{c:Type}(o:Option c)(S:Sr):Res c:=match o with
 |some a=>.ok a S
 |none=>.no
@[simp] theorem qmj{α:Type}(a:α)(S:Sr):ofO (some a) S=.ok a S:=rfl
@[simp] theorem qmk{α:Type}(S:Sr):(ofO none S:Res α)=.no:=rfl
inductive BOp where|add|sub|mul|fdiv|mod|pow
inductive COp where|eq|ne|lt|le|gt|ge|is|nin
inductive Ty where|int|bool|tuple|str
noncomputable def Ty.nm:Ty->String
 | .int=>"int" | .bool=>"bool" | .tuple=>"tuple" | .str=>"str"
noncomputable def mulOk(a b:Int):Bool:=!((decide (Builtin.Int.intBits a>shortFactorBits)&&decide (Builtin.Int.intBits b>shortFactorBits)&&Builtin.Int.intTooBig (Builtin.Int.intBits a+Builtin.Int.intBits b)))
noncomputable def divOk(a b:Int):Bool:=!(b == 0)&&!(Builtin.divisionGoesByPylong a b)
noncomputable def lstOf(S:Sr):D->Option (List D)
 | .l l=>some l
 | .ref n=>match S[n]? with|some (.l l)=>some l|_=>none
 |_=>none
noncomputable def binI:BOp->Int->Int->Option Int
 | .add,i,j=>some (i+j)
 | .sub,i,j=>some (i-j)
 | .mul,i,j=>if mulOk i j then some (i*j)else none
 | .fdiv,i,j=>if divOk i j then some (i.fdiv j)else none
 | .mod,i,j=>if j=0 then none else some (i.fmod j)
 | .pow,i,j=>if 0<=j/\j<=1000000/\i.natAbs<2^64 then some (i^j.toNat)else none
noncomputable def catOk{c:Type}(a b:List c):Bool:=decide (a.length+b.length<=sizeLine)
noncomputable def repOk{c:Type}(a:List c)(k:Int):Bool:=decide (-(2^63)<=k/\k<2^63/\a.length*k.toNat<=sizeLine)
noncomputable def rep{c:Type}(a:List c)(k:Int):List c:=(List.replicate k.toNat a).flatten
noncomputable def binD(o:BOp)(x y:D)(S:Sr):Option D :=
 match x,y with
 | .int i,.int j=>(binI o i j).map .int
 | .t a,.t b=>match o with
  | .add=>if catOk a b then some (.t (a++b))else none
  |_=>none
 | .t a,.int k=>match o with
  | .mul=>if repOk a k then some (.t (rep a k))else none
  |_=>none
 |x,.int k=>match o with
  | .mul=>match lstOf S x with
   |some a=>if repOk a k then some (.l (rep a k))else none
   |none=>none
  |_=>none
 |x,y=>match o with
  | .add=>match lstOf S x,lstOf S y with
   |some a,some b=>if catOk a b then some (.l (a++b))else none
   |_,_=>none
  |_=>none
noncomputable def eqL(f:D->D->Option Bool):List D->List D->Option Bool
 |[],[]=>some true
 |[],_::_=>some false
 |_::_,[]=>some false
 |a::r,b::t=>match f a b,eqL f r t with
  |some x,some y=>some (x&&y)
  |_,_=>none
noncomputable def eqD:Nat->D->D->Option Bool
 |0,_,_=>none
 |n+1,x,y=>match x,y with
  | .int a,.int b=>some (a == b)
  | .str a,.str b=>some (a == b)
  | .t a,.t b=>eqL (eqD n) a b
  |_,_=>none
noncomputable def intsOf:List D->Option (List Int)
 |[]=>some []
 | .int i::r=>(intsOf r).map (i::·)
 |_=>none
noncomputable def flatD:D->Bool
 | .str _=>true
 |_=>false
noncomputable def eqF:D->D->Bool
 | .str a,.str b=>decide (a=b)
 |_,_=>false
noncomputable def inD(x:D)(l:04):Option Bool:=if flatD x&&l.all flatD then some (l.any λy=>eqF y x)else none
noncomputable def seqOf(S:Sr):D->Option (List D)
 | .t l=>some l
 |d=>lstOf S d
noncomputable def cmpD(o:COp)(x y:D)(S:Sr):Option Bool:=match o with
 | .eq=>eqD 20 x y
 | .ne=>(eqD 20 x y).map (!·)
 | .lt=>match x,y with
  | .int i,.int j=>some (decide (i<j))
  | .t a,.t b=>match intsOf a,intsOf b with
   |some m,some n=>some (HT.lexLt m n)
   |_,_=>none
  |_,_=>none
 | .le=>match x,y with|.int i,.int j=>some (decide (i<=j))|_,_=>none
 | .gt=>match x,y with|.int i,.int j=>some (decide (j<i))|_,_=>none
 | .ge=>match x,y with|.int i,.int j=>some (decide (j<=i))|_,_=>none
 | .is=>match y with
  | .non=>some (match x with|.non=>true|_=>false)
  |_=>none
 | .nin=>match y with|.t l=>(inD x l).map (!·)|_=>none
noncomputable def truD(_:Sr):D->Option Bool
 | .bl b=>some b
 | .int i=>some (i != 0)
 | .t l=>some (!l.isEmpty)
 |_=>none
noncomputable def isiD(_:Sr)(t:Ty):D->Option Bool
 | .non=>some false
 | .bl _=>some (match t with|.int=>true|.bool=>true|_=>false)
 | .int _=>some (match t with|.int=>true|_=>false)
 | .str _=>some (match t with|.str=>true|_=>false)
 | .t _=>some (match t with|.tuple=>true|_=>false)
 | .l _=>some false
 | .emp=>some false
 |_=>none
noncomputable def lookA(C:Addr):List (Addr×Bool)->Option Bool
 |[]=>none
 | (c,b)::r=>if c=C then some b else lookA C r
noncomputable def isxD(t:List (Addr×Bool)):D->Option Bool
 | .exc C=>lookA C t
 |_=>none
noncomputable def keyD:D->Option Key
 | .int i=>some (.inl i)
 | .str x=>some (.inr x)
 |_=>none
noncomputable def lookT{κ:Type}[DecidableEq κ](k:κ):List (κ×D)->Option D
 |[]=>none
 | (j,d)::r=>if j=k then some d else lookT k r
noncomputable def putT{κ:Type}[DecidableEq κ](k:κ)(d:D)(l:List (κ×D)):List (κ×D) :=
 if l.any (λp=>decide (p.1=k))then l.map (λp=>if p.1=k then(p.1,d)else p)else l++[(k,d)]
noncomputable def idxD(S:Sr)(x i:D):Option D:=match i with
 | .int k=>(seqOf S x).bind λl=>atI l k
 | .t ks=>match x with
  | .ref n=>match S[n]? with
   |some (.dic l)=>(intsOf ks).bind λk=>lookT k l
   |_=>none
  |_=>none
 |_=>none
noncomputable def cutD(l:04)(lo hi:Option Int):List D:=(l.drop (HT.sIx l.length 0 lo)).take (HT.sIx l.length l.length hi-HT.sIx l.length 0 lo)
noncomputable def slcD(S:Sr)(x:D)(lo hi:Option Int):Option D:=match x with
 | .t l=>some (.t (cutD l lo hi))
 |d=>(lstOf S d).map λl=>.l (cutD l lo hi)
noncomputable def rngL(a b s:Int):List D:=(List.range ((b-a+s-1) / s).toNat).map λ(k:Nat)=>D.int (a+s*k)
noncomputable def insI(x:Int):List Int->List Int
 |[]=>[x]
 |y::r=>if x<=y then x::y::r else y::insI x r
noncomputable def sortI(l:008):List Int:=l.foldr insI []
noncomputable def insT(x:008):List (List Int)->List (List Int)
 |[]=>[x]
 |y::r=>if HT.lexLt y x then y::insT x r else x::y::r
noncomputable def sortT(l:List (List Int)):List (List Int):=l.foldr insT []
noncomputable def tupsOf:List D->Option (List (List Int))
 |[]=>some []
 | .t a::r=>(intsOf a).bind λm=>(tupsOf r).map (m::·)
 |_=>none
noncomputable def tupI(m:008):D:=.t (m.map .int)
noncomputable def sortL(l:04):Option (List D) :=
 if l.length<64 then
  match intsOf l with
  |some ns=>some ((sortI ns).map .int)
  |none=>(tupsOf l).bind λts=>if ts.Nodup/\∀t∈ts,t≠[]then some ((sortT ts).map tupI)else none
 else none
noncomputable def walkD(S:Sr):D->Option (List D)
 | .l l=>some l
 | .emp=>some []
 | .ref n=>match S[n]? with
  |some (.l l)=>some l
  |some (.dic l)=>some (l.map λp=>tupI p.1)
  |_=>none
 |_=>none
inductive Blt where|len|abs|min2|max2|divmod|list (m:Bool)|tuple|sorted (m:Bool)|all|sum|sumB
noncomputable def newL(m:Bool)(l:04)(S:Sr):Res D:=if m then(if refsLts 0 l then .ok 037 (S++[.l l])else .no)else .ok (.l l) S
noncomputable def binM(o:BOp)(x y:D)(S:Sr):Res D:=match o with
 | .add=>match lstOf S x,lstOf S y with
  |some a,some b=>if catOk a b then newL true (a++b) S else .no
  |_,_=>.no
 | .mul=>match lstOf S x,y with
  |some a,.int k=>if repOk a k then newL true (rep a k) S else .no
  |_,_=>.no
 |_=>.no
noncomputable def lenD(S:Sr):D->Option Nat
 | .ref n=>match S[n]? with
  |some (.l l)=>some l.length
  |_=>none
 | .t l=>some l.length
 | .l l=>some l.length
 |_=>none
noncomputable def boolsOf:List D->Option (List Bool)
 |[]=>some []
 | .bl b::r=>(boolsOf r).map (b::·)
 |_=>none
noncomputable def one(f:D->Sr->Res D)(xs:04)(S:Sr):Res D:=match xs with
 |[x]=>f x S
 |_=>.no
noncomputable def two(f:D->D->Sr->Res D)(xs:04)(S:Sr):Res D:=match xs with
 |[x,y]=>f x y S
 |_=>.no
noncomputable def bLen(x:D)(S:Sr):Res D:=ofO ((lenD S x).map λn=>.int n) S
noncomputable def bAbs(x:D)(S:Sr):Res D:=match x with
 | .int i=>.ok (.int (if i<0 then -i else i)) S
 |_=>.no
noncomputable def bMin(x y:D)(S:Sr):Res D:=match x,y with
 | .int i,.int j=>.ok (.int (if j<i then j else i)) S
 |_,_=>.no
noncomputable def bMax(x y:D)(S:Sr):Res D:=match x,y with
 | .int i,.int j=>.ok (.int (if j>i then j else i)) S
 |_,_=>.no
noncomputable def bDivmod(x y:D)(S:Sr):Res D:=match x,y with
 | .int i,.int j=>if divOk i j then .ok (.t [.int (i.fdiv j),.int (i.fmod j)]) S else .no
 |_,_=>.no
noncomputable def bList(m:Bool)(x:D)(S:Sr):Res D:=match seqOf S x with
 |some l=>newL m l S
 |none=>.no
noncomputable def bTuple(x:D)(S:Sr):Res D:=ofO ((seqOf S x).map .t) S
noncomputable def bSorted(m:Bool)(x:D)(S:Sr):Res D:=match(walkD S x).bind sortL with
 |some l=>newL m l S
 |none=>.no
noncomputable def bAll(x:D)(S:Sr):Res D:=ofO (((seqOf S x).bind boolsOf).map λl=>.bl (l.all id)) S
noncomputable def bSum(x:D)(S:Sr):Res D:=ofO (((seqOf S x).bind intsOf).map λl=>.int l.sum) S
noncomputable def bSumB(x:D)(S:Sr):Res D:=ofO (((lstOf S x).bind boolsOf).map λl=>.int (l.count true)) S
noncomputable def bltD:Blt->List D->Sr->Res D
 | .len=>one bLen|.abs=>one bAbs|.min2=>two bMin|.max2=>two bMax|.divmod=>two bDivmod|.list m=>one (bList m)|.tuple=>one bTuple
 | .sorted m=>one (bSorted m)|.all=>one bAll|.sum=>one bSum|.sumB=>one bSumB
noncomputable def walkF:D->Option (List D)
 | .t l=>some l
 | .l l=>some l
 |_=>none
inductive GW where|all|tuple
mutual
inductive CE where
 |v (i:Nat)|k (d:D)
 |bin (o:BOp) (a b:CE)|neg (a:CE)
 |cmp (o:COp) (a b:CE)|chain (o o':COp) (a b c:CE)
 |and (a b:CE)|or (a b:CE)|not (a:CE)|ife (c:CB) (a b:CE)
 |t (es:CEs)|l (m:Bool) (es:CEs)|dic (m:Bool)
 |call (f:Nat) (es:CEs)|blt (b:Blt) (es:CEs)|isi (t:Ty) (a:CE)|isx (t:List (Addr×Bool)) (a:CE)|ixT (o:CE)
 |popAt (o i:CE)|lls (e:CE)|app (o e:CE)|binM (o:BOp) (a b:CE)
 |idx (a i:CE)|slc (a:CE) (lo hi:CO)
 |rng (k:Option Bool) (es:CEs)
 |lc (m:Bool) (fr:List Nat) (nt:Nat) (elt:CE) (tg:CT) (it:CI) (ifs:CBs)
 |lcR (m:Bool) (fr:List Nat) (nt:Nat) (elt:CE) (tg:CT) (e:CE) (ifs:CBs)
 |gen (w:GW) (fr:List Nat) (nt:Nat) (elt:CE) (tg:CT) (it:CI) (ifs:CBs)
 |genX (w:GW) (fr:List Nat) (nt:Nat) (elt:CE) (tg:CT) (e:CE) (ifs:CBs)
inductive CEs where|nil|cons (e:CE) (r:CEs)
inductive CB where|val (e:CE)|and (a b:CB)|or (a b:CB)|not (a:CB)|cal (a:CB)
inductive CBs where|nil|cons (e:CB) (r:CBs)
inductive CO where|none|some (e:CE)
inductive CI where|seq (e:CE)|rng (es:CEs)|zip (a b:CE)
inductive CT where|v (i:Nat)|t (r:CTs)|sub (o i:CE)
inductive CTs where|nil|cons (t:CT) (r:CTs)
end
abbrev CEs.c:=@CEs.cons
abbrev CEs.n:=@CEs.nil
abbrev CTs.c:=@CTs.cons
abbrev CTs.n:=@CTs.nil
abbrev CBs.c:=@CBs.cons
abbrev CBs.n:=@CBs.nil
noncomputable abbrev Fs:=Nat->List D->Sr->Res D
noncomputable def noE{c:Type}:Res c->Res c
 | .ok a S=>.ok a S
 |_=>.no
@[simp] theorem qnu{α:Type}(a:α)(S:Sr):noE (.ok a S)=.ok a S:=rfl
noncomputable def ixtD(S:Sr)(x:D):Option D:=(lstOf S x).bind λl=>(boolsOf l).bind λbs=>if true∈bs/\bs.length<4000 then some (.int (bs.idxOf true))else none
noncomputable def varE(ρ:En)(i:Nat)(S:Sr):Res D:=match ρ[i]? with|some (some d)=>.ok d S|_=>.no
noncomputable def putN(S:Sr)(n:Nat)(i v:D):Option Sr:=match S[n]? with
 |some (.l l)=>match i with
  | .int k=>(ixN l.length k).map λj=>S.set n (.l (l.set j v))
  |_=>none
 |some (.dic l)=>match i with
  | .t ks=>(intsOf ks).bind λk=>if l.length<1000 then some (S.set n (.dic (putT k v l)))else none
  |_=>none
 |some (.dis l)=>(keyD i).bind λk=>if l.length<1000 then some (S.set n (.dis (putT k v l)))else none
 |none=>none
noncomputable def putE(S:Sr)(o i v:D):Option Sr:=if refsLt 0 v then(match o with
 | .ref n=>putN S n i v
 |_=>none)else none
noncomputable def isLst(S:Sr):D->Bool
 | .ref n=>match S[n]? with|some (.l _)=>true|_=>false
 |_=>false
noncomputable def getD(S:Sr)(x y z:D):Option D:=match x,y with
 | .ref n,.t ks=>match S[n]? with
  |some (.dic l)=>(intsOf ks).map λk=>(lookT k l).getD z
  |_=>none
 | .ref n,.str t=>match S[n]? with
  |some (.dis l)=>some ((lookT (.inr t) l).getD z)
  |_=>none
 |_,_=>none
noncomputable def popD(S:Sr)(o i:D):Res D:=match o,i with
 | .ref n,.int k=>match S[n]? with
  |some (.l l)=>if 0<=k/\k<2^62 then(match l[k.toNat]? with
   |some d=>.ok d (S.set n (.l (l.eraseIdx k.toNat)))
   |none=>.no)else .no
  |_=>.no
 |_,_=>.no
noncomputable def appD(S:Sr)(o e:D):Res D:=match o with
 | .ref n=>match S[n]? with
  |some (.l l)=>if l.length<sizeLine/\refsLt 0 e=true then .ok .non (S.set n (.l (l++[e])))else .no
  |_=>.no
 |_=>.no
noncomputable def rngD:List D->Option (List D)
 |[.int b]=>if -(2^62)<=b/\b<2^62 then some (rngL 0 b 1)else none
 |[.int a,.int b]=>if -(2^62)<=a/\a<2^62/\-(2^62)<=b/\b<2^62 then some (rngL a b 1)else none
 |[.int a,.int b,.int s]=>if -(2^62)<=a/\a<2^62/\-(2^62)<=b/\b<2^62/\0<s/\s<2^62 then some (rngL a b s)else none
 |_=>none
noncomputable def frE(ρ:En)(fr:List Nat)(nt:Nat):En:=fr.map (λi=>(ρ[i]?).getD none)++List.replicate nt none
noncomputable def lcLoop(n:Nat)(bind:024)(test:022)(elt:007):List D->En->Sr->Res En
 |[],ρ,S=>.ok ρ S
 |d::r,ρ,S=>(bind d ρ S).bind λρ1 S1=>(test ρ1 S1).bind λb S2 =>
   if b then(elt ρ1 S2).bind λv a=>(appD a (.ref n) v).bind λ_ c=>lcLoop n bind test elt r ρ1 c
   else lcLoop n bind test elt r ρ1 S2
noncomputable def lcEnd(m:Bool)(n:Nat)(S:Sr):Res D :=
 if m then .ok (.ref n) S
 else if S.length=n+1 then(match S[n]? with
  |some (.l l)=>.ok (.l l) (S.take n)
  |_=>.no)else .no
def own(n:Nat)(l:04)(S:Sr):Prop:=S[n]?=some (.l l)
noncomputable def grd{a:Type}(gd:Sr->Prop)(S:Sr)(r:Res a):Res a:=@ite _ (gd S) (Classical.propDecidable _) r .no
def zv{a:Type}{gd:Sr->Prop}{S:Sr}(h:gd S)(r:Res a):grd gd S r=r:=wN h
def yR{a:Type}{gd:Sr->Prop}{S:Sr}(h:¬gd S)(r:Res a):grd gd S r=.no:=wT h
noncomputable def refX(x:D)(S:Sr):Option (List D×(Sr->Prop)):=match x with
 | .ref n=>match S[n]? with
  |some (.l l)=>some (l,own n l)
  |_=>none
 | .t l=>some (l,λ_=>True)
 | .l l=>some (l,λ_=>True)
 |_=>none
noncomputable def refL(x:D)(S:Sr):Option (Nat×List D):=match x with
 | .ref n=>match S[n]? with
  |some (.l l)=>some (n,l)
  |_=>none
 |_=>none
noncomputable def genLoop{a:Type}(bind:024)(test:022)(elt:007)(step:a->D->Option (a ⊕ D))(fin:a->Option D):List D->En->a->Sr->Res D
 |[],_,b,S=>ofO (fin b) S
 |d::r,ρ,b,S=>(bind d ρ S).bind λρ1 S1=>(test ρ1 S1).bind λt S2 =>
   if t then(elt ρ1 S2).bind λv c=>match step b v with
    |some (.inl b')=>genLoop bind test elt step fin r ρ1 b' c
    |some (.inr x)=>.ok x c
    |none=>.no
   else genLoop bind test elt step fin r ρ1 b S2
noncomputable def genLoopG{a:Type}(gd:Sr->Prop)(bind:024)(test:022)(elt:007)(step:a->D->Option (a ⊕ D))(fin:a->Option D):List D->En->a->Sr->Res D
 |[],_,b,S=>grd gd S (ofO (fin b) S)
 |d::r,ρ,b,S=>grd gd S ((bind d ρ S).bind λρ1 S1=>(test ρ1 S1).bind λt S2 =>
   if t then(elt ρ1 S2).bind λv c=>match step b v with
    |some (.inl b')=>genLoopG gd bind test elt step fin r ρ1 b' c
    |some (.inr x)=>.ok x c
    |none=>.no
   else genLoopG gd bind test elt step fin r ρ1 b S2)
def yp{a:Type}{bind:024}{test:022}{elt:007}{step:a->D->Option (a ⊕ D)}{fin:a->Option D}:∀(l:04) (ρ:En) (b:a) (S:Sr),genLoopG (λ_=>True) bind test elt step fin l ρ b S=genLoop bind test elt step fin l ρ b S
 |[],_,_,_=>zv trivial _
 |d::r,ρ,b,S=>by
  unfold genLoopG genLoop;rw[zv trivial];congr 1;funext ρ1 S1;congr 1;funext t S2;cases t
  .exact yp r ρ1 b S2
  .simp only[uO]
   congr 1;funext v S3;cases step b v with
   |none=>rfl
   |some x=>cases x with
    |inl c=>exact yp r ρ1 c S3
    |inr x=>rfl
noncomputable def newLls(k:Nat)(S:Sr):Res D:=if k<=sizeLine then .ok (.ref (S.length+k)) (S++List.replicate k (.l [])++[.l ((List.range k).map λi=>.ref (S.length+i))])else .no
noncomputable def stepG(w:GW)(b:D)(v:D):Option (D ⊕ D):=match w,b,v with
 | .all,_,.bl true=>some (.inl .non)
 | .all,_,.bl false=>some (.inr (.bl false))
 | .tuple,.t l,v=>if l.length<sizeLine then some (.inl (.t (l++[v])))else none
 |_,_,_=>none
noncomputable def startG:GW->D
 | .all=>.non|.tuple=>.t []
noncomputable def finG(w:GW)(b:D):Option D:=match w with
 | .all=>some (.bl true)
 | .tuple=>some b
mutual
noncomputable def ev(F:Fs):CE->En->Sr->Res D
 | .v i,ρ,S=>varE ρ i S
 | .k d,_,S=>.ok d S
 | .bin o a b,ρ,S=>(ev F a ρ S).bind λx S1=>(ev F b ρ S1).bind λy S2=>ofO (binD o x y S2) S2
 | .neg a,ρ,S=>(ev F a ρ S).bind λx S1=>match x with|.int i=>.ok (.int (-i)) S1|_=>.no
 | .cmp o a b,ρ,S=>(ev F a ρ S).bind λx S1=>(ev F b ρ S1).bind λy S2=>ofO ((cmpD o x y S2).map .bl) S2
 | .chain o o' a b c,ρ,S=>(ev F a ρ S).bind λx S1=>(ev F b ρ S1).bind λy S2=>match cmpD o x y S2 with
  |some true=>(ev F c ρ S2).bind λz S3=>ofO ((cmpD o' y z S3).map .bl) S3
  |some false=>.ok (.bl false) S2
  |none=>.no
 | .and a b,ρ,S=>(ev F a ρ S).bind λx S1=>match x with
  | .bl true=>ev F b ρ S1
  | .bl false=>.ok (.bl false) S1
  |_=>.no
 | .or a b,ρ,S=>(ev F a ρ S).bind λx S1=>match x with
  | .bl true=>.ok (.bl true) S1
  | .bl false=>ev F b ρ S1
  |_=>.no
 | .not a,ρ,S=>(ev F a ρ S).bind λx S1=>match x with
  | .bl b=>.ok (.bl (!b)) S1
  |_=>.no
 | .ife c a b,ρ,S=>(tst F c ρ S).bind λt S1=>if t then ev F a ρ S1 else ev F b ρ S1
 | .t es,ρ,S=>(evs F es ρ S).bind λl S1=>if l.length<=sizeLine then .ok (.t l) S1 else .no
 | .l m es,ρ,S=>(evs F es ρ S).bind λl S1=>if l.length<=sizeLine then newL m l S1 else .no
 | .dic m,_,S=>if m then .ok 037 (S++[.dic []])else .ok .emp S
 | .call f es,ρ,S=>(evs F es ρ S).bind λl S1=>F f l S1
 | .blt b es,ρ,S=>(evs F es ρ S).bind λl S1=>bltD b l S1
 | .isi t a,ρ,S=>(ev F a ρ S).bind λx S1=>ofO ((isiD S1 t x).map .bl) S1
 | .isx t a,ρ,S=>(ev F a ρ S).bind λx S1=>ofO ((isxD t x).map .bl) S1
 | .ixT a,ρ,S=>(ev F a ρ S).bind λx S1=>ofO (ixtD S1 x) S1
 | .binM o a b,ρ,S=>(ev F a ρ S).bind λx S1=>(ev F b ρ S1).bind λy S2=>R.binM o x y S2
 | .popAt o i,ρ,S=>(ev F o ρ S).bind λx S1=>if isLst S1 x then(ev F i ρ S1).bind λy S2=>popD S2 x y else .no
 | .app o e,ρ,S=>(ev F o ρ S).bind λx S1=>if isLst S1 x then(ev F e ρ S1).bind λy S2=>appD S2 x y else .no
 | .idx a i,ρ,S=>(ev F a ρ S).bind λx S1=>(ev F i ρ S1).bind λy S2=>ofO (idxD S2 x y) S2
 | .slc a lo hi,ρ,S=>(ev F a ρ S).bind λx S1=>(evO F lo ρ S1).bind λl S2=>(evO F hi ρ S2).bind λh S3=>ofO (slcD S3 x l h) S3
 | .rng k es,ρ,S=>(evs F es ρ S).bind λl S1=>match rngD l with
  |some ds=>if ds.length<=1000000 then(match k with
   |some m=>newL m ds S1
   |none=>.ok (.t ds) S1)else .no
  |none=>.no
 | .lc m fr nt elt tg it ifs,ρ,S=>(evI F it ρ S).bind λds S1 =>
   (lcLoop S1.length (λd ρ S=>asg F tg d ρ S) (λρ S=>tsts F ifs ρ S) (λρ S=>ev F elt ρ S) ds (frE ρ fr nt) (S1++[.l []])).bind λ_ S2=>lcEnd m S1.length S2
 | .lcR m fr nt elt tg e ifs,ρ,S=>(ev F e ρ S).bind λx S1=>match refL x S1 with
  |some p=>(lcLoop S1.length (λd ρ S=>grd (own p.1 p.2) S (asg F tg d ρ S)) (λρ S=>tsts F ifs ρ S) (λρ S=>ev F elt ρ S) p.2 (frE ρ fr nt) (S1++[.l []])).bind λ_ S2=>grd (own p.1 p.2) S2 (lcEnd m S1.length S2)
  |none=>.no
 | .genX w fr nt elt tg e ifs,ρ,S=>(ev F e ρ S).bind λx S1=>match refX x S1 with
  |some p=>genLoopG p.2 (λd ρ S=>asg F tg d ρ S) (λρ S=>tsts F ifs ρ S) (λρ S=>ev F elt ρ S) (stepG w) (finG w) p.1 (frE ρ fr nt) (startG w) S1
  |none=>.no
 | .lls e,ρ,S=>(ev F e ρ S).bind λx S1=>match x with
  | .t l=>newLls l.length S1
  |_=>.no
 | .gen w fr nt elt tg it ifs,ρ,S=>(evI F it ρ S).bind λds S1 =>
   genLoop (λd ρ S=>asg F tg d ρ S) (λρ S=>tsts F ifs ρ S) (λρ S=>ev F elt ρ S) (stepG w) (finG w) ds (frE ρ fr nt) (startG w) S1
noncomputable def evs(F:Fs):CEs->En->Sr->Res (List D)
 | .nil,_,S=>.ok [] S
 | .cons e r,ρ,S=>(ev F e ρ S).bind λx S1=>(evs F r ρ S1).bind λl S2=>.ok (x::l) S2
noncomputable def evO(F:Fs):CO->En->Sr->Res (Option Int)
 | .none,_,S=>.ok none S
 | .some e,ρ,S=>(ev F e ρ S).bind λx S1=>match x with|.int i=>.ok (some i) S1|_=>.no
noncomputable def evI(F:Fs):CI->En->Sr->Res (List D)
 | .seq e,ρ,S=>(ev F e ρ S).bind λx S1=>match x with
  | .t l=>.ok l S1
  | .l l=>.ok l S1
  |_=>.no
 | .rng es,ρ,S=>(evs F es ρ S).bind λl S1=>ofO (rngD l) S1
 | .zip a b,ρ,S=>(ev F a ρ S).bind λx S1=>(ev F b ρ S1).bind λy S2=>match walkF x,walkF y with
  |some l,some m=>.ok ((l.zip m).map λp=>.t [p.1,p.2]) S2
  |_,_=>.no
noncomputable def asg(F:Fs):CT->D->En->Sr->Res En
 | .v i,d,ρ,S=>.ok (ρ.set i (some d)) S
 | .t r,d,ρ,S=>match d with
  | .t l=>asgs F r l ρ S
  |_=>.no
 | .sub o i,d,ρ,S=>(ev F o ρ S).bind λx S1=>(ev F i ρ S1).bind λy S2=>match putE S2 x y d with
  |some S3=>.ok ρ S3
  |none=>.no
noncomputable def asgs(F:Fs):CTs->List D->En->Sr->Res En
 | .nil,l,ρ,S=>match l with|[]=>.ok ρ S|_=>.no
 | .cons t r,l,ρ,S=>match l with
  |d::m=>(asg F t d ρ S).bind λρ1 S1=>asgs F r m ρ1 S1
  |[]=>.no
noncomputable def tst(F:Fs):CB->En->Sr->Res Bool
 | .val e,ρ,S=>(ev F e ρ S).bind λx S1=>ofO (truD S1 x) S1
 | .and a b,ρ,S=>(tst F a ρ S).bind λt S1=>if t then tst F b ρ S1 else .ok false S1
 | .or a b,ρ,S=>(tst F a ρ S).bind λt S1=>if t then .ok true S1 else tst F b ρ S1
 | .not a,ρ,S=>(tst F a ρ S).bind λt S1=>.ok (!t) S1
 | .cal a,ρ,S=>noE (tst F a ρ S)
noncomputable def tsts(F:Fs):CBs->En->Sr->Res Bool
 | .nil,_,S=>.ok true S
 | .cons e r,ρ,S=>(tst F e ρ S).bind λt S1=>if t then tsts F r ρ S1 else .ok false S1
end
mutual
inductive CS where
 |expr (e:CE)|ret (e:CE)|set (t:CT) (e:CE)
 |ifs (c:CB) (a b:CSs)|forS (t:CT) (it:CI) (body:CSs)|forX (t:CT) (e:CE) (body:CSs)|whileS (c:CB) (body:CSs)
 |cal (s:CS)|grd (e:CE) (s:CS)|raise (C:Addr)|tryX (t:List (Addr×Bool)) (i:Nat) (body suite:CSs)
inductive CSs where|nil|cons (s:CS) (r:CSs)
end
abbrev CSs.c:=@CSs.cons
abbrev CSs.n:=@CSs.nil
inductive Fl where|nx (ρ:En)|bk (ρ:En)|ct (ρ:En)|rt (d:D)
noncomputable def forLoop(body:D->En->Sr->Res Fl):List D->En->Sr->Res Fl
 |[],ρ,S=>.ok (.nx ρ) S
 |d::r,ρ,S=>(body d ρ S).bind λf S1=>match f with
  | .nx ρ1=>forLoop body r ρ1 S1
  | .ct ρ1=>forLoop body r ρ1 S1
  | .bk ρ1=>.ok (.nx ρ1) S1
  | .rt d=>.ok (.rt d) S1
noncomputable def endG(gd:Sr->Prop)(r:Res Fl):Res Fl:=r.bind λf S=>match f with
 | .rt d=>.ok (.rt d) S
 |f=>grd gd S (.ok f S)
noncomputable def whileLoop(test:022)(body:En->Sr->Res Fl):Nat->En->Sr->Res Fl
 |0,_,_=>.no
 |n+1,ρ,S=>(test ρ S).bind λt S1=>if t then(body ρ S1).bind λf S2=>(match f with
   | .nx ρ1=>whileLoop test body n ρ1 S2
   | .ct ρ1=>whileLoop test body n ρ1 S2
   | .bk ρ1=>.ok (.nx ρ1) S2
   | .rt d=>.ok (.rt d) S2)
  else .ok (.nx ρ) S1
mutual
noncomputable def ex(F:Fs)(N:Nat):CS->En->Sr->Res Fl
 | .expr e,ρ,S=>(ev F e ρ S).bind λ_ S1=>.ok (.nx ρ) S1
 | .ret e,ρ,S=>(ev F e ρ S).bind λd S1=>.ok (.rt d) S1
 | .set t e,ρ,S=>(ev F e ρ S).bind λd S1=>(asg F t d ρ S1).bind λρ1 S2=>.ok (.nx ρ1) S2
 | .ifs c a b,ρ,S=>(tst F c ρ S).bind λt S1=>if t then exs F N a ρ S1 else exs F N b ρ S1
 | .forS t it body,ρ,S=>(evI F it ρ S).bind λds S1=>forLoop (λd ρ S=>(asg F t d ρ S).bind λρ1 S1=>exs F N body ρ1 S1) ds ρ S1
 | .forX t e body,ρ,S=>(ev F e ρ S).bind λx S1=>match refX x S1 with
  |some p=>endG p.2 (forLoop (λd ρ S=>(grd p.2 S (asg F t d ρ S)).bind λρ1 S1=>exs F N body ρ1 S1) p.1 ρ S1)
  |none=>.no
 | .whileS c body,ρ,S=>whileLoop (λρ S=>tst F c ρ S) (λρ S=>exs F N body ρ S) N ρ S
 | .cal s,ρ,S=>noE (ex F N s ρ S)
 | .grd e s,ρ,S=>match ev F e ρ S with
  | .ok _ _=>noE (ex F N s ρ S)
  | .err x S1=>.err x S1
  | .no=>.no
 | .raise C,_,S=>.err (.exc C) S
 | .tryX t i body suite,ρ,S=>match exs F N body ρ S with
  | .ok f S1=>.ok f S1
  | .err (.exc C) S1=>match lookA C t with
   |some true=>(exs F N suite (ρ.set i (some (.exc C))) S1).bind λf S2=>match f with
    | .nx ρ'=>.ok (.nx (ρ'.set i none)) S2
    |_=>.no
   |_=>.no
  |_=>.no
noncomputable def exs(F:Fs)(N:Nat):CSs->En->Sr->Res Fl
 | .nil,ρ,S=>.ok (.nx ρ) S
 | .cons s r,ρ,S=>(ex F N s ρ S).bind λf S1=>match f with
  | .nx ρ1=>exs F N r ρ1 S1
  |f=>.ok f S1
end
structure CF where
 np:Nat
 nn:Nat
 keeps:Bool
 body:CSs
mutual
noncomputable def frz(S:Sr)(n:Nat):D->Option D
 | .t l=>(frzs S n l).map .t
 | .l l=>(frzs S n l).map .l
 | .ref m=>if m<n then some (.ref m)else match S[m]? with
  |some (.l l)=>if refsLts n l then some (.l l)else none
  |_=>none
 | .non=>some .non|.bl b=>some (.bl b)|.int i=>some (.int i)|.str x=>some (.str x)|.emp=>some .emp|.exc _=>none
noncomputable def frzs(S:Sr)(n:Nat):List D->Option (List D)
 |[]=>some []
 |d::r=>match frz S n d,frzs S n r with
  |some d',some r'=>some (d'::r')
  |_,_=>none
end
noncomputable def leave(keeps:Bool)(n:Nat)(d:D)(S:Sr):Res D :=
 if keeps then .ok d S
 else if S.length=n then .ok d S
 else if refsLt n d then .ok d (S.take n)else match frz S n d with
  |some d'=>.ok d' (S.take n)
  |none=>.no
noncomputable def callC(F:Fs)(N:Nat)(c:CF)(l:04)(S:Sr):Res D :=
 if l.length=c.np then
  (exs F N c.body (l.map some++List.replicate (c.nn-c.np) none) S).bind λf S1=>match f with
   | .nx _=>leave c.keeps S.length .non S1
   | .rt d=>leave c.keeps S.length d S1
   |_=>.no
 else .no
noncomputable def run(P:List CF)(N:Nat):Nat->Fs
 |0,_,_,_=>.no
 |k+1,f,l,S=>match P[f]? with
  |some c=>callC (run P N k) N c l S
  |none=>.no
end R
namespace R
open PySem PySem.Spec L2
open PyProof.Rows hiding St
structure EnR (ι:03) (H:Hp) (ρ:En) (σ:St):Prop where
 len:ρ.length=σ.length
 get:∀(i:Nat) (d:D),ρ[i]?=some (some d)->∃v,σ[i]?=some (some v)/\Den ι H d v
def EnR.mono{ι c:03}{H H':Hp}{ρ:En}{f:St}(e:EnR ι H ρ f)(s:Stp ι H c H'):EnR c H' ρ f :=
 ⟨e.len,λi d h=>let ⟨v,a,b⟩:=e.get i d h;⟨v,a,Den.mono s d b⟩⟩
def EnR.set{ι:03}{H:Hp}{ρ:En}{a:St}(e:EnR ι H ρ a){i:Nat}{d:D}{v:V}(h:Den ι H d v):EnR ι H (ρ.set i (some d)) (a.set i (some v)):=by
 refine⟨by simp[e.len],λj x q=>?_⟩;by_cases z:i=j
 .subst z
  have hl:i<ρ.length:=by
   have:=(wG.mp q).1;simpa using this
  rw[vW hl]at q;cases q;exact⟨v,vW (by rw[<-e.len];exact hl),h⟩
 .rw [vi z]at q ⊢
  exact e.get j x q
def Pst{d f:Type}(R:List Addr->Hp->d->f->Prop)(r:Res d)(ι:03)(H:Hp)(Q:f->Hp->Prop):Prop:=match r with
 | .ok a h=>∀b c H',Stp ι H c H'->Sto c H' h->R c H' a b->Q b H'
 | .err _ _=>False
 | .no=>False
def Pst.from{f i:Type}{R:List Addr->Hp->f->i->Prop}{r:Res f}{ι c:03}{H H':Hp}{Q:i->Hp->Prop}(h:Pst R r ι H Q)(s:Stp ι H c H'):Pst R r c H' Q:=by
 cases r with
 |ok a S=>exact λb d H2 t st q=>h b d H2 (s.trans t) st q
 |err=>exact h
 |no=>exact h
def Pst.bind{d j l m:Type}{R:List Addr->Hp->d->j->Prop}{n:List Addr->Hp->l->m->Prop}{r:Res d}{f:d->Sr->Res l}{ι:03}{H:Hp}{Q:m->Hp->Prop}{K:j->Hp->Prop}(h:Pst n (r.bind f) ι H Q)(k:∀a o c H' b,Stp ι H c H'->Sto c H' o->R c H' a b->Pst n (f a o) c H' Q->K b H'):Pst R r ι H K:=by
 cases r with
 |ok a S=>exact λb i H2 t st q=>k a S i H2 b t st q (Pst.from h t)
 |err=>exact h
 |no=>exact h
def Pst.ofO{d f:Type}{R:List Addr->Hp->d->f->Prop}{o:Option d}{S:Sr}{ι:03}{H:Hp}{Q:f->Hp->Prop}(h:Pst R (ofO o S) ι H Q)(st:Sto ι H S):∃a,o=some a/\∀b c H',Stp ι H c H'->Sto c H' S->R c H' a b->Q b H':=by
 cases o with
 |none=>exact h.elim
 |some a=>exact⟨a,rfl,h⟩
noncomputable def TG{a c:Type}(R:List Addr->Hp->a->c->Prop)(m:En->Sr->Res a):St->Hp->(c->Hp->Prop)->Prop:=λd H Q=>∃ι S ρ,EnR ι H ρ d/\Sto ι H S/\Pst R (m ρ S) ι H Q
noncomputable abbrev T(m:007):TE:=TG Den m
noncomputable abbrev TL(m:038):TA:=TG Dens m
def EqR{c:Type}(_:03)(_:Hp)(a b:c):Prop:=a=b
noncomputable abbrev TB(m:022):TT:=TG EqR m
noncomputable abbrev TOp(m:En->Sr->Res (Option Int)):TO:=TG EqR m
def TG.b1{d n o q:Type}{R:List Addr->Hp->d->n->Prop}{r:List Addr->Hp->o->q->Prop}{m:En->Sr->Res d}{f:En->d->Sr->Res o}{i:St}{H:Hp}{Q:q->Hp->Prop}{K:n->Hp->Prop}(h:TG r (λρ S=>(m ρ S).bind λa S1=>f ρ a S1) i H Q)(k:∀ι S ρ a b c,EnR ι c ρ i->Sto ι c S->R ι c a b->Pst r (f ρ a S) ι c Q->K b c):TG R m i H K:=by
 obtain⟨ι,S,ρ,u,st,h⟩:=h;exact⟨ι,S,ρ,u,st,Pst.bind h λa v j H' b s l w p=>k j v ρ a b H' (u.mono s) l w p⟩
def Pst.tg{i n o q:Type}{R:List Addr->Hp->i->n->Prop}{r:List Addr->Hp->o->q->Prop}{m:En->Sr->Res i}{ρ:En}{S:Sr}{f:i->Sr->Res o}{ι:03}{j:St}{H:Hp}{Q:q->Hp->Prop}{K:n->Hp->Prop}(h:Pst r ((m ρ S).bind f) ι H Q)(u:EnR ι H ρ j)(st:Sto ι H S)(k:∀a d c H' b,Stp ι H c H'->EnR c H' ρ j->Sto c H' d->R c H' a b->Pst r (f a d) c H' Q->K b H'):TG R m j H K :=
 ⟨ι,S,ρ,u,st,Pst.bind h λa d c H' b s l v p=>k a d c H' b s (u.mono s) l v p⟩
def PEimp{X:Cx}{e:Expr}{t t':TE}(h:PE X e t)(k:∀a H Q,t' a H Q->t a H Q):PE X e t':=λpins s a H Q I hw=>h pins s a H Q I (k a H Q hw)
def PTimp{X:Cx}{e:Expr}{t t':TT}(h:PT X e t)(k:∀a H Q,t' a H Q->t a H Q):PT X e t':=λpins s a H Q I hw=>h pins s a H Q I (k a H Q hw)
def PAimp{X:Cx}{e:010}{t t':TA}(h:PA X e t)(k:∀a H Q,t' a H Q->t a H Q):PA X e t':=λpos pins s a H Q I hw=>h pos pins s a H Q I (k a H Q hw)
section
variable{ι:List Addr}{H:Hp}{S:Sr}{v:V}
theorem qT(st:Sto ι H S):∀{d:D} {l:04},lstOf S d=some l->Den ι H d v->∃a xs,v=.ref a/\Rd H a (.l xs)/\Dens ι H l xs
 | .l c,l,h,hd=>by
  cases h;obtain⟨a,xs,e,_,r,q⟩:=hd;exact⟨a,xs,e,r,q⟩
 | .ref n,l,h,hd=>by
  obtain⟨a,e,ha⟩:=hd;simp only[lstOf]at h;split at h
  .rename_i c hs
   cases h;obtain⟨_,xs,f,i⟩:=st.obj n a _ ha hs;exact⟨a,xs,e,.inl f,i⟩
  .cases h
 | .non,_,h,_=>by cases h
 | .bl _,_,h,_=>by cases h
 | .int _,_,h,_=>by cases h
 | .str _,_,h,_=>by cases h
 | .t _,_,h,_=>by cases h
 | .emp,_,h,_=>by cases h
 | .exc _,_,h,_=>by cases h
theorem zy{m:Bool}{l:04}{xs:List V}{Q:V->Hp->Prop}(st:Sto ι H S)(hl:Dens ι H l xs)(h:Pst Den (newL m l S) ι H Q):∀p,H p=none->Q (.ref p) (upd H p (.l xs)):=by
 intro p a;unfold newL at h;cases m with
 |true =>
  rw[wN rfl]at h;by_cases c:refsLts 0 l=true
  .rw [wN c]at h
   have g:=Stp.grow (ι:=ι) a (.l xs);have d:(ι++[p])[ι.length]?=some p:=by simp
   refine h (.ref p) _ _ g (st.grow a ⟨⟨_,d,q8 l c⟩,xs,qK,Dens.mono g l hl⟩) ⟨p,rfl,?_⟩;rw[<-st.len];exact d
  .rw [wT c]at h;exact h.elim
 |false =>
  have g:=Stp.laid (ι:=ι) a (.l xs);exact h (.ref p) _ _ g (st.laid a _) ⟨p,xs,rfl,st.fresh a,.inl qK,Dens.mono g l hl⟩
theorem zG{l:04}{xs:List V}{Q:V->Hp->Prop}(st:Sto ι H S)(hl:Dens ι H l xs)(h:∀v a H',Stp ι H a H'->Sto a H' S->Den a H' (.t l) v->Q v H'):∀p,H p=none->Q (.ref p) (upd H p (.t xs)):=by
 intro p c;have g:=Stp.laid (ι:=ι) c (.t xs);exact h (.ref p) _ _ g (st.laid c _) ⟨p,xs,rfl,st.fresh c,qK,Dens.mono g l hl⟩
end
section
variable{X:Cx}
theorem qml{i:Nat}{x:Str}{pos:Pos}(h:PE X (.Name x pos) (tVar i)):PE X (.Name x pos) (T λρ S=>varE ρ i S):=PEimp h λj H Q hw=>by
 obtain⟨ι,S,ρ,a,st,p⟩:=hw;dsimp only[varE]at p;split at p
 .rename_i d hd
  obtain⟨v,c,f⟩:=a.get i d hd;exact⟨v,c,p v ι H 019 st f⟩
 .exact p.elim
theorem qcp{e:Expr}{d:D}{v:V}(h:PE X e (tC v))(hd:∀ι H,Den ι H d v):PE X e (T λ_ S=>.ok d S):=PEimp h λa H Q hw=>by
 obtain⟨ι,S,ρ,c,st,p⟩:=hw;exact p v ι H 019 st (hd ι H)
theorem qgi{e:Expr}{d:D}{v:V}(h:PE X e (λ_ H Q=>Q v H))(hd:∀ι H,Den ι H d v):PE X e (T λ_ S=>.ok d S):=qcp h hd
theorem qmm:PA X [] (TL λ_ S=>.ok [] S):=PAimp jo λa H Q hw=>by
 obtain⟨ι,S,ρ,c,st,p⟩:=hw;exact p [] ι H 019 st rfl
theorem qkQ{e:Expr}{es:010}{m:007}{ms:038}(f:PE X e (T m))(h:PA X es (TL ms))(hs:sE X e es):
  PA X (e::es) (TL λρ S=>(m ρ S).bind λx S1=>(ms ρ S1).bind λl S2=>.ok (x::l) S2):=PAimp (yf f h hs) λr H Q hw=>by
 refine TG.b1 hw λι S ρ a b s i st j p=>Pst.tg p i st λl S2 c H2 xs s2 n d o q=>?_
 exact q _ c H2 019 d ⟨b,xs,rfl,Den.mono s2 a j,o⟩
noncomputable def G2(g:D->D->Sr->Res D):R2:=λx y H Q=>∃ι S dx a,Sto ι H S/\Den ι H dx x/\Den ι H a y/\Pst Den (g dx a S) ι H Q
theorem T2{i mb:007}{g:D->D->Sr->Res D}{j:St}{H:Hp}{Q:VK}(h:T (λρ S=>(i ρ S).bind λx S1=>(mb ρ S1).bind λy S2=>g x y S2) j H Q):tOp (G2 g) (T i) (T mb) j H Q :=
 TG.b1 h λι S ρ a b r l st m p=>Pst.tg p l st λn S2 c H2 b2 s2 o d f q=>⟨c,S2,a,n,d,Den.mono s2 a m,f,q⟩
theorem qjR{a b:Expr}{op:Operator}{pos:Pos}{c mb:007}{g:D->D->Sr->Res D}(d:OpR X (binaryOp op) (G2 g))(ha:PE X a (T c))(hb:PE X b (T mb)):
  PE X (.BinOp a op b pos) (T λρ S=>(c ρ S).bind λx S1=>(mb ρ S1).bind λy S2=>g x y S2):=PEimp (ql8 d ha hb) λf H Q=>T2
theorem qmn{a b:Expr}{op:CmpOp}{pos:Pos}{c mb:007}{g:D->D->Sr->Res D}(d:OpR X (compareOp op) (G2 g))(ha:PE X a (T c))(hb:PE X b (T mb))(hm:behindInMarks op b=false):
  PE X (.Compare a [op] [b] pos) (T λρ S=>(c ρ S).bind λx S1=>(mb ρ S1).bind λy S2=>g x y S2):=PEimp (qin d ha hb hm) λf H Q=>T2
theorem qdo{pins:011}{c:St}{H:Hp}{s:09}{l:Addr}{xs:List V}(I:Inv X pins c H s)(d:Rd H l (.l xs)):xs.length<=sizeLine/\∃(a:005) (n:Nat),Vals xs a/\xs.length=a.length/\s.heap.get? l=some {cls:=.type "list",data:=.seq a.toArray n}:=by
 obtain⟨z,a,n,r,e⟩:=d.ok I.hok;exact⟨z,a,n,r,r.length,e⟩
theorem qd8:OpR X (binaryOp .Add) (λx y H Q=>∃l b xs d,x=.ref l/\y=.ref b/\Rd H l (.l xs)/\Rd H b (.l d)/\xs.length+d.length<=sizeLine/\∀p,H p=none->Q (.ref p) (upd H p (.l (xs++d)))):=by
 intro pins s B H x y v u Q I f i h;obtain⟨l,b,xs,d,rfl,rfl,j,m,C,q⟩:=h;cases f;cases i;obtain⟨z,c,n,r,hl,e⟩:=qdo I j;obtain⟨E,a,F,o,w,e2⟩:=qdo I m;refine PySem.P.add_list e e2 ?_ (by rw[wO,wO];lia);have A:c.toArray++a.toArray=(c++a).toArray:=by simp
 rw[A];exact⟨.ref _,_,I.lnew (t':=s.toks) (r.append o) (by rw[wP];lia),rfl,q _ I.fresh⟩
theorem qd9:OpR X (binaryOp .Mult) (λx y H Q=>∃l k xs,x=.ref l/\y=.int k/\Rd H l (.l xs)/\-(2^63)<=k/\k<2^63/\xs.length*k.toNat<=sizeLine /\
 ∀p,H p=none->Q (.ref p) (upd H p (.l (List.replicate k.toNat xs).flatten))):=by
 intro pins s N H x y v u Q I C E h;obtain⟨l,k,xs,rfl,rfl,J,K,L,B,q⟩:=h;cases C;obtain⟨t,rfl⟩:=E;obtain⟨z,c,n,r,hl,e⟩:=qdo I J;have f:c.toArray.size*k.toNat<=sizeLine:=by rw[wO,<-hl];exact B
 have i:¬c.toArray.size*k.toNat>(2^63-1) / 8:=by
  have:(sizeLine:Nat)<=(2^63-1) / 8:=by decide
  lia
 have j:¬(!Builtin.List.listFitsIndex k)=true:=by
  rw[fitsIndex_both K L];exact wd
 have d:¬Builtin.List.listTooLong (c.toArray.size*k.toNat)=true:=by
  rw[notLongL f];exact wd
 have o:List.foldl (λw A=>w++A) #[] (List.replicate (if c.toArray.isEmpty=true then 0 else k.toNat) c.toArray)=(List.replicate k.toNat c).flatten.toArray:=by
  have M:∀m:Nat,List.foldl (λw A=>w++A) #[] (List.replicate m c.toArray)=(List.replicate m c).flatten.toArray:=λm=>by
   have:=jR c m [];rw[List.nil_append]at this;exact this
  rw[M];cases c with
  |nil=>simp
  |cons a O=>rw[wT 07]
 refine wpAny_binaryOp_repeat_ref (T:="list") (U:="int") 01 ⟨_,e,rfl⟩ (λs'=>typeIs_int s' k t) noFill_list_mul F.fills_int_mul xm repeat_list F.slot_int_index.lookup
  (uJ xm (typeIs_int s k t) F.entry_int_rmul (F.args_int_rmul_2 _ _) (int___rmul___int_list k t l c.toArray n)
   ⟨e,rfl,⟨_,e,rfl⟩,uJ F.slot_list_mul ⟨_,e,rfl⟩ F.entry_list_mul (F.args_list_mul_2 _ _) (AutoListH.list___mul___list_int_3 l c.toArray n k t j i d) ⟨e,?_⟩⟩)
 rw[o];exact⟨.ref _,_,I.lnew (t':=s.toks) (r.rep k.toNat) (by rw[qbE,Nat.mul_comm];exact B),rfl,q _ I.fresh⟩
noncomputable def opOf:BOp->Operator
 | .add=>.Add|.sub=>.Sub|.mul=>.Mult|.fdiv=>.FloorDiv|.mod=>.Mod|.pow=>.Pow
theorem qkR(o:BOp):OpR X (binaryOp (opOf o)) (λx y H Q=>∃i j r,x=.int i/\y=.int j/\binI o i j=some r/\Q (.int r) H):=by
 intro pins s c H x y v u Q I d f h;obtain⟨i,j,r,rfl,rfl,e,q⟩:=h;have fin:∀{a:Int} {t:Tok} {tk:Nat},r=a->EP X pins c Q (.int a t) {s with toks:=tk}:=λ{a t tk} z=>by subst z;exact⟨.int r,H,I.tok _,⟨_,rfl⟩,q⟩
 obtain⟨l,rfl⟩:=d;obtain⟨m,rfl⟩:=f;cases o with
 |add=>exact add_int (fin (by cases e;rfl))
 |sub=>exact sub_int (fin (by cases e;rfl))
 |mul =>
  simp only[binI]at e;split at e
  .rename_i hm
   exact mul_int (fin (by cases e;rfl)) (by unfold mulOk at hm;unfold IntMulOk;intro z;rw[z]at hm;exact absurd hm 01)
  .cases e
 |fdiv =>
  simp only[binI]at e;split at e
  .rename_i hm
   simp only[divOk,wS,ub,wv]at hm;exact floordiv_int hm.1 (fin (by cases e;rfl)) (.inl hm.2)
  .cases e
 |mod =>
  simp only[binI]at e;split at e
  .cases e
  .rename_i hm
   exact mod_int' hm (fin (by cases e;rfl))
 |pow =>
  simp only[binI]at e;split at e
  .rename_i hm
   exact pow_int_small hm.1 hm.2.1 hm.2.2 (fin (by cases e;rfl))
  .cases e
end
end R
namespace R
open PySem PySem.Spec L2 SeqAt
open PyProof.Rows hiding St
def qcq{f:D->D->Option Bool}:∀{a b:04} {r:Bool},eqL f a b=some r ->
  (∀(j:Nat) (x y:D),a[j]?=some x->b[j]?=some y->∃c,f x y=some c) /\
  r=((List.range (min a.length b.length)).all (λj=>match a[j]?,b[j]? with|some x,some y=>(f x y).getD false|_,_=>false)&&a.length == b.length)
 |[],[],r,h=>by cases h;exact⟨λj x y h _=>by simp at h,by simp⟩
 |[],_::_,r,h=>by cases h;exact⟨λj x y h _=>by simp at h,by simp⟩
 |_::_,[],r,h=>by cases h;exact⟨λj x y _ h=>by simp at h,by simp⟩
 |a::p,b::q,r,h=>by
  simp only[eqL]at h;split at h
  .rename_i x y m n
   obtain⟨d,i⟩:=qcq n;cases h;refine⟨λj z w l hw=>?_,?_⟩
   .cases j with
    |zero=>simp at l hw;subst l hw;exact⟨x,m⟩
    |succ j=>exact d j z w (by simpa using l) (by simpa using hw)
   .have e:min (a::p).length (b::q).length=min p.length q.length+1:=by simp only[wY];lia
    rw[e,List.range_succ_eq_map,vz,xB];simp only[uS,m,Option.getD_some];rw[i,Bool.and_assoc];congr 1;congr 1;simp only[wY];rw[uH,uC,uC];lia
  .cases h
section
variable{ι:List Addr}{H:Hp}
theorem qav{f:D->D->Option Bool}(c:∀x y v b,Den ι H x v->Den ι H y v->f x y=some b->b=true):∀{a b:04} {xs:List V} {r:Bool},Dens ι H a xs->Dens ι H b xs->eqL f a b=some r->r=true
 |[],[],_,r,_,_,h=>by cases h;rfl
 |[],_::_,_,r,h1,h2,h=>by
  cases (show _=[]from h1);obtain⟨x,r,e,_⟩:=h2;cases e
 |_::_,[],_,r,h1,h2,h=>by
  cases (show _=[]from h2);obtain⟨x,r,e,_⟩:=h1;cases e
 |a::p,b::q,_,r,h1,h2,h=>by
  obtain⟨x,t,rfl,d1,e1⟩:=h1;obtain⟨j,t',e,d2,e2⟩:=h2;cases e;simp only[eqL]at h;split at h
  .rename_i y z d i
   cases h;rw[c a b x y d1 d2 d,qav c e1 e2 i]
   all_goals rfl
  .cases h
theorem qaw:∀(n:Nat) (x y:D) (v:V) (b:Bool),Den ι H x v->Den ι H y v->eqD n x y=some b->b=true
 |0,_,_,_,_,_,_,h=>by cases h
 |n+1,x,y,v,b,hx,hy,h=>by
  cases x <;> cases y <;> simp only[eqD,Den]at h hx hy <;> first
   | (cases h;done)
   | (subst hx;cases hy;cases h;simp;done)
   | (obtain⟨a,xs,rfl,_,ha,r⟩:=hx
      obtain⟨i,d,e,_,c,f⟩:=hy;cases e;rw[ha]at c;cases c;exact qav (λx y v b=>qaw n x y v b) r f h)
end
section
variable{X:Cx}{pins:List (Addr×Obj)}{σ:St}{H:Hp}{s:Shared}{ι:List Addr}
theorem Vals.at{xs:List V}{us:005}(r:Vals xs us){j:Nat}(h:j<us.length):∃x,xs[j]?=some x/\RelV x us[j]:=by
 have hl:=r.length;obtain⟨u,a,c⟩:=r.get (i:=j) (x:=xs[j]' 00) (wC 00);rw[wC h]at a;cases a;exact⟨_,wC 00,c⟩
theorem Dens.at{ds:04}{xs:List V}{j:Nat}{x:V}(h:Dens ι H ds xs)(e:xs[j]?=some x):∃d,ds[j]?=some d/\Den ι H d x:=by
 have hl:=h.length;have f:=(wG.mp e).1;obtain⟨y,a,c⟩:=h.get (i:=j) (d:=ds[j]' 00) (wC 00);rw[e]at a;cases a;exact⟨_,wC 00,c⟩
theorem qax(I:016){a:Addr}{xs:List V}(h:H a=some (.t xs)):∃c:List Value,Vals xs c/\IsTup s.heap a c.toArray/\xs.length<=sizeLine:=by
 obtain⟨z,c,r,p,_⟩:=I.hok a _ h;exact⟨c,r,p,z⟩
theorem jU(I:016){a:Addr}{xs:List V}(h:Rd H a (.l xs)):∃c:List Value,Vals xs c/\s.heap.IsList a c.toArray/\xs.length<=sizeLine:=by
 obtain⟨z,c,n,r,e⟩:=h.ok I.hok;exact⟨c,r,⟨_,e,rfl,n,rfl⟩,z⟩
def EqAll(A:Around)(s:09)(v u:Value)(b:Bool):Prop:=RcAt A s v u b/\RcNeAt A s v u (!b)/\EqAt A s v u b
theorem jp{v:V}{i:Int}{u:Value}(h:Den ι H (.int i) v)(r:RelV v u):∃t,u=.int i t:=by cases (show v=_ from h);exact r
theorem jq{v:V}{i:Str}{u:Value}(h:Den ι H (.str i) v)(r:RelV v u):∃t,u=.str i t:=by cases (show v=_ from h);exact r
theorem yS(I:016){v:V}{l:04}{u:Value}(h:Den ι H (.t l) v)(r:RelV v u):∃a c xs,v=.ref a/\u=.ref a/\Vals xs c/\Dens ι H l xs/\s.heap.IsTuple a c.toArray/\H a=some (.t xs):=by
 obtain⟨a,xs,rfl,_,ha,d⟩:=h;cases r;obtain⟨c,f,p,_⟩:=qax I ha;exact⟨a,c,xs,rfl,rfl,f,d,p,ha⟩
theorem qgj{f:D->D->Option Bool}{A:Around}{a b:04}{xs ys:List V}{i d:005}{r:Bool}(J:∀x y c v u l m,f x y=some c->Den ι H x v->Den ι H y u->RelV v l->RelV u m->EqAt A s l m c)(h:eqL f a b=some r)(n:Dens ι H a xs)(o:Dens ι H b ys)(p:Vals xs i)(q:Vals ys d):
  ∃e:Nat->Bool,(∀j (w:j<i.toArray.size) (B:j<d.toArray.size),EqAt A s i.toArray[j] d.toArray[j] (e j))/\r=((List.range (min i.toArray.size d.toArray.size)).all e&&i.toArray.size == d.toArray.size) /\
   a.length=i.length/\b.length=d.length:=by
 obtain⟨w,B⟩:=qcq h;have C:a.length=i.length:=n.length.trans p.length;have E:b.length=d.length:=o.length.trans q.length;refine⟨_,λj F I=>?_,by rw[wO,wO,<-C,<-E];exact B,C,E⟩;simp only[wO]at F I;obtain⟨x,e1,K⟩:=Vals.at p F;obtain⟨y,e2,L⟩:=Vals.at q I;obtain⟨d1,g1,k1⟩:=n.at e1;obtain⟨d2,g2,k2⟩:=o.at e2;obtain⟨c,hc⟩:=w j d1 d2 g1 g2;simp only[g1,g2,hc,Option.getD_some,xr];exact J d1 d2 c x y _ _ hc k1 k2 K L
theorem qdp(I:016):∀(n:Nat) (A:Around) (x y:D) (b:Bool) (v u:V) (q r:Value),eqD n x y=some b->Den ι H x v->Den ι H y u->RelV v q->RelV u r->A.units+n<cLine->EqAll A s q r b
 |0,_,_,_,_,_,_,_,_,h,_,_,_,_,_=>by cases h
 |n+1,A,x,y,b,v,u,q,r,h,hx,hy,rx,ry,hu=>by
  have f:A.units<cLine:=by lia
  have same:=qaw (ι:=ι) (H:=H) (n+1) x y;have P:∀x y c v u q r,eqD n x y=some c->Den ι H x v->Den ι H y u->RelV v q->RelV u r->EqAt A.in1 s q r c:=λx y c v u q r S U W Y Z =>
   (qdp I n A.in1 x y c v u q r S U W Y Z (by show A.units+1+n<cLine;lia)).2.2
  cases x with
  |int d =>
   obtain⟨tt,rfl⟩:=jp hx rx;cases y with
   |int c=>obtain⟨t,rfl⟩:=jp hy ry;cases h;exact⟨RcAt.int_int _ _ _ _,RcNeAt.int_int _ _ _ _,EqAt.int_int _ _ _ _⟩
   |_=>cases h
  |str d =>
   obtain⟨tt,rfl⟩:=jq hx rx;cases y with
   |str c=>obtain⟨t,rfl⟩:=jq hy ry;cases h;exact⟨RcAt.str_str _ _ _ _,RcNeAt.str_str _ _ _ _,EqAt.str_str _ _ _ _⟩
   |_=>cases h
  |t d =>
   obtain⟨m,its',M,e1,rfl,C,E,i,ha⟩:=yS I hx rx;cases y with
   |t l =>
    obtain⟨a,j,xs,e2,rfl,F,J,p,hb⟩:=yS I hy ry;have w:eqL (eqD n) d l=some b:=h;obtain⟨e,B,K,_⟩:=qgj P w E J C F;have Q:RcAt A s (.ref m) (.ref a) b:=by rw[K];exact RcAt.tuples i p f B
    have R2:RcNeAt A s (.ref m) (.ref a) (!b):=by rw[K];exact RcNeAt.tuples i p f B
    refine⟨Q,R2,?_⟩;by_cases z:m=a
    .subst z
     rw[same (.ref m) b (e1 ▸ hx) (e2 ▸ hy) h];exact EqAt.same _
    .exact EqAt.of_refs z Q
   |_=>cases h
  |_=>cases h
end
section
variable{X:Cx}
theorem Dens.rep{ι:03}{H:Hp}{ds:04}{xs:List V}(h:Dens ι H ds xs):∀k:Nat,Dens ι H (List.replicate k ds).flatten (List.replicate k xs).flatten
 |0=>by simp[Dens]
 |k+1=>by
  simp only[ww,uD];exact h.append (Dens.rep h k)
theorem qgk:OpR X (binaryOp .Add) (λx y H Q=>∃a b xs ys,x=.ref a/\y=.ref b/\H a=some (.t xs)/\H b=some (.t ys)/\xs.length+ys.length<=sizeLine /\
  (xs=[]->Q (.ref b) H)/\(xs≠[]->ys=[]->Q (.ref a) H)/\(xs≠[]->ys≠[]->∀p,H p=none->Q (.ref p) (upd H p (.t (xs++ys))))):=by
 intro pins s C H x y v u Q I r w h;obtain⟨a,b,xs,ys,rfl,rfl,ha,hb,E,J,q1,q2⟩:=h;by_cases j:xs=[]
 .subst j
  cases r;cases w;obtain⟨l,K,L,_⟩:=qax I ha;obtain⟨c,P,M,_⟩:=qax I hb;obtain⟨⟨cls,dd,data,sl⟩,A,hc,n,hd⟩:=id L;obtain⟨⟨B,m,o,q⟩,d,f,N,i⟩:=id M;simp only at hc hd f i;subst hc hd f i;have O:l=[]:=K.nil_iff.mpr rfl;subst O;exact concat_meets ⟨_,A,rfl⟩ ⟨_,d,rfl⟩ noFill_tuple_add seq_tuple_add xc xV (xQ _ _)
   (tuple_addW0 a b _ c.toArray n N dd m sl q 07) ⟨A,d,⟨.ref b,H,I,rfl,J rfl⟩⟩
 .exact qit pins s C H _ _ v u Q I r w ⟨a,b,xs,ys,rfl,rfl,.inl (.inl ha),.inl (.inl hb),j,E,q1 j,q2 j⟩
theorem qiz(o:BOp):OpR X (binaryOp (opOf o)) (G2 λx y S=>ofO (binD o x y S) S):=by
 intro pins s f H x y v u Q I n w h;obtain⟨ι,S,dx,M,st,A,B,p⟩:=h;obtain⟨d,e,q⟩:=Pst.ofO p st;have C:∀v,Den ι H d v->Q v H:=λv K=>q v ι H 019 st K
 unfold binD at e;split at e
 .rename_i i j
  cases (show x=_ from A);cases (show y=_ from B);cases hb:binI o i j with
  |none=>rw[hb]at e;cases e
  |some r =>
   rw[hb]at e;cases e;exact qkR o pins s f H _ _ v u Q I n w ⟨i,j,r,rfl,rfl,hb,C _ rfl⟩
 .rename_i a b
  cases o <;> try (cases e;done)
  dsimp only at e;split at e
  .rename_i hc
   cases e;obtain⟨l,xs,rfl,F,c,d1⟩:=A;obtain⟨m,ys,rfl,L,E,d2⟩:=B;have J:xs.length+ys.length<=sizeLine:=by
    have:=vR hc;rw[d1.length,d2.length]at this;exact this
   refine qgk pins s f H _ _ v u Q I n w ⟨l,m,xs,ys,rfl,rfl,c,E,J,λz=>?_,λ_ z=>?_,λ_ _=>zG st (d1.append d2) q⟩
   .subst z
    have:a=[]:=wp.mp (by rw[d1.length];rfl);subst this;exact C _ ⟨m,ys,rfl,L,E,by simpa using d2⟩
   .subst z
    have:b=[]:=wp.mp (by rw[d2.length];rfl);subst this;exact C _ ⟨l,xs,rfl,F,c,by simpa using d1⟩
  .cases e
 .rename_i a k
  cases o <;> try (cases e;done)
  dsimp only at e;split at e
  .rename_i hc
   cases e;obtain⟨l,xs,rfl,F,c,d1⟩:=A;cases (show y=_ from B);obtain⟨c1,c2,c3⟩:=vR hc;refine qiy pins s f H _ _ v u Q I n w ⟨l,k,xs,rfl,rfl,.inl (.inl c),c1,c2,by rw[<-d1.length];exact c3,λz=>?_,λ_=>zG st (d1.rep _) q⟩;have e2:rep a k=a:=by
    unfold rep;rcases z with z|z
    .subst z
     have:a=[]:=wp.mp (by rw[d1.length];rfl);subst this;simp
    .subst z;simp
   rw[e2]at C;exact C _ ⟨l,xs,rfl,F,c,d1⟩
  .cases e
 .rename_i k _ _
  cases o <;> try (cases e;done)
  dsimp only at e;split at e
  .rename_i a ha
   split at e
   .rename_i hc
    cases e;obtain⟨l,xs,rfl,c,d1⟩:=qT st ha A;cases (show y=_ from B);obtain⟨c1,c2,c3⟩:=vR hc;exact qd9 pins s f H _ _ v u Q I n w ⟨l,k,xs,rfl,rfl,c,c1,c2,by rw[<-d1.length];exact c3,zy (m:=false) st (d1.rep _) q⟩
   .cases e
  .cases e
 .cases o <;> try (cases e;done)
  dsimp only at e;split at e
  .rename_i a b ha hb
   split at e
   .rename_i hc
    cases e;obtain⟨l,xs,rfl,c,d1⟩:=qT st ha A;obtain⟨m,ys,rfl,E,d2⟩:=qT st hb B;have J:xs.length+ys.length<=sizeLine:=by
     have:=vR hc;rw[d1.length,d2.length]at this;exact this
    exact qd8 pins s f H _ _ v u Q I n w ⟨l,m,xs,ys,rfl,rfl,c,E,J,zy (m:=false) st (d1.append d2) q⟩
   .cases e
  .cases e
theorem qiA(o:BOp):OpR X (binaryOp (opOf o)) (G2 λx y S=>binM o x y S):=by
 intro pins s d H x y v u Q I f i h;obtain⟨ι,S,dx,w,st,j,n,q⟩:=h;dsimp only at q;unfold binM at q;split at q
 .split at q
  .rename_i a b ha hb
   split at q
   .rename_i hc
    obtain⟨l,xs,rfl,c,d1⟩:=qT st ha j;obtain⟨m,ys,rfl,p,d2⟩:=qT st hb n;have r:xs.length+ys.length<=sizeLine:=by
     have:=vR hc;rw[d1.length,d2.length]at this;exact this
    exact qd8 pins s d H _ _ v u Q I f i ⟨l,m,xs,ys,rfl,rfl,c,p,r,zy (m:=true) st (d1.append d2) q⟩
   .exact q.elim
  .exact q.elim
 .split at q
  .rename_i a k ha
   split at q
   .rename_i hc
    obtain⟨l,xs,rfl,c,d1⟩:=qT st ha j;cases (show y=_ from n);obtain⟨c1,c2,c3⟩:=vR hc;exact qd9 pins s d H _ _ v u Q I f i ⟨l,k,xs,rfl,rfl,c,c1,c2,by rw[<-d1.length];exact c3,zy (m:=true) st (d1.rep _) q⟩
   .exact q.elim
  .exact q.elim
 .exact q.elim
theorem intsOf_eq:∀{l:04} {m:008},intsOf l=some m->l=m.map .int
 |[],m,h=>by cases h;rfl
 | .int i::r,m,h=>by
  simp only[intsOf]at h;cases e:intsOf r with
  |none=>rw[e]at h;cases h
  |some a=>rw[e]at h;cases h;rw[intsOf_eq e];rfl
 | .non::_,_,h=>by cases h
 | .bl _::_,_,h=>by cases h
 | .str _::_,_,h=>by cases h
 | .t _::_,_,h=>by cases h
 | .l _::_,_,h=>by cases h
 | .emp::_,_,h=>by cases h
 | .exc _::_,_,h=>by cases h
 | .ref _::_,_,h=>by cases h
theorem dens_ints{ι:03}{H:Hp}:∀{m:008} {xs:List V},Dens ι H (m.map .int) xs->xs=m.map .int
 |[],xs,h=>h
 |i::m,xs,h=>by
  obtain⟨x,r,rfl,a,c⟩:=h;rw[dens_ints c,show x=_ from a];rfl
noncomputable def cOf:COp->CmpOp
 | .eq=>.Eq|.ne=>.NotEq|.lt=>.Lt|.le=>.LtE|.gt=>.Gt|.ge=>.GtE|.is=>.Is|.nin=>.NotIn
theorem qay{ι:03}{H:Hp}:∀{d:D} {v:V},flatD d=true->Den ι H d v->flatV v=true
 | .str _,_,_,h=>by cases (show _=_ from h);rfl
theorem qiB{ι:03}{H:Hp}{d e:D}{v u:V}(fd:flatD d=true)(a:flatD e=true)(h:Den ι H d v)(k:Den ι H e u):eqV v u=eqF d e:=by
 cases d <;> try (cases fd;done)
 cases e <;> try (cases a;done)
 cases (show v=_ from h);cases (show u=_ from k);simp[eqV,eqF,Bool.beq_eq_decide_eq]
theorem qdq{ι:03}{H:Hp}{x:D}{v:V}(a:flatD x=true)(c:Den ι H x v):∀{l:04} {xs:List V},l.all flatD=true->Dens ι H l xs->xs.all flatV=true/\inV v xs=l.any λy=>eqF y x
 |[],xs,_,h=>by cases (show _=[]from h);exact⟨rfl,rfl⟩
 |d::l,xs,hf,h=>by
  obtain⟨y,r,rfl,f,i⟩:=h;simp only[vz,wS]at hf;obtain⟨i1,i2⟩:=qdq a c hf.2 i;refine⟨by simp[qay hf.1 f,i1],?_⟩;unfold inV at i2 ⊢;rw[uU,uU,qiB hf.1 a f c,i2]
theorem yg{ι:03}{H:Hp}{S:Sr}{v:V}(st:Sto ι H S){d:D}{l:04}(h:seqOf S d=some l)(hd:Den ι H d v):∃a xs,v=.ref a/\(Rd H a (.l xs)\/H a=some (.t xs))/\Dens ι H l xs:=by
 unfold seqOf at h;split at h
 .cases h
  obtain⟨a,xs,e,_,ha,r⟩:=hd;exact⟨a,xs,e,.inr ha,r⟩
 .obtain ⟨a,xs,e,ha,r⟩:=qT st h hd
  exact⟨a,xs,e,.inl ha,r⟩
theorem jg(o:COp)(O:X.A.units+30<cLine):OpR X (compareOp (cOf o)) (G2 λx y S=>ofO ((cmpD o x y S).map .bl) S):=by
 intro pins s B H x y v u Q I i j h;obtain⟨ι,S,dx,E,st,f,r,p⟩:=h;obtain⟨d,e,q⟩:=Pst.ofO p st;obtain⟨b,N,rfl⟩:∃b,cmpD o dx E S=some b/\d=.bl b:=by
  cases z:cmpD o dx E S with
  |none=>rw[z]at e;cases e
  |some b=>rw[z]at e;cases e;exact⟨b,rfl,rfl⟩
 clear e p;have e:=N;clear N;have w:Q (.bl b) H:=q (.bl b) ι H 019 st rfl;have fin:EP X pins B Q (.bool b) s:=⟨.bl b,H,I,rfl,w⟩;cases o with
 |eq=>exact(qdp I 20 X.A dx E b x y v u e f r i j 00).1 _ _ _ _ fin
 |ne =>
  cases z:eqD 20 dx E with
  |none=>simp only[cmpD,z]at e;cases e
  |some c =>
   simp only[cmpD,z]at e;cases e;exact(qdp I 20 X.A dx E c x y v u z f r i j 00).2.1 _ _ _ _ fin
 |lt =>
  simp only[cmpD]at e;split at e
  .cases (show x=_ from f);cases (show y=_ from r);cases e
   exact qma pins s B H _ _ v u Q I i j ⟨_,_,rfl,rfl,w⟩
  .split at e
   .rename_i m n hm hn
    cases e;cases intsOf_eq hm;cases intsOf_eq hn;obtain⟨F,xs,rfl,_,J,d1⟩:=f;obtain⟨K,ys,rfl,_,L,d2⟩:=r;cases dens_ints d1;cases dens_ints d2;exact qkJ 00 pins s B H _ _ v u Q I i j ⟨F,K,m,n,rfl,rfl,.inl (.inl J),.inl (.inl L),w⟩
   .cases e
  .cases e
 |le =>
  simp only[cmpD]at e;split at e
  .cases (show x=_ from f);cases (show y=_ from r);cases e
   exact qmb pins s B H _ _ v u Q I i j ⟨_,_,rfl,rfl,w⟩
  .cases e
 |gt =>
  simp only[cmpD]at e;split at e
  .cases (show x=_ from f);cases (show y=_ from r);cases e
   exact qmc pins s B H _ _ v u Q I i j ⟨_,_,rfl,rfl,w⟩
  .cases e
 |ge =>
  simp only[cmpD]at e;split at e
  .cases (show x=_ from f);cases (show y=_ from r);cases e
   exact qmd pins s B H _ _ v u Q I i j ⟨_,_,rfl,rfl,w⟩
  .cases e
 |is =>
  simp only[cmpD]at e;split at e
  .cases (show y=_ from r)
   refine qkD pins s B H _ _ v u Q I i j ⟨rfl,?_⟩;cases dx <;> simp only[Option.some.injEq]at e <;> subst e <;> first
    | (cases (show x=_ from f);exact w)
    | (obtain⟨a,_,rfl,_⟩:=f;exact w)
    | (obtain⟨a,rfl,_⟩:=f;exact w)
  .cases e
 |nin =>
  simp only[cmpD]at e;split at e
  .rename_i l
   unfold inD at e;split at e
   .rename_i C
    simp only[wS]at C;cases e;obtain⟨a,xs,rfl,_,hs,M⟩:=r;obtain⟨i1,i2⟩:=qdq C.1 f C.2 M;refine qbC pins s B H _ _ v u Q I i j ⟨a,xs,rfl,.inl (.inl hs),qay C.1 f,i1,?_⟩;rw[wN 01,i2];exact w
   .cases e
  .cases e
end
section
variable{X:Cx}{pos:Pos}
theorem qea{ι:03}{H:Hp}{S:Sr}{K:009}(st:Sto ι H S){d:D}{v:V}{b:Bool}(h:truD S d=some b)(hd:Den ι H d v):TruV K v H b:=by
 cases d with
 |bl c=>cases h;cases (show v=_ from hd);exact(show b=b from rfl)
 |int i=>cases h;cases (show v=_ from hd);exact(rfl:(i != 0)=(i != 0))
 |t l =>
  cases h;obtain⟨a,xs,rfl,_,ha,j⟩:=hd;refine .inr (.inl ⟨xs,.inl (.inl ha),?_⟩);have:=j.length;cases l <;> cases xs <;> first|rfl|(simp at this;done)
 |_=>cases h
noncomputable def mVal(m:007):En->Sr->Res Bool:=λρ S=>(m ρ S).bind λx S1=>ofO (truD S1 x) S1
theorem qkS{e:Expr}{m:007}(h:PE X e (T m))(d:∀c,isTrue e X.env c=(do let v <-c;standAt e.pos;holding [v] (truthy v))):PT X e (TB (mVal m)) :=
 PTimp (qck h d) λj H Q hw=>TG.b1 hw λι S ρ a b f l st i p=>by
  obtain⟨k,e1,q⟩:=Pst.ofO p st;exact⟨k,qea st e1 i,q k ι f 019 st rfl⟩
def IsB(m:007):Prop:=∀ρ S d a,m ρ S=.ok d a->∃c,d=.bl c
theorem toTest{m:007}(hb:IsB m){i:St}{H:Hp}{Q:Bool->Hp->Prop}(hw:TB (mVal m) i H Q):tTest (T m) i H Q:=by
 obtain⟨ι,S,ρ,l,st,p⟩:=hw;refine⟨ι,S,ρ,l,st,?_⟩;dsimp only[mVal]at p ⊢;cases z:m ρ S with
 |no=>rw[z]at p;exact p
 |err x j=>rw[z]at p;exact p
 |ok d j =>
  rw[z]at p;obtain⟨c,rfl⟩:=hb ρ S d j z;intro b a H' s' f h;cases (show b=_ from h);exact⟨c,rfl,p c a H' s' f rfl⟩
theorem qiD{a mb:007}{g:D->D->Sr->Option Bool}:IsB (λρ S=>(a ρ S).bind λx S1=>(mb ρ S1).bind λy S2=>ofO ((g x y S2).map D.bl) S2):=by
 intro ρ S d f z;dsimp only at z;cases z1:a ρ S with
 |no=>rw[z1]at z;cases z
 |err=>rw[z1]at z;cases z
 |ok x S1 =>
  rw[z1,Res.bind_ok]at z;cases z2:mb ρ S1 with
  |no=>rw[z2]at z;cases z
  |err=>rw[z2]at z;cases z
  |ok y S2 =>
   rw[z2,Res.bind_ok]at z;cases z3:g x y S2 with
   |none=>rw[z3]at z;cases z
   |some c=>rw[z3]at z;cases z;exact⟨c,rfl⟩
theorem qkT{a b:Expr}{op:CmpOp}{c mb:007}{g:D->D->Sr->Option Bool}(d:OpR X (compareOp op) (G2 λx y S=>ofO ((g x y S).map D.bl) S))(ha:PE X a (T c))(hb:PE X b (T mb))(hm:behindInMarks op b=false):
  PT X (.Compare a [op] [b] pos) (TB (mVal λρ S=>(c ρ S).bind λx S1=>(mb ρ S1).bind λy S2=>ofO ((g x y S2).map D.bl) S2)) :=
 PTimp (qio d ha hb hm) λf H Q hw=>T2 (toTest qiD hw)
noncomputable def mChain(g g':D->D->Sr->Option Bool)(c mb d:007):En->Sr->Res D:=λρ S=>(c ρ S).bind λx S1=>(mb ρ S1).bind λy S2=>match g x y S2 with
 |some true=>(d ρ S2).bind λz a=>ofO ((g' y z a).map D.bl) a
 |some false=>.ok (.bl false) S2
 |none=>.no
theorem qeb{w mb A:007}{g g':D->D->Sr->Option Bool}{B:St}{H:Hp}{Q:VK}(h:T (mChain g g' w mb A) B H Q):
  tChain (G2 λx y S=>ofO ((g x y S).map D.bl) S) (G2 λx y S=>ofO ((g' x y S).map D.bl) S) (T w) (T mb) (T A) B H Q:=by
 refine TG.b1 h λι S ρ a b N C st E p=>Pst.tg p C st λd S2 m H2 b2 s2 n o f i=>?_
 refine⟨m,S2,a,d,o,Den.mono s2 a E,f,?_⟩;cases z:g a d S2 with
 |none=>rw[z]at i;exact i.elim
 |some c =>
  rw[z]at i;show Pst Den (ofO (Option.map D.bl (g a d S2)) S2) _ _ _;rw[z];intro v q H3 l j F;cases (show v=_ from F);refine⟨c,rfl,?_⟩;cases c with
  |false=>rw[wT 01];exact i _ q H3 l j rfl
  |true =>
   rw[wN rfl];refine Pst.tg (ρ:=ρ) (Pst.from i l) (n.mono l) j λI J r O P K L s u M=>?_
   exact⟨r,J,d,I,s,Den.mono (l.trans K) d f,u,M⟩
theorem qfl{a mb f:007}{g g':D->D->Sr->Option Bool}:IsB (mChain g g' a mb f):=by
 intro ρ S d i z;dsimp only[mChain]at z;cases z1:a ρ S with
 |no=>rw[z1]at z;cases z
 |err=>rw[z1]at z;cases z
 |ok x S1 =>
  rw[z1,Res.bind_ok]at z;cases z2:mb ρ S1 with
  |no=>rw[z2]at z;cases z
  |err=>rw[z2]at z;cases z
  |ok y S2 =>
   rw[z2,Res.bind_ok]at z;cases z3:g x y S2 with
   |none=>rw[z3]at z;cases z
   |some c =>
    rw[z3]at z;cases c with
    |false=>cases z;exact⟨_,rfl⟩
    |true =>
     dsimp only at z;cases z4:f ρ S2 with
     |no=>rw[z4]at z;cases z
     |err=>rw[z4]at z;cases z
     |ok w h =>
      rw[z4,Res.bind_ok]at z;cases z5:g' y w h with
      |none=>rw[z5]at z;cases z
      |some c=>rw[z5]at z;cases z;exact⟨_,rfl⟩
theorem qiE{a b c:Expr}{op d:CmpOp}{h mb i:007}{g g':D->D->Sr->Option Bool}(j:OpR X (compareOp op) (G2 λx y S=>ofO ((g x y S).map D.bl) S))(f:OpR X (compareOp d) (G2 λx y S=>ofO ((g' x y S).map D.bl) S))(ha:PE X a (T h))(hb:PE X b (T mb))(hc:PE X c (T i))(hm:lastMarks [op,d] [b,c]=false):PE X (.Compare a [op,d] [b,c] pos) (T (mChain g g' h mb i)) :=
 PEimp (qfX j f ha hb hc hm) λl H Q=>qeb
theorem qgm{a b c:Expr}{op d:CmpOp}{h mb i:007}{g g':D->D->Sr->Option Bool}(j:OpR X (compareOp op) (G2 λx y S=>ofO ((g x y S).map D.bl) S))(f:OpR X (compareOp d) (G2 λx y S=>ofO ((g' x y S).map D.bl) S))(ha:PE X a (T h))(hb:PE X b (T mb))(hc:PE X c (T i))(hm:lastMarks [op,d] [b,c]=false):PT X (.Compare a [op,d] [b,c] pos) (TB (mVal (mChain g g' h mb i))) :=
 PTimp (qfY j f ha hb hc hm) λl H Q hw=>qeb (toTest qfl hw)
theorem qkU{a:Expr}{b:Expr}{rest:010}{c mb:022}(ha:PT X a (TB c))(hb:PW X (.BoolOp .And (b::rest) pos) (TB mb)):
  PW X (.BoolOp .And (a::b::rest) pos) (TB λρ S=>(c ρ S).bind λt S1=>if t then mb ρ S1 else .ok false S1):=λd pins s f H Q I hw=>by
 refine qkr ha hb d pins s f H Q I (TG.b1 hw λι S ρ x y h i st j p=>?_);cases (show x=y from j);cases x with
 |true=>rw[wN rfl];exact⟨ι,S,ρ,i,st,p⟩
 |false=>rw[wT 01];exact p false ι h 019 st rfl
theorem qmo{a:Expr}{b:Expr}{rest:010}{c mb:022}(ha:PT X a (TB c))(hb:PW X (.BoolOp .Or (b::rest) pos) (TB mb)):
  PW X (.BoolOp .Or (a::b::rest) pos) (TB λρ S=>(c ρ S).bind λt S1=>if t then .ok true S1 else mb ρ S1):=λd pins s f H Q I hw=>by
 refine ql7 ha hb d pins s f H Q I (TG.b1 hw λι S ρ x y h i st j p=>?_);cases (show x=y from j);cases x with
 |true=>rw[wN rfl];exact p true ι h 019 st rfl
 |false=>rw[wT 01];exact⟨ι,S,ρ,i,st,p⟩
theorem qkV{a:Expr}{c:022}(ha:PT X a (TB c)):PT X (.UnaryOp .Not a pos) (TB λρ S=>(c ρ S).bind λt S1=>.ok (!t) S1) :=
 PTimp (qfP ha) λh H Q hw=>TG.b1 hw λι S ρ x y d i st f p=>by
  cases (show x=y from f);exact p _ ι d 019 st rfl
theorem qmp{a:Expr}{b:Expr}{rest:010}{d mb:007}(ha:PE X a (T d))(hb:PE X (.BoolOp .And (b::rest) pos) (T mb)):
  PE X (.BoolOp .And (a::b::rest) pos) (T λρ S=>(d ρ S).bind λx S1=>match x with|.bl true=>mb ρ S1|.bl false=>.ok (.bl false) S1|_=>.no) :=
 PEimp (qkt ha hb) λj H Q hw=>TG.b1 hw λι S ρ x y f h st i p=>by
  cases x with
  |bl c =>
   cases (show y=_ from i);refine⟨c,rfl,?_⟩;cases c with
   |true=>rw[wN rfl];exact⟨ι,S,ρ,h,st,p⟩
   |false=>rw[wT 01];exact p _ ι f 019 st rfl
  |_=>exact p.elim
theorem qmq{a:Expr}{d:007}(ha:PE X a (T d)):PE X (.UnaryOp .Not a pos) (T λρ S=>(d ρ S).bind λx S1=>match x with|.bl b=>.ok (.bl (!b)) S1|_=>.no) :=
 PEimp (qku ha) λi H Q hw=>TG.b1 hw λι S ρ x y f j st h p=>by
  cases x with
  |bl c =>
   cases (show y=_ from h);exact⟨c,rfl,p _ ι f 019 st rfl⟩
  |_=>exact p.elim
theorem qmr{a:Expr}{c:007}(ha:PE X a (T c)):PE X (.UnaryOp .USub a pos) (T λρ S=>(c ρ S).bind λx S1=>match x with|.int i=>.ok (.int (-i)) S1|_=>.no) :=
 PEimp (ql9 qkC ha) λh H Q hw=>TG.b1 hw λι S ρ x y d j st f p=>by
  cases x with
  |int i =>
   cases (show y=_ from f);exact⟨i,rfl,p _ ι d 019 st rfl⟩
  |_=>exact p.elim
theorem qms{c a b:Expr}{d:022}{f mb:007}(hc:PT X c (TB d))(ha:PE X a (T f))(hb:PE X b (T mb)):
  PE X (.IfExp c a b pos) (T λρ S=>(d ρ S).bind λt S1=>if t then f ρ S1 else mb ρ S1) :=
 PEimp (qfQ hc ha hb) λj H Q hw=>TG.b1 hw λι S ρ x y l h st i p=>by
  cases (show x=y from i);cases x with
  |true=>rw[wN rfl];exact⟨ι,S,ρ,h,st,p⟩
  |false=>rw[wT 01];exact⟨ι,S,ρ,h,st,p⟩
theorem qmt{es:010}{k:Nat}{ms:038}(h:PA X es (TL ms)):PE X (.Tuple es k pos) (T λρ S=>(ms ρ S).bind λl S1=>if l.length<=sizeLine then .ok (.t l) S1 else .no) :=
 PEimp (qkF h) λc H Q hw=>TG.b1 hw λι S ρ x y d f st a p=>by
  by_cases hl:x.length<=sizeLine
  .rw [wN hl]at p
   exact⟨by rw[<-a.length];exact hl,zG st a p⟩
  .rw [wT hl]at p;exact p.elim
theorem qmu{es:010}{m:Bool}{ms:038}(h:PA X es (TL ms)):PE X (.List es pos) (T λρ S=>(ms ρ S).bind λl S1=>if l.length<=sizeLine then newL m l S1 else .no) :=
 PEimp (qf1 h) λc H Q hw=>TG.b1 hw λι S ρ x y d f st a p=>by
  by_cases hl:x.length<=sizeLine
  .rw [wN hl]at p
   exact⟨by rw[<-a.length];exact hl,zy st a p⟩
  .rw [wT hl]at p;exact p.elim
theorem qmv{m:Bool}:PE X (.Dict [] [] pos) (T λ_ S=>if m then .ok 037 (S++[.dic []])else .ok .emp S):=by
 cases m with
 |true =>
  refine PEimp qgd λc H Q hw=>?_
  obtain⟨ι,S,ρ,d,st,p⟩:=hw;intro q a;have g:=Stp.grow (ι:=ι) a (.dT []);refine p (.ref q) _ _ g (st.grow a ⟨rfl,[],qK,rfl⟩) ⟨q,rfl,?_⟩;rw[<-st.len];simp
 |false =>
  refine PEimp qgc λc H Q hw=>?_
  obtain⟨ι,S,ρ,d,st,p⟩:=hw;intro q a;have g:=Stp.laid (ι:=ι) a (.dK []);exact p (.ref q) _ _ g (st.laid a _) ⟨q,rfl,st.fresh a,qK⟩
theorem key_den{ι:03}{H:Hp}{d:D}{v:V}{k:Key}(h:keyD d=some k)(hd:Den ι H d v):v=kV k:=by
 cases d <;> simp only[keyD]at h <;> cases h <;> exact hd
theorem qiF{ι:03}{H:Hp}{l:04}{xs:List V}{k:Int}{d:D}(a:Dens ι H l xs)(h:atI l k=some d):∃v,atI xs k=some v/\Den ι H d v:=by
 unfold atI at h ⊢;rw[<-a.length];cases z:ixN l.length k with
 |none=>rw[z]at h;cases h
 |some j =>
  rw[z]at h;exact a.get h
theorem qcr{a b:008}:keyT a=keyT b ↔ a=b:=by
 refine⟨λh=>?_,λh=>by rw[h]⟩;unfold keyT at h;exact(List.map_inj_right (λx y h=>Sum.inl.inj h)).mp h
theorem qec(k:008):(keyT k).map kV=k.map V.int:=by
 unfold keyT;rw[wo];rfl
theorem qcs{κ K:Type}[DecidableEq κ][DecidableEq K]{f:κ->K}(c:∀{a b},f a=f b ↔ a=b){ι:03}{H:Hp}{k:κ}:∀{l:List (κ×D)} {kvs:List (K×V)} {d:D},DGs f ι H l kvs->lookT k l=some d->∃v,valV kvs (f k)=some v/\Den ι H d v
 |[],_,_,_,h=>by cases h
 |p::l,_,d,hk,h=>by
  obtain⟨v,r,rfl,i,m⟩:=hk;obtain⟨j,e⟩:=p;simp only[lookT]at h;by_cases z:j=k
  .rw [wN z]at h;cases h
   exact⟨v,jB (by simp[z]),i⟩
  .rw [wT z]at h
   obtain⟨w,e1,e2⟩:=qcs c m h;exact⟨w,by rw[jC (by simpa[c]using z)];exact e1,e2⟩
theorem qed{κ K:Type}[DecidableEq κ][DecidableEq K]{f:κ->K}(c:∀{a b},f a=f b ↔ a=b){ι:03}{H:Hp}{k:κ}:∀{l:List (κ×D)} {kvs:List (K×V)},DGs f ι H l kvs->(kvs.any λd=>decide (d.1=f k))=l.any λp=>decide (p.1=k)
 |[],_,h=>by cases (show _=[]from h);rfl
 |p::l,_,h=>by
  obtain⟨v,r,rfl,j,i⟩:=h;rw[uU,uU,qed c i];simp[c]
theorem qct{κ:Type}[DecidableEq κ]{k:κ}{d:D}(hd:refsLt 0 d=true):∀{l:List (κ×D)},refsLts 0 (l.map (·.2))=true->refsLts 0 ((putT k d l).map (·.2))=true:=by
 intro l hl;refine qJ λx f=>?_
 obtain⟨p,a,rfl⟩:=w8.mp f;unfold putT at a;split at a
 .obtain ⟨q,h,e⟩:=w8.mp a
  have c:=qB hl (w8.mpr ⟨q,h,rfl⟩);split at e
  .subst e;exact hd
  .subst e;exact c
 .rcases wa.mp a with z|z
  .exact qB hl (w8.mpr ⟨p,z,rfl⟩)
  .rw [wV.mp z];exact hd
theorem qee{κ K:Type}[DecidableEq κ][DecidableEq K]{f:κ->K}(n:∀{a b},f a=f b ↔ a=b){ι:03}{H:Hp}{k:κ}{d:D}{v:V}(hd:Den ι H d v){l:List (κ×D)}{kvs:List (K×V)}(h:DGs f ι H l kvs):DGs f ι H (putT k d l) (putK kvs (f k) v):=by
 unfold putT putK;rw[qed n h];split
 .rename_i j
  clear j;induction l generalizing kvs with
  |nil=>cases (show _=[]from h);exact(rfl:_=_)
  |cons p l c =>
   obtain⟨w,r,rfl,m,i⟩:=h;rw[wj,wj];by_cases z:p.1=k
   .rw [wN z,wN (by simp[z])]
    exact⟨v,_,rfl,hd,c i⟩
   .rw [wT z,wT (by simpa[n]using z)]
    exact⟨w,_,rfl,m,c i⟩
 .rename_i j
  clear j;induction l generalizing kvs with
  |nil=>cases (show _=[]from h);exact⟨v,[],rfl,hd,rfl⟩
  |cons p l c =>
   obtain⟨w,r,rfl,m,i⟩:=h;exact⟨w,_,rfl,m,c i⟩
theorem qiG(l:X.A.units+1<cLine):IxR X (λx y H Q=>∃a v,x=.ref a/\DGet H a y (some v)/\Q v H):=by
 intro c d pins s m H x y v u Q I n o h hs;obtain⟨a,z,rfl,g,q⟩:=h;cases n;have j:=qco I g;unfold subscriptTail;refine wA ?_;rw[getitemInPython_of_ne j.not_modules];refine wA (wpAny_specialOf j PySem.F.slot_dict_getitem.lookup ?_);have fin:wpAny 006 X.A (subscripted d false (.ref a) u) (λr f=>wpAny 006 X.A (letTemporaryGo c (.ref a) r >>= λ_=>pure r) (EP X pins m Q) X.xe f) X.xe s:=by
  rw[hs];exact wpAny_operating (qfe l I g o λB C p i=>wA (wpAny_letTemporaryGo (wD ⟨z,H,p,i,q⟩)))
 first
  |exact wD (wA fin)
  |exact wA fin
theorem qmw{a b:Expr}{i mb:007}(m:X.A.units+1<cLine)(ha:PE X a (T i))(hb:PE X b (T mb))(hs:PlainIx b):
  PE X (.Subscript a b pos) (T λρ S=>(i ρ S).bind λx S1=>(mb ρ S1).bind λy S2=>ofO (idxD S2 x y) S2) :=
 PEimp (qme (qiu.or (qkK.or (qiG m))) ha hb hs) λF H Q hw=>by
  refine TG.b1 hw λι S ρ a b I o st j p=>Pst.tg p o st λJ S2 f H2 b2 s2 r c h s=>?_
  obtain⟨d,e,q⟩:=Pst.ofO s c;unfold idxD at e;split at e
  .rename_i k
   cases (show b2=_ from h);cases z:seqOf S2 a with
   |none=>rw[z]at e;cases e
   |some l =>
    rw[z]at e;obtain⟨p,xs,rfl,hs,u⟩:=yg c z (Den.mono s2 a j);obtain⟨v,e1,e2⟩:=qiF u e;have fin:=q v f H2 019 c e2;rcases hs with hs|hs
    .exact .inl ⟨p,xs,k,v,rfl,rfl,.inl hs,e1,fin⟩
    .exact .inr (.inl ⟨p,xs,k,v,rfl,rfl,.inl (.inl hs),e1,fin⟩)
  .rename_i ks
   split at e
   .rename_i n
    split at e
    .rename_i l hl
     cases z:intsOf ks with
     |none=>rw[z]at e;cases e
     |some k =>
      rw[z]at e;cases intsOf_eq z;obtain⟨p,w,hn⟩:=Den.mono s2 _ j;subst w;obtain⟨_,kvs,B,C⟩:=c.obj n p _ hn hl;obtain⟨v,e1,e2⟩:=qcs qcr C e;obtain⟨b,xs,rfl,_,hb,E⟩:=h;cases dens_ints E;refine .inr (.inr ⟨p,v,rfl,?_,q v f H2 019 c e2⟩);rw[<-e1];exact DGet.t B (by rw[qec];exact hb)
    .cases e
   .cases e
  .cases e
end
section
variable{X:Cx}{pos:Pos}
theorem qkW{ι:03}{H:Hp}{S:Sr}{K:009}(st:Sto ι H S)(t:Ty):∀{d:D} {v:V} {b:Bool},isiD S t d=some b->Den ι H d v->∃ty,TyOf K H v ty/\PySem.W.kitOne K ty (.type t.nm)=some b
 | .non,v,b,h,hd=>by
  cases (show v=_ from hd);cases h;exact⟨_,.non,by cases t <;> (first|rfl|decide +kernel)⟩
 | .bl c,v,b,h,hd=>by
  cases (show v=_ from hd);cases t <;> cases h <;> exact⟨_,.bl c,by first|rfl|decide +kernel⟩
 | .int c,v,b,h,hd=>by
  cases (show v=_ from hd);cases t <;> cases h <;> exact⟨_,.int c,by first|rfl|decide +kernel⟩
 | .str c,v,b,h,hd=>by
  cases (show v=_ from hd);cases t <;> cases h <;> exact⟨_,.str c,by first|rfl|decide +kernel⟩
 | .t l,v,b,h,hd=>by
  obtain⟨a,xs,rfl,_,ha,_⟩:=hd;cases t <;> cases h <;> exact⟨_,.t ha,by first|rfl|decide +kernel⟩
 | .l l,v,b,h,hd=>by
  obtain⟨a,xs,rfl,_,ha,_⟩:=hd;rcases ha with ha|⟨o,ha⟩
  .cases t <;> cases h <;> exact⟨_,.l ha,by first|rfl|decide +kernel⟩
  .cases t <;> cases h <;> exact⟨_,.frz ha,by first|rfl|decide +kernel⟩
 | .exc C,v,b,h,hd=>by cases h
 | .emp,v,b,h,hd=>by
  obtain⟨a,rfl,_,ha⟩:=hd;cases t <;> cases h <;> exact⟨_,.dK ha,by first|rfl|decide +kernel⟩
theorem qgn:CallR X (.builtin "isinstance") (λxs H Q=>∃x n ty b,xs=[x,.ty n]/\TyOf X.K H x ty/\PySem.W.kitOne X.K ty (.type n)=some b/\Q (.bl b) H):=by
 intro pins s i H xs us Q I r h;obtain⟨x,n,ty,b,rfl,a,c,q⟩:=h;obtain⟨u,j,rfl,d,f⟩:=vals2 r;cases f;exact qfb I d a c λtk=>⟨.bl b,H,I.tok _,rfl,q⟩
theorem qiH(t:Ty):bootBuiltins 040=some (.type t.nm):=by cases t <;> decide +kernel
theorem qcu:bootBuiltins "isinstance"=some (.builtin "isinstance"):=by decide +kernel
theorem qmx{a:Expr}{p f:Pos}{m:007}{t:Ty}(n:Gl X "isinstance")(hm:X.mg "isinstance"=none)(hgt:Gl X 040)(h:X.mg 040=none)(ha:PE X a (T m))(l:starEach [a,.Name 040 f] X.env=(false,eval a X.env)::starEach [.Name 040 f] X.env)(i:starEach [.Name 040 f] X.env=(false,eval (.Name 040 f) X.env)::starEach [] X.env)(j:(backTo pos (starEach [.Name 040 f] X.env)).any (·.1)=false):
  PE X (.Call (.Name "isinstance" p) [a,.Name 040 f] [] pos) (T λρ S=>(m ρ S).bind λx S1=>ofO ((isiD S1 t x).map .bl) S1):=by
 have hn:040≠"__name__":=by cases t <;> decide
 have hd:(040 == ("__debug__":Str))=false:=by cases t <;> decide
 have o:PE X (.Name 040 f) (λ_ H Q=>Q (.ty t.nm) H):=qdY (v:=.ty t.nm) hgt h (qiH t) rfl hn hd;refine PEimp (qas qgn n hm qcu (yf ha (yf o jo i) l) 01 01 l j) λy H Q hw=>?_
 refine TG.b1 hw λι S ρ a b r A st s p=>?_
 obtain⟨d,e,q⟩:=Pst.ofO p st;cases z:isiD S t a with
 |none=>rw[z]at e;cases e
 |some c =>
  rw[z]at e;cases e;obtain⟨ty,u,w⟩:=qkW (K:=X.K) st t z s;exact⟨b,t.nm,ty,c,rfl,u,w,q _ ι r 019 st rfl⟩
theorem Dens.cut{ι:03}{H:Hp}{l:04}{xs:List V}(h:Dens ι H l xs)(lo hi:Option Int):Dens ι H (cutD l lo hi) (cutV xs lo hi):=by
 unfold cutD cutV;rw[h.length];exact(h.drop _).take _
theorem qgo{e:Expr}{m:007}(h:PE X e (T m)):PO X (some e) (TOp λρ S=>(m ρ S).bind λx S1=>match x with|.int i=>.ok (some i) S1|_=>.no):=by
 intro pins s c H Q I hw;refine qis h pins s c H Q I (TG.b1 hw λι S ρ a b d j st f p=>?_);cases a with
 |int i =>
  cases (show b=_ from f);exact⟨i,rfl,p _ ι d 019 st rfl⟩
 |_=>exact p.elim
theorem qgp:PO X none (TOp λ_ S=>.ok none S):=by
 intro pins s a H Q I hw;obtain⟨ι,S,ρ,c,st,p⟩:=hw;exact qir pins s a H Q I (p _ ι H 019 st rfl)
theorem qmy{e:Expr}{lo hi:Option Expr}{o:Pos}{m:007}{A B:En->Sr->Res (Option Int)}(C:PE X e (T m))(hl:PO X lo (TOp A))(E:PO X hi (TOp B)):
  PE X (.Subscript e (.Slice lo hi none o) pos) (T λρ S=>(m ρ S).bind λx S1=>(A ρ S1).bind λl S2=>(B ρ S2).bind λh n=>ofO (slcD n x l h) n) :=
 PEimp (qf4 (qiv.or (qkI.or qix)) C hl E) λP H Q hw=>by
  refine TG.b1 hw λι S ρ a b U F st I p=>Pst.tg p F st λl1 S2 J H2 l2 s2 r s u o=>Pst.tg o r s λv n w H3 K L M f y N=>?_
  cases (show l1=l2 from u);cases (show v=K from y);obtain⟨d,e,q⟩:=Pst.ofO N f;have j:=Den.mono (s2.trans L) a I;unfold slcD at e;split at e
  .rename_i l
   cases e;obtain⟨c,xs,rfl,O,hc,i⟩:=j;by_cases hn:HT.sIx xs.length 0 l1=0/\HT.sIx xs.length xs.length v=xs.length
   .refine .inr (.inr ⟨c,xs,rfl,.inl (.inl hc),hn,?_⟩)
    have e2:cutD l l1 v=l:=by
     unfold cutD;rw[i.length,hn.1,hn.2,ug,Nat.sub_zero,<-i.length,uj]
    rw[e2]at q;exact q _ w H3 019 f ⟨c,xs,rfl,O,hc,i⟩
   .exact .inr (.inl ⟨c,xs,rfl,.inl (.inl hc),hn,zG f (i.cut _ _) q⟩)
  .cases z:lstOf n a with
   |none=>rw[z]at e;cases e
   |some l =>
    rw[z]at e;cases e;obtain⟨c,xs,rfl,hc,i⟩:=qT f z j;exact .inl ⟨c,xs,rfl,.inl hc,zy (m:=false) f (i.cut _ _) q⟩
def Gn(g:List D->Sr->Res D):List V->Hp->VK->Prop:=λxs H Q=>∃ι S ds,Sto ι H S/\Dens ι H ds xs/\Pst Den (g ds S) ι H Q
theorem qiI{x:Str}{id:String}{e:Expr}{es:010}{p:Pos}{g:List D->Sr->Res D}{ms:038}(hc:CallR X (.builtin id) (Gn g))(f:Gl X x)(hm:X.mg x=none)(h:bootBuiltins x=some (.builtin id))(ha:PA X (e::es) (TL ms))(hn:x≠"__name__")(c:dB x)(i:sE X e es)(d:bT X es pos):
  PE X (.Call (.Name x p) (e::es) [] pos) (T λρ S=>(ms ρ S).bind λl S1=>g l S1) :=
 PEimp (qas hc f hm h ha hn c i d) λm H Q hw=>TG.b1 hw λι S ρ a b n o st j p=>⟨ι,S,a,st,j,p⟩
theorem qgq{x:Str}{ty:String}{e:Expr}{es:010}{p:Pos}{g:List D->Sr->Res D}{ms:038}(hc:CallR X (.type ty) (Gn g))(f:Gl X x)(hm:X.mg x=none)(h:bootBuiltins x=some (.type ty))(ha:PA X (e::es) (TL ms))(hn:x≠"__name__")(c:dB x)(i:sE X e es)(d:bT X es pos):
  PE X (.Call (.Name x p) (e::es) [] pos) (T λρ S=>(ms ρ S).bind λl S1=>g l S1) :=
 PEimp (qbf hc f hm h ha hn c i d) λm H Q hw=>TG.b1 hw λι S ρ a b n o st j p=>⟨ι,S,a,st,j,p⟩
noncomputable def SpD(np:Nat)(g:List D->Sr->Res D):Sp:=λvs H Q _=>vs.length=np/\∃ι S ds,Sto ι H S/\Dens ι H ds vs/\Pst Den (g ds S) ι H Q
theorem qkX{CX:CXT}{k:Nat}{f:Addr}{fd:FuncData}{ps:014}{g:List D->Sr->Res D}{x:Str}{p:Pos}{e:Expr}{es:010}{ms:038}{E:XK}(F:FnOk X.prog X.w X.K X.mg X.base CX k f fd ps (SpD ps.length g))(j:Room k X.A)(m:Gl X x)(hm:X.mg x=some (.ref f))(n:PySem.W.keepIn X.K (.ref f)=true)(hb:Binds X.K fd ps [])(o:Passes CX X E)(ha:PA X (e::es) (TL ms))(a:∀ρ S l q,ms ρ S=.ok l q->l.length=ps.length)(c:dB x)(r:sE X e es)(d:bT X es pos):
  PE X (.Call (.Name x p) (e::es) [] pos) (T λρ S=>(ms ρ S).bind λl S1=>g l S1) :=
 PEimp (qbA F j m hm n hb (dvs:=[]) .nil o ha c r d) λu H Q hw=>by
  obtain⟨ι,S,ρ,s,st,p⟩:=hw;refine⟨ι,S,ρ,s,st,?_⟩;dsimp only at p ⊢;cases z:ms ρ S with
  |no=>rw[z]at p;exact p
  |err=>rw[z]at p;exact p
  |ok l S1 =>
   rw[z]at p;intro xs h v s1 i hl;refine⟨?_,h,S1,l,i,by simpa using hl,Pst.from p s1⟩;rw[vu,<-hl.length];exact a ρ S l S1 z
end
section
variable{X:Cx}{pos:Pos}
theorem dens1{ι:03}{H:Hp}{d:D}{xs:List V}(h:Dens ι H [d] xs):∃x,xs=[x]/\Den ι H d x:=by
 obtain⟨x,r,rfl,a,c⟩:=h;cases (show r=[]from c);exact⟨x,rfl,a⟩
theorem dens2{ι:03}{H:Hp}{d e:D}{xs:List V}(h:Dens ι H [d,e] xs):∃x y,xs=[x,y]/\Den ι H d x/\Den ι H e y:=by
 obtain⟨x,r,rfl,a,c⟩:=h;obtain⟨y,rfl,f⟩:=dens1 c;exact⟨x,y,rfl,a,f⟩
theorem CallRimp{f:Value}{r a:List V->Hp->VK->Prop}(h:CallR X f r)(k:∀xs H Q,a xs H Q->r xs H Q):CallR X f a:=λpins s c H xs us Q I d q=>h pins s c H xs us Q I d (k xs H Q q)
theorem qbG{g:D->Sr->Res D}{ds:04}{S:Sr}{ι:03}{H:Hp}{Q:VK}(p:Pst Den (one g ds S) ι H Q):∃d,ds=[d]/\Pst Den (g d S) ι H Q:=by
 cases ds with
 |nil=>exact(show False from p).elim
 |cons d r =>
  cases r with
  |nil=>exact⟨d,rfl,p⟩
  |cons e r=>exact(show False from p).elim
theorem qkY{g:D->D->Sr->Res D}{ds:04}{S:Sr}{ι:03}{H:Hp}{Q:VK}(p:Pst Den (two g ds S) ι H Q):∃d e,ds=[d,e]/\Pst Den (g d e S) ι H Q:=by
 cases ds with
 |nil=>exact(show False from p).elim
 |cons d r =>
  cases r with
  |nil=>exact(show False from p).elim
  |cons e r =>
   cases r with
   |nil=>exact⟨d,e,rfl,p⟩
   |cons f r=>exact(show False from p).elim
theorem qef{f:Value}{g:D->Sr->Res D}{r:V->Hp->VK->Prop}(h:CallR X f (λxs H Q=>∃x,xs=[x]/\r x H Q))(k:∀ι S d x H Q,Sto ι H S->Den ι H d x->Pst Den (g d S) ι H Q->r x H Q):CallR X f (Gn (one g)):=CallRimp h λxs H Q hw=>by
 obtain⟨ι,S,ds,st,hd,p⟩:=hw;obtain⟨d,rfl,p⟩:=qbG p
 .skip
  obtain⟨x,rfl,a⟩:=dens1 hd;exact⟨x,rfl,k ι S d x H Q st a p⟩
theorem qgr{f:Value}{g:D->D->Sr->Res D}{r:V->V->Hp->VK->Prop}(h:CallR X f (λxs H Q=>∃x y,xs=[x,y]/\r x y H Q))(k:∀ι S d e x y H Q,Sto ι H S->Den ι H d x->Den ι H e y->Pst Den (g d e S) ι H Q->r x y H Q):CallR X f (Gn (two g)):=CallRimp h λxs H Q hw=>by
 obtain⟨ι,S,ds,st,hd,p⟩:=hw;obtain⟨d,e,rfl,p⟩:=qkY p
 .skip
  obtain⟨x,y,rfl,a,c⟩:=dens2 hd;exact⟨x,y,rfl,k ι S d e x y H Q st a c p⟩
theorem qmz:CallR X (.builtin "len") (Gn (one bLen)) :=
 qef (r:=λx H Q=>∃n,LenV X.K x H n/\Q (.int n) H) (CallRimp qf0 λxs H Q ⟨x,e,n,c,j⟩=>⟨x,n,e,c,j⟩) λι S d x H Q st i p=>by
  obtain⟨r,e,q⟩:=Pst.ofO p st;cases z:lenD S d with
  |none=>rw[z]at e;cases e
  |some n =>
   rw[z]at e;cases e;have fin:=q _ ι H 019 st rfl;cases d with
   |t l =>
    cases z;obtain⟨a,xs,rfl,_,ha,f⟩:=i;exact⟨_,.inr ⟨xs,.inl (.inl ha),f.length⟩,fin⟩
   |l l =>
    cases z;obtain⟨a,xs,rfl,_,ha,f⟩:=i;exact⟨_,.inl ⟨xs,.inl ha,f.length⟩,fin⟩
   |ref k =>
    simp only[lenD]at z;split at z
    .rename_i l hl
     cases z;obtain⟨a,rfl,ha⟩:=i;obtain⟨_,xs,c,f⟩:=st.obj k a _ ha hl;exact⟨_,.inl ⟨xs,.inl (.inl c),f.length⟩,fin⟩
    .cases z
   |_=>cases z
theorem qmA:CallR X (.builtin "abs") (Gn (one bAbs)) :=
 qef (r:=λx H Q=>∃i,x=.int i/\Q (.int (if i<0 then -i else i)) H) (CallRimp qfZ λxs H Q ⟨x,e,i,a,c⟩=>⟨i,by rw[e,a],c⟩) λι S d x H Q st f p=>by
  cases d with
  |int i=>cases (show x=_ from f);exact⟨i,rfl,p _ ι H 019 st rfl⟩
  |_=>exact p.elim
theorem qmB(hc:017):CallR X (.builtin "min") (Gn (two bMin)) :=
 qgr (r:=λx y H Q=>∃i j,x=.int i/\y=.int j/\Q (.int (if j<i then j else i)) H) (CallRimp (qe9 hc) λxs H Q ⟨x,y,e,i,j,a,c,f⟩=>⟨i,j,by rw[e,a,c],f⟩) λι S d e x y H Q st h l p=>by
  cases d with
  |int i =>
   cases e with
   |int j=>cases (show x=_ from h);cases (show y=_ from l);exact⟨i,j,rfl,rfl,p _ ι H 019 st rfl⟩
   |_=>exact p.elim
  |_=>exact p.elim
theorem qmC(hc:017):CallR X (.builtin "max") (Gn (two bMax)) :=
 qgr (r:=λx y H Q=>∃i j,x=.int i/\y=.int j/\Q (.int (if j>i then j else i)) H) (CallRimp (qe8 hc) λxs H Q ⟨x,y,e,i,j,a,c,f⟩=>⟨i,j,by rw[e,a,c],f⟩) λι S d e x y H Q st h l p=>by
  cases d with
  |int i =>
   cases e with
   |int j=>cases (show x=_ from h);cases (show y=_ from l);exact⟨i,j,rfl,rfl,p _ ι H 019 st rfl⟩
   |_=>exact p.elim
  |_=>exact p.elim
theorem qbH:CallR X (.builtin "divmod") (λxs H Q=>∃x y,xs=[x,y]/\∃i j,x=.int i/\y=.int j/\divOk i j=true/\∀p,H p=none->Q (.ref p) (upd H p (.t [.int (i.fdiv j),.int (i.fmod j)]))):=by
 intro pins s a H xs us Q I r h;obtain⟨x,y,rfl,i,j,rfl,rfl,hd,q⟩:=h;obtain⟨u,c,rfl,⟨t,rfl⟩,⟨t',rfl⟩⟩:=vals2 r;simp only[divOk,wS,ub,wv]at hd;refine divmod_int hd.1 ?_ (.inl hd.2);have hn:H s.heap.objs.size=none:=I.hok.fresh (wH _);refine⟨.ref s.heap.objs.size,_,?_,rfl,q _ hn⟩;refine I.laid (λb o e=>wB _ e) (wH _) ⟨by simp only[wY,uF];rw[vm];decide,[.int (i.fdiv j) s.toks,.int (i.fmod j) (s.toks+1)],.cons ⟨_,rfl⟩ (.cons ⟨_,rfl⟩ .nil),?_⟩;exact⟨⟨_,wJ s.heap rfl,rfl,0,rfl⟩,jf _ _⟩
theorem qgs:CallR X (.builtin "divmod") (Gn (two bDivmod)) :=
 qgr qbH λι S d e x y H Q st a c p=>by
  cases d with
  |int i =>
   cases e with
   |int j =>
    cases (show x=_ from a);cases (show y=_ from c);simp only[bDivmod]at p;split at p
    .rename_i hd
     exact⟨i,j,rfl,rfl,hd,zG (l:=[.int (i.fdiv j),.int (i.fmod j)]) (xs:=[.int (i.fdiv j),.int (i.fmod j)]) st ⟨_,_,rfl,rfl,_,_,rfl,rfl,rfl⟩ p⟩
    .exact p.elim
   |_=>exact p.elim
  |_=>exact p.elim
theorem qkZ(m:Bool):CallR X (.type "list") (Gn (one (bList m))) :=
 qef (r:=λx H Q=>∃p ys,x=.ref p/\(SqL X.K H p ys\/SqT X.K H p ys)/\∀l,H l=none->Q (.ref l) (upd H l (.l ys))) (CallRimp qbD λxs H Q ⟨x,e,p,ys,c,f,h⟩=>⟨p,ys,by rw[e,c],f,h⟩) λι S d x H Q st i p=>by
  unfold bList at p;split at p
  .rename_i l hl
   obtain⟨a,xs,rfl,hs,j⟩:=yg st hl i;exact⟨a,xs,rfl,hs.elim (λz=>.inl (.inl z)) (λz=>.inr (.inl (.inl z))),zy st j p⟩
  .exact p.elim
theorem qiJ:CallR X (.type "tuple") (Gn (one bTuple)) :=
 qef (r:=λx H Q=>∃p ys,x=.ref p/\((SqL X.K H p ys/\∀l,H l=none->Q (.ref l) (upd H l (.t ys)))\/(SqT X.K H p ys/\Q (.ref p) H))) (CallRimp qa2 λxs H Q ⟨x,e,p,ys,h,i⟩=>⟨p,ys,by rw[e,h],i⟩) λι S d x H Q st f p=>by
  obtain⟨r,e,q⟩:=Pst.ofO p st;cases z:seqOf S d with
  |none=>rw[z]at e;cases e
  |some l =>
   rw[z]at e;cases e;cases d with
   |t j =>
    cases z;obtain⟨a,xs,rfl,hn,ha,c⟩:=f;exact⟨a,xs,rfl,.inr ⟨.inl (.inl ha),q _ ι H 019 st ⟨a,xs,rfl,hn,ha,c⟩⟩⟩
   |l j =>
    cases z;obtain⟨a,xs,rfl,hn,ha,c⟩:=f;exact⟨a,xs,rfl,.inl ⟨.inl ha,zG st c q⟩⟩
   |ref k =>
    obtain⟨a,xs,rfl,hs,c⟩:=qT st (show lstOf S (.ref k)=some l from z) f;exact⟨a,xs,rfl,.inl ⟨.inl hs,zG st c q⟩⟩
   |_=>cases z
theorem qcv{pins:011}{m:St}{H:Hp}{s:09}{A:Around}{a:Addr}{xs:List V}(I:Inv X pins m H s)(p:A.handled=none)(hs:Rd H a (.l xs)\/H a=some (.t xs)):
  ∃c:List Value,Vals xs c/\∀(E:015) (Q:015),
   (∀(It:Addr) (fp q:03) (j:Nat->Heap->Prop) (d:09),Walks X.prog X.w A It fp q c.length (λi v=>c[i]?=some v) j->j 0 d.heap->(∀b∈fp,b<d.heap.objs.size) ->
    (∀h' tk,(∀b o,b∉q->d.heap.get? b=some o->h'.get? b=some o)->Inv X pins m H {d with heap:=h',toks:=tk})->Q (.ref It) d) ->
   wpAny 006 A (pyIter (.ref a)) Q E s:=by
 have base:∀(o:Obj) (h':Heap) (tk:Nat),(∀b x,b∉[s.heap.objs.size]->(s.heap.push o).get? b=some x->h'.get? b=some x)->Inv X pins m H {s with heap:=h',toks:=tk}:=λo h' tk l =>
  I.kept λb u e=>l b u (λhm=>by rw[wV.mp hm]at e;exact ve _ (wI e)) (wB _ e)
 rcases hs with hs|hs
 .obtain ⟨c,n,hl,r⟩:=jU I hs
  refine⟨c,n,λE Q k=>wpAny_pyIter_list hl ?_⟩;have f:a<s.heap.objs.size:=by obtain⟨_,e,_⟩:=hl;exact wI e
  have W:=Walks.list (prog:=X.prog) (w:=X.w) (A:=A) p s.heap.objs.size a (wg f) c.toArray;refine k s.heap.objs.size [s.heap.objs.size,a] [s.heap.objs.size] (λi h=>h.IsListIter s.heap.objs.size a i/\h.IsList a c.toArray) _ (by simpa using W) ⟨⟨_,wJ _ rfl,rfl,rfl⟩,hl.push _⟩ (λb hb=>?_) (λh' tk l=>base _ h' tk l);simp only[wW,wx,u8]at hb;have e1:=vp s.heap;rcases hb with rfl|rfl
  .exact xK (xY _) (e1 _).symm
  .exact xK (u9 f) (e1 _).symm
 .obtain ⟨c,n,hl,r⟩:=qax I hs
  refine⟨c,n,λE Q k=>wpAny_pyIter_tuple hl ?_⟩;have f:a<s.heap.objs.size:=by obtain⟨_,e,_⟩:=hl;exact wI e
  have W:=Walks.tuple (prog:=X.prog) (w:=X.w) (A:=A) p s.heap.objs.size a (wg f) c.toArray;refine k s.heap.objs.size [s.heap.objs.size,a] [s.heap.objs.size] (λi h=>h.IsTupleIter s.heap.objs.size a i/\h.IsTuple a c.toArray) _ (by simpa using W) ⟨⟨_,wJ _ rfl,rfl,rfl⟩,hl.push _⟩ (λb hb=>?_) (λh' tk l=>base _ h' tk l);simp only[wW,wx,u8]at hb;have e1:=vp s.heap;rcases hb with rfl|rfl
  .exact xK (xY _) (e1 _).symm
  .exact xK (u9 f) (e1 _).symm
theorem qbk{ι:03}{H:Hp}:∀{l:04} {xs:List V} {a:005} {bs:List Bool},boolsOf l=some bs->Dens ι H l xs->Vals xs a->a=bs.map .bool
 |[],xs,a,b,h,hd,r=>by
  cases h;cases (show xs=[]from hd);cases r;rfl
 | .bl c::l,xs,a,b,h,hd,r=>by
  obtain⟨x,t,rfl,d,f⟩:=hd;cases (show x=_ from d);simp only[boolsOf]at h;cases z:boolsOf l with
  |none=>rw[z]at h;cases h
  |some bs =>
   rw[z]at h;cases h;cases r with
   |cons i rt=>cases i;rw[qbk z f rt];rfl
 | .non::_,_,_,_,h,_,_=>by cases h
 | .int _::_,_,_,_,h,_,_=>by cases h
 | .str _::_,_,_,_,h,_,_=>by cases h
 | .t _::_,_,_,_,h,_,_=>by cases h
 | .l _::_,_,_,_,h,_,_=>by cases h
 | .emp::_,_,_,_,h,_,_=>by cases h
 | .exc _::_,_,_,_,h,_,_=>by cases h
 | .ref _::_,_,_,_,h,_,_=>by cases h
theorem qdr(bs:List Bool):((List.range bs.length).all λi=>(bs[i]?).getD true)=bs.all id:=by
 rw[uH,wb,wb];constructor
 .intro h b hb
  obtain⟨i,hi,e⟩:=uG hb;have:=h i (uB.mpr hi);simpa[wC hi,e]using this
 .intro h i hi
  have a:=uB.mp hi;simpa[wC a]using h _ (List.getElem_mem a)
theorem qcw{prog:Program}{w:World}{A:Around}{bs:List Bool}{a:005}(e:a=bs.map .bool)(d:Bool):TruthOf prog w A (λi v=>a[i]?=some v) (λi=>(bs[i]?).getD d):=λi v s Q E c h=>by
 subst e;rw[wk]at c;cases z:bs[i]? with
 |none=>rw[z]at c;cases c
 |some b =>
  have f:Q ((bs[i]?).getD d) s:=h;rw[z]at c f;cases c;exact vl f
theorem qmD(hc:017):CallR X (.builtin "all") (Gn (one bAll)):=by
 intro pins s J H xs us Q I r h;obtain⟨ι,S,ds,st,hd,p⟩:=h;obtain⟨d,rfl,p⟩:=qbG p
 .skip
  obtain⟨x,rfl,m⟩:=dens1 hd;obtain⟨u,rfl,n⟩:=vals1 r;obtain⟨K,e,q⟩:=Pst.ofO p st;cases z:seqOf S d with
  |none=>rw[z]at e;cases e
  |some l =>
   rw[z]at e;cases z2:boolsOf l with
   |none=>rw[wX,z2]at e;cases e
   |some bs =>
    rw[wX,z2]at e;cases e;obtain⟨a,xs,rfl,hs,o⟩:=yg st z m;cases n;obtain⟨c,v,w⟩:=qcv (A:=X.A.in1) I (I.ok.hd hc) hs;have i:=qbk z2 o v;refine call_all_walk (w _ _ λIt fp y f j W B L C=>⟨It,fp,y,_,_,f,_,rfl,W,B,qcw i true,λh' tk E=>?_⟩);have F:c.length=bs.length:=by rw[i,wF]
    rw[F,qdr];exact⟨.bl (bs.all id),H,C h' tk E,rfl,q _ ι H 019 st rfl⟩
theorem qad(ns:008):∀n,n<=ns.length->preSum (λi=>(ns[i]?).getD 0) n=(ns.take n).sum
 |0,_=>by simp[preSum]
 |n+1,h=>by
  rw[preSum,qad ns n 00,List.take_succ,List.sum_append];simp[wC (show n<ns.length by lia)]
theorem qmE(hc:017):CallR X (.builtin "sum") (Gn (one bSum)):=by
 intro pins s U H xs us Q I r h;obtain⟨ι,S,ds,st,hd,p⟩:=h;obtain⟨d,rfl,p⟩:=qbG p
 .skip
  obtain⟨x,rfl,B⟩:=dens1 hd;obtain⟨u,rfl,C⟩:=vals1 r;obtain⟨Y,e,q⟩:=Pst.ofO p st;cases z:seqOf S d with
  |none=>rw[z]at e;cases e
  |some l =>
   rw[z]at e;cases z2:intsOf l with
   |none=>rw[wX,z2]at e;cases e
   |some ns =>
    rw[wX,z2]at e;cases e;obtain⟨a,xs,rfl,hs,E⟩:=yg st z B;cases C;obtain⟨c,m,w⟩:=qcv (A:=X.A.in1) I (I.ok.hd hc) hs;cases intsOf_eq z2;cases dens_ints E;have F:IntsAre c ns:=zB m;have J:c.length=ns.length:=F.length;refine call_sum_walkG (w _ _ λIt fp K f o W L M N=>⟨It,fp,K,_,_,f,λi=>(ns[i]?).getD 0,rfl,W,L,M,λi v y=>?_,λh' tk t' O=>?_⟩)
    .obtain ⟨j,P⟩:=Vals.at m (wG.mp y).1
     obtain⟨e1,e2⟩:=P;rw[(wG.mp y).2]at e2;rw[wk]at e1;cases z3:ns[i]? with
     |none=>rw[z3]at e1;cases e1
     |some n =>
      rw[z3]at e1;cases e1;obtain⟨t,rfl⟩:=e2;exact⟨t,by simp[z3]⟩
    .rw [J,qad ns _ (wH _),uj]
     exact⟨.int ns.sum,H,N h' tk O,⟨_,rfl⟩,q _ ι H 019 st rfl⟩
end
section
variable{X:Cx}{pos:Pos}
theorem Dens.erase{ι:03}{H:Hp}:∀{ds:04} {xs:List V} (i:Nat),Dens ι H ds xs->Dens ι H (ds.eraseIdx i) (xs.eraseIdx i)
 |[],_,_,h=>by cases (show _=[]from h);exact(rfl:_=_)
 |d::ds,_,0,h=>by
  obtain⟨x,r,rfl,c,a⟩:=h;exact a
 |d::ds,_,i+1,h=>by
  obtain⟨x,r,rfl,c,a⟩:=h;exact⟨x,_,rfl,c,Dens.erase i a⟩
theorem qbI{ι:03}{H:Hp}{S:Sr}{n:Nat}{a:Addr}{l:04}{xs:List V}(st:Sto ι H S)(ha:ι[n]?=some a)(f:refsLts n l=true)(c:Dens ι H l xs):Stp ι H ι (upd H a (.l xs))/\Sto ι (upd H a (.l xs)) (S.set n (.l l)):=by
 have g:=Stp.put (H:=H) (wq ha) (.l xs);exact⟨g,st.put ha ⟨⟨n,ha,f⟩,xs,qK,Dens.mono g l c⟩⟩
theorem qfm{ι:03}{H:Hp}{S:Sr}{x:D}{v:V}{K:009}(st:Sto ι H S)(h:isLst S x=true)(c:Den ι H x v):tyV K "list" v H:=by
 cases x with
 |ref n =>
  obtain⟨a,rfl,ha⟩:=c;simp only[isLst]at h;split at h
  .rename_i l hl
   obtain⟨_,xs,d,_⟩:=st.obj n a _ ha hl;exact .inl ⟨rfl,xs,.inl (.inl d)⟩
  .cases h
 |_=>cases h
theorem qgt{o e:Expr}{name:Str}{id:String}{c:Pos}{mo me:007}{g:Sr->D->D->Res D}{r:V->List V->Hp->VK->Prop}(slot:Slot "list" name id)(j:typeOf (.builtin id)=pure (.type "method_descriptor"))(hm:MtM X id r)(q:∀ι S x y v u H Q,Sto ι H S->Den ι H x v->Den ι H y u->Pst Den (g S x y) ι H Q->r v [u] H Q)(s:PE X o (T mo))(w:PE X e (T me))(h:starEach [e] X.env=(false,eval e X.env)::starEach [] X.env)(d:attributeBase o name X.env (eval o X.env)=eval o X.env)(f:(c.endLine == pos.line)=true)(i:((backTo pos (starEach [e] X.env)).all (λx=>!x.1)&&(backToKw pos (keywordEach [] X.env)).all (λx=>x.1.isSome)&&decide ([e].length+([]:List Keyword).length+(if([]:List Keyword).isEmpty then 0 else 1)<30))=true)(a:(backTo pos (starEach [] X.env)).any (·.1)=false):
  PE X (.Call (.Attribute o name c) [e] [] pos) (T λρ S=>(mo ρ S).bind λx S1=>if isLst S1 x then(me ρ S1).bind λy S2=>g S2 x y else .no) :=
 PEimp (qf7 xU slot j hm s (yf w jo h) d i f h a) λI H Q hw=>by
  refine TG.b1 hw λι S ρ x v J A st n p=>?_
  by_cases hl:isLst S x=true
  .rw [wN hl]at p
   refine⟨qfm st hl n,Pst.tg p A st λy S2 l H2 u s2 B m C E=>?_⟩;exact q l S2 x y v u H2 Q m (Den.mono s2 x n) C E
  .rw [wT hl]at p;exact p.elim
theorem qmF{ι:03}{S:Sr}{x y:D}{v u:V}{H:Hp}{Q:VK}(st:Sto ι H S)(h:Den ι H x v)(i:Den ι H y u)(p:Pst Den (popD S x y) ι H Q):rPopAt v [u] H Q:=by
 unfold popD at p;split at p
 .rename_i n k
  split at p
  .rename_i l hl
   split at p
   .rename_i j
    split at p
    .rename_i d hd
     obtain⟨a,rfl,ha⟩:=h;cases (show u=_ from i);obtain⟨⟨o,q,r⟩,xs,s,f⟩:=st.obj n a _ ha hl;obtain rfl:o=n:=zP st.nd q ha;obtain⟨z,e1,e2⟩:=f.get hd;have w:k.toNat<xs.length:=(wG.mp e1).1;obtain⟨g,c⟩:=qbI st ha (qJ λd m=>qB r (List.mem_of_mem_eraseIdx m)) (Dens.erase k.toNat f);refine⟨a,xs,k,k.toNat,z,rfl,rfl,s,?_,?_,?_,e1,p z ι _ g c (Den.mono g d e2)⟩
     .lia
     .lia
     .exact seqIndex_of j.1 00
    .exact p.elim
   .exact p.elim
  .exact p.elim
 .exact p.elim
theorem qjT{ι:03}{S:Sr}{x y:D}{v u:V}{H:Hp}{Q:VK}(st:Sto ι H S)(h:Den ι H x v)(i:Den ι H y u)(p:Pst Den (appD S x y) ι H Q):rAppend v [u] H Q:=by
 unfold appD at p;split at p
 .rename_i n
  split at p
  .rename_i l hl
   split at p
   .rename_i d
    obtain⟨a,rfl,ha⟩:=h;obtain⟨⟨j,m,o⟩,xs,q,f⟩:=st.obj n a _ ha hl;obtain rfl:j=n:=zP st.nd m ha;obtain⟨g,c⟩:=qbI st ha (by rw[yQ,o];simp[refsLts,zU _ d.2]) (f.snoc i);exact⟨a,xs,u,rfl,rfl,q,by rw[<-f.length];exact d.1,p .non ι _ g c rfl⟩
   .exact p.elim
  .exact p.elim
 .exact p.elim
noncomputable def TGt(m:024):L2.TG:=λv a H Q=>∃ι S ρ d,EnR ι H ρ a/\Sto ι H S/\Den ι H d v/\Pst EnR (m d ρ S) ι H Q
noncomputable def TGts(m:List D->En->Sr->Res En):TGs:=λvs a H Q=>∃ι S ρ ds,EnR ι H ρ a/\Sto ι H S/\Dens ι H ds vs/\Pst EnR (m ds ρ S) ι H Q
theorem PGimp{tg:Expr}{t t':L2.TG}(h:PG X tg t)(k:∀v a H Q,t' v a H Q->t v a H Q):PG X tg t':=λpins s a H v u Q I r hw=>h pins s a H v u Q I r (k v a H Q hw)
theorem PGsimp{ts:010}{t t':TGs}(h:PGs X ts t)(k:∀v a H Q,t' v a H Q->t v a H Q):PGs X ts t':=λpins s a H v u Q I r hw=>h pins s a H v u Q I r (k v a H Q hw)
theorem qmG{i:Nat}{tg:Expr}(h:PG X tg (gName i)):PG X tg (TGt λd ρ S=>.ok (ρ.set i (some d)) S):=PGimp h λv c H Q hw=>by
 obtain⟨ι,S,ρ,d,a,st,hd,p⟩:=hw;exact p _ ι H 019 st (a.set hd)
theorem qmH:PGs X [] (TGts λl ρ S=>match l with|[]=>.ok ρ S|_=>.no):=PGsimp qil λvs c H Q hw=>by
 obtain⟨ι,S,ρ,ds,a,st,hd,p⟩:=hw;cases ds with
 |nil=>exact⟨hd,p _ ι H 019 st a⟩
 |cons=>exact p.elim
theorem qk0{e:Expr}{es:010}{m:024}{ms:List D->En->Sr->Res En}(h:PG X e (TGt m))(i:PGs X es (TGts ms))(hs:(assignEach (e::es) X.env).map (·.2)=assign e X.env::(assignEach es X.env).map (·.2)):
  PGs X (e::es) (TGts λl ρ S=>match l with|d::r=>(m d ρ S).bind λρ1 S1=>ms r ρ1 S1|[]=>.no):=PGsimp (qfT h i hs) λvs w H Q hw=>by
 obtain⟨ι,S,ρ,ds,j,st,hd,p⟩:=hw;cases ds with
 |nil=>exact p.elim
 |cons d r =>
  obtain⟨v,n,rfl,o,q⟩:=hd;refine⟨v,n,rfl,ι,S,ρ,d,j,st,o,Pst.bind p λρ1 S1 a x s s1 c f u=>?_⟩;exact⟨a,S1,ρ1,r,f,c,Dens.mono s1 r q,u⟩
theorem qmI{es:010}{k n:Nat}{ms:List D->En->Sr->Res En}(hc:017)(h:PGs X es (TGts ms))(hn:(assignEach es X.env).length=n)(c:(assignEach es X.env).findIdx? (·.1)=none)(hl:∀l ρ S ρ' f,ms l ρ S=.ok ρ' f->l.length=n):PG X (.Tuple es k pos) (TGt λd ρ S=>match d with|.t l=>ms l ρ S|_=>.no):=PGimp (qkv hc h hn c) λv m H Q hw=>by
 obtain⟨ι,S,ρ,d,j,st,hd,p⟩:=hw;cases d with
 |t l =>
  obtain⟨a,xs,rfl,_,ha,i⟩:=hd;refine⟨a,xs,rfl,.inl (.inl ha),?_,ι,S,ρ,l,j,st,i,p⟩;rw[<-i.length];cases z:ms l ρ S with
  |ok ρ' f=>exact hl l ρ S ρ' f z
  |no=>simp only[z]at p;exact p.elim
  |err=>simp only[z]at p;exact p.elim
 |_=>exact p.elim
theorem qcx(c:X.A.units+1<cLine):PSet X (λo i v H Q=>∃a H',o=.ref a/\DPut H a i v H'/\Q H'):=by
 intro pins s l H o i v m n u Q I d ri f h;obtain⟨a,H',rfl,g,q⟩:=h;cases d;exact qff c I g ri f λp j=>⟨H',j,q⟩
theorem qgu(N:X.A.units+1<cLine){pins:011}{s:09}{p:St}{H:Hp}{a:Addr}{i v:V}{r B u:Value}{Q:Hp->Prop}{ι:03}{S O:Sr}{n:Nat}{y d:D}(I:Inv X pins p H s)(J:RelV (.ref a) r)(ri:RelV i B)(K:RelV v u)(st:Sto ι H S)(ha:ι[n]?=some a)(h:refsLt 0 d=true)(L:Den ι H y i)(hd:Den ι H d v)(e:putN S n y d=some O)(q:∀C H',Stp ι H C H'->Sto C H' O->Q H'):wpAny 006 X.A (setItem r B u) (λ_ s'=>∃H',Inv X pins p H' s'/\Q H') X.xe s:=by
 unfold putN at e;split at e
 .rename_i l hl
  obtain⟨⟨P,U,E⟩,xs,F,c⟩:=st.obj n a _ ha hl;obtain rfl:P=n:=zP st.nd U ha;split at e
  .rename_i k
   cases (show i=_ from L);cases z:ixN l.length k with
   |none=>rw[z]at e;cases e
   |some j =>
    rw[z]at e;cases e;obtain⟨g,M⟩:=qbI st ha (qJ λx m=>(uP m).elim (λz=>qB E z) λz=>z ▸ zU _ h) (c.set hd j);exact qf5 pins s p H _ _ v r B u Q I J ri K ⟨a,xs,k,j,rfl,rfl,F,by rw[<-c.length];exact z,q ι _ g M⟩
  .cases e
 .rename_i l hl
  obtain⟨E,kvs,F,c⟩:=st.obj n a _ ha hl;split at e
  .rename_i ks
   cases z:intsOf ks with
   |none=>rw[z]at e;cases e
   |some k =>
    rw[z,wX]at e;split at e
    .rename_i o
     cases e;cases intsOf_eq z;obtain⟨b,ys,rfl,_,hb,W⟩:=L;cases dens_ints W;have g:=Stp.put (H:=H) (wq ha) (.dT (putK kvs (keyT k) v));refine qcx N pins s p H _ _ v r B u Q I J ri K ⟨a,_,rfl,DPut.t (k:=keyT k) F (by rw[qec];exact hb) ?_,q ι _ g (st.put ha ⟨qct h E,_,qK,qee qcr (Den.mono g d hd) (DGs.mono g c)⟩)⟩;have e2:kvs.length<1000:=by rw[<-c.length];exact o
     exact w6 e2 (by rw[vm];decide)
    .cases e
  .cases e
 .rename_i l hl
  obtain⟨E,kvs,F,c⟩:=st.obj n a _ ha hl;cases z:keyD y with
  |none=>rw[z]at e;cases e
  |some k =>
   rw[z,wX]at e;split at e
   .rename_i o
    cases e;cases key_den z L;have g:=Stp.put (H:=H) (wq ha) (.dK (putK kvs k v));refine qcx N pins s p H _ _ v r B u Q I J ri K ⟨a,_,rfl,DPut.k (k:=k) F ?_,q ι _ g (st.put ha ⟨qct h E,_,qK,qee (f:=id) Iff.rfl (Den.mono g d hd) (DGs.mono g c)⟩)⟩;have e2:kvs.length<1000:=by rw[<-c.length];exact o
    exact w6 e2 (by rw[vm];decide)
   .cases e
 .cases e
theorem qiK(l:X.A.units+1<cLine):PSet X (λo i v H Q=>∃ι S x y d j,Sto ι H S/\Den ι H x o/\Den ι H y i/\Den ι H d v/\putE S x y d=some j/\∀f H',Stp ι H f H'->Sto f H' j->Q H'):=by
 intro pins s B H o i v C E u Q I m ri p h;obtain⟨ι,S,x,y,d,j,st,r,w,hd,e,q⟩:=h;unfold putE at e;by_cases c:refsLt 0 d=true
 .rw [wN c]at e
  split at e
  .rename_i n
   obtain⟨a,rfl,ha⟩:=r;exact qgu l I m ri p st ha c w hd e q
  .cases e
 .rw [wT c]at e;cases e
theorem qmJ{o i:Expr}{mo mi:007}(u:X.A.units+1<cLine)(w:PE X o (T mo))(hi:PE X i (T mi))(ha:∀v,assign (.Subscript o i pos) X.env v=(do
   let a <-holding [v] (eval o X.env)
   let f <-holding [v,a] (eval i X.env)
   standAt pos
   holding [v,a,f] (setItem a f v)
   release [v,a,f] [])):
  PG X (.Subscript o i pos) (TGt λd ρ S=>(mo ρ S).bind λx S1=>(mi ρ S1).bind λy S2=>match putE S2 x y d with|some h=>.ok ρ h|none=>.no):=PGimp (qkw w hi (qiK u) ha) λv B H Q hw=>by
 obtain⟨ι,S,ρ,d,C,st,hd,p⟩:=hw;refine Pst.tg (ρ:=ρ) p C st λx S1 E K L s1 j l F I=>Pst.tg (ρ:=ρ) I j l λy S2 m H2 M s2 n q J c=>?_
 cases z:putE S2 x y d with
 |none=>rw[z]at c;exact c.elim
 |some h =>
  rw[z]at c;exact⟨m,S2,x,y,d,h,q,Den.mono s2 x F,J,Den.mono (s1.trans s2) d hd,z,λr H' g s=>c B r H' g s (n.mono g)⟩
def FlOk(f:Fl)(ι:03)(H:Hp)(D:Ends):Prop:=match f with
 | .nx ρ=>∀a,EnR ι H ρ a->D.nx a H
 | .bk ρ=>∀a,EnR ι H ρ a->D.bk a H
 | .ct ρ=>∀a,EnR ι H ρ a->D.ct a H
 | .rt d=>∀v,Den ι H d v->D.rt v H
def PsF(r:Res Fl)(ι:03)(H:Hp)(D:Ends):Prop:=match r with
 | .ok f c=>∀a H',Stp ι H a H'->Sto a H' c->FlOk f a H' D
 | .err _ _=>False
 | .no=>False
theorem PsF.from{r:Res Fl}{ι a:03}{H H':Hp}{D:Ends}(h:PsF r ι H D)(s:Stp ι H a H'):PsF r a H' D:=by
 cases r with
 |ok f S=>exact λc H2 t st=>h c H2 (s.trans t) st
 |err=>exact h
 |no=>exact h
theorem PsF.bind{d j:Type}{R:List Addr->Hp->d->j->Prop}{r:Res d}{f:d->Sr->Res Fl}{ι:03}{H:Hp}{D:Ends}{K:j->Hp->Prop}(h:PsF (r.bind f) ι H D)(k:∀a l c H' b,Stp ι H c H'->Sto c H' l->R c H' a b->PsF (f a l) c H' D->K b H'):Pst R r ι H K:=by
 cases r with
 |ok a S=>exact λb i H2 t st q=>k a S i H2 b t st q (PsF.from h t)
 |err=>exact h
 |no=>exact h
noncomputable def TSm(m:En->Sr->Res Fl):TS:=λD a H=>∃ι S ρ,EnR ι H ρ a/\Sto ι H S/\PsF (m ρ S) ι H D
theorem PSimp{st:Stmt}{t t':TS}(h:PS X st t)(k:∀D a H,t' D a H->t D a H):PS X st t':=λpins s a H D I hw=>h pins s a H D I (k D a H hw)
theorem PSsimp{st:List Stmt}{t t':TS}(h:PSs X st t)(k:∀D a H,t' D a H->t D a H):PSs X st t':=λpins s a H D I hw=>h pins s a H D I (k D a H hw)
theorem qmK:PSs X [] (TSm λρ S=>.ok (.nx ρ) S):=PSsimp qdZ λD a H hw=>by
 obtain⟨ι,S,ρ,c,st,p⟩:=hw;exact p ι H 019 st a c
theorem qk1{st:Stmt}{rest:List Stmt}{m ms:En->Sr->Res Fl}(l:PS X st (TSm m))(n:PSs X rest (TSm ms)):
  PSs X (st::rest) (TSm λρ S=>(m ρ S).bind λf S1=>match f with|.nx ρ1=>ms ρ1 S1|f=>.ok f S1):=PSsimp (qcj l n) λD r H hw=>by
 obtain⟨ι,S,ρ,o,st,p⟩:=hw;refine⟨ι,S,ρ,o,st,?_⟩;dsimp only at p;cases z:m ρ S with
 |no=>rw[z]at p;exact p
 |err=>rw[z]at p;exact p
 |ok f S1 =>
  rw[z]at p;intro c j s1 h;cases f with
  |nx ρ1=>exact λi a=>⟨c,S1,ρ1,a,h,PsF.from p s1⟩
  |bk ρ1=>exact λi a=>p c j s1 h i a
  |ct ρ1=>exact λi a=>p c j s1 h i a
  |rt d=>exact λv q=>p c j s1 h v q
theorem qk2{e:Expr}{m:007}(h:PE X e (T m))(hs:swapsWith e none pos.line X.env=pure false):PS X (.Expr e pos) (TSm λρ S=>(m ρ S).bind λ_ S1=>.ok (.nx ρ) S1):=PSimp (qd0 h hs) λD i H hw=>by
 obtain⟨ι,S,ρ,f,st,p⟩:=hw;exact⟨ι,S,ρ,f,st,PsF.bind p λa S1 c j b s1 d n l=>l c j 019 d i (f.mono s1)⟩
theorem qmL{e:Expr}{m:007}(h:PE X e (T m)):PS X (.Return (some e) pos) (TSm λρ S=>(m ρ S).bind λd S1=>.ok (.rt d) S1):=PSimp (qfR h) λD o H hw=>by
 obtain⟨ι,S,ρ,i,st,p⟩:=hw;exact⟨ι,S,ρ,i,st,PsF.bind p λa S1 c j b s1 f l n=>n c j 019 f b l⟩
theorem s_if{c:Expr}{a b:List Stmt}{i:022}{j mb:En->Sr->Res Fl}(hc:PT X c (TB i))(ha:PSs X a (TSm j))(hb:PSs X b (TSm mb)):
  PS X (.If c a b pos) (TSm λρ S=>(i ρ S).bind λt S1=>if t then j ρ S1 else mb ρ S1):=PSimp (qjL hc ha hb) λD n H hw=>by
 obtain⟨ι,S,ρ,h,st,p⟩:=hw;refine⟨ι,S,ρ,h,st,PsF.bind p λa S1 d o b s1 f m l=>?_⟩;cases (show a=b from m);cases a with
 |true=>rw[wN rfl];exact⟨d,S1,ρ,h.mono s1,f,l⟩
 |false=>rw[wT 01];exact⟨d,S1,ρ,h.mono s1,f,l⟩
theorem qjU{tg e:Expr}{m:007}{g:024}(h:PS X (.Assign [tg] e pos) (tAsg (T m) (TGt g))):
  PS X (.Assign [tg] e pos) (TSm λρ S=>(m ρ S).bind λd S1=>(g d ρ S1).bind λρ1 S2=>.ok (.nx ρ1) S2):=PSimp h λD r H hw=>by
 obtain⟨ι,S,ρ,n,st,p⟩:=hw;refine⟨ι,S,ρ,n,st,PsF.bind p λd S1 a s v s1 c rd o=>?_⟩;refine⟨a,S1,ρ,d,n.mono s1,c,rd,PsF.bind o λρ1 S2 f H2 i s2 j l q=>?_⟩;exact q f H2 019 j i l
theorem qiL{c:Expr}{body:List Stmt}{o:022}{mb:En->Sr->Res Fl}{N:Nat}(y:PassesOwn 006 X.A X.env X.xe)(hc:PT X c (TB o))(hb:PSs X body (TSm mb)):
  PS X (.While c body [] pos) (TSm λρ S=>whileLoop o mb N ρ S):=PSimp (qfU y hc hb) λD x H hw=>by
 obtain⟨ι,S,ρ,q,st,p⟩:=hw;refine⟨λm x H=>∃ι S ρ,EnR ι H ρ x/\Sto ι H S/\PsF (whileLoop o mb m ρ S) ι H D,⟨N,ι,S,ρ,q,st,p⟩,?_⟩;rintro m x H ⟨ι,S,ρ,q,st,p⟩;cases m with
 |zero=>exact p.elim
 |succ m =>
  refine⟨ι,S,ρ,q,st,PsF.bind (show PsF ((o ρ S).bind _) ι H D from p) λa S1 r B b s1 s C i=>?_⟩;cases (show a=b from C);cases a with
  |false=>exact i r B 019 s x (q.mono s1)
  |true =>
   refine⟨λu H'=>∃ι S ρ,EnR ι H' ρ u/\Sto ι H' S/\PsF (whileLoop o mb m ρ S) ι H' D,λu H' h'=>⟨m,xY _,h'⟩,r,S1,ρ,q.mono s1,s,?_⟩;cases z:mb ρ S1 with
   |no=>simp only[z,uO]at i;exact i
   |err=>simp only[z,uO]at i;exact i
   |ok f S2 =>
    simp only[z,uO,Res.bind_ok]at i;intro j H2 s2 l;cases f with
    |nx ρ1=>exact λn h=>⟨j,S2,ρ1,h,l,PsF.from i s2⟩
    |ct ρ1=>exact λn h=>⟨j,S2,ρ1,h,l,PsF.from i s2⟩
    |bk ρ1=>exact λn h=>i j H2 s2 l n h
    |rt d=>exact λv E=>i j H2 s2 l v E
end
structure ItOk (ι:03) (H:Hp) (J:It) (ds:04):Prop where
 go:∀(i:Nat) (d:D) (ι2:03) (H2:Hp),Stp ι H ι2 H2->ds[i]?=some d->J.go i H2/\∀x H3,J.yld i H2 x H3->Stp ι2 H2 ι2 H3/\∀S,Sto ι2 H2 S->Sto ι2 H3 S/\Den ι2 H3 d x
 stop:∀(ι2:03) (H2:Hp),Stp ι H ι2 H2->J.stop ds.length H2
def qgv{ι:03}{H:Hp}{K:009}{a:Addr}{xs:List V}{ds:04}(n:a∉ι)(h:Rd H a (.l xs))(j:Dens ι H ds xs):ItOk ι H (Itl K a) ds where
 go:=λi d c H2 s e=>by
  obtain⟨x,e1,e2⟩:=(Dens.mono s ds j).get e;obtain⟨l,m⟩:=s.rd h n;refine⟨⟨xs,x,.inl l,e1⟩,λy H3 f=>?_⟩;obtain⟨rfl,f⟩:=f;have:=f xs (.inl l);rw[e1]at this;cases this;exact⟨Stp.refl _ _,λ_ z=>⟨z,e2⟩⟩
 stop:=λc H2 s=>⟨xs,.inl (s.rd h n).1,xL j.length.symm⟩
def qgw{ι:03}{H:Hp}{K:009}{a:Addr}{xs:List V}{ds:04}(n:a∉ι)(h:H a=some (.t xs))(j:Dens ι H ds xs):ItOk ι H (Itt K a) ds where
 go:=λi d c H2 s e=>by
  obtain⟨x,e1,e2⟩:=(Dens.mono s ds j).get e;have l:=s.keep _ _ h n trivial;refine⟨⟨xs,x,.inl (.inl l),e1⟩,λy H3 f=>?_⟩;obtain⟨rfl,f⟩:=f;have:=f xs (.inl (.inl l));rw[e1]at this;cases this;exact⟨Stp.refl _ _,λ_ z=>⟨z,e2⟩⟩
 stop:=λc H2 s=>⟨xs,.inl (.inl (s.keep _ _ h n trivial)),xL j.length.symm⟩
structure ItG (ι:03) (H:Hp) (J:It) (ds:04) (gd:Sr->Prop):Prop where
 go:∀(i:Nat) (d:D) (ι2:03) (H2:Hp) (S2:Sr),Stp ι H ι2 H2->Sto ι2 H2 S2->gd S2->ds[i]?=some d->J.go i H2/\∀x H3,J.yld i H2 x H3->Stp ι2 H2 ι2 H3/\∀S,Sto ι2 H2 S->Sto ι2 H3 S/\Den ι2 H3 d x
 stop:∀(ι2:03) (H2:Hp) (S2:Sr),Stp ι H ι2 H2->Sto ι2 H2 S2->gd S2->J.stop ds.length H2
def ItG.mono{ι c:03}{H H':Hp}{J:It}{ds:04}{gd:Sr->Prop}(h:ItG ι H J ds gd)(s:Stp ι H c H'):ItG c H' J ds gd :=
 ⟨λi d a H2 S2 t st g e=>h.go i d a H2 S2 (s.trans t) st g e,λa H2 S2 t st g=>h.stop a H2 S2 (s.trans t) st g⟩
def ItOk.g{ι:03}{H:Hp}{J:It}{ds:04}(h:ItOk ι H J ds):ItG ι H J ds λ_=>True :=
 ⟨λi d a H2 _ t _ _ e=>h.go i d a H2 t e,λa H2 _ t _ _=>h.stop a H2 t⟩
def qeg{ι:03}{H:Hp}{K:009}{a:Addr}{n:Nat}{l:04}(h:ι[n]?=some a):ItG ι H (Itl K a) l (own n l) where
 go:=λi d c H2 S2 s st g e=>by
  obtain⟨_,xs,ha,f⟩:=st.obj n a _ (s.get h) g;obtain⟨x,e1,e2⟩:=f.get e;refine⟨⟨xs,x,.inl (.inl ha),e1⟩,λy H3 j=>?_⟩;obtain⟨rfl,j⟩:=j;have:=j xs (.inl (.inl ha));rw[e1]at this;cases this;exact⟨Stp.refl _ _,λ_ z=>⟨z,e2⟩⟩
 stop:=λc H2 S2 s st g=>by
  obtain⟨_,xs,ha,f⟩:=st.obj n a _ (s.get h) g;exact⟨xs,.inl (.inl ha),xL f.length.symm⟩
noncomputable def TIg(m:En->Sr->Res (List D×(Sr->Prop))):TI:=λc H R=>∃ι S ρ,EnR ι H ρ c/\Sto ι H S/\match m ρ S with
 | .ok p d=>∀a H' J,Stp ι H a H'->Sto a H' d->ItG a H' J p.1 p.2->R J H'
 | .err _ _=>False
 | .no=>False
noncomputable def TIt(m:038):TI:=λc H R=>∃ι S ρ,EnR ι H ρ c/\Sto ι H S/\match m ρ S with
 | .ok ds d=>∀a H' J,Stp ι H a H'->Sto a H' d->ItOk a H' J ds->R J H'
 | .err _ _=>False
 | .no=>False
section
variable{X:Cx}{pos:Pos}{tg:Expr}
theorem PIimp{iter:Expr}{t t':TI}(h:PI X tg iter t)(k:∀a H R,t' a H R->t a H R):PI X tg iter t':=λpins s a H R I hw=>h pins s a H R I (k a H R hw)
theorem qbJ{l:Expr}{tl:TE}(hl:PE X l tl):PI X tg l (λi H R=>tl i H λx d=>(∃a,x=.ref a/\(∃xs,SqL X.K d a xs)/\R (Itl X.K a) d)\/(∃a,x=.ref a/\(∃xs,SqT X.K d a xs)/\R (Itt X.K a) d)):=by
 intro pins s i H R I h;refine thn (hl pins s i H _ I h) λv s1 ⟨x,d,c,m,q1⟩=>?_
 rcases q1 with ⟨a,e,⟨xs,j⟩,q⟩|⟨a,e,⟨xs,j⟩,q⟩
 .subst e
  cases m;obtain⟨f,n,p,r⟩:=c.list j;refine wpAny_pyIter_list p.isList ?_;refine⟨s1.heap.objs.size,[s1.heap.objs.size],_,_,d,rfl,c.kept (t':=s1.toks) λb o e=>wB _ e,qe6 a _,⟨_,wJ _ rfl,rfl,rfl⟩,λb hb=>?_,q⟩;have e:b=s1.heap.objs.size:=by simpa using hb
  subst e;exact c.fpOk (wH _) (c.hok.fresh (wH _))
 .subst e
  cases m;obtain⟨f,n,p,r⟩:=c.tuple j;refine wpAny_pyIter_tuple (show s1.heap.IsTuple a f.toArray from p) ?_;refine⟨s1.heap.objs.size,[s1.heap.objs.size],_,_,d,rfl,c.kept (t':=s1.toks) λb o e=>wB _ e,qdd a _,⟨_,wJ _ rfl,rfl,rfl⟩,λb hb=>?_,q⟩;have e:b=s1.heap.objs.size:=by simpa using hb
  subst e;exact c.fpOk (wH _) (c.hok.fresh (wH _))
noncomputable def mSeq(m:007):En->Sr->Res (List D):=λρ S=>(m ρ S).bind λx S1=>match x with
 | .t l=>.ok l S1
 | .l l=>.ok l S1
 |_=>.no
theorem qmM{e:Expr}{m:007}(h:PE X e (T m)):PI X tg e (TIt (mSeq m)):=PIimp (qbJ h) λq H R hw=>by
 obtain⟨ι,S,ρ,o,st,p⟩:=hw;refine⟨ι,S,ρ,o,st,?_⟩;dsimp only[mSeq]at p;cases z:m ρ S with
 |no=>rw[z]at p;exact p
 |err=>rw[z]at p;exact p
 |ok d S1 =>
  rw[z,Res.bind_ok]at p;intro v c j s1 f n;cases d with
  |t l =>
   obtain⟨a,xs,rfl,hn,ha,i⟩:=n;exact .inr ⟨a,rfl,⟨xs,.inl (.inl ha)⟩,p c j _ s1 f (qgw hn ha i)⟩
  |l l =>
   obtain⟨a,xs,rfl,hn,ha,i⟩:=n;exact .inl ⟨a,rfl,⟨xs,.inl ha⟩,p c j _ s1 f (qgv hn ha i)⟩
  |_=>exact p.elim
theorem qgx{iter:Expr}{body:List Stmt}{mi:En->Sr->Res (List D×(Sr->Prop))}{g:024}{mb:En->Sr->Res Fl}(hp:PassesOwn 006 X.A X.env X.xe)(hc:017)(hi:PI X tg iter (TIg mi))(hg:PG X tg (TGt g))(hb:PSs X body (TSm mb))(hs:044):
  PS X (.For tg iter body [] pos) (TSm λρ S=>(mi ρ S).bind λp S1=>endG p.2 (forLoop (λd ρ S=>(grd p.2 S (g d ρ S)).bind λρ1 S1=>mb ρ1 S1) p.1 ρ S1)):=PSimp (qkA hp hc hi hg hb hs) λD L H hw=>by
 obtain⟨ι,S,ρ,Y,st,p⟩:=hw;refine⟨ι,S,ρ,Y,st,?_⟩;dsimp only at p;cases z:mi ρ S with
 |no=>rw[z]at p;exact p
 |err=>rw[z]at p;exact p
 |ok dg S1 =>
  obtain⟨ds,gd⟩:=dg;rw[z,Res.bind_ok]at p;dsimp only at p;intro r Z J s1 M B;refine⟨λi m L H=>m=ds.length-i/\i<=ds.length/\∃ι S ρ,Stp r Z ι H/\EnR ι H ρ L/\Sto ι H S/\PsF (endG gd (forLoop (λd ρ S=>(grd gd S (g d ρ S)).bind λρ1 S1=>mb ρ1 S1) (ds.drop i) ρ S)) ι H D,
   ⟨_,rfl,wr _,r,S1,ρ,Stp.refl _ _,Y.mono s1,M,by simpa using PsF.from p s1⟩,?_⟩
  rintro i m L H ⟨rfl,hi,ι,S,ρ,s2,C,j,l⟩;by_cases s:i<ds.length
  .have hd:ds[i]?=some ds[i]:=wC s
   rw[xO s]at l;have c:gd S:=by
    apply Classical.byContradiction;intro hn;simp only[forLoop,yR hn,Res.bind_no,endG]at l;exact l
   obtain⟨go,yl⟩:=B.go i _ ι H S s2 j c hd;refine .inr ⟨go,λE H'=>∃ι S ρ,Stp r Z ι H'/\EnR ι H' ρ E/\Sto ι H' S/\PsF (endG gd (forLoop (λd ρ S=>(grd gd S (g d ρ S)).bind λρ1 S1=>mb ρ1 S1) (ds.drop (i+1)) ρ S)) ι H' D,λE H' h'=>⟨_,by omega,rfl,s,h'⟩,λx H3 hy=>?_⟩;obtain⟨N,O⟩:=yl x H3 hy;obtain⟨k3,d3⟩:=O S j;refine⟨ι,S,ρ,ds[i],C.mono N,k3,d3,?_⟩;have u:=PsF.from l N;simp only[forLoop,zv c]at u;cases z2:g ds[i] ρ S with
   |no=>simp only[z2,endG,Res.bind_no]at u;exact u
   |err=>simp only[z2,endG,Res.bind_err]at u;exact u
   |ok F S4 =>
    rw[z2,Res.bind_ok]at u;intro a0 P H4 s4 Q U;refine⟨P,S4,F,U,Q,?_⟩;have a:=PsF.from u s4;cases z3:mb F S4 with
    |no=>simp only[z3,endG,Res.bind_no]at a;exact a
    |err=>simp only[z3,endG,Res.bind_err]at a;exact a
    |ok f W =>
     rw[z3,Res.bind_ok]at a;intro n H5 I o;have tot:=((s2.trans N).trans s4).trans I;cases f with
     |nx q=>exact λy h=>⟨n,W,q,tot,h,o,PsF.from a I⟩
     |ct q=>exact λy h=>⟨n,W,q,tot,h,o,PsF.from a I⟩
     |bk q =>
      by_cases K:gd W
      .simp only[endG,Res.bind_ok,zv K]at a
       exact λy h=>a n H5 I o y h
      .simp only[endG,Res.bind_ok,yR K]at a
       exact a.elim
     |rt d=>exact λv hv=>a n H5 I o v hv
  .have e:i=ds.length:=by omega
   subst e;rw[uw (wH _)]at l;have c:gd S:=by
    apply Classical.byContradiction;intro hn;simp only[forLoop,Res.bind_ok,endG,yR hn]at l;exact l
   simp only[forLoop,Res.bind_ok,endG,zv c]at l;refine .inl ⟨B.stop ι H S s2 j c,?_⟩;exact l ι H 019 j L C
theorem pi_g{iter:Expr}{mi:038}(h:PI X tg iter (TIt mi)):PI X tg iter (TIg λρ S=>(mi ρ S).bind λds S1=>.ok (ds,λ_=>True) S1):=PIimp h λf H R hw=>by
 obtain⟨ι,S,ρ,d,st,p⟩:=hw;refine⟨ι,S,ρ,d,st,?_⟩;dsimp only at p;cases z:mi ρ S with
 |no=>rw[z]at p;exact p
 |err=>rw[z]at p;exact p
 |ok ds S1 =>
  rw[z,Res.bind_ok]at p;exact λa H' J s1 c ok=>p a H' J s1 c ok.g
theorem qds{a:Type}(S:Sr)(r:Res a):grd (λ_=>True) S r=r:=zv (gd:=λ_=>True) trivial r
theorem qiM(r:Res Fl):endG (λ_=>True) r=r:=by
 cases r with
 |ok f S=>cases f <;> simp only[endG,Res.bind_ok,qds]
 |err=>rfl
 |no=>rfl
theorem qmN{iter:Expr}{body:List Stmt}{mi:038}{g:024}{mb:En->Sr->Res Fl}(a:PassesOwn 006 X.A X.env X.xe)(hc:017)(hi:PI X tg iter (TIt mi))(c:PG X tg (TGt g))(hb:PSs X body (TSm mb))(hs:044):
  PS X (.For tg iter body [] pos) (TSm λρ S=>(mi ρ S).bind λds S1=>forLoop (λd ρ S=>(g d ρ S).bind λρ1 S1=>mb ρ1 S1) ds ρ S1):=by
 have h:=qgx (pos:=pos) a hc (pi_g hi) c hb hs;have e:(λ(ρ:En) (S:Sr)=>((mi ρ S).bind λds S1=>.ok (ds,λ_=>True) S1:Res (List D×(Sr->Prop))).bind λp S1=>endG p.2 (forLoop (λd ρ S=>(grd p.2 S (g d ρ S)).bind λρ1 S1=>mb ρ1 S1) p.1 ρ S1))=λρ S=>(mi ρ S).bind λds S1=>forLoop (λd ρ S=>(g d ρ S).bind λρ1 S1=>mb ρ1 S1) ds ρ S1:=by
  funext ρ S;cases mi ρ S with
  |ok ds S1 =>
   show endG (λ_=>True) (forLoop (λd ρ S=>(grd (λ_=>True) S (g d ρ S)).bind λρ1 S1=>mb ρ1 S1) ds ρ S1)=_;rw[qiM];simp only[qds]
  |err=>rfl
  |no=>rfl
 rw[<-e];exact h
noncomputable def mRef(m:007):En->Sr->Res (List D×(Sr->Prop)):=λρ S=>(m ρ S).bind λx S1=>match refL x S1 with
 |some p=>.ok (p.2,own p.1 p.2) S1
 |none=>.no
theorem qmO{e:Expr}{m:007}(h:PE X e (T m)):PI X tg e (TIg (mRef m)):=PIimp (qbJ h) λr H R hw=>by
 obtain⟨ι,S,ρ,i,st,p⟩:=hw;refine⟨ι,S,ρ,i,st,?_⟩;dsimp only[mRef]at p;cases z:m ρ S with
 |no=>rw[z]at p;exact p
 |err=>rw[z]at p;exact p
 |ok d S1 =>
  rw[z,Res.bind_ok]at p;intro v f j s1 c o;cases d with
  |ref n =>
   obtain⟨a,rfl,ha⟩:=o;cases zn:S1[n]? with
   |none=>simp only[refL,zn]at p
   |some so =>
    cases so with
    |l l =>
     simp only[refL,zn]at p;obtain⟨_,xs,q,_⟩:=c.obj n a _ ha zn;exact .inl ⟨a,rfl,⟨xs,.inl (.inl q)⟩,p f j _ s1 c (qeg ha)⟩
    |dic l=>simp only[refL,zn]at p
    |dis l=>simp only[refL,zn]at p
  |_=>exact p.elim
end
noncomputable def compCx(X:Cx)(sc:Scope)(cl:List (Str×Addr))(C:Addr)(N':014)(fp:03)(s:09)(H:Hp):Cx :=
 {X with N:=N',s₀:=s,H₀:=H,env:=compEnvC sc cl C X.env,outer:=X.stack,ex:=fp,fn:=λ_=>false,pn:=[],xe:=λ_ _=>False}
structure Clos (X:Cx) (sc:Scope) (cl:List (Str×Addr)):Prop where
 eq:closureFor sc X.env=pure cl
 sub:∀x c,cl.lookup x=some c->X.env.cells.lookup x=some c
 all:∀x,sc.names.lookup x=some .free->∃c,cl.lookup x=some c
def qbK{env:Env}:∀(names:List (Str×NameKind)) (d:List (Str×Addr)),(∀x∈names,x.2=.free->∃c,env.cells.lookup x.1=some c) ->
  ∃cl,(forIn names d λ(p:Str×NameKind) (cs:List (Str×Addr))=>(if p.2 == NameKind.free then(do let a <-cellOf env p.1;pure (ForInStep.yield ((p.1,a)::cs)))else pure (ForInStep.yield cs):Sem (ForInStep (List (Str×Addr)))))=pure cl /\
   (∀x c,cl.lookup x=some c->env.cells.lookup x=some c\/d.lookup x=some c)/\(∀x c,d.lookup x=some c->(∃i,cl.lookup x=some i))/\(∀x∈names,x.2=.free->∃c,cl.lookup x.1=some c)
 |[],d,_=>⟨d,rfl,λx c h=>.inr h,λx c h=>⟨c,h⟩,λx h=>by cases h⟩
 | (n,k)::r,d,h=>by
  by_cases l:k=.free
  .subst l
   obtain⟨c,hc⟩:=h (n,.free) wR rfl;obtain⟨cl,e,i1,i2,m⟩:=qbK r ((n,c)::d) λx f=>h x (wM _ f)
   have e1:cellOf env n=pure c:=by unfold cellOf;rw[hc]
   refine⟨cl,?_,λx i f=>?_,λx i f=>?_,λx f j=>?_⟩
   .rw [xk]
    simp only[beq_self_eq_true,uO,e1,pure_bind];exact e
   .rcases i1 x i f with z|z
    .exact .inl z
    .rw [vw]at z
     cases q:x == n with
     |true=>rw[q]at z;cases z;rw[uC.mp q];exact .inl hc
     |false=>rw[q]at z;exact .inr z
   .cases q:x == n with
    |true=>exact i2 x c (by rw[vw,q])
    |false=>exact i2 x i (by rw[vw,q];exact f)
   .rcases wW.mp f with z|z
    .subst z;exact i2 n c (by simp[vw])
    .exact m x z j
  .have hb:(k == NameKind.free)=false:=by simpa using l
   obtain⟨cl,e,i1,i2,m⟩:=qbK r d λx f=>h x (wM _ f)
   refine⟨cl,?_,i1,i2,λx f j=>?_⟩
   .rw [xk]
    simp only[hb,vf,ui,pure_bind];exact e
   .rcases wW.mp f with z|z
    .subst z;exact absurd j l
    .exact m x z j
def qaj{X:Cx}{sc:Scope}(h:∀x∈sc.names,x.2=.free->∃c,X.env.cells.lookup x.1=some c):∃cl,Clos X sc cl:=by
 obtain⟨cl,e,i1,i2,d⟩:=qbK (env:=X.env) sc.names [] h;refine⟨cl,⟨?_,λx c a=>?_,λx a=>?_⟩⟩
 .unfold closureFor
  show(forIn sc.names [] _ >>= λr=>pure r)=_;rw[bind_pure];exact e
 .rcases i1 x c a with z|z
  .exact z
  .cases z
 .exact d (x,.free) (vn a) rfl
def yi{env:Env}:∀{names:List (Str×NameKind)} {x:Str},(names.map λ(n,k)=>if(k == NameKind.free&&env.scope.kind == .function&&env.kindOf n == some .cell)then(n,NameKind.cell)else(n,k)).lookup x =
  (names.lookup x).map λk=>if(k == NameKind.free&&env.scope.kind == .function&&env.kindOf x == some .cell)then NameKind.cell else k
 |[],_=>rfl
 | (n,k)::r,x=>by
  show List.lookup x ((if(k == NameKind.free&&env.scope.kind == .function&&env.kindOf n == some .cell)=true then(n,NameKind.cell)else(n,k))::_)=_;have c:=@yi env r x;cases hx:x == n with
  |true =>
   have a:=uC.mp hx;subst a;by_cases hc:(k == NameKind.free&&env.scope.kind == .function&&env.kindOf x == some .cell)=true
   .rw [wN hc];simp only[vw,hx,wn,wN hc]
   .rw [wT hc];simp only[vw,hx,wn,wT hc]
  |false =>
   by_cases hc:(k == NameKind.free&&env.scope.kind == .function&&env.kindOf n == some .cell)=true
   .rw [wN hc];simp only[vw,hx];exact c
   .rw [wT hc];simp only[vw,hx];exact c
section
variable{X:Cx}{pos:Pos}
theorem qfn{sc:Scope}{cl:List (Str×Addr)}{N':014}{fp:03}{pins:011}{j:St}{H:Hp}{s:09}(I:Inv X pins j H s)(l:sc.kind=.function)(a:∀y∈sc.names,y.2≠.cell)(f:Clos X sc cl)(i:∀b∈fp,FpOk X pins H b)(n:∀b∈fp,b<s.heap.objs.size):(compCx X sc cl s.heap.objs.size N' fp s H).Ok where
 mod:=I.ok.mod
 kind:=l
 glob:=I.ok.glob
 blt:=I.ok.blt
 above:=wH _
 inj:=λx y c p q=>I.ok.inj x y c (f.sub x c p) (f.sub y c q)
 has:=λx d=>by
  have d:(relabel sc X.env).names.lookup x=some .cell\/(relabel sc X.env).names.lookup x=some .free:=d;have e:(relabel sc X.env).names.lookup x=_:=yi (env:=X.env) (names:=sc.names) (x:=x);rw[e]at d;cases z:sc.names.lookup x with
  |none=>rw[z]at d;simp at d
  |some k =>
   cases k with
   |free=>exact f.all x z
   |cell=>exact absurd rfl (a _ (vn z))
   |_=>rw[z]at d;simp at d
 cab:=λx c h _=>by cases h
 hd:=I.ok.hd
 frames:=I.ok.frames
 stk:=.inl rfl
 exf:=λb hb=>⟨wg (n b hb),λx c h=>(i b hb).2.2.2.2.1 x c (f.sub x c h)⟩
 bs:=I.bs
 bsz:=vF I.ok.bsz I.sz
 noex:=λb o e hb=>by
  rcases(i b hb).2.2.2.1 with z|z
  .exact I.ok.noex b o e z
  .exact absurd (w6 (wI e) (vF I.ok.bsz z)) (ve _)
 exfs:=λb hb hs=>by
  rcases wW.mp (I.stkSub b hs)with z|z
  .exact (i b hb).2.1 z
  .exact (i b hb).2.2.1 z
 funs:=I.stack
 frf:=I.stkFree
 tab:=λc T z=>let ⟨ps,e⟩:=I.ok.tab c T z;let ⟨m,e'⟩:=I.base.tbls _ _ e;⟨_,e'⟩
structure Frs (X:Cx) (sc:Scope) (fr:List Nat) (xs ts:014):Prop where
 len:fr.length=xs.length
 at':∀(i j:Nat) (x:Str),fr[i]?=some j->xs[i]?=some x->X.N[j]?=some x
 kd:∀x∈xs,sc.names.lookup x=some .free/\(X.env.kindOf x=some .cell\/X.env.kindOf x=some .free)
 tl:∀x∈ts,sc.names.lookup x=some .local
 nd:(xs++ts).Nodup
noncomputable def frS(a:St)(fr:List Nat)(nt:Nat):St:=fr.map (λi=>(a[i]?).getD none)++List.replicate nt none
theorem qeh{ι:03}{H:Hp}{ρ:En}{a:St}(e:EnR ι H ρ a)(fr:List Nat)(nt:Nat):EnR ι H (frE ρ fr nt) (frS a fr nt):=by
 refine⟨by simp[frE,frS],λi d h=>?_⟩;unfold frE at h;unfold frS;by_cases hi:i<fr.length
 .rw [wL 042,wk,wC hi]at h
  rw[wL 042,wk,wC hi];simp only[wn,Option.some.injEq]at h ⊢;cases z:ρ[fr[i]]? with
  |none=>rw[z]at h;cases h
  |some o =>
   rw[z]at h;cases h;obtain⟨v,c,f⟩:=e.get _ d z;exact⟨v,by rw[c];rfl,f⟩
 .rw [wK 042,vC]at h
  split at h <;> cases h
theorem qaz{sc:Scope}{cl:List (Str×Addr)}{fp:03}{pins:011}{h:St}{H:Hp}{s:09}{fr:List Nat}{xs ts:014}(I:Inv X pins h H s)(L:sc.kind=.function)(f:∀y∈sc.names,y.2≠.cell)(j:Clos X sc cl)(M:∀b∈fp,FpOk X pins H b)(N:∀b∈fp,b<s.heap.objs.size)(F:Frs X sc fr xs ts){h':Heap}{m:025}{tk:Nat}(hn:h'.Ns s.heap.objs.size m)(a:∀b o,s.heap.get? b=some o->h'.get? b=some o):
  Inv (compCx X sc cl s.heap.objs.size (xs++ts) fp s H) [] (frS h fr ts.length) H {s with heap:=h',toks:=tk}:=by
 refine⟨qfn I L f j M N,rfl,GK.refl I.bare.bare,Un.kept a,⟨m,hn,λi x v n d W=>?_⟩,λx c e=>?_,I.hok.fresh (wH _),λx c e=>I.freeC x c (j.sub x c e),λp O=>absurd (show p∈([]:List (Addr×Obj))from O) 07,I.hok.kept a,?_⟩
 .have n:(xs++ts)[i]?=some x:=n
  have d:(frS h fr ts.length)[i]?=some (some v):=d;unfold frS at d;by_cases hi:i<fr.length
  .rw [wL 042,wk,wC hi]at d
   rw[wL (by rw[<-F.len];exact hi)]at n;simp only[wn,Option.some.injEq]at d;have P:=F.at' i fr[i] x (wC hi) n;have A:h[fr[i]]?=some (some v):=by
    cases z:h[fr[i]]? with
    |none=>rw[z]at d;cases d
    |some o=>rw[z]at d;simp at d;rw[d]
   obtain⟨C,E⟩:=F.kd x (wq n);obtain⟨m0,Q,B⟩:=I.loc;have w:Vis X.env.scope x:=by
    rcases E with z|z
    .exact .inr (.inl z)
    .exact .inr (.inr z)
   obtain⟨u,r,l⟩:=B fr[i] x v P A w;refine⟨u,r,.inr ?_⟩;have hc:∃c,X.env.cells.lookup x=some c/\s.heap.IsCell c (some u):=by
    rcases l with ⟨z,_⟩|⟨_,c,e1,e2⟩
    .rcases E with q|q <;> (rw[z]at q;cases q)
    .exact ⟨c,e1,e2⟩
   obtain⟨c,e1,o,e2,S⟩:=hc;obtain⟨U,J⟩:=j.all x C;have K:=j.sub x U J;rw[e1]at K;cases K;refine⟨?_,c,J,o,a _ _ e2,S⟩;have e:(relabel sc X.env).names.lookup x=_:=yi (env:=X.env) (names:=sc.names) (x:=x);show(relabel sc X.env).names.lookup x=some .cell\/(relabel sc X.env).names.lookup x=some .free;rw[e,C];simp only[wn];split
   .exact .inl rfl
   .exact .inr rfl
  .rw [wK 042,vC]at d
   split at d <;> cases d
 .obtain ⟨v,o,e1,e2⟩:=I.cell x c (j.sub x c e)
  exact⟨v,o,a _ _ e1,e2⟩
 .show (frS h fr ts.length).length=(xs++ts).length
  simp[frS,F.len]
theorem qaA{sc:Scope}{cl:List (Str×Addr)}{N':014}{fp:03}{pins:011}{j i:St}{H H':Hp}{s s':09}{h':Heap}(I:Inv X pins j H s)(d:∀b∈fp,FpOk X pins H b)(J:Inv (compCx X sc cl s.heap.objs.size N' fp s H) [] i H' s')(hs:Heap.SameBut s.heap.objs.size s'.heap h'):Inv X pins j H' {s' with heap:=h' }:=by
 have l:H' s.heap.objs.size=none:=J.free;have u:=J.base;have f:∀b o,b≠s.heap.objs.size->s'.heap.get? b=some o->h'.get? b=some o:=λb o hb e=>hs.extBut b o hb e
 have ne:∀b o,s.heap.get? b=some o->b≠s.heap.objs.size:=λb o e=>wg (wI e)
 have un:Un (frs X.stack) fp H H' s.heap h':=⟨λb o e n hb a=>f b o (ne b o e) (u.keep b o e n hb a),λb o e n hb a=>by
   obtain⟨sl,q⟩:=u.slot b o e n hb a;exact⟨sl,f b _ (ne b o e) q⟩,λb o e n a=>u.free b o e n a,λb o e a=>by
   obtain⟨o',q⟩:=u.there b o e a;exact⟨o',f b o' (ne b o e) q⟩,u.tups,u.frzs,u.tbls⟩
 have hok:HOk X.prog X.w H' h':=λb o e=>(J.hok b o e).stay (λc w hc q=>f c w (λz=>by
   subst z;rcases hc with h|h
   .rw [<-h,l]at e;cases e
   .rw [l]at h;cases h) q) (λ_ q=>q) λ_ _ q=>q
 exact I.call' (s':={s' with heap:=h' }) (ch:=fp) J.os un hok J.bare λb hb=>⟨(d b hb).2.2.2.1,(d b hb).2.1,(d b hb).2.2.2.2.1,(d b hb).2.2.2.2.2⟩
end
def thnF{c:Type}{t:Sem c}{Q Q':c->Shared->Prop}{M:Model}{A:Around}{E:015}{s:09}(h:wpAny M A t Q (λ_ _=>False) s)(d:∀a s,Q a s->Q' a s):wpAny M A t Q' E s:=wt h d λ_ _ x=>x.elim
section
variable{X:Cx}{pos:Pos}
def PTl(X:Cx)(ifs:010)(t:TT):Prop:=∀(pins:011) (s:09) (a:St) (H:Hp) (Q:Bool->Hp->Prop),Inv X pins a H s->t a H Q ->
 wpAny 006 X.A (forIn ifs true λc r=>(if r=true then do let ok <-isTrue c X.env (eval c X.env);pure (ForInStep.yield ok)else pure (ForInStep.yield r):Sem (ForInStep Bool))) (TP X pins a Q) X.xe s
theorem qk3:PTl X [] (TB λ_ S=>.ok true S):=λpins s a H Q I h=>by
 obtain⟨ι,S,ρ,c,st,p⟩:=h;exact wD ⟨H,I,p true ι H 019 st rfl⟩
theorem qiN{tg elt iter:Expr}{ifs:010}{sc:Scope}{J:It}{fp:03}{it Z:Addr}{tn:Nat->Heap->Prop}{g:024}{mt:022}{me:007}{n:Nat}{ds:04}{gd:Sr->Prop}{R:Result->Shared->Prop}(N:X.xe=λ_ _=>False)(hc:017)(a4:X.ex=fp)(a5:X.pn=[])(T':Turn X.prog X.w X.K tg J fp it tn)(hg:PG X tg (TGt g))(ht:PTl X ifs (TB mt))(he:PE X elt (T me))(a6:∀d ρ S,¬gd S->g d ρ S=.no){ι:03}{H:Hp}{S:Sr}{ρ O:En}{Sf:Sr}{σ:St}{s:09}(hD:ι[n]?=some Z)(ok:ItG ι H J ds gd)(I:Inv X [] σ H s)(h0:tn 0 s.heap)(a7:∀b∈fp,H b=none)(er:EnR ι H ρ σ)(st:Sto ι H S)(e:lcLoop n g mt me ds ρ S=.ok O Sf)(a8:gd Sf)(fin:∀(l:St) (H':Hp) (a:03) (s':09),Inv X [] l H' s'->Stp ι H a H'->Sto a H' Sf->R (.ok .next) s'):
  codeAny 006 X.A (.compLoop (.ListComp elt [⟨tg,iter,ifs,0⟩] sc pos) 0 (.ref it) (.ref Z) X.env) R s:=by
 refine codeAny_loop rfl (λk s'=>∃(i:Nat) (l:St) (H':Hp) (a:03) (S':Sr) (ρ':En),k=ds.length-i/\i<=ds.length/\Inv X [] l H' s'/\tn i s'.heap/\(∀b∈fp,H' b=none)/\Stp ι H a H'/\EnR a H' ρ' l/\Sto a H' S'/\lcLoop n g mt me (ds.drop i) ρ' S'=.ok O Sf) ?_
  ds.length ⟨0,σ,H,ι,S,ρ,by simp,wr _,I,h0,a7,Stp.refl _ _,er,st,by simpa using e⟩
 rintro k s1 ⟨i,P,H1,B,S1,ρ1,rfl,hi,I1,t1,f1,p1,a9,Q,e1⟩;have F:∀{H':Hp},(∀b∈fp,H' b=none)->∀b∈fp,FpOk X [] H' b:=λhn b hb=>by
  have U:b∈X.ex:=by rw[a4];exact hb
  exact⟨hn b hb,(I.ok.exf b U).1,λz=>I.ok.exfs b U z,.inl U,(I.ok.exf b U).2,λp hp=>by rw[a5]at hp;exact absurd hp 07⟩
 show wpAny _ X.A ((compTurn (.ListComp elt [⟨tg,iter,ifs,0⟩] sc pos) 0 (.ref it) (.ref Z) X.env).onRaise (λx=>do noteFrame x X.env;theTreesLotGoes x)) _ _ s1;refine wpAny_noted ?_;rw[compTurn_list];refine wA (vy (wA ?_));by_cases a0:i<ds.length
 .have hd:ds[i]?=some ds[i]:=wC a0
  rw[xO a0]at e1;have aa:gd S1:=by
   apply Classical.byContradiction;intro hn;simp only[lcLoop,a6 _ _ _ hn,Res.bind_no]at e1;cases e1
  obtain⟨go,yl⟩:=ok.go i _ B H1 S1 p1 Q aa hd;refine thnF (T'.item X rfl rfl rfl hc i [] s1 P H1 _ I1 (F f1) t1 go) λr s2 ⟨u,hr,h2⟩=>?_
  subst hr;refine wA (thnF h2 λ_ s3 ⟨x,H3,I3,r3,y3,t3,f3⟩=>?_);obtain⟨q3,ab⟩:=yl x H3 y3;obtain⟨k3,d3⟩:=ab S1 Q;have ac:=I3.pinned (F f3) (T'.obj _ _ t3);simp only[lcLoop]at e1;cases z1:g ds[i] ρ1 S1 with
  |no=>rw[z1]at e1;cases e1
  |err=>rw[z1]at e1;cases e1
  |ok f S2 =>
   rw[z1,Res.bind_ok]at e1;refine wA (wt (hg _ s3 P H3 x u (λC H4=>∃h,Stp B H3 h H4/\Sto h H4 S2/\EnR h H4 f C) ac r3 ⟨B,S1,ρ1,ds[i],a9.mono q3,k3,d3,?_⟩) (λ_ s4 ⟨C,H4,I4,h,q4,a1,E⟩=>?_) λ_ _ z=>by rw[N]at z;exact z.elim)
   .rw [z1];exact λC h H4 q4 a1 E=>⟨h,q4,a1,E⟩
   cases z2:mt f S2 with
   |no=>rw[z2]at e1;cases e1
   |err=>rw[z2]at e1;cases e1
   |ok b S3 =>
    rw[z2,Res.bind_ok]at e1;refine wA (wt (ht _ s4 C H4 (λb' H5=>b'=b/\∃q,Stp h H4 q H5/\Sto q H5 S3) I4 ⟨h,S2,f,E,a1,?_⟩) (λb' s5 ⟨H5,I5,eb,q,q5,W⟩=>?_) λ_ _ z=>by rw[N]at z;exact z.elim)
    .rw [z2];exact λb' q H5 q5 W eb=>⟨(show b=b' from eb).symm,q,q5,W⟩
    subst eb;have L:∀{Y:St} {M:Hp} {s7:09} {c:03} {S7:Sr},Inv X ([]++pinsAt fp s3.heap) Y M s7->Stp B H1 c M->EnR c M f Y->Sto c M S7->lcLoop n g mt me (ds.drop (i+1)) f S7=.ok O Sf ->
      ∃m,m<ds.length-i/\∃(i:Nat) (l:St) (H':Hp) (a:03) (S':Sr) (ρ':En),m=ds.length-i/\i<=ds.length/\Inv X [] l H' s7/\tn i s7.heap/\(∀b∈fp,H' b=none)/\Stp ι H a H'/\EnR a H' ρ' l/\Sto a H' S'/\lcLoop n g mt me (ds.drop i) ρ' S'=.ok O Sf:=by
     intro Y M s7 c S7 I7 q7 ad a2 e7;refine⟨ds.length-(i+1),by omega,i+1,Y,M,c,S7,f,rfl,a0,I7.unpinned,T'.keep _ _ _ t3 λb hb o eo=>(I7.pin (b,o) (w9 _ (w9 _ (zu hb eo)))).1,λb hb=>?_,p1.trans q7,ad,a2,e7⟩;obtain⟨o,eo,_⟩:=T'.obj _ _ t3 b hb;exact(I7.pin (b,o) (w9 _ (w9 _ (zu hb eo)))).2.1
    cases b' with
    |false =>
     rw[wT 01]at e1;exact wD ⟨rfl,L I5 ((q3.trans q4).trans q5) (E.mono q5) W e1⟩
    |true =>
     rw[wN rfl]at e1;cases z3:me f S3 with
     |no=>rw[z3]at e1;cases e1
     |err=>rw[z3]at e1;cases e1
     |ok v S4 =>
      rw[z3,Res.bind_ok]at e1;refine wA (wA (wt (he _ s5 C H5 (λy H6=>∃j,Stp q H5 j H6/\Sto j H6 S4/\Den j H6 v y) I5 ⟨q,S3,f,E.mono q5,W,?_⟩) (λy' s6 ⟨y,H6,I6,ry,j,q6,a3,dv⟩=>?_) λ_ _ z=>by rw[N]at z;exact z.elim))
      .rw [z3];exact λy j H6 q6 a3 dv=>⟨j,q6,a3,dv⟩
      cases z4:appD S4 (.ref n) v with
      |no=>rw[z4]at e1;cases e1
      |err=>rw[z4]at e1;cases e1
      |ok w S5 =>
       rw[z4,Res.bind_ok]at e1;have tot:=((q3.trans q4).trans q5).trans q6;have ae:j[n]?=some Z:=(p1.trans tot).get hD;refine wA (wt (jS (X:=X) _ s6 C H6 (.ref Z) [y] (.ref Z) [y'] (λ_ M=>∃c,Stp j H6 c M/\Sto c M S5) I6 rfl (.cons ry .nil) (qjT (x:=.ref n) a3 ⟨Z,rfl,ae⟩ dv ?_)) (λ_ s7 ⟨_,M,I7,_,c,q7,a2⟩=>?_) λ_ _ z=>by rw[N]at z;exact z.elim)
       .rw [z4];exact λb a H' s' af _=>⟨a,s',af⟩
       .exact wD (wD ⟨rfl,L I7 (tot.trans q7) ((E.mono (q5.trans q6)).mono q7) a2 e1⟩)
 .have ag:i=ds.length:=by omega
  subst ag;rw[uw (wH _)]at e1;cases e1;refine thnF (T'.done X rfl rfl rfl hc _ [] s1 P H1 _ I1 (F f1) t1 (ok.stop B H1 _ p1 Q a8)) λr s2 ⟨hr,I2⟩=>?_
  subst hr;exact wD (fin P H1 B s2 I2 p1 Q)
structure Blk (X:Cx) (sc:Scope) (N':014) (tg:Expr) (ifs:010) (elt:Expr) (g:024) (mt:022) (me:007):Prop where
 tg:∀cl C fp s H,PG (compCx X sc cl C N' fp s H) tg (TGt g)
 ifs:∀cl C fp s H,PTl (compCx X sc cl C N' fp s H) ifs (TB mt)
 elt:∀cl C fp s H,PE (compCx X sc cl C N' fp s H) elt (T me)
structure CSc (X:Cx) (sc:Scope) (fr:List Nat) (xs ts:014):Prop where
 kind:sc.kind=.function
 nocell:∀y∈sc.names,y.2≠.cell
 names:∀x∈sc.names,x.2=.local->sc.names.lookup x.1=some .local
 frees:∀x∈sc.names,x.2=.free->X.env.kindOf x.1=some .cell\/X.env.kindOf x.1=some .free
 frs:Frs X sc fr xs ts
noncomputable def mLc(m:Bool)(fr:List Nat)(nt:Nat)(mi:038)(g:024)(mt:022)(me:007):En->Sr->Res D:=λρ S=>(mi ρ S).bind λds S1 =>
 (lcLoop S1.length g mt me ds (frE ρ fr nt) (S1++[.l []])).bind λ_ S2=>lcEnd m S1.length S2
noncomputable def mLcG(m:Bool)(fr:List Nat)(nt:Nat)(mi:En->Sr->Res (List D×(Sr->Prop)))(g:024)(mt:022)(me:007):En->Sr->Res D:=λρ S=>(mi ρ S).bind λp S1 =>
 (lcLoop S1.length (λd ρ S=>grd p.2 S (g d ρ S)) mt me p.1 (frE ρ fr nt) (S1++[.l []])).bind λ_ S2=>grd p.2 S2 (lcEnd m S1.length S2)
theorem qjV{m:Bool}{fr:List Nat}{nt:Nat}{mi:038}{g:024}{mt:022}{me:007}:mLcG m fr nt (λρ S=>(mi ρ S).bind λds S1=>.ok (ds,λ_=>True) S1) g mt me=mLc m fr nt mi g mt me:=by
 funext ρ S;unfold mLcG mLc;dsimp only;cases mi ρ S with
 |ok ds S1 =>
  show((lcLoop S1.length (λd ρ S=>grd (λ_=>True) S (g d ρ S)) mt me ds (frE ρ fr nt) (S1++[.l []])).bind λ_ S2=>grd (λ_=>True) S2 (lcEnd m S1.length S2))=_;simp only[qds]
 |err=>rfl
 |no=>rfl
theorem qk4{tg:Expr}{g:024}{gd:Sr->Prop}(h:PG X tg (TGt g)):PG X tg (TGt λd ρ S=>grd gd S (g d ρ S)):=PGimp h λv f H Q hw=>by
 obtain⟨ι,S,ρ,d,c,st,hd,p⟩:=hw;refine⟨ι,S,ρ,d,c,st,hd,?_⟩;dsimp only at p;by_cases a:gd S
 .rw [zv a]at p;exact p
 .rw [yR a]at p;exact p.elim
theorem qei{tg elt iter:Expr}{ifs:010}{sc:Scope}{fr:List Nat}{xs ts:014}{mi:En->Sr->Res (List D×(Sr->Prop))}{g:024}{mt:022}{me:007}{mm:Bool}(hc:017)(hi:PI X tg iter (TIg mi))(hs:044)(C':CSc X sc fr xs ts)(B:Blk X sc (xs++ts) tg ifs elt g mt me){pins:011}{s:09}{K:St}{H:Hp}{Q:VK}{use:Option (Value->Sem Unit)}{Q':015}(I:Inv X pins K H s)(hw:T (mLcG mm fr ts.length mi g mt me) K H Q)(fin:∀(D C:Addr) (H':Hp) (s':09) (m:025),s'.heap.Ns C m->C≠X.env.locals->(∀x c,X.env.cells.lookup x=some c->c≠C)->(H' C=none/\X.s₀.heap.objs.size<=C/\∀p∈X.pn++pins,p.1≠C)->(∀h',Heap.SameBut C s'.heap h'->Inv X pins K H' {s' with heap:=h' })->Q (.ref D) H'->compPost 006 X.A X.xe use Q' (.ref D) C (.ok .next) s'):
  wpAny 006 X.A (comprehension (.ListComp elt [⟨tg,iter,ifs,0⟩] sc pos) sc X.env (firstIterPos [⟨tg,iter,ifs,0⟩] pos) (newList []) false (eval iter X.env) use) Q' X.xe s:=by
 obtain⟨ι,S,ρ,er,st,p⟩:=hw;dsimp only[mLcG]at p;cases z:mi ρ S with
 |no=>rw[z]at p;exact p.elim
 |err=>rw[z]at p;exact p.elim
 |ok dg S1 =>
 obtain⟨ds,gd⟩:=dg;rw[z,Res.bind_ok]at p;dsimp only at p;cases z2:lcLoop S1.length (λd ρ S=>grd gd S (g d ρ S)) mt me ds (frE ρ fr ts.length) (S1++[.l []])with
 |no=>rw[z2]at p;exact p.elim
 |err=>rw[z2]at p;exact p.elim
 |ok ab Sf =>
 rw[z2,Res.bind_ok]at p;have L:gd Sf:=by
  apply Classical.byContradiction;intro hn;rw[yR hn]at p;exact p
 rw[zv L]at p;obtain⟨cl,CL⟩:=qaj (X:=X) (sc:=sc) λx hx hf=>I.ok.has x.1 (C'.frees x hx hf)
 refine wpAny_comprehension_free rfl hs CL.eq C'.kind C'.names ?_;refine thn (hi pins s K H (λJ H2=>∃a,Stp ι H a H2/\Sto a H2 S1/\ItG a H2 J ds gd) I ⟨ι,S,ρ,er,st,?_⟩) λxv s1 Z=>thn Z λac s2 h2=>?_
 .rw [z];exact λh H' J q f ok=>⟨h,q,f,ok⟩
 obtain⟨it,fp,tn,J,H2,e,I2,T',t2,f2,a,q2,E,a0⟩:=h2;subst e;refine wf ?_;have M:H2 s2.heap.objs.size=none:=I2.hok.fresh (wH _);have N:∀b∈fp,b<s2.heap.objs.size:=λb hb=>by
  obtain⟨o,i,_⟩:=T'.obj _ _ t2 b hb;exact wI i
 have F:Inv X pins K (upd H2 s2.heap.objs.size (.l [])) {s2 with heap:=s2.heap.push {cls:=.type "list",dict:=none,data:=.seq ([]:List Value).toArray}} :=
  I2.laid (t':=s2.toks) (λb o e=>wB _ e) (wH _) ⟨wr _,[],0,.nil,wJ _ rfl⟩
 have f3:∀b∈fp,FpOk X pins (upd H2 s2.heap.objs.size (.l [])) b:=λb hb=>⟨by rw[qD (wg (N b hb))];exact(f2 b hb).1,(f2 b hb).2⟩
 have Y:=Stp.grow (ι:=a) M (.l []);have a1:Sto (a++[s2.heap.objs.size]) (upd H2 s2.heap.objs.size (.l [])) (S1++[.l []]):=E.grow M ⟨⟨a.length,by simp,rfl⟩,[],qK,rfl⟩;have O:(a++[s2.heap.objs.size])[S1.length]?=some s2.heap.objs.size:=by rw[<-E.len];simp
 generalize P:({s2 with heap:=s2.heap.push {cls:=.type "list",dict:=none,data:=.seq ([]:List Value).toArray}}:Shared)=s3 at F ⊢;have U:∀b∈fp,b<s3.heap.objs.size:=λb hb=>by
  rw[<-P];show b<(s2.heap.push _).objs.size;rw[vp];exact u9 (N b hb)
 have t3:tn 0 s3.heap:=T'.keep _ _ _ t2 λb hb o i=>by rw[<-P];exact wB _ i
 refine wpAny_newFunctionEnv C'.nocell (by intro y hy;simp at hy) (λh4 a2 a3=>?_) C'.kind;have n:∀b o,s3.heap.get? b=some o->h4.get? b=some o:=λb o i=>a3.extBut b o (wg (wI i)) (wB _ i)
 have I4:=qaz (tk:=s3.toks+([]:List (Str×Value)).length) F C'.kind C'.nocell CL f3 U C'.frs a2 n;have t4:tn 0 h4:=T'.keep _ _ _ t3 λb hb o i=>n b o i
 have a4:EnR (a++[s2.heap.objs.size]) (upd H2 s2.heap.objs.size (.l [])) (frE ρ fr ts.length) (frS K fr ts.length):=(qeh er fr ts.length).mono (q2.trans Y);have u:codeAny 006 X.A (.compLoop (.ListComp elt [⟨tg,iter,ifs,0⟩] sc pos) 0 (.ref it) (.ref s2.heap.objs.size) (compEnvC sc cl s3.heap.objs.size X.env)) (compPost 006 X.A X.xe use Q' (.ref s2.heap.objs.size) s3.heap.objs.size) {s3 with heap:=h4,toks:=s3.toks+([]:List (Str×Value)).length}:=by
  refine qiN (X:=compCx X sc cl s3.heap.objs.size (xs++ts) fp s3 (upd H2 s2.heap.objs.size (.l []))) (pos:=pos) rfl hc rfl rfl T' (qk4 (gd:=gd) (B.tg _ _ _ _ _)) (B.ifs _ _ _ _ _) (B.elt _ _ _ _ _) (λd ρ S hn=>yR hn _) O (a0.mono Y) I4 t4 (λb hb=>(f3 b hb).1) a4 a1 z2 L λad H' h s' J' q' f=>?_
  obtain⟨m',a5,_⟩:=J'.loc;refine fin s2.heap.objs.size s3.heap.objs.size H' s' m' a5 (vj F.lt) (λx c ec ez=>?_) ⟨J'.free,F.sz,λq hq ez=>by have:=wI (F.pin q hq).1;rw[ez]at this;exact absurd this (ve _)⟩ (λh5 a6=>qaA F f3 J' a6) ?_
  .obtain ⟨v,o,i,_⟩:=F.cell x c ec
   rw[ez]at i;exact absurd (wI i) (ve _)
  .have r:h[S1.length]?=some s2.heap.objs.size:=q'.get O
   unfold lcEnd at p;cases mm with
   |true =>
    rw[wN rfl]at p;exact p _ h H' ((q2.trans Y).trans q') f ⟨_,rfl,r⟩
   |false =>
    rw[wT 01]at p;by_cases hl:Sf.length=S1.length+1
    .rw [wN hl]at p
     split at p
     .rename_i l a7
      obtain⟨⟨n',a8,a9⟩,ys,Z,dl⟩:=f.obj _ _ _ r a7;obtain rfl:n'=S1.length:=zP f.nd a8 r;have en:S1.length=a.length:=E.len.symm;have qq:Stp ι H (h.take S1.length) H':=by rw[en];exact q2.trans (Y.trans q').less
      have W:=f.less S1.length;refine p (.ref s2.heap.objs.size) _ H' qq W ⟨_,ys,rfl,λhm=>?_,.inl Z,Dens.less l a9 dl⟩;obtain⟨j,hj,ej⟩:=uG hm;rw[vZ]at hj;have aa:h[j]?=some s2.heap.objs.size:=by
       rw[List.getElem_take]at ej;rw[wC (by omega),ej]
      have:=zP f.nd aa r;omega
     .exact p.elim
    .rw [wT hl]at p;exact p.elim
 exact codeAny_compStart_list u (T'.self _ 0 _ _ _ t4 u)
theorem qjW{tg elt iter:Expr}{ifs:010}{sc:Scope}{fr:List Nat}{xs ts:014}{mi:En->Sr->Res (List D×(Sr->Prop))}{g:024}{mt:022}{me:007}{c:Bool}(hc:017)(hi:PI X tg iter (TIg mi))(hs:044)(C':CSc X sc fr xs ts)(B:Blk X sc (xs++ts) tg ifs elt g mt me):
  PE X (.ListComp elt [⟨tg,iter,ifs,0⟩] sc pos) (T (mLcG c fr ts.length mi g mt me)):=λpins s f H Q I hw=>by
 rw[eval_ListComp];refine qei hc hi hs C' B I hw λD C H' s' m hn _ _ _ d q=>⟨m,hn,λh' a=>⟨.ref D,H',d h' a,rfl,q⟩⟩
theorem qgy{tg elt iter:Expr}{ifs:010}{sc:Scope}{fr:List Nat}{xs ts:014}{mi:En->Sr->Res (List D×(Sr->Prop))}{g:024}{mt:022}{me:007}{M:Bool}{i:Nat}{y:Str}{h c:Pos}(hc:017)(hi:PI X tg iter (TIg mi))(hs:044)(C':CSc X sc fr xs ts)(B:Blk X sc (xs++ts) tg ifs elt g mt me)(Q:X.N.Nodup)(U:X.N[i]?=some y)(hl:X.env.scope.names.lookup y=some .local)(n:swapsWith (.ListComp elt [⟨tg,iter,ifs,0⟩] sc pos) (some (.Name y h)) c.line X.env=pure true):
  PS X (.Assign [.Name y h] (.ListComp elt [⟨tg,iter,ifs,0⟩] sc pos) c) (TSm λρ S=>(mLcG M fr ts.length mi g mt me ρ S).bind λd S1=>.ok (.nx (ρ.set i (some d))) S1):=λpins s r H D I hw=>by
 obtain⟨ι,S,ρ,O,st,p⟩:=hw;rw[exec_Assign_Name_used _ _ _ _ n];refine wA (vy (wA ?_));show wpAny _ X.A (do let _ <-comprehension (.ListComp elt [⟨tg,iter,ifs,0⟩] sc pos) sc X.env _ (newList []) false (eval iter X.env) (some (assign (.Name y h) X.env))) _ _ s;have W:T (mLcG M fr ts.length mi g mt me) r H (λv u=>D.nx (r.set i (some v)) u):=⟨ι,S,ρ,O,st,PsF.bind p λa S1 w u b s1 E Y Z=>Z w u 019 E _ ((O.mono s1).set Y)⟩;refine wA (wt (qei (use:=some (assign (.Name y h) X.env)) (Q':=λ_ s'=>SP X pins D .next s') hc hi hs C' B I W λP C H' s' m hn j l f hI q=>?_) (λ_ s' hq=>wD (wD hq)) λ_ _ e=>e);show wpAny _ X.A (assign (.Name y h) X.env (.ref P)) _ _ _;have I0:Inv X pins r H' s':=by
  have:=hI s'.heap (Heap.SameBut.refl ..);exact this
 refine wpAny_assign_Name (jQ I0 Q U (.inl hl) (v:=.ref P) rfl (λs'' F J=>?_) (.inr hl));obtain⟨a,sb,ha⟩:=J;have K:C≠a:=by
  rcases ha with z|z
  .rw [z];exact j
  .exact λq=>l y a z q.symm
 refine⟨m,hn.sameBut sb K,λh' L=>?_⟩;have I3:=F.turned (h':=h') (t':=s''.toks) (it:=C) (λb o hb e=>L.extBut b o hb e) f.1 j (.inr f.2.1) l f.2.2;exact⟨_,H',I3,q⟩
theorem r_lc{tg elt iter:Expr}{ifs:010}{sc:Scope}{fr:List Nat}{xs ts:014}{mi:038}{g:024}{mt:022}{me:007}{a:Bool}(hc:017)(hi:PI X tg iter (TIt mi))(hs:044)(C':CSc X sc fr xs ts)(B:Blk X sc (xs++ts) tg ifs elt g mt me):
  PE X (.ListComp elt [⟨tg,iter,ifs,0⟩] sc pos) (T (mLc a fr ts.length mi g mt me)):=by
 rw[<-qjV];exact qjW hc (pi_g hi) hs C' B
theorem qiO{tg elt iter:Expr}{ifs:010}{sc:Scope}{fr:List Nat}{xs ts:014}{mi:038}{g:024}{mt:022}{me:007}{h:Bool}{i:Nat}{y:Str}{f a:Pos}(hc:017)(hi:PI X tg iter (TIt mi))(hs:044)(C':CSc X sc fr xs ts)(B:Blk X sc (xs++ts) tg ifs elt g mt me)(j:X.N.Nodup)(l:X.N[i]?=some y)(hl:X.env.scope.names.lookup y=some .local)(c:swapsWith (.ListComp elt [⟨tg,iter,ifs,0⟩] sc pos) (some (.Name y f)) a.line X.env=pure true):
  PS X (.Assign [.Name y f] (.ListComp elt [⟨tg,iter,ifs,0⟩] sc pos) a) (TSm λρ S=>(mLc h fr ts.length mi g mt me ρ S).bind λd S1=>.ok (.nx (ρ.set i (some d))) S1):=by
 rw[<-qjV];exact qgy hc (pi_g hi) hs C' B j l hl c
end
def Sg(M:Model)(B:Around)(a:End->Shared->Prop)(k:Code)(t:Sem Fin)(l:List Frame)(s:09):Prop:=∀G p,G.code=k->G.Woken B->∃x z,Runs M G p t l s x z/\a x z
section
variable{M:Model}{B:Around}{Φ:End->Shared->Prop}{k:Code}{l:List Frame}{s:Shared}
theorem qbL{c:Type}{m:Sem c}{f:c->Sem Fin}{e:Value->Sem Fin}{gd:Bool->Bool}{lv:List Value->List Value}(h:wpAny M (B.over k l) m (λa z=>Sg M B Φ k (f a) l z) (λx z=>Sg M B Φ k (e x) l z) s):Sg M B Φ k (m.wrap f e gd lv) l s:=λG p d hw=>by
 subst d;exact runs_wrap_of_wp f e gd lv m (h _ p (hw.over l)) (λ_ q _ z=>z G q rfl hw) λ_ q _ z=>z G q rfl hw
theorem yx{d i:Type}{m:Sem d}{f:d->Sem i}{c:i->Sem Fin}{e':Value->Sem Fin}{gd:Bool->Bool}{lv:List Value->List Value}(h:wpAny M (B.over k l) m (λa z=>Sg M B Φ k ((f a).wrap c e' gd lv) l z) (λx z=>Sg M B Φ k (e' x) l z) s):Sg M B Φ k ((m >>= f).wrap c e' gd lv) l s:=by
 have q:=qbL (f:=λa=>(f a).wrap c e' gd lv) (e:=λx=>(Sem.raise x).wrap c e' gd lv) (gd:=λb=>gd (id b)) (lv:=λb=>lv (id b)) h
 rwa [Sem.bind_eq_wrap',Sem.wrap_wrap]
theorem yT{a:Code}(c:a.quiet=true)(h:Sg M B Φ a (M.den a) l s):Sg M B Φ k (.pure (.again a)) l s:=λG p d hw=>by
 subst d;have ⟨x,z,r,q⟩:=h (G.goto a) p rfl (hw.goto a);exact⟨x,z,Runs.head (c₁:=a) (λ_ _ y=>.again c y) r,q⟩
theorem qk5(r:Result)(h:Φ (.ret r) s):Sg M B Φ k (leafOf r) [] s:=λG p a hw=>⟨_,s,Runs.leaf r,h⟩
theorem qmP{a:Pos}{f:Unit->Sem Fin}(h:Sg M B Φ k (f ()) l s):Sg M B Φ k (.at a f) l s:=by
 have q:Sg M B Φ k ((standAt a).wrap f .raise id id) l s:=qbL (vy h);exact q
theorem qgz{v:Value}{vs:005}{f:Resume->Sem Fin}(h:∀p,Φ (.susp v false vs f k p []) s):Sg M B Φ k (.yield v false vs f) [] s:=λG p a hw=>by
 subst a;exact⟨_,s,Runs.yield' [] rfl,h p⟩
end
def Go(M:Model)(B:Around)(a:End->Shared->Prop)(s:09):GenState->Prop
 | .fresh k=>Sg M B a k (M.den k) [] s
 | .suspended f _ k _ l _=>Sg M B a k (f (.send .none)) l s
 |_=>False
def qgA{prog:Program}{w:World}{A:Around}{E:015}{s:09}{a:Addr}{n:Nat}{gs:GenState}{h:End->Shared->Prop}{Q:Option Value->Shared->Prop}(B:A.handled=none)(hl:s.heap.NoLimit)(hd:A.depth<recursionLimit)(ha:s.heap.IsGen a n)(hs:s.gens[n]?=some gs)(c:Go 018 A.in1 h (s.setGen n .running) gs)(m:∀x z,h x z->match x with
   | .ret r=>r=.ok .next/\∀h',(∀b o,z.heap.get? b=some o->h'.get? b=some o)->Q none {z.setGen n .finished with heap:=h' }
   | .susp v g vs f k p l=>(End.susp v g vs f k p l).quiet=true/\Q (some v) (z.setGen n (End.susp v g vs f k p l).genState)):
  wpAny 018 A (pyNext (.ref a)) Q E s:=by
 have d:∀{u:Type} {l:005} {f:GenResult->Sem u} {R:u->Shared->Prop} {y:015},(∀x z,h x z->x.quiet=true/\wpAny 018 A.in1 (f x.result) R y (z.setGen n x.genState))->wpAny 018 A.in1 (.resume n (.send .none) l f) R y s:=by
  intro u l f R y i G p j;rw[Sem.wp_resume];cases gs with
  |fresh k =>
   obtain⟨x,z,r,q⟩:=c (G.wake k p) p rfl (j.wake k p);exact⟨x.result,z.setGen n x.genState,by unfold Wakes;rw[hs];exact⟨x,z,r,(i x z q).1,rfl,rfl⟩,(i x z q).2 G p j⟩
  |suspended H I k p0 C cl =>
   obtain⟨x,z,r,q⟩:=c (G.wake k p) p0 rfl (j.wake k p);exact⟨x.result,z.setGen n x.genState,by unfold Wakes;rw[hs];exact⟨x,z,r,(i x z q).1,rfl,rfl⟩,(i x z q).2 G p j⟩
  |running=>exact c.elim
  |finished=>exact c.elim
 unfold pyNext;refine wA (uo ?_);refine vA (name:=Str.ofString "__next__") ha.typeIs slot_gen_next ?_;refine vI slot_gen_next ha.typeIs entry_gen_next (?_:wpAny _ A.in1 (Builtin.Generator.genWake (.ref a) (.send .none)) _ _ s) (args_gen_next _);unfold Builtin.Generator.genWake;refine wA (vQ (wpAny_genNumber ha ?_));refine wA (wpAny_genState hs ?_);have go:∀x z,h x z->x.quiet=true:=λx z q=>by
  cases x with
  |ret r=>rfl
  |susp v g vs f k p l=>exact(m _ _ q).1
 cases gs with
 |running=>exact c.elim
 |finished=>exact c.elim
 |_ =>
  refine wA (wpAny_roomToWake hl hd (d λx z q=>⟨go x z q,?_⟩));cases x with
  |susp v g vs f k p l=>exact wD ⟨v,rfl,wD (m _ _ q).2⟩
  |ret r =>
   obtain⟨e,F⟩:=m _ _ q;subst e;show wpAny _ A.in1 (newExc (.type "StopIteration") [] >>= _) _ _ (z.setGen n .finished);refine wA ?_;unfold newExc newTuple;refine wA (wf ?_ (by size_fits));refine wA (wpAny_of_eq (t:=firstArgMember _ _) (a:=Value.none) (by first|rfl|(simp only[firstArgMember];rfl)) ?_);refine wf ?_ (by size_fits);unfold raiseNew;refine wA (wA (wpAny_handled ?_));rw[show A.in1.handled=none from B];refine wpAny_throw (wA (wpAny_isInstance (T:="StopIteration") (b:=true) ⟨_,wJ _ rfl,rfl⟩ isSubtype_stop ?_));exact wD (F _ λb o hb=>wB _ (wB _ hb))
inductive GN where
 |fin (S:Sr)|yl (i:Nat) (ρ:En) (v:D) (S:Sr)|bad
noncomputable def grdN(gu:Sr->Prop)(S:Sr)(r:GN):GN:=@ite _ (gu S) (Classical.propDecidable _) r .bad
def jh{gu:Sr->Prop}{S:Sr}(h:gu S)(r:GN):grdN gu S r=r:=wN h
def jD{gu:Sr->Prop}{S:Sr}{r:GN}(h:grdN gu S r≠.bad):gu S:=Classical.byContradiction λn=>h (wT n)
noncomputable def gnx(gu:Sr->Prop)(g:024)(mt:022)(me:007):Nat->List D->En->Sr->GN
 |_,[],_,S=>grdN gu S (.fin S)
 |i,d::r,ρ,S=>grdN gu S <| match g d ρ S with
  | .ok ρ1 S1=>match mt ρ1 S1 with
   | .ok true S2=>match me ρ1 S2 with
    | .ok v a=>.yl (i+1) ρ1 v a
    |_=>.bad
   | .ok false S2=>gnx gu g mt me (i+1) r ρ1 S2
   |_=>.bad
  |_=>.bad
section
variable{X:Cx}{pos:Pos}
structure Sus (X:Cx) (J:It) (tn:Nat->Heap->Prop) (fp:03) (ds:04) (gu:Sr->Prop) (i:Nat) (ρ:En) (S:Sr) (ι:03) (H:Hp) (pins:011) (s:09):Prop where
 inv:∃σ,Inv X pins σ H s/\EnR ι H ρ σ
 sto:Sto ι H S
 at':tn i s.heap
 le:i<=ds.length
 fz:∀b∈fp,H b=none
 it:ItG ι H J ds gu
 pf:∀p∈pins,p.1∉fp
def Pw(X:Cx)(J:It)(tn:Nat->Heap->Prop)(fp:03)(ds:04)(gu:Sr->Prop)(M:Model)(B:Around)(g:024)(mt:022)(me:007):Nat->GenState->Nat->En->Sr->Prop
 |0,_,_,_,_=>True
 |n+1,gs,i,ρ,S=>∀pins ι H s,Sus X J tn fp ds gu i ρ S ι H pins s->gnx gu g mt me i (ds.drop i) ρ S≠.bad->Go M B (λx z=>match x with
  | .ret r=>r=.ok .next/\∃c a H' h,gnx gu g mt me i (ds.drop i) ρ S=.fin c/\Inv X pins h H' z/\Stp ι H a H'/\Sto a H' c
  | .susp v gd vs f k p l=>(End.susp v gd vs f k p l).quiet=true/\∃j ρ' d c a H' y,gnx gu g mt me i (ds.drop i) ρ S=.yl j ρ' d c/\Stp ι H a H'/\Den a H' d y/\RelV y v/\Sus X J tn fp ds gu j ρ' c a H' pins z /\
   Pw X J tn fp ds gu M B g mt me n (End.susp v gd vs f k p l).genState j ρ' c) s gs
def Pz(X:Cx)(J:It)(tn:Nat->Heap->Prop)(fp:03)(ds:04)(gu:Sr->Prop)(M:Model)(B:Around)(g:024)(mt:022)(me:007)(n:Nat)(j:GN)(pins:011)(ι:03)(H:Hp):End->Shared->Prop:=λx z=>match x with
  | .ret r=>r=.ok .next/\∃c a H' h,j=.fin c/\Inv X pins h H' z/\Stp ι H a H'/\Sto a H' c
  | .susp v gd vs f k p l=>(End.susp v gd vs f k p l).quiet=true/\∃i ρ' d c a H' y,j=.yl i ρ' d c/\Stp ι H a H'/\Den a H' d y/\RelV y v/\Sus X J tn fp ds gu i ρ' c a H' pins z /\
   Pw X J tn fp ds gu M B g mt me n (End.susp v gd vs f k p l).genState i ρ' c
theorem qgB{tg elt iter:Expr}{ifs:010}{sc:Scope}{J:It}{fp:03}{it:Addr}{tn:Nat->Heap->Prop}{g:024}{mt:022}{me:007}{ds:04}{gu:Sr->Prop}{B:Around}(O:X.xe=λ_ _=>False)(hc:017)(a1:X.ex=fp)(a2:∀p∈X.pn,p.1∉fp)(hA:X.A=B.over (.compLoop (.GeneratorExp elt [⟨tg,iter,ifs,0⟩] sc pos) 0 (.ref it) .none X.env) [])(a4:X.env.scope.isCoroutine=false)(T':Turn X.prog X.w X.K tg J fp it tn)(hg:PG X tg (TGt g))(ht:PTl X ifs (TB mt))(he:PE X elt (T me)):∀(n m i:Nat) (ρ:En) (S:Sr) (pins:011) (q:03) (H0:Hp) (ι:03) (H:Hp) (s:09),ds.length-i=m ->
   Sus X J tn fp ds gu i ρ S ι H pins s->Stp q H0 ι H->gnx gu g mt me i (ds.drop i) ρ S≠.bad ->
   Sg 006 B (Pz X J tn fp ds gu 006 B g mt me n (gnx gu g mt me i (ds.drop i) ρ S) pins q H0) (.compLoop (.GeneratorExp elt [⟨tg,iter,ifs,0⟩] sc pos) 0 (.ref it) .none X.env)
    ((model X.prog X.w).den (.compLoop (.GeneratorExp elt [⟨tg,iter,ifs,0⟩] sc pos) 0 (.ref it) .none X.env)) [] s:=by
 intro n;induction n using Nat.strongRecOn with
 |ind n a5 =>
 intro m;induction m with
 |zero =>
  intro i ρ S pins q H0 ι H s hm U q0 hb;obtain⟨⟨σ,I,er⟩,st,t1,le,f1,ok,pf⟩:=U;have hi:i=ds.length:=by omega
  subst hi;have j:∀{H':Hp},(∀b∈fp,H' b=none)->∀b∈fp,FpOk X pins H' b:=λhn b hb=>by
   have a:b∈X.ex:=by rw[a1];exact hb
   exact⟨hn b hb,(I.ok.exf b a).1,λz=>I.ok.exfs b a z,.inl a,(I.ok.exf b a).2,λp hp z=>(wa.mp hp).elim (λy=>a2 p y (z ▸ hb)) λy=>pf p y (z ▸ hb)⟩
  show Sg _ B _ _ ((compTurn (.GeneratorExp elt [⟨tg,iter,ifs,0⟩] sc pos) 0 (.ref it) .none X.env).onRaise (leaving X.env)) [] s;rw[compTurn_gen,Sem.onRaise_eq_wrap];refine yx (vy (yx ?_));rw[<-hA];have C:gu S:=by
   rw[uw (wH _)]at hb;exact jD hb
  refine thnF (T'.done X rfl rfl rfl hc _ pins s σ H _ I (j f1) t1 (ok.stop ι H S 019 st C)) λr s2 ⟨hr,I2⟩=>?_
  subst hr;refine qk5 (.ok .next) ⟨rfl,S,ι,H,σ,?_,I2,q0,st⟩;rw[uw (wH _)];exact jh C _
 |succ m a6 =>
  intro i ρ S pins q H0 ι H s hm U q0 hb;obtain⟨⟨σ,I,er⟩,st,t1,le,f1,ok,pf⟩:=U;have P:i<ds.length:=by omega
  have j:∀{H':Hp},(∀b∈fp,H' b=none)->∀b∈fp,FpOk X pins H' b:=λhn b hb=>by
   have a:b∈X.ex:=by rw[a1];exact hb
   exact⟨hn b hb,(I.ok.exf b a).1,λz=>I.ok.exfs b a z,.inl a,(I.ok.exf b a).2,λp hp z=>(wa.mp hp).elim (λy=>a2 p y (z ▸ hb)) λy=>pf p y (z ▸ hb)⟩
  have hd:ds[i]?=some ds[i]:=wC P;have ed:ds.drop i=ds[i]::ds.drop (i+1):=xO P;have C:gu S:=by
   rw[ed]at hb;exact jD hb
  obtain⟨go,yl⟩:=ok.go i _ ι H S 019 st C hd;show Sg _ B _ _ ((compTurn (.GeneratorExp elt [⟨tg,iter,ifs,0⟩] sc pos) 0 (.ref it) .none X.env).onRaise (leaving X.env)) [] s;rw[compTurn_gen,Sem.onRaise_eq_wrap];refine yx (vy (yx ?_));rw[<-hA];refine thnF (T'.item X rfl rfl rfl hc i pins s σ H _ I (j f1) t1 go) λr s2 ⟨u,hr,h2⟩=>?_
  subst hr;refine yx ?_;rw[<-hA];refine thnF h2 λ_ s3 ⟨x,H3,I3,r3,y3,t3,f3⟩=>?_
  obtain⟨q3,a7⟩:=yl x H3 y3;obtain⟨k3,d3⟩:=a7 S st;have a8:=I3.pinned (j f3) (T'.obj _ _ t3);rw[ed]at hb ⊢;unfold gnx at hb ⊢;rw[jh C]at hb ⊢;cases z1:g ds[i] ρ S with
  |no=>rw[z1]at hb;exact absurd rfl hb
  |err=>rw[z1]at hb;exact absurd rfl hb
  |ok c S2 =>
   rw[z1]at hb;dsimp only at hb ⊢;refine yx ?_;rw[<-hA];refine wt (hg _ s3 σ H3 x u (λE Q=>∃d,Stp ι H3 d Q/\Sto d Q S2/\EnR d Q c E) a8 r3 ⟨ι,S,ρ,ds[i],er.mono q3,k3,d3,?_⟩) (λ_ s4 ⟨E,Q,I4,d,q4,W,l⟩=>?_) λ_ _ z=>by rw[O]at z;exact z.elim
   .rw [z1];exact λE d Q q4 W l=>⟨d,q4,W,l⟩
   cases z2:mt c S2 with
   |no=>rw[z2]at hb;exact absurd rfl hb
   |err=>rw[z2]at hb;exact absurd rfl hb
   |ok b S3 =>
    rw[z2]at hb;refine yx ?_;rw[<-hA];refine wt (ht _ s4 E Q (λb' Y=>b'=b/\∃f,Stp d Q f Y/\Sto f Y S3) I4 ⟨d,S2,c,l,W,?_⟩) (λb' s5 ⟨Y,I5,eb,f,N,L⟩=>?_) λ_ _ z=>by rw[O]at z;exact z.elim
    .rw [z2];exact λb' f Y N L eb=>⟨(show b=b' from eb).symm,f,N,L⟩
    subst eb;have sus:∀{M:St} {H7:Hp} {s7:09} {F:03} {S7:Sr},Inv X (pins++pinsAt fp s3.heap) M H7 s7->Stp ι H F H7->EnR F H7 c M->Sto F H7 S7->Sus X J tn fp ds gu (i+1) c S7 F H7 pins s7:=by
     intro M H7 s7 F S7 I7 q7 a9 aa;refine⟨⟨M,I7.unpinned,a9⟩,aa,T'.keep _ _ _ t3 λb hb o eo=>(I7.pin (b,o) (w9 _ (w9 _ (zu hb eo)))).1,P,λb hb=>?_,ok.mono q7,pf⟩;obtain⟨o,eo,_⟩:=T'.obj _ _ t3 b hb;exact(I7.pin (b,o) (w9 _ (w9 _ (zu hb eo)))).2.1
    cases b' with
    |false =>
     dsimp only at hb ⊢;exact yT rfl (a6 (i+1) c S3 pins q H0 f Y s5 (by omega) (sus I5 ((q3.trans q4).trans N) (l.mono N) L) (q0.trans ((q3.trans q4).trans N)) hb)
    |true =>
     dsimp only at hb ⊢;cases z3:me c S3 with
     |no=>rw[z3]at hb;exact absurd rfl hb
     |err=>rw[z3]at hb;exact absurd rfl hb
     |ok v S4 =>
      dsimp only;have hy:∀v,yieldOut X.env v=yieldValue v:=λv=>by simp only[yieldOut,a4,vf,ui]
      simp only[hy,uO];rw[Sem.bind_eq_wrap',Sem.bind_eq_wrap',Sem.wrap_wrap,Sem.wrap_wrap];refine qbL ?_;rw[<-hA];refine wt (he _ s5 E Y (λy H6=>∃h,Stp f Y h H6/\Sto h H6 S4/\Den h H6 v y) I5 ⟨f,S3,c,l.mono N,L,?_⟩) (λy' s6 ⟨y,H6,I6,ry,h,q6,Z,dv⟩=>?_) λ_ _ z=>by rw[O]at z;exact z.elim
      .rw [z3];exact λy h H6 q6 Z dv=>⟨h,q6,Z,dv⟩
      have tot:=((q3.trans q4).trans N).trans q6;refine qmP (qgz λp=>⟨rfl,i+1,c,v,S4,h,H6,y,rfl,q0.trans tot,dv,ry,sus I6 tot (l.mono (N.trans q6)) Z,?_⟩);cases n with
      |zero=>trivial
      |succ n' =>
       intro a0 a3 H' s' U' a;exact yT rfl (a5 n' (xY _) _ (i+1) c S4 a0 a3 H' a3 H' s' rfl U' 019 a)
end
section
variable{gu:Sr->Prop}{g:D->En->Sr->Res En}{mt:En->Sr->Res Bool}{me:En->Sr->Res D}
theorem qaB:∀(l:04) (i:Nat) (ρ:En) (S:Sr) {a:Nat} {ρ':En} {v:D} {c:Sr},gnx gu g mt me i l ρ S=.yl a ρ' v c->i<a/\a<=i+l.length
 |[],_,_,S,_,_,_,_,h=>by
  rw[show gnx gu g mt me _ [] _ S=grdN gu S (.fin S)from rfl,jh (jD (by rw[show grdN gu S (.fin S)=_ from h];intro z;cases z))]at h;cases h
 |d::r,i,ρ,S,a,ρ',v,c,h=>by
  unfold gnx at h;rw[jh (jD (by rw[h];intro z;cases z))]at h;split at h
  .split at h
   .split at h
    .cases h;simp
    .cases h
   .have:=qaB r (i+1) _ _ h
    simp only[wY];lia
   .cases h
  .cases h
noncomputable def gen1{a:Type}(step:a->D->Option (a ⊕ D))(fin:a->Option D)(rest:Nat->En->a->Sr->Res D)(b:a):GN->Res D
 | .fin S=>ofO (fin b) S
 | .yl i ρ v S=>match step b v with
  |some (.inl b')=>rest i ρ b' S
  |some (.inr x)=>.ok x S
  |none=>.no
 | .bad=>.no
theorem qej{c:Type}{step:c->D->Option (c ⊕ D)}{fin:c->Option D}:∀(l:04) (i:Nat) (ρ:En) (b:c) (S:Sr) {d:D} {f:Sr},genLoopG gu g mt me step fin l ρ b S=.ok d f ->
  gen1 step fin (λj ρ b S=>genLoopG gu g mt me step fin (l.drop (j-i)) ρ b S) b (gnx gu g mt me i l ρ S)=.ok d f
 |[],_,_,_,S,d,f,h=>by
  have a:gu S:=Classical.byContradiction λn=>by
   unfold genLoopG at h;rw[yR n]at h;cases h
  unfold genLoopG at h;rw[zv a]at h;unfold gnx;rw[jh a];exact h
 |x::r,i,ρ,b,S,d,f,h=>by
  have a:gu S:=Classical.byContradiction λn=>by
   unfold genLoopG at h;rw[yR n]at h;cases h
  unfold genLoopG at h;rw[zv a]at h;unfold gnx;rw[jh a];cases z1:g x ρ S with
  |no=>rw[z1]at h;cases h
  |err=>rw[z1]at h;cases h
  |ok ρ1 S1 =>
   rw[z1,Res.bind_ok]at h;dsimp only;cases z2:mt ρ1 S1 with
   |no=>rw[z2]at h;cases h
   |err=>rw[z2]at h;cases h
   |ok t S2 =>
    rw[z2,Res.bind_ok]at h;cases t with
    |true =>
     rw[wN rfl]at h;dsimp only;cases z3:me ρ1 S2 with
     |no=>rw[z3]at h;cases h
     |err=>rw[z3]at h;cases h
     |ok v m =>
      rw[z3,Res.bind_ok]at h;have e:i+1-i=1:=by lia
      simp only[gen1,e,xG,ug];exact h
    |false =>
     rw[wT 01]at h;dsimp only;have q:=qej r (i+1) ρ1 b S2 h;cases z4:gnx gu g mt me (i+1) r ρ1 S2 with
     |fin m=>rw[z4]at q;exact q
     |bad=>rw[z4]at q;cases q
     |yl j ρ' v m =>
      rw[z4]at q;have:=qaB r (i+1) ρ1 S2 z4;have e:j-i=j-(i+1)+1:=by lia
      simp only[gen1]at q ⊢;rw[e,xG];exact q
theorem yU{a:Type}{step:a->D->Option (a ⊕ D)}{fin:a->Option D}{ds:04}{gu:Sr->Prop}{i:Nat}{ρ:En}{b:a}{S:Sr}{d:D}{c:Sr}(h:genLoopG gu g mt me step fin (ds.drop i) ρ b S=.ok d c):
  gen1 step fin (λj ρ b S=>genLoopG gu g mt me step fin (ds.drop j) ρ b S) b (gnx gu g mt me i (ds.drop i) ρ S)=.ok d c:=by
 have q:=qej _ i ρ b S h;cases z:gnx gu g mt me i (ds.drop i) ρ S with
 |fin f=>rw[z]at q;exact q
 |bad=>rw[z]at q;cases q
 |yl j ρ' v f =>
  rw[z]at q;have:=qaB _ i ρ S z;simp only[gen1]at q ⊢;rw[List.drop_drop]at q;have e:i+(j-i)=j:=by lia
  rw[e]at q;exact q
end
def qiP{s:09}{n:Nat}{x y:GenState}:(s.setGen n x).setGen n y=s.setGen n y:=by
 unfold Shared.setGen;simp
def GK.done{a g:Array GenState}{x:GenState}(h:GK (a.push .running) (g.setIfInBounds a.size .running))(e:g[a.size]?=some x)(c:x.bare=true):GK a g:=by
 refine⟨λy d=>?_,?_,λi hi=>?_⟩
 .obtain ⟨i,hi,rfl⟩:=Array.mem_iff_getElem.mp d
  by_cases q:i=a.size
  .subst q
   rw[uh hi]at e;cases e;exact c
  .refine h.bare _ ?_
   have:(g.setIfInBounds a.size .running)[i]' 042=g[i]:=by
    rw[xH];rw[wT (Ne.symm q)]
   rw[<-this];exact Array.getElem_mem _
 .have:=h.sz
  simp at this;lia
 .have:=h.old i 030
  rw[Array.getElem?_setIfInBounds_ne 00]at this;rw[this,Array.getElem?_push_lt hi];exact(uh hi).symm
def qgC{X:Cx}{pins:011}{a:St}{H:Hp}{s:09}(I:Inv X pins a H s){g':Array GenState}(h:GK X.s₀.gens g'):Inv X pins a H {s with gens:=g' } :=
 ⟨I.ok,I.os,h,I.base,I.loc,I.cell,I.free,I.freeC,I.pin,I.hok,I.len⟩
section
variable{X:Cx}
structure Cs (X:Cx) (J:It) (tn:Nat->Heap->Prop) (fp:03) (ds:04) (gu:Sr->Prop) (B:Around) (g:024) (mt:022) (me:007) (n k i:Nat) (ρ:En) (S:Sr) (ι:03) (H:Hp) (pins:011) (s:09):Prop where
 sus:Sus X J tn fp ds gu i ρ S ι H pins (s.setGen n .running)
 st:∃gs,s.gens[n]?=some gs/\gs.bare=true/\Pw X J tn fp ds gu 006 B g mt me k gs i ρ S
theorem qek{J:It}{tn:Nat->Heap->Prop}{fp:03}{ds:04}{gu:Sr->Prop}{A:Around}{g:024}{mt:022}{me:007}{n k i:Nat}{ρ:En}{S:Sr}{ι:03}{H:Hp}{pins:011}{s:09}{a:Addr}{o:Obj}{B:Array GenState}{Q:Option Value->Shared->Prop}{E:015}(Y:A.handled=none)(hd:A.depth<recursionLimit)(Z:(a,o)∈X.pn)(hg:∀h:Heap,h.get? a=some o->h.IsGen a n)(L:X.s₀.gens=B.push .running)(hn:n=B.size)(C:Cs X J tn fp ds gu A.in1 g mt me n (k+1) i ρ S ι H pins s)(hb:gnx gu g mt me i (ds.drop i) ρ S≠.bad)(fin:∀u m H' c z,gnx gu g mt me i (ds.drop i) ρ S=.fin u->Inv X pins c H' (z.setGen n .running)->GK B z.gens->Stp ι H m H'->Sto m H' u->Q none z)(yl:∀K ρ' d u m H' y v z,gnx gu g mt me i (ds.drop i) ρ S=.yl K ρ' d u->Stp ι H m H'->Den m H' d y->RelV y v->Cs X J tn fp ds gu A.in1 g mt me n k K ρ' u m H' pins z->Q (some v) z):
  wpAny 006 A (pyNext (.ref a)) Q E s:=by
 obtain⟨U,gs,hs,a0,pw⟩:=C;obtain⟨⟨σ,I,er⟩,_⟩:=id U;have hp:s.heap.get? a=some o:=(I.pin (a,o) (wu _ Z)).1;refine qgA Y I.nolimit hd (hg _ hp) hs (pw pins ι H _ U hb) λx z q=>?_
 have hsz:∀{c:St} {H':Hp},Inv X pins c H' z->z.gens[n]?=some .running/\n<z.gens.size:=λ{c H'} J=>by
  have e:=J.bare.old n (by rw[L,hn];simp);rw[L,hn]at e;rw[hn];have e2:(B.push GenState.running)[B.size]?=some .running:=by simp
  rw[e2]at e;exact⟨e,by
   rcases Nat.lt_or_ge B.size z.gens.size with M|M
   .exact M
   .rw [xf M]at e;cases e⟩
 have bk:∀{c:St} {H':Hp} (y:GenState),Inv X pins c H' z->Inv X pins c H' ((z.setGen n y).setGen n .running):=λ{c H'} y J=>by
  rw[qiP];have e:(z.gens.setIfInBounds n .running)=z.gens:=by
   obtain⟨e1,e2⟩:=hsz J;apply Array.ext
   .simp
   .intro j h1 h2
    rw[xH];split
    .rename_i q
     subst q;rw[uh e2]at e1;exact(Option.some.inj e1).symm
    .rfl
  have:=qgC J (g':=z.gens.setIfInBounds n .running) (by rw[e];exact J.bare);exact this
 cases x with
 |ret r =>
  obtain⟨e,u,m,H',c,e1,J,s1,N⟩:=q;refine⟨e,λh' hk=>fin u m H' c _ e1 ?_ ?_ s1 N⟩
  .have:=(bk .finished J).kept (h':=h') (t':=z.toks) hk
   exact this
  .refine GK.done (x:=.finished) (g:=(z.gens.setIfInBounds n .finished)) ?_ ?_ rfl
   .have:=(bk .finished J).bare
    rw[L]at this;rw[<-hn];exact this
   .rw [<-hn]
    obtain⟨_,e2⟩:=hsz J;simp[e2]
 |susp v gd vs f k' p l =>
  obtain⟨P,K,ρ',d,u,m,H',y,e1,s1,dv,ry,W,O⟩:=q;refine⟨P,yl K ρ' d u m H' y v _ e1 s1 dv ry ⟨?_,_,?_,End.bare_of_quiet P,O⟩⟩
  .obtain ⟨⟨c,J,F⟩,a1,a2,a3,a4,a5,a6⟩:=W
   exact⟨⟨c,bk _ J,F⟩,a1,a2,a3,a4,a5,a6⟩
  .obtain ⟨⟨c,J,F⟩,_⟩:=W
   obtain⟨_,e2⟩:=hsz J;show(z.gens.setIfInBounds n _)[n]?=_;simp[e2]
end
section
variable{X:Cx}{pos:Pos}
theorem qdt{K:009}{h:Heap}(kin:K.In h){c T:Addr}{ps:028}(e:codeTab K c T=true)(m:h.get? T=some {cls:=.none,data:=.fields ps})(tr:TriplesOk ps.toList):h.IsCode c T ps/\h.TableAt c T ps:=by
 unfold codeTab at e;split at e
 .rename_i cls d vs sl hl
  simp only[wS,uC]at e;obtain⟨⟨e1,_⟩,e2⟩:=e;split at e2
  .rename_i a b r s u v w x y i f j h7 o l
   simp only[wS,uC,bne_iff_ne]at e2;obtain⟨⟨p,q⟩,ne⟩:=e2;subst p;subst q;have n:=kin _ _ hl;exact⟨⟨_,vs,_,_,_,_,_,_,_,_,n,rfl,i,j,h7,o,l,m,rfl,tr,ne⟩,⟨_,vs,n,e1,rfl,f⟩,m⟩
  .cases e2
 .cases e
theorem qgD{M:Model}{A:Around}{E:015}{pins:011}{F:St}{H:Hp}{s:09}{c T:Addr}{q:Str}{sc:Scope}(I:Inv X pins F H s)(hc:X.env.code=.ref c)(O:codeTab X.K c T=true):
  wpAny M A (genexprCode X.env pos q sc) (λ_ s'=>∃H',Inv X pins F H' s'/\s'.gens=s.gens/\(∀ι,Stp ι H ι H')/\(∀ι S,Sto ι H S->Sto ι H' S)/\∀b o,s.heap.get? b=some o->H b=none->s'.heap.get? b=some o/\H' b=none) E s:=by
 obtain⟨p,Q⟩:=I.ok.tab c T O;obtain⟨mo,B⟩:=I.base.tbls T p Q;generalize p++mo=ps at B;obtain⟨U,tr⟩:=I.hok T _ B;obtain⟨ic,W⟩:=qdt I.kIn O U tr;cases z:codeAmong pos ps.toList with
 |some v=>exact wpAny_genexprCode_hit hc ic z ⟨H,I,rfl,λ_=>Stp.refl _ _,λ_ _ x=>x,λb o e n=>⟨e,n⟩⟩
 |none =>
  refine wpAny_genexprCodeX hc ic W z λP h' tk i _ _ C _ h _=>?_
  generalize J:ps++#[rawInt pos.line,rawInt pos.col,.ref P]=ps' at C h;have f:∀{b:Addr} {u:HO},H b=some u->(∀x,u≠.tbl x)->b≠T:=λ{b u} e n z=>by
   subst z;rw[B]at e;cases e;exact n _ rfl
  have j:∀{b:Addr},H b=none->b≠T:=λ{b} e z=>by subst z;rw[B]at e;cases e
  have L:TriplesOk ps'.toList:=by
   obtain⟨_,_,_,_,_,_,_,_,_,_,_,_,_,_,_,_,_,e1,e2,t,_⟩:=C;exact t
  have N:HOk X.prog X.w (upd H T (.tbl ps')) h':=λb u e=>by
   by_cases q:b=T
   .subst q
    rw[qK]at e;cases e;exact⟨h.2,L⟩
   .rw [qD q]at e
    refine(I.hok b u e).stay (λd v hd Y=>i d v ?_ Y) (λd e'=>by rw[qD (f e' (by intro _ z;cases z))];exact e') λd xs e'=>by rw[qD (f e' (by intro _ z;cases z))];exact e'
    rcases hd with y|y
    .subst y;exact q
    .exact f y (by intro _ z;cases z)
  have Z:Inv X pins F (upd H T (.tbl ps')) {s with heap:=h',toks:=tk}:=by
   refine I.step (g':=s.gens) (d':=s.drawn) (ch:=[]) (λ_ z=>nomatch z) (λb o _ _ _ e n=>i b o (j n) e) (λb o _ _ _ e n=>⟨o.slots,i b o (j n) e⟩) (λb o _ e n=>by rw[qD (j n)];exact n)
    (λb o _ e=>?_) (λb xs e=>by rw[qD (f e (by intro _ z;cases z))];exact e) (λb o u e=>by rw[qD (f e (by intro _ z;cases z))];exact e) (λb qs e=>?_) (λm hm=>?_) N I.bare.self
   .by_cases q:b=T
    .subst q;exact⟨_,h.2⟩
    .exact ⟨o,i b o q e⟩
   .by_cases q:b=T
    .subst q
     rw[B]at e;cases e;exact⟨#[rawInt pos.line,rawInt pos.col,.ref P],by rw[qK,<-J]⟩
    .exact ⟨#[],by rw[qD q,e];simp⟩
   .obtain ⟨o,es,ep,ho,r⟩:=hm
    exact⟨o,es,ep,i _ o (j I.free) ho,r⟩
  have sp:∀ι,Stp ι H ι (upd H T (.tbl ps')):=λι=>⟨xC _,λ_ m=>.inl m,λa u e _ nt=>by
    rw[qD (f e (by intro x z;subst z;exact nt))];exact e,λa e=>by
    by_cases q:a=T
    .subst q;rw[qK];simp
    .rw [qD q];exact e⟩
  refine⟨_,Z,rfl,sp,λι S st=>⟨st.len,st.nd,λn a so e1 e2=>(st.obj n a so e1 e2).mono (sp ι) ?_⟩,λb o e n=>⟨i b o (j n) e,by rw[qD (j n)];exact n⟩⟩;have k:=st.obj n a so e1 e2;cases so with
  |l l=>obtain⟨_,xs,e,_⟩:=k;rw[qD (f e (by intro _ z;cases z))]
  |dic l=>obtain⟨_,xs,e,_⟩:=k;rw[qD (f e (by intro _ z;cases z))]
  |dis l=>obtain⟨_,xs,e,_⟩:=k;rw[qD (f e (by intro _ z;cases z))]
theorem qiQ{M:Model}{A:Around}{E:015}{pins:011}{a:St}{H:Hp}{s:09}{Q:Addr->Shared->Prop}(I:Inv X pins a H s)(h:Q builtinsNs s):wpAny M A (builtinsFor X.env.globals X.env.builtins) Q E s:=by
 obtain⟨bm,ob,e1,e2,c,d,f,i⟩:=I.ok.mod.bmod;rw[I.ok.glob];exact wpAny_builtinsFor (I.ok.mod.glob.keeps I.bk) e1 e2 (I.bk _ _ c) d f i h
noncomputable def genCx(X:Cx)(sc:Scope)(cl:List (Str×Addr))(C:Addr)(code:Value)(N':014)(fp:03)(ge:Expr)(it:Addr)(o:Addr×Obj)(s:09)(H:Hp):Cx :=
 {X with A:=X.A.in4.in1.over (.compLoop ge 0 (.ref it) .none (genEnv sc cl C code builtinsNs X.env)) [],N:=N',s₀:={s with gens:=s.gens.push .running},H₀:=H,env:=genEnv sc cl C code builtinsNs X.env,outer:=X.stack,stack:=genEnv sc cl C code builtinsNs X.env::X.stack,ex:=fp,fn:=λ_=>false,pn:=[o],xe:=λ_ _=>False}
theorem qgE{sc:Scope}{cl:List (Str×Addr)}{code:Value}{N':014}{fp:03}{tg elt iter:Expr}{ifs:010}{it:Addr}{o:Addr×Obj}{pins:011}{j:St}{H:Hp}{s:09}(I:Inv X pins j H s)(l:sc.kind=.function)(a:∀y∈sc.names,y.2≠.cell)(d:Clos X sc cl)(f:∀b∈fp,FpOk X pins H b)(n:∀b∈fp,b<s.heap.objs.size):(genCx X sc cl s.heap.objs.size code N' fp (.GeneratorExp elt [⟨tg,iter,ifs,0⟩] sc pos) it o s H).Ok where
 mod:=I.ok.mod
 kind:=l
 glob:=I.ok.glob
 blt:=rfl
 above:=wH _
 inj:=λx y c p q=>I.ok.inj x y c (d.sub x c p) (d.sub y c q)
 has:=λx i=>by
  have i:sc.names.lookup x=some .cell\/sc.names.lookup x=some .free:=i;rcases i with z|z
  .exact absurd rfl (a _ (vn z))
  .exact d.all x z
 cab:=λx c h _=>by cases h
 hd:=λh=>I.ok.hd h
 frames:=by
  unfold genCx Around.over;dsimp only[xN,envsOf,List.filter_nil,List.filterMap_nil,pushEnvs];rw[I.ok.frames];rfl
 stk:=.inr ⟨rfl,rfl⟩
 exf:=λb hb=>⟨wg (n b hb),λx c h=>(f b hb).2.2.2.2.1 x c (d.sub x c h)⟩
 bs:=I.bs
 bsz:=vF I.ok.bsz I.sz
 noex:=λb o e hb=>by
  rcases(f b hb).2.2.2.1 with z|z
  .exact I.ok.noex b o e z
  .exact absurd (w6 (wI e) (vF I.ok.bsz z)) (ve _)
 exfs:=λb hb hs=>by
  rcases wW.mp (I.stkSub b hs)with z|z
  .exact (f b hb).2.1 z
  .exact (f b hb).2.2.1 z
 funs:=I.stack
 frf:=I.stkFree
 tab:=λc T z=>let ⟨ps,e⟩:=I.ok.tab c T z;let ⟨m,e'⟩:=I.base.tbls _ _ e;⟨_,e'⟩
end
section
variable{X:Cx}{pos:Pos}
theorem qfo{tg elt iter:Expr}{ifs:010}{sc:Scope}{J:It}{fp:03}{it:Addr}{tn:Nat->Heap->Prop}{g:024}{mt:022}{me:007}{ds:04}{gu:Sr->Prop}{B:Around}(c:X.xe=λ_ _=>False)(hc:017)(d:X.ex=fp)(f:∀p∈X.pn,p.1∉fp)(j:X.A=B.over (.compLoop (.GeneratorExp elt [⟨tg,iter,ifs,0⟩] sc pos) 0 (.ref it) .none X.env) [])(h:X.env.scope.isCoroutine=false)(T':Turn X.prog X.w X.K tg J fp it tn)(l:PG X tg (TGt g))(n:PTl X ifs (TB mt))(o:PE X elt (T me))(ρ:En)(S:Sr):∀k,Pw X J tn fp ds gu 006 B g mt me k (.fresh (.compStart (.GeneratorExp elt [⟨tg,iter,ifs,0⟩] sc pos) 0 (.ref it) .none X.env)) 0 ρ S
 |0=>trivial
 |k+1=>by
  intro pins ι H s U hb;have a:=qgB c hc d f j h T' l n o k _ 0 ρ S pins ι H ι H s rfl U 019 hb;have i:=U.at';show Sg _ B (Pz X J tn fp ds gu _ B g mt me k _ pins ι H) _ ((compStart (.GeneratorExp elt [⟨tg,iter,ifs,0⟩] sc pos) 0 (.ref it) .none X.env).onRaise (leaving X.env)) [] s;unfold compStart;rw[Sem.onRaise_eq_wrap];refine yx (m:=ask) (wpAny_askSetting ?_);split
  .exact yT rfl a
  .refine yx (ux ?_)
   first
    |exact yx (vy (yx (T'.self _ 0 s _ _ i (yT rfl a))))
    | (show Sg _ B _ _ ((standAt iter.pos >>= _).wrap _ _ _ _) [] s
       exact yx (vy (yx (T'.self _ 0 s _ _ i (yT rfl a)))))
structure BlkG (X:Cx) (sc:Scope) (N':014) (tg iter:Expr) (ifs:010) (elt:Expr) (pos:Pos) (g:024) (mt:022) (me:007):Prop where
 rt:∀cl C code fp it o s H,PG (genCx X sc cl C code N' fp (.GeneratorExp elt [⟨tg,iter,ifs,0⟩] sc pos) it o s H) tg (TGt g)
 ri:∀cl C code fp it o s H,PTl (genCx X sc cl C code N' fp (.GeneratorExp elt [⟨tg,iter,ifs,0⟩] sc pos) it o s H) ifs (TB mt)
 re:∀cl C code fp it o s H,PE (genCx X sc cl C code N' fp (.GeneratorExp elt [⟨tg,iter,ifs,0⟩] sc pos) it o s H) elt (T me)
noncomputable def GH(X:Cx)(pins:011)(l:St)(ds:04)(gu:Sr->Prop)(g:024)(mt:022)(me:007)(a:Addr)(ρ:En)(S:Sr)(ι:03)(H:Hp)(s:09):Prop :=
 ∃sc cl C code N' fp ge it o d j J tn,(∀h:Heap,h.get? a=some o->h.IsGen a d.gens.size)/\(∀k,Cs (genCx X sc cl C code N' fp ge it (a,o) d j) J tn fp ds gu X.A.in4.in1 g mt me d.gens.size k 0 ρ S ι H [] s)/\(∀b∈fp,b<s.heap.objs.size) /\
  (∀i h h',tn i h->(∀b∈fp,∀o,h.get? b=some o->h'.get? b=some o)->tn i h') /\
  ∀c f H' z,Inv (genCx X sc cl C code N' fp ge it (a,o) d j) c f H' (z.setGen d.gens.size .running)->GK d.gens z.gens->Inv X pins l H' z
theorem qcy{tg elt iter:Expr}{ifs:010}{sc:Scope}{fr:List Nat}{xs ts:014}{mi:En->Sr->Res (List D×(Sr->Prop))}{g:024}{mt:022}{me:007}{c T:Addr}(hc:017)(Q:X.A.depth<recursionLimit)(hi:PI X tg iter (TIg mi))(hs:∀x,genFold iter X.env x=pure x)(C':CSc X sc fr xs ts)(hz:sc.names.lookup (".0":Str)=some NameKind.local)(a2:sc.isCoroutine=false)(U:X.env.code=.ref c)(a3:codeTab X.K c T=true)(B:BlkG X sc (xs++ts) tg iter ifs elt pos g mt me){pins:011}{s:09}{N:St}{H:Hp}{ι:03}{S:Sr}{ρ:En}(I:Inv X pins N H s)(er:EnR ι H ρ N)(st:Sto ι H S){ds:04}{gu:Sr->Prop}{S1:Sr}(hm:mi ρ S=.ok (ds,gu) S1):
  wpAny 006 X.A (eval (.GeneratorExp elt [⟨tg,iter,ifs,0⟩] sc pos) X.env) (λv s'=>∃a O H',v=.ref a/\Stp ι H O H'/\GH X pins N ds gu g mt me a (frE ρ fr ts.length) S1 O H' s') X.xe s:=by
 obtain⟨cl,CL⟩:=qaj (X:=X) (sc:=sc) λx hx hf=>I.ok.has x.1 (C'.frees x hx hf)
 refine wpAny_GeneratorExp_make a2 CL.eq C'.nocell hz C'.kind Q ?_ hs;refine thn (hi pins s N H (λJ H2=>∃C,Stp ι H C H2/\Sto C H2 S1/\ItG C H2 J ds gu) I ⟨ι,S,ρ,er,st,?_⟩) λxv s1 P=>thn P λal s2 E=>?_
 .rw [hm];exact λO H' J q a8 ok=>⟨O,q,a8,ok⟩
 obtain⟨it,fp,tn,J,H2,e,I2,T',t2,f2,C,q2,a9,aa⟩:=E;subst e;refine⟨I2.nolimit,thn (qgD I2 U a3) λcode d ⟨H3,L,eg,W,ab,Y⟩=>qiQ L ?_⟩;intro m ac a4;have a5:∀b∈fp,∃o,s2.heap.get? b=some o/\H2 b=none:=λb hb=>by
  obtain⟨o,eo,_⟩:=T'.obj _ _ t2 b hb;exact⟨o,eo,(f2 b hb).1⟩
 have f3:∀b∈fp,FpOk X pins H3 b:=λb hb=>by
  obtain⟨o,e1,e2⟩:=a5 b hb;exact⟨(Y b o e1 e2).2,(f2 b hb).2⟩
 have l3:∀b∈fp,b<d.heap.objs.size:=λb hb=>by
  obtain⟨o,e1,e2⟩:=a5 b hb;exact wI (Y b o e1 e2).1
 have hsz:m.objs.size=d.heap.objs.size+1:=by rw[a4.1,vp]
 have f:∀(u:Obj) b o,d.heap.get? b=some o->(m.push u).get? b=some o:=λu b o e=>wB _ (a4.extBut b o (wg (wI e)) (wB _ e))
 generalize Z:({cls:=.type "generator",data:=.fields #[.int d.gens.size 0,.str "<genexpr>" (d.toks+1),.str (X.env.qual++"<genexpr>") (d.toks+1+1)]}:Obj)=ob;have a0:H3 m.objs.size=none:=L.hok.fresh (by rw[hsz];lia);have ad:=qgE (code:=code) (N':=xs++ts) (tg:=tg) (elt:=elt) (iter:=iter) (ifs:=ifs) (pos:=pos) (it:=it) (o:=(m.objs.size,ob)) L C'.kind C'.nocell CL f3 l3;have ae:(m.push ob).Ns d.heap.objs.size (λy=>if y=".0" then some (.ref it)else none):=ac.push _;have ek:∀n,(d.gens.push (GenState.fresh n)).setIfInBounds d.gens.size .running=d.gens.push .running:=λn=>by
  apply Array.ext
  .simp
  .intro j P E
   by_cases q:j=d.gens.size
   .subst q;simp
   .have:j<d.gens.size:=by simp at E;lia
    rw[xH 030,wT (Ne.symm q),Array.getElem_push_lt this,Array.getElem_push_lt this]
 have ak:∀b:Addr,(m.objs.size)≠b\/b=m.objs.size:=λb=>by
  by_cases q:b=m.objs.size
  .exact .inr q
  .exact .inl (Ne.symm q)
 have a6:(m.push ob).get? m.objs.size=some ob:=by subst Z;exact wJ _ rfl
 have F:=C'.frs;have a7:∀(gg:Array GenState) (tk:Nat),gg=d.gens.push .running->Inv (genCx X sc cl d.heap.objs.size code (xs++ts) fp (.GeneratorExp elt [⟨tg,iter,ifs,0⟩] sc pos) it (m.objs.size,ob) d H3) [] (frS N fr ts.length) H3 {d with heap:=m.push ob,toks:=tk,gens:=gg}:=by
  intro gg tk af;refine⟨ad,rfl,?_,Un.kept (f ob),⟨_,ae,λi x v P E h3=>?_⟩,λx M e=>?_,L.hok.fresh (wH _),λx M e=>L.freeC x M (CL.sub x M e),λp hp=>?_,L.hok.kept (f ob),?_⟩
  .subst af
   exact GK.refl (AllBare.push L.bare.bare rfl)
  .have P:(xs++ts)[i]?=some x:=P
   have E:(frS N fr ts.length)[i]?=some (some v):=E;unfold frS at E;by_cases hi:i<fr.length
   .rw [wL 042,wk,wC hi]at E
    rw[wL (by rw[<-F.len];exact hi)]at P;simp only[wn,Option.some.injEq]at E;have hN:=F.at' i fr[i] x (wC hi) P;have ag:N[fr[i]]?=some (some v):=by
     cases z:N[fr[i]]? with
     |none=>rw[z]at E;cases E
     |some o=>rw[z]at E;simp at E;rw[E]
    obtain⟨kf,ko⟩:=F.kd x (wq P);obtain⟨m0,am,ah⟩:=L.loc;obtain⟨u,r,l⟩:=ah fr[i] x v hN ag (.inr ko);refine⟨u,r,.inr ?_⟩;have ai:∃M,X.env.cells.lookup x=some M/\d.heap.IsCell M (some u):=by
     rcases l with ⟨z,_⟩|⟨_,M,e1,e2⟩
     .rcases ko with q|q <;> (rw[z]at q;cases q)
     .exact ⟨M,e1,e2⟩
    obtain⟨M,e1,o,e2,e3⟩:=ai;obtain⟨c',e4⟩:=CL.all x kf;have e5:=CL.sub x c' e4;rw[e1]at e5;cases e5;exact⟨.inr kf,M,e4,o,f ob _ _ e2,e3⟩
   .rw [wK 042,vC]at E
    split at E <;> cases E
  .obtain ⟨v,o,e1,e2⟩:=L.cell x M (CL.sub x M e)
   exact⟨v,o,f ob _ _ e1,e2⟩
  .have a1:p=(m.objs.size,ob):=by
    have:p∈[(m.objs.size,ob)]++([]:List (Addr×Obj)):=hp;simpa using this
   subst a1;refine⟨a6,a0,(show m.objs.size≠d.heap.objs.size by lia),λz=>?_,λv=>?_⟩
   .have z':m.objs.size∈frs X.stack:=z
    rcases wW.mp (L.stkSub _ z')with q|q
    .have:=L.lt
     rw[<-q,hsz]at this;exact absurd this (Nat.not_lt.mpr (Nat.le_succ _))
    .exact absurd q (L.nofs 00)
   .show ob.data≠_
    rw[<-Z];intro z;cases z
  .show (frS N fr ts.length).length=(xs++ts).length
   simp[frS,F.len]
 refine⟨m.objs.size,C,H3,rfl,q2.trans (W C),sc,cl,d.heap.objs.size,code,xs++ts,fp,.GeneratorExp elt [⟨tg,iter,ifs,0⟩] sc pos,it,ob,d,H3,J,tn,λh e=>?_,λk=>⟨?_,_,Array.getElem?_push_size ..,rfl,?_⟩,λb hb=>?_,T'.keep,λaj an H' z J' gk=>?_⟩
 .rw [<-Z]at e
  exact⟨_,_,_,e,rfl,rfl,rfl⟩
 .refine ⟨⟨frS N fr ts.length,?_,(qeh er fr ts.length).mono (q2.trans (W C))⟩,ab _ _ a9,T'.keep _ _ _ t2 λb hb o eo=>f ob b o (Y b o eo (f2 b hb).1).1,wr _,λb hb=>(f3 b hb).1,aa.mono (W C),λp hp=>absurd hp 07⟩
  exact a7 _ _ (ek _)
 .exact qfo (X:=genCx X sc cl d.heap.objs.size code (xs++ts) fp (.GeneratorExp elt [⟨tg,iter,ifs,0⟩] sc pos) it (m.objs.size,ob) d H3) rfl hc rfl (λp hp hb=>by
   have a1:p=(m.objs.size,ob):=by
    have:p∈[(m.objs.size,ob)]:=hp;simpa using this
   subst a1;have:=l3 _ hb;have e:m.objs.size<d.heap.objs.size:=this;lia) rfl a2 T' (B.rt _ _ _ _ _ _ _ _) (B.ri _ _ _ _ _ _ _ _) (B.re _ _ _ _ _ _ _ _) _ _ k
 .have:=l3 b hb
  show b<(m.push ob).objs.size;rw[vp];exact w6 (l3 b hb) 00
 .have ba:Un (frs X.stack) fp H3 H' d.heap z.heap:=J'.base
  exact L.call' (ch:=fp) J'.os ba J'.hok gk λb hb=>⟨(f3 b hb).2.2.2.1,(f3 b hb).2.1,(f3 b hb).2.2.2.2.1,(f3 b hb).2.2.2.2.2⟩
end
section
variable{X:Cx}{pos:Pos}
theorem qgF{M:Model}{A:Around}{a:Type}{t:Sem a}{Q:a->Shared->Prop}{E:015}{s:09}(h:wpAny M A.in4 t Q E s):wpAny M A.in1 t Q E s:=wpAny_of_in1 (wpAny_of_in1 (wpAny_of_in1 h))
section
variable{sc:Scope}{cl:List (Str×Addr)}{C:Addr}{code:Value}{N':List Str}{fp:List Addr}{ge:Expr}{it a:Addr}{o:Obj}{s4:Shared}{H4:Hp}{J:It}{tn:Nat->Heap->Prop}{ds:List D}{gu:Sr->Prop}{g:D->En->Sr->Res En}{mt:En->Sr->Res Bool}{me:En->Sr->Res D}
theorem qgG{c:Type}{step:c->D->Option (c ⊕ D)}{fin:c->Option D}{i:Nat}{ρ:En}{b:c}{S f:Sr}{d:D}(h:genLoopG gu g mt me step fin (ds.drop i) ρ b S=.ok d f):gnx gu g mt me i (ds.drop i) ρ S≠.bad:=λz=>by
 have q:=yU h;rw[z]at q;cases q
theorem qiR{R:Result->Shared->Prop}(O:X.A.handled=none)(hd:X.A.depth<recursionLimit)(P:∀h:Heap,h.get? a=some o->h.IsGen a s4.gens.size):∀(k i:Nat) (ρ:En) (b:D) (S:Sr) (ι:03) (H:Hp) (s:09) {d:D} {l:Sr},ds.length<k+i ->
  Cs (genCx X sc cl C code N' fp ge it (a,o) s4 H4) J tn fp ds gu X.A.in4.in1 g mt me s4.gens.size k i ρ S ι H [] s->genLoopG gu g mt me (stepG .all) (finG .all) (ds.drop i) ρ b S=.ok d l ->
  (∀j f H' z c,d=.bl c->Inv (genCx X sc cl C code N' fp ge it (a,o) s4 H4) [] j H' (z.setGen s4.gens.size .running)->GK s4.gens z.gens->Stp ι H f H'->Sto f H' l->R (.ok (.ret (.bool c))) z) ->
  codeAny 006 X.A (.builtin "all.loop" ⟨[.ref a],[]⟩) R s:=by
 intro k;induction k with
 |zero =>
  intro i ρ b S ι H s d l Q r _ _;have:=r.sus.le;lia
 |succ k U =>
  intro i ρ b S ι H s d l Q r e x;refine vc F.entry_all_loop ?_;rw[vJ F.plain_all_loop];refine wA (m:=pyNext (.ref a)) (qgF (qek (X:=genCx X sc cl C code N' fp ge it (a,o) s4 H4) (A:=X.A.in4) O hd wR P rfl rfl r (qgG e) (λS2 f H' j z n p B q st=>?_) λW ρ' v S2 f H' y u z n q Y Z N=>?_))
  .have q2:=yU e
   rw[n]at q2;cases q2;exact wA (ux (wD (x j f H' z true rfl p B q st)))
  .have q2:=yU e
   have hi:=qaB _ _ _ _ n;rw[n]at q2;simp only[gen1]at q2;have hv:∃c,v=.bl c:=by
    cases v with
    |bl c=>exact⟨c,rfl⟩
    |_=>simp only[stepG]at q2;cases q2
   obtain⟨c,rfl⟩:=hv;cases (show y=_ from Y);cases (show u=Value.bool c from Z);refine wA (vQ (vl (wA (wpAny_letGo ?_))));cases c with
   |true =>
    simp only[stepG]at q2;rw[wN rfl];exact wD ⟨uR F.plain_all_loop _,U W ρ' _ S2 f H' z 00 N q2 λE I H2 z2 c ec I2 B s2 K=>x E I H2 z2 c ec I2 B (q.trans s2) K⟩
   |false =>
    simp only[stepG]at q2;cases q2;rw[wT 01];obtain⟨⟨⟨L,p,a0⟩,M,_⟩,gs,eg,bg,_⟩:=N;exact wA (ux (wD (x L f H' z false rfl p (GK.done p.bare eg bg) q M)))
end
end
section
variable{X:Cx}{J:It}{tn:Nat->Heap->Prop}{fp:List Addr}{ds:List D}{gu:Sr->Prop}{B:Around}{g:D->En->Sr->Res En}{mt:En->Sr->Res Bool}{me:En->Sr->Res D}{n k i:Nat}{ρ:En}{S:Sr}{ι:List Addr}{H:Hp}{s:Shared}
theorem qiS(C:Cs X J tn fp ds gu B g mt me n k i ρ S ι H [] s)(tk:∀i h h',tn i h->(∀b∈fp,∀o,h.get? b=some o->h'.get? b=some o)->tn i h')(c:∀b∈fp,b<s.heap.objs.size){u:Obj}(d:(s.heap.push u).get? s.heap.objs.size=some u)(hc:∀v,u.data≠.cell v){t:Nat}:
  Cs X J tn fp ds gu B g mt me n k i ρ S ι H [(s.heap.objs.size,u)] {s with heap:=s.heap.push u,toks:=t}:=by
 obtain⟨⟨⟨f,I,j⟩,st,at',le,fz,ok,pf⟩,w⟩:=C;refine⟨⟨⟨f,?_,j⟩,st,tk _ _ _ at' λb _ o e=>wB _ e,le,fz,ok,λp a hb=>?_⟩,w⟩
 .have l:=I.kept (h':=s.heap.push u) (t':=t) λb o e=>wB _ e
  refine l.pins_of λp a=>?_
  obtain rfl:=wV.mp a;exact⟨d,I.hok.fresh (wH _),vj I.lt,I.nofs (wH _),hc⟩
 .obtain rfl:=wV.mp a
  exact absurd (c _ hb) (ve _)
theorem qel{p:Addr}{u f:Obj}{h':Heap}{t:Nat}(C:Cs X J tn fp ds gu B g mt me n k i ρ S ι H [(p,u)] s)(tk:∀i h h',tn i h->(∀b∈fp,∀o,h.get? b=some o->h'.get? b=some o)->tn i h')(hs:X.s₀.heap.objs.size<=p)(hn:∀q∈X.pn,q.1≠p)(j:∀b o,b≠p->s.heap.get? b=some o->h'.get? b=some o)(A:h'.get? p=some f)(hc:∀v,f.data≠.cell v):Cs X J tn fp ds gu B g mt me n k i ρ S ι H [(p,f)] {s with heap:=h',toks:=t}:=by
 obtain⟨⟨⟨l,I,E⟩,st,at',le,fz,ok,pf⟩,w⟩:=C;obtain⟨e1,e2,m,F,K⟩:=I.pin (p,u) (w9 _ (wV.mpr rfl));have np:p∉fp:=pf (p,u) (wV.mpr rfl);refine⟨⟨⟨l,?_,E⟩,st,tk _ _ _ at' λb hb o e=>j b o (λz=>np (z ▸ hb)) e,le,fz,ok,λq a hb=>?_⟩,w⟩
 .have r:Inv X [] l H (s.setGen n .running):=I.unpinned (pins:=[]) (pl:=[(p,u)])
  have L:=r.turned (h':=h') (t':=t) (it:=p) j e2 m (.inr hs) (λx c M z=>by
   obtain⟨v,o,y,d⟩:=r.cell x c M;rw[z,e1]at y;cases y;exact K v d) λq a=>hn q (by simpa using a)
  refine L.pins_of λq a=>?_
  obtain rfl:=wV.mp a;exact⟨A,e2,m,F,hc⟩
 .obtain rfl:=wV.mp a
  exact np hb
end
noncomputable def mGenG(w:GW)(fr:List Nat)(nt:Nat)(mi:En->Sr->Res (List D×(Sr->Prop)))(g:024)(mt:022)(me:007):En->Sr->Res D:=λρ S=>(mi ρ S).bind λp S1 =>
 genLoopG p.2 g mt me (stepG w) (finG w) p.1 (frE ρ fr nt) (startG w) S1
noncomputable def mGen(w:GW)(fr:List Nat)(nt:Nat)(mi:038)(g:024)(mt:022)(me:007):En->Sr->Res D:=λρ S=>(mi ρ S).bind λds S1 =>
 genLoop g mt me (stepG w) (finG w) ds (frE ρ fr nt) (startG w) S1
def qgH{w:GW}{fr:List Nat}{nt:Nat}{mi:038}{g:024}{mt:022}{me:007}:mGenG w fr nt (λρ S=>(mi ρ S).bind λds S1=>.ok (ds,λ_=>True) S1) g mt me=mGen w fr nt mi g mt me:=by
 funext ρ S;unfold mGenG mGen;dsimp only;cases mi ρ S with
 |ok ds S1=>exact yp _ _ _ _
 |err=>rfl
 |no=>rfl
section
variable{X:Cx}{pos gp:Pos}
def GCall(X:Cx)(w:GW)(f:Value):Prop:=∀(pins:011) (s:09) (c:St) (H:Hp) (ι:03) (a:Addr) (ds:04) (gu:Sr->Prop) (g:024) (mt:022) (me:007) (ρ:En) (S:Sr) (Q:VK),
 GH X pins c ds gu g mt me a ρ S ι H s->Pst Den (genLoopG gu g mt me (stepG w) (finG w) ds ρ (startG w) S) ι H Q->wpAny 006 X.A (call f [.ref a]) (EP X pins c Q) X.xe s
theorem qem{w:GW}{ds:04}{gu:Sr->Prop}{g:024}{mt:022}{me:007}{ρ:En}{b:D}{S:Sr}{ι:03}{H:Hp}{Q:VK}(h:Pst Den (genLoopG gu g mt me (stepG w) (finG w) ds ρ b S) ι H Q):
  ∃d c,genLoopG gu g mt me (stepG w) (finG w) (ds.drop 0) ρ b S=.ok d c/\∀y a H',Stp ι H a H'->Sto a H' c->Den a H' d y->Q y H':=by
 rw[ug];cases z:genLoopG gu g mt me (stepG w) (finG w) ds ρ b S with
 |no=>rw[z]at h;exact h.elim
 |err=>rw[z]at h;exact h.elim
 |ok d c=>rw[z]at h;exact⟨d,c,rfl,h⟩
theorem qk6(hc:017)(hd:X.A.depth<recursionLimit)(hok:X.calm=true->X.A.handled=none):GCall X .all (.builtin "all"):=by
 intro pins s v H ι a ds gu g mt me ρ S Q n h;obtain⟨sc,cl,C,code,N',fp,ge,it,o,w,x,J,tn,l,cs,y,tk,out⟩:=n;obtain⟨d,B,e,q⟩:=qem h;have ha:s.heap.get? a=some o:=by
  obtain⟨f,I,_⟩:=(cs 0).sus.inv;exact(I.pin (a,o) (wu _ wR)).1
 refine call_function_tree F.kind_all F.plain_all F.entry_all (F.args_all1 _) ?_;unfold Builtin.«all»;refine wA (m:=oneArg "all" _) (wD (wA (wpAny_pyIter_gen (l _ ha) (wD ⟨uR F.plain_all_loop _,?_⟩))));exact qiR (hok hc) hd l (ds.length+1) 0 ρ _ S ι H s 00 (cs _) e λf i H' z c p r u s1 j=>⟨.bl c,H',out _ f H' z r u,rfl,q _ i H' s1 j (by subst p;rfl)⟩
theorem qk7{w:GW}{id:String}{f:Str}{p:Pos}{tg elt iter:Expr}{ifs:010}{sc:Scope}{fr:List Nat}{xs ts:014}{mi:En->Sr->Res (List D×(Sr->Prop))}{g:024}{mt:022}{me:007}{c T':Addr}(hc:017)(d:X.A.depth<recursionLimit)(r:GCall X w (.builtin id))(l:Gl X f)(hm:X.mg f=none)(u:bootBuiltins f=some (.builtin id))(hn:f≠"__name__")(m:dB f)(hi:PI X tg iter (TIg mi))(hs:∀x,genFold iter X.env x=pure x)(C':CSc X sc fr xs ts)(y:sc.names.lookup (".0":Str)=some NameKind.local)(n:sc.isCoroutine=false)(i:X.env.code=.ref c)(j:codeTab X.K c T'=true)(B:BlkG X sc (xs++ts) tg iter ifs elt gp g mt me):
  PE X (.Call (.Name f p) [.GeneratorExp elt [⟨tg,iter,ifs,0⟩] sc gp] [] pos) (T (mGenG w fr ts.length mi g mt me)):=by
 intro pins s C H Q I hw;refine uq (yM I l hm u ?_ hn m);obtain⟨ι,S,ρ,E,st,h⟩:=hw;dsimp only[mGenG]at h;cases z:mi ρ S with
 |no=>rw[z]at h;exact h.elim
 |err=>rw[z]at h;exact h.elim
 |ok F S1 =>
  obtain⟨ds,gu⟩:=F;rw[z,Res.bind_ok]at h;refine PyProof.Rows.callWith_builtin1 (e:=.GeneratorExp elt [⟨tg,iter,ifs,0⟩] sc gp) (rest:=[]) ?_ rfl rfl;refine uM (thn (qcy hc d hi hs C' y n i j B I E st z) λv s' ⟨a,o,H',ev,q,J⟩=>?_);subst ev;exact uz (r pins s' C H' o a ds gu g mt me _ S1 Q J (Pst.from h q))
theorem qmQ{w:GW}{id:String}{f:Str}{p:Pos}{tg elt iter:Expr}{ifs:010}{sc:Scope}{fr:List Nat}{xs ts:014}{mi:038}{g:024}{mt:022}{me:007}{c T':Addr}(hc:017)(a:X.A.depth<recursionLimit)(m:GCall X w (.builtin id))(i:Gl X f)(hm:X.mg f=none)(n:bootBuiltins f=some (.builtin id))(hn:f≠"__name__")(j:dB f)(hi:PI X tg iter (TIt mi))(hs:∀x,genFold iter X.env x=pure x)(C':CSc X sc fr xs ts)(o:sc.names.lookup (".0":Str)=some NameKind.local)(l:sc.isCoroutine=false)(d:X.env.code=.ref c)(h:codeTab X.K c T'=true)(B:BlkG X sc (xs++ts) tg iter ifs elt gp g mt me):
  PE X (.Call (.Name f p) [.GeneratorExp elt [⟨tg,iter,ifs,0⟩] sc gp] [] pos) (T (mGen w fr ts.length mi g mt me)):=by
 rw[<-qgH];exact qk7 hc a m i hm n hn j (pi_g hi) hs C' o l d h B
end
def qcz{a b c:Int}(hc:0<c):Builtin.Range.rangeSize a b c=(((b-a+c-1) / c).toNat:Int):=by
 unfold Builtin.Range.rangeSize;rw[wN hc];by_cases h:a<b
 .rw [wN h]
  have e:b-a+c-1=(b-a-1)+c:=by omega
  have q:(b-a-1+c) / c=(b-a-1) / c+1:=Int.add_ediv_of_dvd_right (Int.dvd_refl c) |>.trans (by rw[Int.ediv_self (by omega)]);rw[e,q];have:=Int.ediv_nonneg (a:=b-a-1) (b:=c) (by omega) (by omega);omega
 .rw [wT h]
  have:(b-a+c-1) / c<=0:=by
   have f:b-a+c-1<=c-1:=by omega
   have d:=Int.ediv_le_ediv hc f;have i:(c-1) / c=0:=Int.ediv_eq_zero_of_lt (by omega) (by omega);rw[i]at d;exact d
  omega
def qfp{a b c:Int}(f:-(2^62)<=a)(i:a<2^62)(j:-(2^62)<=b)(o:b<2^62)(d:0<c)(p:c<2^62):Builtin.Range.small a b c=true:=by
 have l:=qcz (a:=a) (b:=b) d;have m:(b-a+c-1) / c<=2^63-1:=by
  by_cases h:b-a+c-1<0
  .have:=Int.ediv_neg_of_neg_of_pos h d
   omega
  .have h7:(b-a+c-1) / c<=b-a+c-1-(c-1)\/b-a<=0:=by
    by_cases n:b-a<=0
    .exact .inr n
    .left
     have e:b-a+c-1=(b-a-1)+c:=by omega
     have q:(b-a-1+c) / c=(b-a-1) / c+1:=Int.add_ediv_of_dvd_right (Int.dvd_refl c) |>.trans (by rw[Int.ediv_self (by omega)]);rw[e,q];have:=Int.ediv_le_self c (a:=b-a-1) (by omega);omega
   rcases h7 with z|z
   .omega
   .have f:b-a+c-1<=c-1:=by omega
    have i:=Int.ediv_le_ediv d f;have j:(c-1) / c=0:=Int.ediv_eq_zero_of_lt (by omega) (by omega);rw[j]at i;omega
 unfold Builtin.Range.small;rw[l];simp only[Builtin.Range.rangeFitsLong,wS,Bool.or_eq_true,vH,uC];rw[wN d];simp only[wS,vH];omega
def noPy{x c:Int}(a:0<c)(d:c<2^63):Builtin.divisionGoesByPylong x c=false:=by
 refine PyProof.noPylong_of_log2 ?_;have h:c.natAbs.log2<63:=(Nat.log2_lt (by omega)).mpr (by omega);omega
def qcA:∀{xs:List V} {us:005},xs.length=us.length->(∀(i:Nat) (x:V) (u:Value),xs[i]?=some x->us[i]?=some u->RelV x u)->Vals xs us
 |[],[],_,_=>.nil
 |[],_::_,h,_=>by cases h
 |_::_,[],h,_=>by cases h
 |x::xs,u::us,h,k=>.cons (k 0 x u rfl rfl) (qcA (by simpa using h) λi y w e1 e2=>k (i+1) y w (by simpa using e1) (by simpa using e2))
section
variable{X:Cx}{pos:Pos}{tg:Expr}
noncomputable def RngAt(X:Cx)(pins:011)(d:St)(ds:04)(H:Hp)(v:Value)(s:09):Prop :=
 ∃a b c t u w p,v=.ref p/\IsRange s.heap p a b c t u w/\Inv X pins d H s/\Builtin.Range.small a b c=true/\Builtin.Range.rangeSize a b c=ds.length/\ds=(List.range ds.length).map λ(k:Nat)=>D.int (a+k*c)
theorem qgI{pins:011}{f:St}{H:Hp}{s:09}{ι:03}{l ds:04}{vs:List V}{us:005}{E:015}(I:Inv X pins f H s)(r:Vals vs us)(hd:Dens ι H l vs)(e:rngD l=some ds):
  wpAny 006 X.A (call (.type "range") us) (RngAt X pins f ds H) E s:=by
 have fin:∀{a b c:Int} {t u w:Tok} {tk:Nat},-(2^62)<=a->a<2^62->-(2^62)<=b->b<2^62->0<c->c<2^62->ds=rngL a b c ->
   RngAt X pins f ds H 043 {s with heap:=s.heap.push {cls:=.type "range",data:=.fields #[.int a t,.int b u,.int c w]},toks:=tk}:=by
  intro a b c t u w tk v B C F m J n;have p:ds.length=((b-a+c-1) / c).toNat:=by rw[n];unfold rngL;simp
  refine⟨a,b,c,t,u,w,_,rfl,IsRange.new ..,I.kept λb o e=>wB _ e,qfp v B C F m J,?_,?_⟩
  .rw [qcz m,p]
  .rw [p,n]
   unfold rngL;exact vK λk _=>by rw[Int.mul_comm]
 match l,e,hd with
 |[.int b],e,hd =>
  obtain⟨x,rfl,d⟩:=dens1 hd;cases (show x=_ from d);obtain⟨u,rfl,q,rfl⟩:=vals1 r;simp only[rngD]at e;split at e
  .rename_i h
   cases e;exact call_range_1 (fin (by omega) (by omega) h.1 h.2 (by omega) (by omega) rfl)
  .cases e
 |[.int a,.int b],e,hd =>
  obtain⟨x,y,rfl,d,i⟩:=dens2 hd;cases (show x=_ from d);cases (show y=_ from i);obtain⟨u,w,rfl,⟨q,rfl⟩,K,rfl⟩:=vals2 r;simp only[rngD]at e;split at e
  .rename_i h
   cases e;exact call_range_2 (fin h.1 h.2.1 h.2.2.1 h.2.2.2 (by omega) (by omega) rfl)
  .cases e
 |[.int a,.int b,.int c],e,hd =>
  obtain⟨x,O,rfl,d,j⟩:=hd;obtain⟨y,z,rfl,i,L⟩:=dens2 j;cases (show x=_ from d);cases (show y=_ from i);cases (show z=_ from L);cases r with
  |cons M N =>
   obtain⟨u,w,rfl,⟨q,rfl⟩,K,rfl⟩:=vals2 N;obtain⟨P,rfl⟩:=M;simp only[rngD]at e;split at e
   .rename_i h
    cases e;exact call_range_3 (by omega) (fin h.1 h.2.1 h.2.2.1 h.2.2.2.1 h.2.2.2.2.1 h.2.2.2.2.2 rfl) (.inl (noPy (by omega) (by omega)))
   .cases e
theorem qgJ{a:Expr}{es:010}{p:Pos}{ms:038}(m:Gl X "range")(hm:X.mg "range"=none)(ha:PA X (a::es) (TL ms))(hs:sE X a es)(j:bT X es pos){pins:011}{i:St}{H:Hp}{s:09}{ι:03}{S S1:Sr}{ρ:En}{l ds:04}(I:Inv X pins i H s)(n:EnR ι H ρ i)(st:Sto ι H S)(z:ms ρ S=.ok l S1)(e:rngD l=some ds):
  wpAny 006 X.A (eval (.Call (.Name "range" p) (a::es) [] pos) X.env) (λv s'=>∃h H',Stp ι H h H'/\Sto h H' S1/\RngAt X pins i ds H' v s') X.xe s:=by
 refine Call_ (yM I m hm boot_range (uE (thn (ha pos pins s i H (λvs f=>∃c,Stp ι H c f/\Sto c f S1/\Dens c f l vs) I ⟨ι,S,ρ,n,st,?_⟩) λus s1 ⟨vs,f,o,q,c,q1,d,d1⟩=>?_) hs j))
 .rw [z];exact λvs c f q1 d d1=>⟨c,q1,d,d1⟩
 .exact thn (qgI o q d1 e) λv s2 q2=>⟨c,f,q1,d,q2⟩
noncomputable def ItS(lo c:Int)(n:Nat):It:=⟨λi _=>i<n,λi H x H'=>H'=H/\x=.int (lo+i*c),λi _=>n<=i⟩
theorem qfq{P:Program}{w:World}{K:009}(it:Addr)(lo c:Int)(n:Nat):Turn P w K tg (ItS lo c n) [it] it (λi h=>IsRangeIter h it (lo+(i:Nat)*c) ((n:Int)-(i:Nat)) c) where
 mem:=by simp
 obj:=λi h st b hb=>by
  obtain rfl:=wV.mp hb;exact⟨_,st,λv z=>by cases (show Data.fields _=Data.cell v from z)⟩
 keep:=λi h h' st k=>k it 07 _ st
 item:=by
  intro X f hw j hc i pins s x H E I d st l;subst f hw j;obtain⟨m,p,y,q,r,u⟩:=d it 07;refine(Walks.range (prog:=X.prog) (w:=X.w) (I.ok.hd hc) it lo c n).item i s _ _ l st λv h' tk A a B=>?_
  obtain⟨t,rfl⟩:=A;have C:Inv X pins x H {s with heap:=h',toks:=tk}:=I.turned (λb o hb e=>B b o (by simpa using hb) e) m p q r u;exact⟨_,rfl,qfV (s:={s with heap:=h',toks:=tk}) (n:="range_iterator") a rfl rfl 01 ⟨.int (lo+i*c),H,C,⟨t,rfl⟩,⟨rfl,rfl⟩,a,λb hb=>(d b hb).1⟩⟩
 done:=by
  intro X f hw j hc i pins s x H E I d st l;subst f hw j;obtain⟨m,p,y,q,r,u⟩:=d it 07;exact wpAny_pyNext_range_end (I.ok.hd hc) st (by have:n<=i:=l;omega) λh' F=>⟨rfl,I.turned (t':=s.toks) (λb o hb e=>F b o hb e) m p q r u⟩
 self:=λ_ _ _ _ _ st h=>wpAny_pyIter_rangeiter st h
theorem qk8{ι:03}{H:Hp}{lo c:Int}{n:Nat}:ItOk ι H (ItS lo c n) ((List.range n).map λ(k:Nat)=>D.int (lo+k*c)) where
 go:=λi d a H2 s e=>by
  rw[wk]at e;cases z:(List.range n)[i]? with
  |none=>rw[z]at e;cases e
  |some k =>
   rw[z]at e;cases e;obtain⟨f,h⟩:=wG.mp z;simp only[List.length_range]at f;simp only[List.getElem_range]at h;subst h;refine⟨f,λy H3 j=>?_⟩;obtain⟨rfl,rfl⟩:=j;exact⟨Stp.refl _ _,λ_ z=>⟨z,rfl⟩⟩
 stop:=λa H2 s=>by
  show n<=_;simp
theorem i_rng{a:Expr}{es:010}{p:Pos}{ms:038}(m:Gl X "range")(hm:X.mg "range"=none)(ha:PA X (a::es) (TL ms))(hs:sE X a es)(f:bT X es pos):
  PI X tg (.Call (.Name "range" p) (a::es) [] pos) (TIt λρ S=>(ms ρ S).bind λl S1=>ofO (rngD l) S1):=by
 intro pins s E H R I hw;obtain⟨ι,S,ρ,r,st,q⟩:=hw;dsimp only at q;cases z:ms ρ S with
 |no=>rw[z]at q;exact q.elim
 |err=>rw[z]at q;exact q.elim
 |ok l S1 =>
  rw[z,Res.bind_ok]at q;cases z2:rngD l with
  |none=>rw[z2]at q;exact q.elim
  |some ds =>
   rw[z2]at q;refine thn (qgJ m hm ha hs f I r st z z2) λv s1 ⟨d,h,q1,i,A⟩=>?_
   obtain⟨x,y,c,t,u,w,F,rfl,B,j,sm,sz,C⟩:=A;refine wpAny_pyIter_range B sm ?_;refine⟨s1.heap.objs.size,[s1.heap.objs.size],_,ItS x c ds.length,h,rfl,j.kept (t':=s1.toks) λb o e=>wB _ e,qfq _ x c ds.length,?_,λb hb=>?_,q d h _ q1 i (by rw[C];simpa using qk8 (ι:=d) (H:=h) (lo:=x) (c:=c) (n:=ds.length))⟩
   .show IsRangeIter _ _ (x+((0:Nat):Int)*c) ((ds.length:Int)-((0:Nat):Int)) c
    have e1:x+((0:Nat):Int)*c=x:=by simp
    have e2:(ds.length:Int)-((0:Nat):Int)=Builtin.Range.rangeSize x y c:=by rw[sz];simp
    rw[e1,e2];exact wJ _ rfl
   .obtain rfl:=wV.mp hb
    exact j.fpOk (wH _) (j.hok.fresh (wH _))
theorem qaC{a c:Int}:∀{d:028} {n:Nat},ItemsOf (λi v=>∃t,v=.int (a+i*c) t) d n->Vals ((List.range n).map λ(k:Nat)=>V.int (a+k*c)) d.toList:=by
 intro d n h;obtain⟨j,l⟩:=h;apply qcA
 .simp [j]
 .intro i x u e1 e2
  rw[wk]at e1;cases z:(List.range n)[i]? with
  |none=>rw[z]at e1;cases e1
  |some k =>
   rw[z]at e1;cases e1;obtain⟨m,f⟩:=wG.mp z;simp only[List.getElem_range]at f;subst f;obtain⟨t,rfl⟩:=l i u (by simpa using e2);exact⟨t,rfl⟩
end
section
variable{prog:Program}{w:World}{A:Around}{E:Value->Shared->Prop}{s:Shared}
theorem qgK{Q:List Value->Shared->Prop}{r:Addr}{a b c:Int}{t u v:Tok}{n:Nat}(p:A.handled=none)(q:IsRange s.heap r a b c t u v)(hs:Builtin.Range.small a b c=true)(hn:Builtin.Range.rangeSize a b c=n)(hl:n<=2^24)(x:∀(h':Heap) (tk:Nat) (d:028),(∀b o,s.heap.get? b=some o->h'.get? b=some o)->ItemsOf (λi v=>∃t,v=.int (a+i*c) t) d n->Q d.toList {s with heap:=h',toks:=tk}):wpAny 018 A (collect (.ref r)) Q E s:=by
 have f:∀R:Result->Shared->Prop,(∀(h':Heap) (tk:Nat) (d:028) (h:Nat),(∀b o,s.heap.get? b=some o->h'.get? b=some o)->h'.get? s.heap.objs.size=some {cls:=.type "list",dict:=none,data:=.seq d h,slots:=#[]}->ItemsOf (λi v=>∃t,v=.int (a+i*c) t) d n ->
   R (.ok (.ret 043)) {s with heap:=h',toks:=tk})->codeAny (model prog w) A (.builtin "proto.collect" ⟨[.ref r],[]⟩) R s:=by
  intro R y;refine vc xo ?_;rw[vJ xn];refine wA (m:=newList []) (wf (wD ⟨uR ua _,vc F.entry_list_iadd ?_⟩));rw[vJ ua];have B:(s.heap.push {cls:=.type "list",data:=.seq ([]:List Value).toArray}).get? s.heap.objs.size=some {cls:=.type "list",data:=.seq #[] 0}:=wJ _ rfl;exact wpAny_extend_range (R:=R) (s:={s with heap:=s.heap.push {cls:=.type "list",data:=.seq ([]:List Value).toArray}}) p (wB _ q) hs hn hl s.heap.objs.size 043 0 B λh' tk d h j l hi =>
   y h' tk d h (λb o e=>j b o (wg (wI e)) (wB _ e)) l hi
 unfold collect;refine wA (wpAny_runValue (f _ λh' tk d h j l hi=>?_));exact wA (m:=load s.heap.objs.size) (wpAny_load l (wD (x h' tk d j hi)))
theorem qiT{Q:015}{r:Addr}{a b c:Int}{t u v:Tok}{n:Nat}(l:A.handled=none)(j:IsRange s.heap r a b c t u v)(hs:Builtin.Range.small a b c=true)(hn:Builtin.Range.rangeSize a b c=n)(hl:n<=2^24)(p:∀(h':Heap) (tk:Nat) (d:028),(∀b o,s.heap.get? b=some o->h'.get? b=some o)->ItemsOf (λi v=>∃t,v=.int (a+i*c) t) d n->Q (.ref h'.objs.size) {s with heap:=h'.push {cls:=.type "tuple",data:=.seq d},toks:=tk}):
  wpAny 018 A (call (.type "tuple") [.ref r]) Q E s:=by
 have new:codeAny 018 A.in1 (.call (.builtin "tuple.__new__") ⟨[.type "tuple",.ref r],[]⟩) (wants (λobj f=>f.TypeIs obj "tuple"/\Q obj f) E) s:=by
  refine codeAny_of_tree (?_:wpAny _ A.in1.in1 (do checkBuiltinCall "tuple.__new__" ⟨[.type "tuple",.ref r],[]⟩;again (.builtin "tuple.__new__" ⟨[.type "tuple",.ref r],[]⟩)) _ _ s);refine wA (wpAny_of_eq (F.newCall_tuple_1 _) (wD ⟨uR xS _,vc F.entry_tuple_new ?_⟩));rw[vJ xS];have k1:=sub_tuple_self;have k2:=init_tuple_lookup;have k3:=madeHere_tuple;have q:s.TypeIs (.ref r) "range":=⟨_,j,rfl⟩;wp_walk using xI q,qgK (A:=A.in1.in1) l j hs hn hl;intro h' tk d x hi;refine wA (m:=Builtin.Tuple.tupleExact d.toList.toArray) ?_;unfold Builtin.Tuple.tupleExact;refine wf (wD ?_) (by
   have:d.toList.toArray.size<=sizeLine:=by rw[xD,hi.1];exact hl
   exact this)
  have e:d.toList.toArray=d:=xD ..;rw[e];exact⟨⟨_,wJ _ rfl,rfl⟩,p h' tk d x hi⟩
 refine callType_codes xA (F.typeCall_tuple_1 _) F.entry_object_init new λobj f h=>?_
 exact⟨h.1,F.args_object_init_2 obj _,object_init_meets xA.init.lookup xA.made 01 prog w A.in1 _ f ⟨h.1,rfl,h.2⟩⟩
end
section
variable{X:Cx}{pos:Pos}
noncomputable def mRng(k:Option Bool)(ms:038):En->Sr->Res D:=λρ S=>(ms ρ S).bind λl S1=>match rngD l with
 |some ds=>if ds.length<=1000000 then(match k with
  |some m=>newL m ds S1
  |none=>.ok (.t ds) S1)else .no
 |none=>.no
theorem qiU{ι:03}{H:Hp}{a c:Int}{n:Nat}:Dens ι H ((List.range n).map λ(k:Nat)=>D.int (a+k*c)) ((List.range n).map λ(k:Nat)=>V.int (a+k*c)):=by
 have:∀l:List Nat,Dens ι H (l.map λ(k:Nat)=>D.int (a+k*c)) (l.map λ(k:Nat)=>V.int (a+k*c)):=λl=>by
  induction l with
  |nil=>rfl
  |cons x r d=>exact⟨_,_,rfl,rfl,d⟩
 exact this _
theorem qmR{k:Option Bool}{f:Str}{ty:String}{a:Expr}{es:010}{Y P h:Pos}{ms:038}(C:(f=Str.ofString "list"/\ty="list"/\∃m,k=some m)\/(f=Str.ofString "tuple"/\ty="tuple"/\k=none))(hc:017)(Z:Gl X "range")(hm:X.mg "range"=none)(E:Gl X f)(F:X.mg f=none)(ha:PA X (a::es) (TL ms))(hs:sE X a es)(J:(backTo h (starEach es X.env)).any (·.1)=false):
  PE X (.Call (.Name f Y) [.Call (.Name "range" P) (a::es) [] h] [] pos) (T (mRng k ms)):=by
 intro pins s σ H Q I hw;have hb:bootBuiltins f=some (.type ty):=by
  rcases C with ⟨rfl,rfl,_⟩|⟨rfl,rfl,_⟩ <;> decide +kernel
 have hn:f≠"__name__":=by rcases C with ⟨rfl,rfl,_⟩|⟨rfl,rfl,_⟩ <;> decide
 have hd:(f == ("__debug__":Str))=false:=by rcases C with ⟨rfl,rfl,_⟩|⟨rfl,rfl,_⟩ <;> decide
 refine Call_ (yM I E F hb ?_ hn hd);obtain⟨ι,S,ρ,er,st,q⟩:=hw;dsimp only[mRng]at q;cases z:ms ρ S with
 |no=>rw[z]at q;exact q.elim
 |err=>rw[z]at q;exact q.elim
 |ok l S1 =>
  rw[z,Res.bind_ok]at q;cases z2:rngD l with
  |none=>simp only[z2]at q;exact q.elim
  |some ds =>
   simp only[z2]at q;by_cases i:ds.length<=1000000
   .rw [wN i]at q
    refine uE (e:=.Call (.Name "range" P) (a::es) [] h) (rest:=[]) ?_ rfl rfl;refine uM (thn (qgJ Z hm ha hs J I er st z z2) λv s1 ⟨p,r,q1,A,ra⟩=>uz ?_);obtain⟨x,y,c,t,u,w,pp,rfl,U,K,sm,sz,ed⟩:=ra;have L:r s1.heap.objs.size=none:=K.hok.fresh (wH _);have dd:Dens p r ds ((List.range ds.length).map λ(k:Nat)=>V.int (x+k*c)):=by
     have:=qiU (ι:=p) (H:=r) (a:=x) (c:=c) (n:=ds.length)
     rwa [<-ed]at this
    have d:ds.length<=2^24:=vF i 01;rcases C with ⟨rfl,rfl,e⟩|⟨rfl,rfl,e⟩
    .obtain ⟨m,rfl⟩:=e
     .refine call_list_range (I.ok.hd hc) U sm sz d λh' tk j c' M hS hi=>?_
      exact⟨.ref _,_,K.laid (o:=.l ((List.range ds.length).map λ(k:Nat)=>V.int (x+k*c))) (t':=tk) M (wH _) ⟨by simp;exact d,j.toList,c',qaC hi,by rw[hS]⟩,rfl,zy A dd (Pst.from q q1) _ L⟩
    .subst e
     .refine qiT (I.ok.hd hc) U sm sz d λh' tk j M hi=>?_
      have W:=K.kept (h':=h') (t':=tk) M;have B:r h'.objs.size=none:=W.hok.fresh (wH _);refine⟨.ref _,upd r h'.objs.size (.t _),W.laid (t':=tk) (λb o e=>wB _ e) (wH _) ⟨by simp;exact d,j.toList,qaC hi,⟨_,wJ _ rfl,rfl,0,by simp⟩,λo q=>by rw[wJ _ rfl]at q;cases q;rfl⟩,rfl,zG A dd ?_ _ B⟩;exact λv N H' s' O dv=>q v N H' (q1.trans s') O dv
   .rw [wT i]at q;exact q.elim
end
def SI(b:Bool)(h:Heap)(it l:Addr)(k:Nat):Prop:=match b with
 |true=>h.IsTupleIter it l k
 |false=>h.IsListIter it l k
def SQ(b:Bool)(h:Heap)(l:Addr)(xs:028):Prop:=match b with
 |true=>h.IsTuple l xs
 |false=>h.IsList l xs
def SI.at{b:Bool}{h h':Heap}{it l:Addr}{k:Nat}(x:SI b h it l k)(e:∀o,h.get? it=some o->h'.get? it=some o):SI b h' it l k:=by
 cases b with
 |true=>exact Heap.IsTupleIter.at x e
 |false=>exact Heap.IsListIter.at x e
def SQ.at{b:Bool}{h h':Heap}{l:Addr}{xs:028}(x:SQ b h l xs)(e:∀o,h.get? l=some o->h'.get? l=some o):SQ b h' l xs:=by
 cases b with
 |true=>exact Heap.IsTuple.at x e
 |false=>exact Heap.IsList.at x e
def SI.obj{b:Bool}{h:Heap}{it l:Addr}{k:Nat}(x:SI b h it l k):∃o,h.get? it=some o/\(∀v,o.data≠.cell v):=by
 cases b with
 |true=>obtain⟨o,e,_,d⟩:=x;exact⟨o,e,λv z=>by rw[d]at z;cases z⟩
 |false=>obtain⟨o,e,_,d⟩:=x;exact⟨o,e,λv z=>by rw[d]at z;cases z⟩
section
variable{prog:Program}{w:World}{A:Around}{E:Value->Shared->Prop}{s:Shared}
theorem qgL{it l:Addr}{i:Nat}{xs:028}{x:Value}{Q:015}(hi:s.heap.IsTupleIter it l i)(hl:s.heap.IsTuple l xs)(f:xs[i]?=some x)(h:∀h',h'.IsTupleIter it l (i+1)->Heap.SameBut it s.heap h'->Q x {s with heap:=h' }):wpAny 018 A (Builtin.SmallTypes.nextOf (.ref it)) Q E s:=by
 have c:=hi.typeIs;obtain⟨o,a,co,d⟩:=hi;obtain⟨u,eu,_,m,j⟩:=hl;unfold Builtin.SmallTypes.nextOf;refine wA (vA (name:=Str.ofString "__next__") c ud (vI ud c F.entry_tuple_iterator_next ?_ (F.args_tuple_iterator_next_1 _)));refine wA (m:=field (.ref it) 0) (vG a d (x:=.ref l) rfl (?_:wpAny _ _ (if(Value.ref l == Value.none)=true then _ else _) _ _ s));rw[wT (show ¬((Value.ref l == Value.none)=true)from wd)];refine wA (m:=field (.ref it) 1) (vG a d (x:=.int i 0) rfl ?_);refine wA (m:=seqItems? (.ref l)) (uW eu j ?_);simp only[xR,f];refine wA (uN a d 07 (wD ⟨x,rfl,wD (h _ ⟨_,vO _ a (u5 (vd d _)),(Obj.cls_mapFields ..).trans co,?_⟩ (Heap.SameBut.update ..))⟩));rw[vd d];simp[rawInt]
theorem qbM{it l:Addr}{i:Nat}{xs:028}{Q:015}(h:A.handled=none)(hi:s.heap.IsTupleIter it l i)(hl:s.heap.IsTuple l xs)(j:xs[i]?=none)(hE:∀h' e,Heap.ExtBut it s.heap h'->(∃o,h'.get? e=some o/\o.cls=.type "StopIteration")->E (.ref e) {s with heap:=h' }):wpAny 018 A (Builtin.SmallTypes.nextOf (.ref it)) Q E s:=by
 have f:=hi.typeIs;obtain⟨o,c,co,d⟩:=hi;obtain⟨u,eu,_,m,n⟩:=hl;unfold Builtin.SmallTypes.nextOf;refine wA (vA (name:=Str.ofString "__next__") f ud (vI ud f F.entry_tuple_iterator_next ?_ (F.args_tuple_iterator_next_1 _)));refine wA (m:=field (.ref it) 0) (vG c d (x:=.ref l) rfl (?_:wpAny _ _ (if(Value.ref l == Value.none)=true then _ else _) _ _ s));rw[wT (show ¬((Value.ref l == Value.none)=true)from wd)];refine wA (m:=field (.ref it) 1) (vG c d (x:=.int i 0) rfl ?_);refine wA (m:=seqItems? (.ref l)) (uW eu n ?_);simp only[xR,j];refine wA (ux (wA (uN c d 07 (?_:wpAny _ _ (newExc (.type "StopIteration") [] >>= _) _ _ _))));refine wA ?_;unfold newExc newTuple;refine wA (wf (wA (wpAny_of_eq (t:=firstArgMember _ _) (a:=Value.none) (by first|rfl|(simp only[firstArgMember];rfl)) (wf ?_ (by size_fits)))) (by size_fits));unfold raiseNew;refine wA (wpAny_handled ?_);rw[show A.in1.handled=none from h];exact wA (wD (wpAny_throw (hE _ _ (((Heap.SameBut.update ..).extBut.push _).push _) ⟨_,wJ _ rfl,rfl⟩)))
theorem draw{b:Bool}{it l:Addr}{i:Nat}{xs:028}{x:Value}{Q:015}(hi:SI b s.heap it l i)(hl:SQ b s.heap l xs)(a:xs[i]?=some x)(c:∀h',SI b h' it l (i+1)->Heap.SameBut it s.heap h'->Q x {s with heap:=h' }):wpAny 018 A (Builtin.SmallTypes.nextOf (.ref it)) Q E s:=by
 cases b with
 |true=>exact qgL hi hl a c
 |false=>exact wpAny_nextOf_list_item hi hl a c
theorem qcB{b:Bool}{it l:Addr}{i:Nat}{xs:028}{Q:015}(a:A.handled=none)(hi:SI b s.heap it l i)(hl:SQ b s.heap l xs)(c:xs[i]?=none)(hE:∀h' e,Heap.ExtBut it s.heap h'->(∃o,h'.get? e=some o/\o.cls=.type "StopIteration")->E (.ref e) {s with heap:=h' }):wpAny 018 A (Builtin.SmallTypes.nextOf (.ref it)) Q E s:=by
 cases b with
 |true=>exact qbM a hi hl c hE
 |false=>exact wpAny_nextOf_list_end a hi hl c hE
structure ZA (z TI TO i j l m:Addr):Prop where
 zTI:TI≠z
 zTO:TO≠z
 zi:i≠z
 zj:j≠z
 TT:TI≠TO
 TIi:TI≠i
 TIj:TI≠j
 TOi:TO≠i
 TOj:TO≠j
 ij:i≠j
 lz:l≠z
 lT:l≠TO
 li:l≠i
 lj:l≠j
 mz:m≠z
 mT:m≠TO
 mi:m≠i
 mj:m≠j
structure ZS (b c:Bool) (h:Heap) (z TI TO i j l m:Addr) (k:Nat) (xs ys:028) (f:Value):Prop where
 z:IsZip h z TI TO f
 ti:IsPair h TI (.ref i) (.ref j)
 to':∃a d,IsPair h TO a d
 i1:SI b h i l k
 i2:SI c h j m k
 q1:SQ b h l xs
 q2:SQ c h m ys
variable{b c:Bool}{z TI TO i j l m:Addr}{k:Nat}{xs ys:Array Value}
theorem qk9{x y:Value}{Q:Option Value->Shared->Prop}(D:ZA z TI TO i j l m)(st:ZS b c s.heap z TI TO i j l m k xs ys .none)(Y:xs[k]?=some x)(Z:ys[k]?=some y)(hQ:∀h',ZS b c h' z TI TO i j l m (k+1) xs ys (rawInt s.heap.objs.size)->IsPair h' s.heap.objs.size x y->(∀a o,a≠z->a≠TO->a≠i->a≠j->s.heap.get? a=some o->h'.get? a=some o)->Q (some 043) {s with heap:=h' }):
  wpAny 018 A (pyNext (.ref z)) Q E s:=by
 obtain⟨oz,ti,⟨t0,t1,to'⟩,i1,i2,q1,q2⟩:=st;have M:s.TypeIs (.ref z) "zip":=⟨_,oz,rfl⟩;unfold pyNext;refine wA (uo (vA (name:=Str.ofString "__next__") M xl (vI xl M F.entry_zip_next ?_ (F.args_zip_next_1 _))));refine wA (m:=field (.ref z) 2) (vG oz rfl (x:=.bool false) rfl (wA (m:=field (.ref z) 3) (vG oz rfl (x:=.ref TI) rfl (wA (uW ti rfl ?_)))));refine wA (m:=Builtin.SmallTypes.ownedTupleIsFree (.ref z)) ?_;unfold Builtin.SmallTypes.ownedTupleIsFree;refine wA (vG oz rfl (x:=.none) rfl (wD ?_));simp only[uO];refine wA (ux (wA (vG oz rfl (x:=.ref TO) rfl (wA (uY oz 07 λh1 z1 b1=>?_)))));have C:IsZip h1 z TI TO .ellipsis:=z1;refine wA ?_;simp only[List.zipIdx_cons,List.zipIdx_nil,xk,List.forIn_nil];refine wA (wA (wpAny_onRaise (wA (m:=Builtin.SmallTypes.nextOf (.ref i)) ?_)));refine draw (i1.at λo e=>b1.extBut _ o D.zi e) (q1.at λo e=>b1.extBut _ o D.lz e) Y λh2 H b2=>wD ?_
 have N:IsPair h2 TO t0 t1:=b2.extBut _ _ D.TOi (b1.extBut _ _ D.zTO to');refine wA (uW N rfl (wA (xq N λh3 o3 f=>wA (wpAny_letGo (wD ?_)))));have I:IsPair h3 TO x t1:=o3;refine wA (wA (wpAny_onRaise (wA (m:=Builtin.SmallTypes.nextOf (.ref j)) ?_)));refine draw (i2.at λo e=>f.extBut _ o D.TOj.symm (b2.extBut _ o D.ij.symm (b1.extBut _ o D.zj e))) (q2.at λo e=>f.extBut _ o D.mT (b2.extBut _ o D.mi (b1.extBut _ o D.mz e))) Z λh4 i4 h=>wD ?_
 have O:IsPair h4 TO x t1:=h.extBut _ _ D.TOj I;refine wA (uW O rfl (wA (xq O λd o5 p=>wA (wpAny_letGo (wD (wD ?_))))));have q:IsPair d TO x y:=o5;refine wA (uW q rfl (wA (wpAny_newTuple ?_)));have sz:d.objs.size=s.heap.objs.size:=by rw[p.1,h.1,f.1,b2.1,b1.1]
 have P:IsZip d z TI TO .ellipsis:=p.extBut _ _ D.zTO.symm (h.extBut _ _ D.zj.symm (f.extBut _ _ D.zTO.symm (b2.extBut _ _ D.zi.symm C)));have k5:∀a o,a≠z->a≠TO->a≠i->a≠j->s.heap.get? a=some o->d.get? a=some o:=λa o v B J K e=>p.extBut _ _ B (h.extBut _ _ K (f.extBut _ _ B (b2.extBut _ _ J (b1.extBut _ _ v e))))
 have S:z<d.objs.size:=wI P;refine wA (m:=Builtin.SmallTypes.ownedTupleHandOut (.ref z) (.ref d.objs.size)) ?_;unfold Builtin.SmallTypes.ownedTupleHandOut;have z6:IsZip (d.push {cls:=.type "tuple",data:=.seq #[x,y]}) z TI TO .ellipsis:=wB _ P;refine wA (uY z6 07 λh7 z7 U=>?_);have L:IsZip h7 z TI TO (rawInt d.objs.size):=z7;refine uY L 07 λr z8 W=>?_
 have u:IsZip r z TI TO (rawInt d.objs.size):=z8;have up:∀a o,a≠z->d.get? a=some o->r.get? a=some o:=λa o n e=>W.extBut _ _ n (U.extBut _ _ n (wB _ e))
 have X:IsPair r d.objs.size x y:=W.extBut _ _ (vj S) (U.extBut _ _ (vj S) (wJ _ rfl));rw[sz]at u X;refine wD ⟨_,rfl,wD ?_⟩;have all:∀a o,a≠z->a≠TO->a≠i->a≠j->s.heap.get? a=some o->r.get? a=some o:=λa o v B J K e=>up a o v (k5 a o v B J K e)
 have fin:=hQ r ⟨u,all _ _ D.zTI D.TT D.TIi D.TIj ti,⟨_,_,up _ _ D.zTO q⟩,H.at λo e=>up _ o D.zi (p.extBut _ o D.TOi.symm (h.extBut _ o D.ij (f.extBut _ o D.TOi.symm e))),i4.at λo e=>up _ o D.zj (p.extBut _ o D.TOj.symm e),
  q1.at λo e=>all _ o D.lz D.lT D.li D.lj e,q2.at λo e=>all _ o D.mz D.mT D.mi D.mj e⟩ X all
 rw[<-sz]at fin;exact fin
theorem qiV{Q:Option Value->Shared->Prop}(B:A.handled=none)(D:ZA z TI TO i j l m)(st:ZS b c s.heap z TI TO i j l m k xs ys .none)(N:xs[k]?=none\/ys[k]?=none)(O:∀h',(∀a o,a≠z->a≠TO->a≠i->a≠j->s.heap.get? a=some o->h'.get? a=some o)->Q none {s with heap:=h' }):wpAny 018 A (pyNext (.ref z)) Q E s:=by
 obtain⟨oz,ti,⟨P,t1,to'⟩,i1,i2,q1,q2⟩:=st;have C:s.TypeIs (.ref z) "zip":=⟨_,oz,rfl⟩;have d:∀(h':Heap) (e:Addr),(∀a o,a≠z->a≠TO->a≠i->a≠j->s.heap.get? a=some o->h'.get? a=some o)->(∃o,h'.get? e=some o/\o.cls=.type "StopIteration") ->
   wpAny 018 A (do if <-isInstance (.ref e) (.type "StopIteration")then pure none else throw (Value.ref e)) Q E {s with heap:=h' }:=λh' e S ⟨o,U,hc⟩ =>
  wA (wpAny_isInstance (T:="StopIteration") (b:=true) ⟨o,U,hc⟩ isSubtype_stop (wD (O h' S)))
 unfold pyNext;refine wA (uo (vA (name:=Str.ofString "__next__") C xl (vI xl C F.entry_zip_next ?_ (F.args_zip_next_1 _))));refine wA (m:=field (.ref z) 2) (vG oz rfl (x:=.bool false) rfl (wA (m:=field (.ref z) 3) (vG oz rfl (x:=.ref TI) rfl (wA (uW ti rfl ?_)))));refine wA (m:=Builtin.SmallTypes.ownedTupleIsFree (.ref z)) ?_;unfold Builtin.SmallTypes.ownedTupleIsFree;refine wA (vG oz rfl (x:=.none) rfl (wD ?_));simp only[uO];refine wA (ux (wA (vG oz rfl (x:=.ref TO) rfl (wA (uY oz 07 λW X b1=>?_)))));have n:IsZip W z TI TO .ellipsis:=X;refine wA ?_;simp only[List.zipIdx_cons,List.zipIdx_nil,xk,List.forIn_nil];refine wA (wA (wpAny_onRaise (wA (m:=Builtin.SmallTypes.nextOf (.ref i)) ?_)));cases ex:xs[k]? with
 |none =>
  refine qcB B (i1.at λo e=>b1.extBut _ o D.zi e) (q1.at λo e=>b1.extBut _ o D.lz e) ex λu e b2 ⟨v,f,p⟩=>?_
  have H:IsZip u z TI TO .ellipsis:=b2 _ _ D.zi.symm n;have ne:e≠z:=λq=>by subst q;rw[H]at f;cases f;simp at p
  exact uY H 07 λI _ h=>d I e (λa o r _ y _ q=>h.extBut _ _ r (b2 _ _ y (b1.extBut _ _ r q))) ⟨v,h.extBut _ _ ne f,p⟩
 |some x =>
  have Y:ys[k]?=none:=by
   rcases N with q|q
   .rw [ex]at q;cases q
   .exact q
  refine draw (i1.at λo e=>b1.extBut _ o D.zi e) (q1.at λo e=>b1.extBut _ o D.lz e) ex λu Z b2=>wD ?_
  have J:IsPair u TO P t1:=b2.extBut _ _ D.TOi (b1.extBut _ _ D.zTO to');refine wA (uW J rfl (wA (xq J λI o3 h=>wA (wpAny_letGo (wD ?_)))));refine wA (wA (wpAny_onRaise (wA (m:=Builtin.SmallTypes.nextOf (.ref j)) ?_)));refine qcB B (i2.at λo e=>h.extBut _ o D.TOj.symm (b2.extBut _ o D.ij.symm (b1.extBut _ o D.zj e))) (q2.at λo e=>h.extBut _ o D.mT (b2.extBut _ o D.mi (b1.extBut _ o D.mz e))) Y λh4 e K ⟨v,f,p⟩=>?_
  have L:IsZip h4 z TI TO .ellipsis:=K _ _ D.zj.symm (h.extBut _ _ D.zTO.symm (b2.extBut _ _ D.zi.symm n));have ne:e≠z:=λq=>by subst q;rw[L]at f;cases f;simp at p
  exact uY L 07 λh5 _ M=>d h5 e (λa o r n2 y n4 q=>M.extBut _ _ r (K _ _ n4 (h.extBut _ _ n2 (b2.extBut _ _ y (b1.extBut _ _ r q))))) ⟨v,M.extBut _ _ ne f,p⟩
end
noncomputable def siO(b:Bool)(l:Addr):Obj:=match b with
 |true=>{cls:=.type "tuple_iterator",data:=.fields #[.ref l,.int 0 0]}
 |false=>{cls:=.type "list_iterator",data:=.fields #[.ref l,.int 0 0]}
def qgM{b:Bool}{h:Heap}{l:Addr}:SI b (h.push (siO b l)) h.objs.size l 0:=by
 cases b with
 |true=>exact⟨_,wJ _ rfl,rfl,rfl⟩
 |false=>exact⟨_,wJ _ rfl,rfl,rfl⟩
section
variable{prog:Program}{w:World}{A:Around}{E:Value->Shared->Prop}{s:Shared}
theorem qcC{b:Bool}{l:Addr}{xs:028}{Q:015}(hl:SQ b s.heap l xs)(a:Q 043 {s with heap:=s.heap.push (siO b l)}):wpAny 018 A (pyIter (.ref l)) Q E s:=by
 cases b with
 |true=>exact wpAny_pyIter_tuple hl a
 |false=>exact wpAny_pyIter_list hl a
end
noncomputable def zh1(b:Bool)(h:Heap)(l:Addr):Heap:=h.push (siO b l)
noncomputable def zh2(b c:Bool)(h:Heap)(l m:Addr):Heap:=(zh1 b h l).push (siO c m)
noncomputable def zh3(b c:Bool)(h:Heap)(l m:Addr):Heap:=(zh2 b c h l m).push {cls:=.type "tuple",data:=.seq #[.ref h.objs.size,.ref (zh1 b h l).objs.size]}
noncomputable def zh4(b c:Bool)(h:Heap)(l m:Addr):Heap:=(zh3 b c h l m).push {cls:=.type "tuple",data:=.seq #[.none,.none]}
noncomputable def zh5(b c:Bool)(h:Heap)(l m:Addr):Heap:=(zh4 b c h l m).push {cls:=.type "zip",data:=.fields #[.none,.bool false,.bool false,.ref (zh2 b c h l m).objs.size,.ref (zh3 b c h l m).objs.size]}
def qiW(b c:Bool)(l m:Addr)(xs ys:028):Meets (Builtin.«zip.__new__» ⟨[.type "zip",.ref l,.ref m],[]⟩) (λ_ R s=>SQ b s.heap l xs/\SQ c s.heap m ys/\R (.ok (.ret (.ref (zh4 b c s.heap l m).objs.size))) {s with heap:=zh5 b c s.heap l m}) :=
 .of_wp λprog w A R s h=>by
  obtain⟨a,g,d,tk,os⟩:=s;obtain⟨f,i,h⟩:=h;have k0:=sub_zip;have e1:SQ b (Shared.heap ⟨a,g,d,tk,os⟩) l xs:=f;have e2:SQ c (Shared.heap ⟨a.push (siO b l),g,d,tk,os⟩) m ys:=SQ.at i λo e=>wB _ e
  wp_walk using qcC e1,qcC e2;exact⟨_,rfl,h⟩
section
variable{prog:Program}{w:World}{A:Around}{E:Value->Shared->Prop}{s:Shared}
theorem qgN{b c:Bool}{l m:Addr}{xs ys:028}{Q:015}(n:SQ b s.heap l xs)(p:SQ c s.heap m ys)(h:∀h':Heap,ZS b c h' (s.heap.objs.size+4) (s.heap.objs.size+2) (s.heap.objs.size+3) s.heap.objs.size (s.heap.objs.size+1) l m 0 xs ys .none->(∀a o,s.heap.get? a=some o->h'.get? a=some o)->Q (.ref (s.heap.objs.size+4)) {s with heap:=h' }):
  wpAny 018 A (call (.type "zip") [.ref l,.ref m]) Q E s:=by
 have d:(zh1 b s.heap l).objs.size=s.heap.objs.size+1:=vp ..;have f:(zh2 b c s.heap l m).objs.size=s.heap.objs.size+2:=by unfold zh2;rw[vp,d]
 have i:(zh3 b c s.heap l m).objs.size=s.heap.objs.size+3:=by unfold zh3;rw[vp,f]
 have r:(zh4 b c s.heap l m).objs.size=s.heap.objs.size+4:=by unfold zh4;rw[vp,i]
 have kp:∀a o,s.heap.get? a=some o->(zh5 b c s.heap l m).get? a=some o:=λa o e=>by
  unfold zh5 zh4 zh3 zh2 zh1;exact wB _ (wB _ (wB _ (wB _ (wB _ e))))
 have j:IsZip (zh5 b c s.heap l m) (zh4 b c s.heap l m).objs.size (zh2 b c s.heap l m).objs.size (zh3 b c s.heap l m).objs.size .none:=wJ _ rfl;have u:IsPair (zh5 b c s.heap l m) (zh3 b c s.heap l m).objs.size .none .none:=by
  have q:(zh4 b c s.heap l m).get? (zh3 b c s.heap l m).objs.size=some _:=wJ _ rfl;exact wB _ q
 have v:IsPair (zh5 b c s.heap l m) (zh2 b c s.heap l m).objs.size 043 (.ref (zh1 b s.heap l).objs.size):=by
  have q:(zh3 b c s.heap l m).get? (zh2 b c s.heap l m).objs.size=some _:=wJ _ rfl;exact wB _ (wB _ q)
 have i2:SI c (zh5 b c s.heap l m) (zh1 b s.heap l).objs.size m 0:=SI.at (qgM (b:=c) (h:=zh1 b s.heap l) (l:=m)) λo e=>wB _ (wB _ (wB _ e))
 have i1:SI b (zh5 b c s.heap l m) s.heap.objs.size l 0:=SI.at (qgM (b:=b) (h:=s.heap) (l:=l)) λo e=>wB _ (wB _ (wB _ (wB _ e)))
 refine callType_new F.called_zip 01 (F.typeCall_zip_2 _ _) (F.newCall_zip_2 _ _) (λobj=>F.args_object_init_3 obj _ _) F.entry_zip_new (qiW b c l m xs ys) ⟨n,p,?_⟩;rw[r,i,f]at j;rw[i]at u;rw[f,d]at v;rw[d]at i2;rw[r];exact⟨⟨_,j,rfl⟩,h _ ⟨j,v,⟨_,_,u⟩,i1,i2,n.at λo e=>kp _ o e,p.at λo e=>kp _ o e⟩ kp⟩
end
def SqB(b:Bool)(K:009)(H:Hp)(l:Addr)(xs:List V):Prop:=match b with
 |true=>SqT K H l xs
 |false=>SqL K H l xs
noncomputable def ItZ(K:009)(b c:Bool)(l m:Addr):It:=⟨λi H=>∃xs ys u v,SqB b K H l xs/\SqB c K H m ys/\xs[i]?=some u/\ys[i]?=some v,
 λi H x H'=>∃p u v,x=.ref p/\H p=none/\H'=upd H p (.t [u,v])/\(∀xs,SqB b K H l xs->xs[i]?=some u)/\∀ys,SqB c K H m ys->ys[i]?=some v,λi H=>∃xs ys,SqB b K H l xs/\SqB c K H m ys/\(xs.length<=i\/ys.length<=i)⟩
section
variable{X:Cx}{pos:Pos}
theorem jV{pins:011}{c:St}{H:Hp}{s:09}{b:Bool}{l:Addr}{xs:List V}(I:Inv X pins c H s)(h:SqB b X.K H l xs):∃a:List Value,Vals xs a/\SQ b s.heap l a.toArray:=by
 cases b with
 |true=>obtain⟨a,r,p,_⟩:=I.tuple h;exact⟨a,r,p⟩
 |false=>obtain⟨a,r,p,_⟩:=I.list h;exact⟨a,r,p.isList⟩
theorem qen{pins:011}{a:St}{H:Hp}{s:09}{b:Bool}{l:Addr}{xs ys:List V}(I:Inv X pins a H s)(h:SqB b X.K H l xs)(h':SqB b X.K H l ys):xs=ys:=by
 cases b with
 |true=>exact I.tuple_inj h h'
 |false=>exact I.list_inj h h'
def ztn(b c:Bool)(z TI TO i j l m:Addr)(k:Nat)(h:Heap):Prop:=IsZip h z TI TO .none/\IsPair h TI (.ref i) (.ref j)/\(∃a d,IsPair h TO a d)/\SI b h i l k/\SI c h j m k
theorem qgO{P:Program}{w:World}{K:009}{es:010}{n:Nat}{tp:Pos}{b c:Bool}{z TI TO i j l m:Addr}(D:ZA z TI TO i j l m):Turn P w K (.Tuple es n tp) (ItZ K b c l m) [z,TI,TO,i,j] z (ztn b c z TI TO i j l m) where
 mem:=by simp
 obj:=λk h ⟨Y,A,⟨a,d,Z⟩,h4,h5⟩ x B=>by
  simp only[wW,wx,u8]at B;rcases B with rfl|rfl|rfl|rfl|rfl
  .exact ⟨_,Y,λv q=>by cases (show Data.fields _=Data.cell v from q)⟩
  .exact ⟨_,A,λv q=>by cases (show Data.seq _ _=Data.cell v from q)⟩
  .exact ⟨_,Z,λv q=>by cases (show Data.seq _ _=Data.cell v from q)⟩
  .exact h4.obj
  .exact h5.obj
 keep:=λk h h' ⟨Y,A,⟨a,d,Z⟩,h4,h5⟩ kp=>⟨kp z 07 _ Y,kp TI 07 _ A,⟨a,d,kp TO 07 _ Z⟩,h4.at λo e=>kp i 07 o e,h5.at λo e=>kp j 07 o e⟩
 item:=by
  intro X hP hw hK hc k pins s σ H E I p st hg;subst hP hw hK;obtain⟨xs,ys,u,v,B,O,eu,ev⟩:=hg;obtain⟨s1,s2,Q,S,U⟩:=st;obtain⟨J,rx,qx⟩:=jV I B;obtain⟨L,ry,qy⟩:=jV I O;obtain⟨x,ex,a0⟩:=rx.get eu;obtain⟨y,ey,a1⟩:=ry.get ev;refine qk9 D ⟨s1,s2,Q,S,U,qx,qy⟩ (by simpa using ex) (by simpa using ey) λh' zs pr kp=>⟨_,rfl,?_⟩
  obtain⟨t1,t2,t3,t4,t5,t6,t7⟩:=zs;refine wpAny_letOwnedTupleGo_zip (s:={s with heap:=h' }) t1 λA z2 b2=>?_
  have M:H s.heap.objs.size=none:=I.hok.fresh (wH _);have nz:s.heap.objs.size≠z:=vj (wI s1);have all:∀a o,a∉[z,TI,TO,i,j]->s.heap.get? a=some o->A.get? a=some o:=λa o f e=>by
   simp only[wW,wx,u8,not_or]at f;exact b2.extBut _ _ f.1 (kp a o f.1 f.2.2.1 f.2.2.2.1 f.2.2.2.2 e)
  have ne:∀a o,s.heap.get? a=some o->a≠s.heap.objs.size:=λa o e=>wg (wI e)
  have nt:∀{a:Addr} {q:HO},H a=some q->a∉[z,TI,TO,i,j]:=λ{a q} e hm=>by rw[(p a hm).1]at e;cases e
  have N:∀{a:Addr} {q:HO},H a=some q->a≠s.heap.objs.size:=λ{a q} e z'=>by subst z';rw[M]at e;cases e
  have C:HOk X.prog X.w (upd H s.heap.objs.size (.t [u,v])) A:=λa q e=>by
   by_cases qa:a=s.heap.objs.size
   .subst qa
    rw[qK]at e;cases e;exact⟨(show(2:Nat)<=sizeLine by decide),[x,y],.cons a0 (.cons a1 .nil),⟨_,b2.extBut _ _ nz pr,rfl,0,rfl⟩,λo q=>by rw[b2.extBut _ _ nz pr]at q;cases q;rfl⟩
   .rw [qD qa]at e
    refine(I.hok a q e).stay (λd o hd eo=>all d o ?_ eo) (λd e'=>by rw[qD (N e')];exact e') λd xs e'=>by rw[qD (N e')];exact e'
    rcases hd with F|F
    .subst F;exact nt e
    .exact nt F
  have I2:Inv X pins σ (upd H s.heap.objs.size (.t [u,v])) {s with heap:=A}:=by
   refine I.step (g':=s.gens) (d':=s.drawn) (t':=s.toks) (ch:=[z,TI,TO,i,j]) (λa ha=>⟨(p a ha).2.2.2.1,(p a ha).2.1,(p a ha).2.2.2.2.1,(p a ha).2.2.2.2.2⟩) (λa o _ _ f e _=>all a o f e) (λa o _ _ f e _=>⟨o.slots,all a o f e⟩)
    (λa o _ e n=>by rw[qD (ne a o e)];exact n) (λa o f e=>⟨o,all a o f e⟩) (λa xs e=>by rw[qD (N e)];exact e) (λa o q e=>by rw[qD (N e)];exact e) (λa ps e=>⟨#[],by rw[qD (N e),e];simp⟩) (λmm hm=>?_) C I.bare.self
   obtain⟨o,es,ep,ho,r⟩:=hm;exact⟨o,es,ep,all _ o (λq=>(p _ q).2.1 rfl) ho,r⟩
  refine⟨.ref s.heap.objs.size,_,I2,rfl,⟨_,u,v,rfl,M,rfl,λa3 q=>by rw[qen I q B];exact eu,λa4 q=>by rw[qen I q O];exact ev⟩,⟨z2,b2.extBut _ _ D.zTI t2,?_,t4.at λo e=>b2.extBut _ o D.zi e,t5.at λo e=>b2.extBut _ o D.zj e⟩,λa ha=>?_⟩
  .obtain ⟨a,d,t3⟩:=t3
   exact⟨a,d,b2.extBut _ _ D.zTO t3⟩
  .rw [qD]
   .exact (p a ha).1
   .intro q
    have:∃o,s.heap.get? a=some o:=by
     obtain⟨a',d',a2⟩:=Q;simp only[wW,wx,u8]at ha;rcases ha with rfl|rfl|rfl|rfl|rfl
     .exact ⟨_,s1⟩
     .exact ⟨_,s2⟩
     .exact ⟨_,a2⟩
     .exact ⟨_,S.obj.choose_spec.1⟩
     .exact ⟨_,U.obj.choose_spec.1⟩
    obtain⟨o,e⟩:=this;exact ne a o e q
 done:=by
  intro X hP hw hK hc k pins s σ H E I p st hg;subst hP hw hK;obtain⟨xs,ys,B,O,hl⟩:=hg;obtain⟨s1,s2,Q,S,U⟩:=st;obtain⟨J,rx,qx⟩:=jV I B;obtain⟨L,ry,qy⟩:=jV I O;have hn:J.toArray[k]?=none\/L.toArray[k]?=none:=by
   rcases hl with q|q
   .left;simp;rw[<-rx.length];exact q
   .right;simp;rw[<-ry.length];exact q
  refine qiV (I.ok.hd hc) D ⟨s1,s2,Q,S,U,qx,qy⟩ hn λh' kp=>⟨rfl,?_⟩
  have nt:∀{a:Addr} {q:HO},H a=some q->a∉[z,TI,TO,i,j]:=λ{a q} e hm=>by rw[(p a hm).1]at e;cases e
  have all:∀a o,a∉[z,TI,TO,i,j]->s.heap.get? a=some o->h'.get? a=some o:=λa o f e=>by
   simp only[wW,wx,u8,not_or]at f;exact kp a o f.1 f.2.2.1 f.2.2.2.1 f.2.2.2.2 e
  have C:HOk X.prog X.w H h':=λa q e=>by
   refine(I.hok a q e).stay (λd o hd eo=>all d o ?_ eo) (λd e'=>e') λd xs e'=>e'
   rcases hd with F|F
   .subst F;exact nt e
   .exact nt F
  refine I.step (g':=s.gens) (d':=s.drawn) (t':=s.toks) (ch:=[z,TI,TO,i,j]) (λa ha=>⟨(p a ha).2.2.2.1,(p a ha).2.1,(p a ha).2.2.2.2.1,(p a ha).2.2.2.2.2⟩) (λa o _ _ f e _=>all a o f e) (λa o _ _ f e _=>⟨o.slots,all a o f e⟩)
   (λa o _ e n=>n) (λa o f e=>⟨o,all a o f e⟩) (λa xs e=>e) (λa o q e=>e) (λa ps e=>⟨#[],by rw[e];simp⟩) (λmm hm=>?_) C I.bare.self
  obtain⟨o,es,ep,ho,r⟩:=hm;exact⟨o,es,ep,all _ o (λq=>(p _ q).2.1 rfl) ho,r⟩
 self:=λ_ _ _ _ _ st h=>wpAny_pyIter_zip st.1 h
end
section
variable{X:Cx}{pos:Pos}
theorem qbl{ι:03}{H:Hp}{d:D}{l:04}{v:V}(e:walkF d=some l)(h:Den ι H d v):∃b a xs,v=.ref a/\a∉ι/\Dens ι H l xs/\(if b=true then H a=some (.t xs)else Rd H a (.l xs)):=by
 cases d with
 |t f=>cases e;obtain⟨a,xs,e1,n,ha,c⟩:=h;exact⟨true,a,xs,e1,n,c,by simpa using ha⟩
 |l f=>cases e;obtain⟨a,xs,e1,n,ha,c⟩:=h;exact⟨false,a,xs,e1,n,c,by simpa using ha⟩
 |_=>cases e
def AtB(b:Bool)(H:Hp)(a:Addr)(xs:List V):Prop:=if b=true then H a=some (.t xs)else Rd H a (.l xs)
theorem AtB.sq{b:Bool}{H:Hp}{K:009}{a:Addr}{xs:List V}(h:AtB b H a xs):SqB b K H a xs:=by
 cases b with
 |true=>exact .inl (.inl h)
 |false=>exact .inl h
theorem AtB.mono{b:Bool}{ι c:03}{H H':Hp}{a:Addr}{xs:List V}(h:AtB b H a xs)(n:a∉ι)(s:Stp ι H c H'):AtB b H' a xs:=by
 cases b with
 |true=>exact s.keep _ _ h n trivial
 |false=>exact(s.rd h n).1
theorem qla{ι:03}{H:Hp}{K:009}{b c:Bool}{l m:Addr}{xs ys:List V}{ds es:04}(r:l∉ι)(nm:m∉ι)(w:AtB b H l xs)(y:AtB c H m ys)(A:Dens ι H ds xs)(B:Dens ι H es ys):ItOk ι H (ItZ K b c l m) ((ds.zip es).map λp=>.t [p.1,p.2]) where
 go:=λi d a H2 s e=>by
  rw[wk]at e;cases z:(ds.zip es)[i]? with
  |none=>rw[z]at e;cases e
  |some p =>
   rw[z]at e;cases e;obtain⟨e1,e2⟩:=uf.mp z;obtain⟨u,C,E⟩:=(Dens.mono s ds A).get e1;obtain⟨v,v1,v2⟩:=(Dens.mono s es B).get e2;have f:=(w.mono r s).sq (K:=K);have h:=(y.mono nm s).sq (K:=K);refine⟨⟨xs,ys,u,v,f,h,C,v1⟩,λx H3 F=>?_⟩;obtain⟨q,I,J,rfl,o,rfl,j,n⟩:=F;have j:=j xs f;have n:=n ys h;rw[C]at j;cases j;rw[v1]at n;cases n;have g:=Stp.laid (ι:=a) o (.t [u,v]);exact⟨g,λS st=>⟨st.laid o _,q,[u,v],rfl,st.fresh o,qK,u,[v],rfl,Den.mono g _ E,v,[],rfl,Den.mono g _ v2,rfl⟩⟩
 stop:=λa H2 s=>by
  refine⟨xs,ys,(w.mono r s).sq,(y.mono nm s).sq,?_⟩;rw[wF,vq,A.length,B.length];lia
theorem qmS(N l m:Nat)(a:l<N)(c:m<N):ZA (N+4) (N+2) (N+3) N (N+1) l m :=
 ⟨(by lia:N+2≠N+4),(by lia:N+3≠N+4),(by lia:N≠N+4),(by lia:N+1≠N+4),(by lia:N+2≠N+3),(by lia:N+2≠N),(by lia:N+2≠N+1),(by lia:N+3≠N),(by lia:N+3≠N+1),(by lia:N≠N+1),
  (by lia:l≠N+4),(by lia:l≠N+3),(by lia:l≠N),(by lia:l≠N+1),(by lia:m≠N+4),(by lia:m≠N+3),(by lia:m≠N),(by lia:m≠N+1)⟩
theorem qgP:bootBuiltins "zip"=some (.type "zip"):=by decide +kernel
theorem qmT{es:010}{n:Nat}{U:Pos}{e1 e2:Expr}{p:Pos}{m1 m2:007}(W:Gl X "zip")(hm:X.mg "zip"=none)(Y:PE X e1 (T m1))(Z:PE X e2 (T m2))(hs:starEach [e1,e2] X.env=(false,eval e1 X.env)::starEach [e2] X.env)(r:starEach [e2] X.env=(false,eval e2 X.env)::starEach [] X.env):
  PI X (.Tuple es n U) (.Call (.Name "zip" p) [e1,e2] [] pos) (TIt λρ S=>(m1 ρ S).bind λx S1=>(m2 ρ S1).bind λy S2=>match walkF x,walkF y with
   |some l,some m=>.ok ((l.zip m).map λp=>.t [p.1,p.2]) S2
   |_,_=>.no):=by
 intro pins s B H R I hw;obtain⟨ι,S,ρ,L,st,q⟩:=hw;dsimp only at q;cases z1:m1 ρ S with
 |no=>rw[z1]at q;exact q.elim
 |err=>rw[z1]at q;exact q.elim
 |ok x S1 =>
  rw[z1,Res.bind_ok]at q;cases z2:m2 ρ S1 with
  |no=>rw[z2]at q;exact q.elim
  |err=>rw[z2]at q;exact q.elim
  |ok y S2 =>
   rw[z2,Res.bind_ok]at q;cases z3:walkF x with
   |none=>simp only[z3]at q
   |some l =>
    cases z4:walkF y with
    |none=>simp only[z3,z4]at q
    |some m =>
     simp only[z3,z4]at q;refine Call_ (yM I W hm qgP (uE (e:=e1) (rest:=[e2]) ?_ hs (by rw[r];rfl)));rw[hs,r];refine uM (thn (Y pins s B H (λv i=>∃d,Stp ι H d i/\Sto d i S1/\Den d i x v) I ⟨ι,S,ρ,L,st,by rw[z1];exact λv d i a b c=>⟨d,a,b,c⟩⟩) λu1 s1 ⟨v1,i,I1,r1,d,q1,C,d1⟩=>?_);refine uM (thn (Z pins s1 B i (λv H2=>∃f,Stp d i f H2/\Sto f H2 S2/\Den f H2 y v) I1 ⟨d,S1,ρ,L.mono q1,C,by rw[z2];exact λv d i a b c=>⟨d,a,b,c⟩⟩) λu2 s2 ⟨v2,H2,u,r2,f,q2,E,d2⟩=>uz ?_);obtain⟨b,F,xs,rfl,nl,dl,M⟩:=qbl z3 (Den.mono q2 x d1);obtain⟨c,J,ys,rfl,nm,dm,O⟩:=qbl z4 d2;cases r1;cases r2;obtain⟨a0,rx,P⟩:=jV u (AtB.sq M);obtain⟨a1,ry,Q⟩:=jV u (AtB.sq O);have lt:∀{b:Bool} {a:Addr} {w:028},SQ b s2.heap a w->a<s2.heap.objs.size:=λ{b a w} h=>by
      cases b with
      |true=>obtain⟨o,e,_⟩:=h;exact wI e
      |false=>obtain⟨o,e,_⟩:=h;exact wI e
     have l1:=lt P;have l2:=lt Q;refine qgN P Q λh' j kp=>wpAny_pyIter_zip j.z ?_
     have I3:Inv X pins B H2 {s2 with heap:=h' }:=u.kept (t':=s2.toks) kp;generalize hN:s2.heap.objs.size=N at l1 l2 j;have D:ZA (N+4) (N+2) (N+3) N (N+1) F J:=qmS N F J l1 l2;refine⟨N+4,[N+4,N+2,N+3,N,N+1],_,ItZ X.K b c F J,H2,rfl,I3,qgO D,⟨j.z,j.ti,j.to',j.i1,j.i2⟩,λa ha=>?_,q f H2 _ (q1.trans q2) E (qla nl nm M O dl dm)⟩;have A:s2.heap.objs.size<=a:=by
      rw[hN];simp only[wW,wx,u8]at ha;rcases ha with rfl|rfl|rfl|rfl|rfl
      .exact xZ _ _
      .exact xZ _ _
      .exact xZ _ _
      .exact wH _
      .exact xZ _ _
     exact u.fpOk A (u.hok.fresh A)
end
end R
namespace R
open PySem PySem.Spec L2 SeqAt
open PyProof.Rows hiding St
open PySem.W (KasT kas_rev kas_asc kas_desc kas_tail3 kas_descPart kas_count kas_place kas_bin kas_sort)
noncomputable def evT{c:Type}(lt:Nat->Nat->Bool):KasT c->c
 | .ret a=>a
 | .ask i j k=>evT lt (k (lt i j))
def yy{a c:Type}(lt:Nat->Nat->Bool)(f:a->KasT c):∀t:KasT a,evT lt (t.bind f)=evT lt (f (evT lt t))
 | .ret _=>rfl
 | .ask i j k=>yy lt f (k (lt i j))
structure Ord (lt:Nat->Nat->Bool) (n:Nat):Prop where
 irr:∀a,a<n->lt a a=false
 tr:∀a b c,a<n->b<n->c<n->lt a b=true->lt b c=true->lt a c=true
 tot:∀a b,a<n->b<n->a≠b->lt a b=true\/lt b a=true
noncomputable def gt(p:Array Nat)(k:Nat):Nat:=p.getD k 0
def Pm(n:Nat)(p:Array Nat):Prop:=p.toList.Perm (List.range n)
section
variable{lt:Nat->Nat->Bool}{n:Nat}{p:Array Nat}
theorem Pm.size(h:Pm n p):p.size=n:=by
 have:=h.length_eq;simpa using this
theorem qcD{k:Nat}(a:k<p.size):gt p k=p[k]:=by simp[gt,Array.getD,a]
theorem jE{q:Array Nat}{k j:Nat}(h:q[k]?=p[j]?):gt q k=gt p j:=by
 unfold gt;rw[Array.getD_eq_getD_getElem?,Array.getD_eq_getD_getElem?,h]
theorem Pm.bd(h:Pm n p){k:Nat}(a:k<n):gt p k<n:=by
 have hs:k<p.size:=by rw[h.size];exact a
 rw[qcD hs];have hm:p[k]∈p.toList:=by simp
 exact uB.mp (h.mem_iff.mp hm)
theorem Pm.inj(h:Pm n p){i j:Nat}(hi:i<n)(c:j<n)(e:gt p i=gt p j):i=j:=by
 have nd:p.toList.Nodup:=h.nodup_iff.mpr List.nodup_range;have hs:i<p.size:=by rw[h.size];exact hi
 have a:j<p.size:=by rw[h.size];exact c
 rw[qcD hs,qcD a]at e;have e':p.toList[i]'(by simpa using hs)=p.toList[j]'(by simpa using a):=by simpa using e
 exact(xb nd).mp e'
def Srt(lt:Nat->Nat->Bool)(p:Array Nat)(m:Nat):Prop:=∀i j,i<j->j<m->lt (gt p i) (gt p j)=true
theorem Srt.one:Srt lt p 1:=λi j a c=>by lia
theorem Srt.snoc(O:Ord lt n)(h:Pm n p){m:Nat}(hm:1<=m)(hn:m<n)(s:Srt lt p m)(q:lt (gt p (m-1)) (gt p m)=true):Srt lt p (m+1):=λi j a d=>by
 by_cases c:j<m
 .exact s i j a c
 .have e:j=m:=by lia
  subst e;by_cases hi:i=j-1
  .subst hi;exact q
  .exact O.tr _ _ _ (h.bd 00) (h.bd 00) (h.bd hn) (s i (j-1) 00 00) q
theorem qbN(O:Ord lt n)(h:Pm n p):∀(f k:Nat),1<=k->k+f=n->Srt lt p k->(k<=evT lt (kas_asc p f k)/\evT lt (kas_asc p f k)<=n/\Srt lt p (evT lt (kas_asc p f k)))/\(evT lt (kas_asc p f k)<n->lt (gt p (evT lt (kas_asc p f k))) (gt p (evT lt (kas_asc p f k)-1))=true)
 |0,k,h1,h2,s=>⟨⟨wH _,by show k<=n;lia,s⟩,λq=>by have l:k<n:=q;lia⟩
 |f+1,k,h1,h2,s=>by
  unfold kas_asc;simp only[evT];cases z:lt (p.getD k 0) (p.getD (k-1) 0)with
  |true =>
   rw[wN rfl];exact⟨⟨wH _,by show k<=n;lia,s⟩,λ_=>z⟩
  |false =>
   rw[wT 01];have a:gt p k≠gt p (k-1):=λe=>by
    have:=h.inj 00 00 e;lia
   have q:lt (gt p (k-1)) (gt p k)=true:=by
    rcases O.tot _ _ (h.bd (show k<n by lia)) (h.bd (show k-1<n by lia)) a with y|y
    .have c:lt (gt p k) (gt p (k-1))=false:=z
     rw[c]at y;cases y
    .exact y
   obtain⟨⟨m,d,i⟩,j⟩:=qbN O h f (k+1) 00 00 (s.snoc O h h1 00 q);exact⟨⟨by lia,d,i⟩,j⟩
def Fal(lt:Nat->Nat->Bool)(p:Array Nat)(m:Nat):Prop:=∀i j,i<j->j<m->lt (gt p j) (gt p i)=true
theorem Fal.snoc(O:Ord lt n)(h:Pm n p){m:Nat}(hm:1<=m)(hn:m<n)(s:Fal lt p m)(q:lt (gt p m) (gt p (m-1))=true):Fal lt p (m+1):=λi j a d=>by
 by_cases c:j<m
 .exact s i j a c
 .have e:j=m:=by lia
  subst e;by_cases hi:i=j-1
  .subst hi;exact q
  .exact O.tr _ _ _ (h.bd hn) (h.bd 00) (h.bd 00) q (s i (j-1) 00 00)
theorem qbO(O:Ord lt n)(h:Pm n p):∀(f k:Nat),1<=k->k+f=n->Fal lt p k->∃m,evT lt (kas_desc f p k 0)=(p,m,0)/\k<=m/\m<=n/\Fal lt p m
 |0,k,h1,h2,s=>⟨k,rfl,wH _,by lia,s⟩
 |f+1,k,h1,h2,s=>by
  unfold kas_desc;simp only[evT];cases z:lt (p.getD k 0) (p.getD (k-1) 0)with
  |true =>
   rw[wN rfl,wT 00];obtain⟨m,e,j,c,d⟩:=qbO O h f (k+1) 00 00 (s.snoc O h h1 00 z);exact⟨m,e,by lia,c,d⟩
  |false =>
   rw[wT 01];simp only[evT];have a:gt p k≠gt p (k-1):=λe=>by
    have:=h.inj 00 00 e;lia
   have q:lt (p.getD (k-1) 0) (p.getD k 0)=true:=by
    rcases O.tot _ _ (h.bd (show k<n by lia)) (h.bd (show k-1<n by lia)) a with y|y
    .have i:lt (gt p k) (gt p (k-1))=false:=z
     rw[i]at y;cases y
    .exact y
   rw[q,wN rfl];exact⟨k,rfl,wH _,by lia,s⟩
theorem qgQ(h:Pm n p)(i j:Nat):Pm n (kas_rev p i j):=(mirror_perm p i j _).toList.trans h
theorem qiX(O:Ord lt n)(h:Pm n p){k:Nat}(c:1<=k)(d:k<=n)(s:Fal lt p k):∃m q,evT lt (kas_tail3 k n p)=(m,q)/\Pm n q/\1<=m/\m<=n/\Srt lt q m:=by
 have a:Pm n (kas_rev p 0 k):=qgQ h 0 k;have f:Srt lt (kas_rev p 0 k) k:=λi j v l=>by
  have e:∀x,x<k->gt (kas_rev p 0 k) x=gt p (k-1-x):=λx o=>by
   have:=getElem?_mirror_all (xs:=p) (i:=0) (j:=k) (by rw[h.size];exact d) x;rw[wN ⟨wr _,o⟩]at this;have q:=jE this;have e2:0+k-1-x=k-1-x:=by lia
   rw[e2]at q;exact q
  rw[e i 00,e j l];exact s (k-1-j) (k-1-i) 00 00
 unfold kas_tail3;rw[yy];obtain⟨⟨w,r,u⟩,_⟩:=qbN O a (n-k) k c 00 f;exact⟨_,_,rfl,a,by lia,r,u⟩
theorem qcE(O:Ord lt n)(hn:1<=n)(h:Pm n p):∃m q,evT lt (kas_count n p)=(m,q)/\Pm n q/\1<=m/\m<=n/\Srt lt q m:=by
 unfold kas_count;rw[yy];obtain⟨⟨d,f,a⟩,l⟩:=qbN O h (n-1) 1 (wH _) 00 Srt.one;generalize evT lt (kas_asc p (n-1) 1)=m at *;by_cases e:m=n
 .subst e
  rw[wN 07];exact⟨m,p,rfl,h,d,f,a⟩
 .rw [wT (by simpa using e)]
  by_cases c:m>1
  .rw [wN c]
   simp only[evT];have q:lt (p.getD 0 0) (p.getD (m-1) 0)=true:=a 0 (m-1) 00 00;rw[q,wN rfl];exact⟨m,p,rfl,h,d,f,a⟩
  .rw [wT c]
   have e1:m=1:=by lia
   subst e1;have q:=l 00;unfold kas_descPart;rw[yy];have o:Fal lt p 2:=Fal.snoc (m:=1) O h (wH _) 00 (λi j c s=>by lia) q;obtain⟨k,e,b1,b2,r⟩:=qbO O h (n-(1+1)) (1+1) 00 00 o;rw[e];rw[wT 07];exact qiX (k:=k) O h 00 b2 r
theorem qaD(O:Ord lt n)(h:Pm n p){k:Nat}(c:k<n)(s:Srt lt p k):∀(f l r:Nat),l<=r->r<=k->r-l<=f->(∀i,i<l->lt (gt p i) (gt p k)=true)->(∀i,r<=i->i<k->lt (gt p k) (gt p i)=true) ->
  evT lt (kas_place p k f l r)<=k/\(∀i,i<evT lt (kas_place p k f l r)->lt (gt p i) (gt p k)=true)/\∀i,evT lt (kas_place p k f l r)<=i->i<k->lt (gt p k) (gt p i)=true
 |0,l,r,h1,h2,h3,a,b=>⟨by show l<=k;lia,a,λi d j=>b i (by have m:l<=i:=d;lia) j⟩
 |f+1,l,r,h1,h2,h3,a,b=>by
  unfold kas_place;by_cases hl:l>=r
  .rw [wN hl]
   exact⟨by show l<=k;lia,a,λi d j=>b i (by have m:l<=i:=d;lia) j⟩
  .rw [wT hl]
   simp only[evT];have hm:(l+r) / 2<k:=by lia
   cases z:lt (p.getD k 0) (p.getD ((l+r) / 2) 0)with
   |true =>
    rw[wN rfl];refine qaD O h c s f l ((l+r) / 2) 00 00 00 a λi d j=>?_
    by_cases e:i=(l+r) / 2
    .subst e;exact z
    .exact O.tr _ _ _ (h.bd c) (h.bd 00) (h.bd 00) z (s ((l+r) / 2) i 00 j)
   |false =>
    rw[wT 01];have o:gt p k≠gt p ((l+r) / 2):=λe=>by
     have:=h.inj c 00 e;lia
    have q:lt (gt p ((l+r) / 2)) (gt p k)=true:=by
     rcases O.tot _ _ (h.bd c) (h.bd (show(l+r) / 2<n by lia)) o with y|y
     .have u:lt (gt p k) (gt p ((l+r) / 2))=false:=z
      rw[u]at y;cases y
     .exact y
    refine qaD O h c s f ((l+r) / 2+1) r 00 h2 00 (λi d=>?_) b;by_cases e:i=(l+r) / 2
    .subst e;exact q
    .exact O.tr _ _ _ (h.bd 00) (h.bd 00) (h.bd c) (s i ((l+r) / 2) 00 hm) q
theorem qgR(O:Ord lt n):∀(f k:Nat) (p:Array Nat),Pm n p->k+f=n->Srt lt p k->Pm n (evT lt (kas_bin f p k))/\Srt lt (evT lt (kas_bin f p k)) n
 |0,k,p,h,h1,s=>by
  have e:k=n:=by lia
  subst e;exact⟨h,s⟩
 |f+1,k,p,h,h1,s=>by
  unfold kas_bin;rw[yy];obtain⟨v,m,o⟩:=qaD O h (k:=k) 00 s k 0 k (wr _) (wH _) 00 (λi hi=>by lia) λi a q=>by lia
  generalize evT lt (kas_place p k k 0 k)=l at *;have r:Pm n (bubble p k (k-l)):=(bubble_perm p k (k-l)).toList.trans h;refine qgR O f (k+1) _ r 00 λi j a q=>?_
  have ev:∀x,gt (bubble p k (k-l)) x=if x=l then gt p k else if l<x/\x<=k then gt p (x-1)else gt p x:=λx=>by
   have e:=getElem?_bubble (xs:=p) (src:=k) (by rw[h.size];lia) (k-l) 00 x;have u:k-(k-l)=l:=by lia
   rw[u]at e;by_cases q1:x=l
   .rw [wN q1]at e ⊢;exact jE e
   .rw [wT q1]at e ⊢
    by_cases q2:l<x/\x<=k
    .rw [wN q2]at e ⊢;exact jE e
    .rw [wT q2]at e ⊢;exact jE e
  rw[ev i,ev j];by_cases i1:i=l
  .rw [wN i1,wT 00,wN ⟨by lia,by lia⟩]
   exact o (j-1) 00 00
  .rw [wT i1]
   by_cases c:j=l
   .rw [wN c,wT 00]
    exact m i 00
   .rw [wT c]
    by_cases i2:l<i/\i<=k
    .rw [wN i2,wN ⟨by lia,by lia⟩]
     exact s (i-1) (j-1) 00 00
    .rw [wT i2]
     by_cases d:l<j/\j<=k
     .rw [wN d]
      exact s i (j-1) 00 00
     .rw [wT d]
      exact s i j a 00
theorem qeo(O:Ord lt n)(hn:1<=n):Pm n (evT lt (kas_sort n))/\Srt lt (evT lt (kas_sort n)) n:=by
 unfold kas_sort;rw[yy];have d:Pm n (List.toArray (List.range n)):=by
  show(List.toArray (List.range n)).toList.Perm _;simp
 obtain⟨m,q,e,a,f,h,c⟩:=qcE O hn d;rw[e];by_cases hm:m<n
 .rw [wN hm]
  have e2:max m 1=m:=by lia
  show Pm n (evT lt (kas_bin (n-max m 1) q (max m 1)))/\_;rw[e2];exact qgR O (n-m) m q a 00 c
 .rw [wT hm]
  have e2:m=n:=by lia
  subst e2;exact⟨a,c⟩
end
end R
namespace R
open PySem PySem.Spec L2 SeqAt
open PyProof.Rows hiding St
open PySem.W (KasT kas_rev kas_asc kas_desc kas_tail3 kas_descPart kas_count kas_place kas_bin kas_sort kas_cmp kas_item kas_item_eq kas_runs kas_st kas_range KatLex kat_lt KatTups kat_kind)
def InT{a:Type}(lt:Nat->Nat->Bool)(n:Nat):KasT a->Prop
 | .ret _=>True
 | .ask i j k=>i<n/\j<n/\InT lt n (k (lt i j))
section
variable{lt:Nat->Nat->Bool}{n:Nat}{p:Array Nat}
theorem yz{a c:Type}{f:a->KasT c}:∀{t:KasT a},InT lt n t->InT lt n (f (evT lt t))->InT lt n (t.bind f)
 | .ret _,_,h=>h
 | .ask i j k,h,h'=>⟨h.1,h.2.1,yz h.2.2 h'⟩
theorem qdu(h:Pm n p):∀(f k:Nat),1<=k->k+f=n->InT lt n (kas_asc p f k)
 |0,_,_,_=>trivial
 |f+1,k,h1,h2=>by
  refine⟨h.bd (show k<n by lia),h.bd (show k-1<n by lia),?_⟩;dsimp only;split
  .trivial
  .exact qdu h f (k+1) 00 00
theorem qep(O:Ord lt n)(h:Pm n p):∀(f k:Nat),1<=k->k+f=n->InT lt n (kas_desc f p k 0)
 |0,_,_,_=>trivial
 |f+1,k,h1,h2=>by
  refine⟨h.bd (show k<n by lia),h.bd (show k-1<n by lia),?_⟩;cases z:lt (p.getD k 0) (p.getD (k-1) 0)with
  |true =>
   dsimp only;rw[wN rfl,wT 00];exact qep O h f (k+1) 00 00
  |false =>
   dsimp only;rw[wT 01];refine⟨h.bd (show k-1<n by lia),h.bd (show k<n by lia),?_⟩;have a:gt p k≠gt p (k-1):=λe=>by
    have:=h.inj 00 00 e;lia
   have q:lt (p.getD (k-1) 0) (p.getD k 0)=true:=by
    rcases O.tot _ _ (h.bd (show k<n by lia)) (h.bd (show k-1<n by lia)) a with y|y
    .have c:lt (gt p k) (gt p (k-1))=false:=z
     rw[c]at y;cases y
    .exact y
   rw[q];dsimp only;rw[wN rfl];trivial
theorem qiY(h:Pm n p){k:Nat}(a:1<=k)(c:k<=n):InT lt n (kas_tail3 k n p):=yz (qdu (qgQ h 0 k) (n-k) k a 00) trivial
theorem qgS(O:Ord lt n)(hn:1<=n)(h:Pm n p):InT lt n (kas_count n p):=by
 unfold kas_count;obtain⟨⟨l,o,c⟩,d⟩:=qbN O h (n-1) 1 (wH _) 00 Srt.one;refine yz (qdu h (n-1) 1 (wH _) 00) ?_;generalize evT lt (kas_asc p (n-1) 1)=m at *;by_cases e:m=n
 .subst e;rw[wN 07];trivial
 .rw [wT (by simpa using e)]
  by_cases a:m>1
  .rw [wN a]
   refine⟨h.bd (show 0<n by lia),h.bd (show m-1<n by lia),?_⟩;have q:lt (p.getD 0 0) (p.getD (m-1) 0)=true:=c 0 (m-1) 00 00;rw[q];dsimp only;rw[wN rfl];trivial
  .rw [wT a]
   have e1:m=1:=by lia
   subst e1;have q:=d 00;unfold kas_descPart;have f:Fal lt p 2:=Fal.snoc (m:=1) O h (wH _) 00 (λi j a r=>by lia) q;obtain⟨k,e,b1,b2,s⟩:=qbO O h (n-(1+1)) (1+1) 00 00 f;refine yz (qep O h (n-(1+1)) (1+1) 00 00) ?_;rw[e,wT 07];exact qiY (k:=k) h 00 b2
theorem qaE(h:Pm n p){k:Nat}(a:k<n):∀(f l r:Nat),r<=k->InT lt n (kas_place p k f l r)
 |0,_,_,_=>trivial
 |f+1,l,r,h2=>by
  unfold kas_place;by_cases hl:l>=r
  .rw [wN hl];trivial
  .rw [wT hl]
   refine⟨h.bd a,h.bd (show(l+r) / 2<n by lia),?_⟩;dsimp only;split
   .exact qaE h a f l _ 00
   .exact qaE h a f _ r h2
theorem qgT(O:Ord lt n):∀(f k:Nat) (p:Array Nat),Pm n p->k+f=n->InT lt n (kas_bin f p k)
 |0,_,_,_,_=>trivial
 |f+1,k,p,h,h1=>yz (qaE h 00 k 0 k (wH _)) (qgT O f (k+1) _ ((bubble_perm p k _).toList.trans h) 00)
theorem qiZ(O:Ord lt n)(hn:1<=n):InT lt n (kas_sort n):=by
 have a:Pm n (List.toArray (List.range n)):=by
  show(List.toArray (List.range n)).toList.Perm _;simp
 obtain⟨m,q,e,c,d,f,h⟩:=qcE O hn a;refine yz (qgS O hn a) ?_;rw[e];by_cases hm:m<n
 .rw [wN hm]
  have e2:max m 1=m:=by lia
  show InT lt n (kas_bin (n-max m 1) q (max m 1));rw[e2];exact qgT O (n-m) m q c 00
 .rw [wT hm];trivial
theorem qeq{a:Type}{cmp:Nat->Nat->(Bool->Shared->Prop)->Shared->Prop}{s:09}(hc:∀i j C,i<n->j<n->C (lt i j) s->cmp i j C s){Q:a->Shared->Prop}:∀{t:KasT a},InT lt n t->Q (evT lt t) s->t.kasWp cmp Q s
 | .ret _,_,h=>h
 | .ask i j k,h,q=>hc i j _ h.1 h.2.1 (qeq hc h.2.2 q)
end
section
variable{prog:Program}{w:World}{A:Around}{E:Value->Shared->Prop}{s:Shared}
theorem qlb{b:Bool}{x y:Int}{t u:Tok}{Q:Bool->Shared->Prop}(h:Q (decide (x<y)) s):wpAny 018 A (oneLt' b (.int x t) (.int y u)) Q E s:=by
 cases b with
 |true=>exact oneLt_int h
 |false=>exact PySem.W.kat_one _ _ (PySem.P.lt_int h)
theorem qgU{b:Bool}{Q:Bool->Shared->Prop}:∀{xs ys:008} {us vs:005} {i:Nat},IntsAre us xs->IntsAre vs ys->Q (HT.lexLt xs ys) s->KatLex prog w A b (decide (xs.length<ys.length)) Q (us.zip vs) i s:=by
 intro xs;induction xs with
 |nil =>
  intro ys us vs i a c h;cases a;cases c with
  |nil=>exact h
  |cons =>
   show Q _ s;simpa[HT.lexLt]using h
 |cons x xs d =>
  intro ys us vs i a c h;cases a with
  |cons _ t f =>
  cases c with
  |nil =>
   show Q _ s;simpa[HT.lexLt]using h
  |cons _ u j =>
  refine wpAny_eqBool_int ?_;rw[HT.zA]at h;split at h
  .rename_i e
   subst e;rw[wN 07];have:=d (i:=i+1) f j h;simpa[List.zip]using this
  .rename_i e
   rw[wT (by simpa using e)];exact qlb h
noncomputable def TupsAt(h:Heap):List Value->List (List Int)->Prop
 |[],ks=>ks=[]
 |v::vs,ks=>∃a c k r,v=.ref a/\ks=k::r/\IsTup h a c.toArray/\IntsAre c k/\TupsAt h vs r
theorem TupsAt.len{h:Heap}:∀{vs:005} {ks:List (List Int)},TupsAt h vs ks->vs.length=ks.length
 |[],_,e=>by cases (show _=[]from e);rfl
 |_::_,_,e=>by obtain⟨a,c,k,r,_,rfl,_,_,t⟩:=e;simp[TupsAt.len t]
theorem TupsAt.get{h:Heap}:∀{vs:005} {ks:List (List Int)} (i:Nat),TupsAt h vs ks->i<ks.length->∃a c,vs.getD i .none=.ref a/\IsTup h a c.toArray/\IntsAre c (ks.getD i [])
 |[],_,_,e,hi=>by cases (show _=[]from e);simp at hi
 |_::vs,_,0,e,hi=>by obtain⟨a,c,k,r,rfl,rfl,d,f,_⟩:=e;exact⟨a,c,rfl,d,by simpa using f⟩
 |_::vs,_,i+1,e,hi=>by
  obtain⟨a,c,k,r,rfl,rfl,d,f,t⟩:=e;obtain⟨j,its',e1,e2,l⟩:=TupsAt.get i t 042;exact⟨j,its',by simpa using e1,e2,by simpa using l⟩
theorem TupsAt.keep{h h':Heap}:∀{vs:005} {ks:List (List Int)},TupsAt h vs ks->(∀a o,Value.ref a∈vs->h.get? a=some o->h'.get? a=some o)->TupsAt h' vs ks
 |[],_,e,_=>e
 |_::_,_,e,hk=>by
  obtain⟨a,d,k,r,rfl,rfl,⟨o,f,c⟩,i,t⟩:=e;exact⟨a,d,k,r,rfl,rfl,⟨o,hk a o wR f,c⟩,i,t.keep λb u hb=>hk b u (wM _ hb)⟩
theorem TupsAt.firsts{h:Heap}:∀{vs:005} {ks:List (List Int)},TupsAt h vs ks->(∀k∈ks,k≠[])->∃fs:List Value,KatTups h vs fs/\fs.length=vs.length/\∀f∈fs,∃x t,f=.int x t
 |[],_,e,_=>⟨[],trivial,rfl,λf i=>by cases i⟩
 |_::_,_,e,hn=>by
  obtain⟨a,l,k,r,rfl,rfl,⟨o,n,c,m,d⟩,j,t⟩:=e;obtain⟨fs,k1,k2,k3⟩:=t.firsts λk p=>hn k (wM _ p)
  cases j with
  |nil=>exact absurd rfl (hn [] wR)
  |cons x tx j =>
   refine⟨.int x tx::fs,⟨⟨a,o,_,m,rfl,n,c,d,by simp⟩,k1⟩,by simp[k2],λf i=>?_⟩;rcases wW.mp i with z|z
   .exact ⟨x,tx,z⟩
   .exact k3 f z
noncomputable def ltK(ks:List (List Int))(i j:Nat):Bool:=HT.lexLt (ks.getD i []) (ks.getD j [])
theorem qi0{vs:005}{ks:List (List Int)}(t:TupsAt s.heap vs ks){i j:Nat}(hi:i<ks.length)(l:j<ks.length){C:Bool->Shared->Prop}(h:C (ltK ks i j) s):kas_cmp prog w A (tuples' true) (pairsOf vs) i j C s:=by
 unfold kas_cmp;rw[kas_item_eq,kas_item_eq];obtain⟨a,xs,e1,⟨o,n,_,m,d⟩,c⟩:=t.get i hi;obtain⟨b,ys,e2,⟨u,eu,_,p,d'⟩,f⟩:=t.get j l;dsimp only;rw[e1,e2];have:=qgU (prog:=prog) (w:=w) (A:=A) (s:=s) (b:=true) (i:=0) (Q:=C) c f h;refine kat_lt n d eu d' ?_;have l1:=c.length;have l2:=f.length;simpa[l1,l2]using this
theorem qgV{vs:005}{ks:List (List Int)}(t:TupsAt s.heap vs ks)(hn:∀k∈ks,k≠[])(c:2<=vs.length){Q:SortKind->Shared->Prop}(h:Q (tuples' true) s):wpAny 018 A (keyKind' vs.toArray) Q E s:=by
 obtain⟨fs,k1,k2,k3⟩:=t.firsts hn;refine kat_kind (T:=Value.type "int") k1 00 (λv a=>?_) 01 h;obtain⟨x,tx,rfl⟩:=k3 v a;exact .now
end
end R
namespace R
open PySem PySem.Spec L2 SeqAt
open PyProof.Rows hiding St
open PySem.W (KasT kas_sort kas_cmp kas_item kas_item_eq kas_runs kas_st kas_range KdlSrc kdl_extend kdl_hint_dict)
section
variable{prog:Program}{w:World}{A:Around}{E:Value->Shared->Prop}{s:Shared}
structure Answers (prog:Program) (w:World) (A:Around) (vs:005) (s:09) (κ:SortKind) (lt:Nat->Nat->Bool):Prop where
 kind:∀(E:015) (Q:SortKind->Shared->Prop),Q κ s->wpAny 018 A (keyKind' vs.toArray) Q E s
 ord:Ord lt vs.length
 cmp:∀i j C,i<vs.length->j<vs.length->C (lt i j) s->kas_cmp prog w A κ (pairsOf vs) i j C s
noncomputable def outOf(lt:Nat->Nat->Bool)(vs:005):List Value:=if vs.length<2 then vs else(evT lt (kas_sort vs.length)).toList.map λi=>vs.getD i Value.none
theorem lsort{D:Addr}{vs:005}{n:Nat}{κ:SortKind}{lt:Nat->Nat->Bool}{P:PySem.Fin->Shared->Prop}(r:s.heap.get? D=some (seqObj "list" vs.toArray n))(u:vs.length<64)(v:2<=vs.length->∀h':Heap,(∀b o,b≠D->s.heap.get? b=some o->h'.get? b=some o)->Answers prog w A vs {s with heap:=h' } κ lt)(h:∀(h':Heap) (c:Nat),(∀b o,b≠D->s.heap.get? b=some o->h'.get? b=some o)->h'.get? D=some (seqObj "list" (outOf lt vs).toArray c)->P (.done (.ret .none)) {s with heap:=h' }):
  wpAny 018 A (Builtin.«list.sort» ⟨[.ref D],[]⟩) P E s:=by
 have K:D<s.heap.objs.size:=wI r;obtain⟨e1,y⟩:∃e1,(s.heap.update D (Obj.mapSeq λ_=>(#[]:Array Value))).get? D=some (seqObj "list" #[] e1):=⟨_,xg r λ_=>#[]⟩;have k1:∀b o,b≠D->s.heap.get? b=some o->(((s.heap.update D (Obj.mapSeq λ_=>(#[]:Array Value))).push (seqObj "tuple" vs.toArray 0)).push (seqObj "list" #[] 0)).get? b=some o:=λb o hb e =>
  wB _ (wB _ ((wZ _ _ (Ne.symm hb)).trans e))
 have j:(((s.heap.update D (Obj.mapSeq λ_=>(#[]:Array Value))).push (seqObj "tuple" vs.toArray 0)).push (seqObj "list" #[] 0)).get? D=some (seqObj "list" #[] e1):=wB _ (wB _ y);rw[list_sort_plain];refine wA (listItems_at r rfl (wA (listUpdate_at r rfl (wA (seqEpoch_at y rfl (wA (wpAny_newTuple (wA (wpAny_newList (vQ ?_) (wr _))) (by show vs.length<=_;rw[vm];lia)))))
  (by rw[wO,vm];lia) (wr _))))
 generalize L:((s.heap.update D (Obj.mapSeq λ_=>(#[]:Array Value))).push (seqObj "tuple" vs.toArray 0)).push (seqObj "list" #[] 0)=h3 at k1 j;show wpAny 018 A _ P E {s with heap:=h3};dsimp only;have fin:∀(xs:028),xs=(outOf lt vs).toArray->P (.done (.ret .none)) {s with heap:=h3.update D (Obj.mapSeq λ_=>xs)}:=λxs ex=>by
  subst ex;exact h _ _ (λb o hb e=>(wZ _ _ (Ne.symm hb)).trans (k1 b o hb e)) (xg j λ_=>(outOf lt vs).toArray)
 by_cases l:vs.toArray.size<2
 .have f:vs.length<2:=by simpa using l
  rw[wN l,wN l];refine wA (wD ?_);rw[StateT.run_pure];refine wA (wD (?_:wpAny _ A _ _ _ _));dsimp only;refine wA (seqEpoch_at j rfl (wA (listUpdate_at j rfl ?_ (wr _) (by rw[Array.size_map];show(pairsOf vs).size<=_;rw[pairsOf_size,vm];lia))));simp only[bne_self_eq_false,vf,ui];refine wD (fin _ ?_);unfold outOf;rw[wN f];apply Array.toList_inj.mp;show((vs.toArray.zip vs.toArray).map (·.2)).toList=_;simp[List.map_snd_zip]
 .have f:2<=vs.length:=by
   have:¬vs.length<2:=by simpa using l
   lia
  have a:=v f h3 k1;rw[wT l,wT l];refine wA (a.kind _ _ ?_);have x:SortSt.mk' κ (vs.toArray.zip vs.toArray) #[] 7 none=kas_st κ (pairsOf vs) (List.toArray (List.range vs.length)):=by
   have e:=kas_range (pairsOf vs);rw[pairsOf_size]at e;show SortSt.mk' κ (pairsOf vs) #[] 7 none=SortSt.mk' κ ((List.toArray (List.range vs.length)).map (kas_item (pairsOf vs))) #[] 7 none;rw[e]
  have run:=kas_runs (prog:=prog) (w:=w) (A:=A) (E:=E) (κ:=κ) (it:=pairsOf vs) (s:={s with heap:=h3}) (Q:=λ_ d s'=>s'={s with heap:=h3}/\failedOf d=none/\∃p:Array Nat,p=evT lt (kas_sort vs.length)/\p.size=vs.length/\arrOf d=p.map (kas_item (pairsOf vs)))
   (G:=λp s'=>s'={s with heap:=h3}/\p=evT lt (kas_sort vs.length)) f u (λC d s' b1 b2 F B=>⟨B.1,F,C,B.2,b1,b2⟩) (qeq a.cmp (qiZ a.ord 00) ⟨rfl,rfl⟩)
  rw[<-x]at run;refine wA (wt run ?_ λ_ _ e=>e);rintro⟨⟨⟩,d⟩ s' ⟨rfl,H,p,I,J,m⟩;dsimp only;have q:(arrOf d).map (·.2)=(outOf lt vs).toArray:=by
   unfold outOf;rw[wT 00,<-I];apply Array.toList_inj.mp;rw[m,Array.map_map,Array.toList_map];exact vK λi _=>by show(kas_item (pairsOf vs) i).2=_;rw[kas_item_eq]
  have hsz:((arrOf d).map (·.2)).size=vs.length:=by rw[m,Array.map_map,Array.size_map,J]
  refine wA (seqEpoch_at j rfl (wA (listUpdate_at j rfl ?_ (wr _) (by show((arrOf d).map (·.2)).size<=_;rw[hsz,vm];lia))));rw[H];simp only[bne_self_eq_false,vf,ui];exact wD (fin _ q)
theorem qfr{x:Value}{vs:005}{κ:SortKind}{lt:Nat->Nat->Bool}{Q:015}(d:vs.length<64)(col:∀(j:015) (Q':List Value->Shared->Prop),(∀(h':Heap) (tk:Nat),s.heap.objs.size<=h'.objs.size->(∀b o,s.heap.get? b=some o->h'.get? b=some o)->Q' vs {s with heap:=h',toks:=tk})->wpAny 018 A.in1 (collect x) Q' j s)(f:2<=vs.length->∀(h':Heap) (tk:Nat),(∀b o,s.heap.get? b=some o->h'.get? b=some o)->Answers prog w A.in1.in1 vs {s with heap:=h',toks:=tk} κ lt)(h:∀(h':Heap) (tk:Nat) (D:Addr) (c:Nat),s.heap.objs.size<=D->(∀b o,s.heap.get? b=some o->h'.get? b=some o)->h'.get? D=some (seqObj "list" (outOf lt vs).toArray c)->Q (.ref D) {s with heap:=h',toks:=tk}):
  wpAny 018 A (call (.builtin "sorted") [x]) Q E s:=by
 refine Calls.call_function_entry kind_sorted plain_sorted entry_sorted (args_sorted1 _) ?_;unfold Builtin.«sorted»;refine wA (m:=checkCount "sorted" 1 1 _) (wD (wA (col _ _ λa tk sz k1=>wA (wpAny_newList ?_ (by rw[vm];lia)))));have i:(a.push (seqObj "list" vs.toArray 0)).get? a.objs.size=some (seqObj "list" vs.toArray 0):=wJ _ rfl;have up:∀b o,s.heap.get? b=some o->(a.push (seqObj "list" vs.toArray 0)).get? b=some o:=λb o e=>wB _ (k1 b o e)
 have ne:∀b o,s.heap.get? b=some o->b≠a.objs.size:=λb o e=>wg (wI (k1 b o e))
 show wpAny _ _ _ _ _ {s with heap:=a.push (seqObj "list" vs.toArray 0),toks:=tk};refine wA (vQ (vI slot_list_sort ⟨_,i,rfl⟩ entry_list_sort ?_ (args_list_sort _)));refine lsort (κ:=κ) (lt:=lt) (s:={s with heap:=a.push (seqObj "list" vs.toArray 0),toks:=tk}) i d (λl h' kp=>f l h' tk λb o e=>kp b o (ne b o e) (up b o e)) λh' c kp n=>?_
 exact⟨_,rfl,wD ⟨_,rfl,h h' tk a.objs.size c sz (λb o e=>kp b o (ne b o e) (up b o e)) n⟩⟩
def EsAt(h:Heap)(d:Addr)(es:Array DictEntry)(a:Nat):Prop:=∃o,h.get? d=some o/\o.ExactDict/\o.data=.dict es a
theorem EsAt.at{h h':Heap}{d:Addr}{es:Array DictEntry}{a:Nat}(x:EsAt h d es a)(e:∀o,h.get? d=some o->h'.get? d=some o):EsAt h' d es a:=let ⟨o,c,r⟩:=x;⟨o,e o c,r⟩
theorem EsAt.typeIs{s:09}{d:Addr}{es:Array DictEntry}{a:Nat}(x:EsAt s.heap d es a):s.TypeIs (.ref d) "dict":=let ⟨o,f,c,_⟩:=x;⟨o,f,c.1⟩
theorem qfs{d:Addr}{es:Array DictEntry}{f:Nat}{Q:015}(hd:(d == sysModules)=false)(hm:EsAt s.heap d es f)(i:Q 043 {s with heap:=s.heap.push {cls:=.type "dict_keyiterator",data:=.fields #[.ref d,.int 0 0,.int es.size 0,.int f 0]}}):wpAny 018 A (pyIter (.ref d)) Q E s:=by
 have c:=hm.typeIs;obtain⟨o,h,hc,a⟩:=hm;refine wpAny_pyIter_slot c F.slot_dict_iter (vI F.slot_dict_iter c F.entry_dict_iter ?_ (F.args_dict_iter_1 _));unfold Builtin.«dict.__iter__»;refine wA ?_;unfold Builtin.Dict.dictSlotNone;refine wA (wpAny_notOrdered_dict c (wD (?_:wpAny _ _ (Builtin.Dict.showsAll d >>= _) _ _ s)));unfold Builtin.Dict.showsAll;rw[wT (by rw[hd];exact wd)];refine wA (wD (wA (xP h a (wA (wpAny_dictEpoch h a ?_)))));refine wA (wf (wD ⟨_,rfl,"dict_keyiterator",_,⟨_,wJ _ rfl,rfl⟩,uA.lookup,?_⟩));simpa[rawInt]using i
theorem qft{it d:Addr}{i l:Nat}{es:Array DictEntry}{e:DictEntry}{Q:Option Value->Shared->Prop}(f:s.heap.IsKeyIter it d i es.size l)(hm:EsAt s.heap d es l)(n:es[i]?=some e)(p:∀h',h'.IsKeyIter it d (i+1) es.size l->Heap.SameBut it s.heap h'->Q (some e.key) {s with heap:=h' }):wpAny 018 A (pyNext (.ref it)) Q E s:=by
 have c:=f.typeIs;obtain⟨o,m,hc,hd⟩:=f;obtain⟨od,h,q,j⟩:=hm;unfold pyNext;refine wA (uo (vA (name:=Str.ofString "__next__") c uA (vI uA c F.entry_dict_keyiterator_next ?_ (F.args_dict_keyiterator_next_1 _))));refine wA (wD (wA (wA ?_)))
 first|refine wA (uV c (wD (wA (xt m hd ?_))))|refine wA (uk c (wD (wA (xt m hd ?_))))
 have own:Builtin.Dict_items.ownsTuple "dict_keyiterator"=false:=by decide
 simp only[own,vf,ui];show wpAny _ _ (if(Value.ref d == Value.none)=true then _ else _) _ _ s;rw[wT (show ¬((Value.ref d == Value.none)=true)from wd)];refine wA (wD (wA (xP h j ?_)));rw[wT 07];refine wA (wD (wA (wpAny_dictEpoch h j ?_)));rw[wT 07];refine wD ?_;obtain⟨r,u⟩:=wi.mp n;simp only[show ¬((i:Int)<0)from by lia,ui,xR,n];refine wA ?_
 first|refine wA (uV c (wD ?_))|refine wA (uk c (wD ?_))
 refine wA (wpAny_isOneOf_keyiter c (?_:wpAny _ _ (setField (.ref it) 1 (rawInt ((i:Int)+1)) >>= _) _ _ s));refine wA (uN m hd 07 ?_);have a:(s.heap.update it (Obj.mapFields (·.setIfInBounds 1 (rawInt ((i:Int)+1))))).IsKeyIter it d (i+1) es.size l :=
  ⟨_,vO _ m (u5 (vd hd _)),(Obj.cls_mapFields ..).trans hc,by rw[vd hd];simp[rawInt]⟩
 refine wA (vQ (wA (wpAny_isOneOf_keyiter (s:={s with heap:=s.heap.update it (Obj.mapFields (·.setIfInBounds 1 (rawInt ((i:Int)+1))))}) a.typeIs (?_:wpAny _ _ (pure e.key) _ _ _))));exact wD (wD ⟨_,rfl,wD (p _ a (Heap.SameBut.update ..))⟩)
theorem qgW{it d:Addr}{i n:Nat}{es:Array DictEntry}{Q:Option Value->Shared->Prop}(p:A.handled=none)(f:s.heap.IsKeyIter it d i es.size n)(hm:EsAt s.heap d es n)(q:es[i]?=none)(r:∀h',Heap.ExtBut it s.heap h'->Q none {s with heap:=h' }):wpAny 018 A (pyNext (.ref it)) Q E s:=by
 have c:=f.typeIs;obtain⟨o,l,hc,hd⟩:=f;obtain⟨od,h,u,j⟩:=hm;unfold pyNext;refine wA (uo (vA (name:=Str.ofString "__next__") c uA (vI uA c F.entry_dict_keyiterator_next ?_ (F.args_dict_keyiterator_next_1 _))));refine wA (wD (wA (wA ?_)))
 first|refine wA (uV c (wD (wA (xt l hd ?_))))|refine wA (uk c (wD (wA (xt l hd ?_))))
 have own:Builtin.Dict_items.ownsTuple "dict_keyiterator"=false:=by decide
 simp only[own,vf,ui];show wpAny _ _ (if(Value.ref d == Value.none)=true then _ else _) _ _ s;rw[wT (show ¬((Value.ref d == Value.none)=true)from wd)];refine wA (wD (wA (xP h j ?_)));rw[wT 07];refine wA (wD (wA (wpAny_dictEpoch h j ?_)));rw[wT 07];refine wD ?_;simp only[show ¬((i:Int)<0)from by lia,ui,xR,q];refine wA ?_
 first|refine wA (uV c (wD ?_))|refine wA (uk c (wD ?_))
 refine wA (m:=setField (.ref it) 0 .none) (uN l hd 07 (?_:wpAny _ _ (newExc (.type "StopIteration") [] >>= _) _ _ _));refine wA ?_;unfold newExc newTuple;refine wA (wf (wA (wpAny_of_eq (t:=firstArgMember _ _) (a:=Value.none) (by first|rfl|(simp only[firstArgMember];rfl)) (wf ?_ (by size_fits)))) (by size_fits));unfold raiseNew;refine wA (wpAny_handled ?_);rw[show A.in1.handled=none from p];refine wA (wD (wpAny_throw ?_));refine wA (wpAny_isInstance (T:="StopIteration") (b:=true) ⟨_,wJ _ rfl,rfl⟩ isSubtype_stop ?_);exact wD (r _ (((Heap.SameBut.update ..).extBut.push _).push _))
theorem qfu(n:A.handled=none)(I d:Addr)(c:d≠I)(es:Array DictEntry)(f:Nat):Walks prog w A I [I,d] [I] es.size (λi v=>(es[i]?).map (·.key)=some v) (λi h=>h.IsKeyIter I d i es.size f/\EsAt h d es f) where
 sub:=λb hb=>by simp at hb;simp[hb]
 frame:=λ_ _ _ st j=>⟨st.1.at λo e=>j I 07 o e,st.2.at λo e=>j d 07 o e⟩
 item:=λi s Q E hi st a=>by
  have l:es[i]?=some es[i]:=uh hi;exact qft st.1 st.2 l λh' p m=>a _ h' s.toks (by rw[l];rfl) ⟨p,st.2.at λo e=>m.extBut _ o c e⟩ λb o hb e=>m.extBut b o (λz=>hb (by simp[z])) e
 done:=λs Q E st a=>qgW n st.1 st.2 (xf (wH _)) λh' q=>a h' s.toks λb o hb e=>q b o (λz=>hb (by simp[z])) e
 self:=λ_ _ _ _ st a=>wpAny_pyIter_keyiter st.1 a
theorem qgX{d:Addr}{es:Array DictEntry}{f:Nat}(lo:(d == sysModules)=false):KdlSrc prog w "dict" d d es.size (λi v=>(es[i]?).map (·.key)=some v) (λh=>EsAt h d es f) where
 type:=λ_ hm=>hm.typeIs
 there:=λ_ hm=>let ⟨o,a,_⟩:=hm;⟨wI a,wI a⟩
 keep:=λ_ _ hm j=>hm.at λo e=>j d (.inl rfl) o e
 notList:=by decide
 notTuple:=by decide
 hint:=λ_ _ _ _ hm c=>kdl_hint_dict hm.typeIs c
 iter:=λA s l hm=>⟨_,_,(λ_ _ c=>qfs lo hm c),qfu l _ d (by obtain⟨o,a,_⟩:=hm;exact wg (wI a)) es f,⟨⟨_,wJ _ rfl,rfl,rfl⟩,hm.at λo e=>wB _ e⟩⟩
theorem qbm{d:Addr}{es:Array DictEntry}{n:Nat}{Q:List Value->Shared->Prop}(p:A.handled=none)(lo:(d == sysModules)=false)(hm:EsAt s.heap d es n)(hn:es.size<=sizeLine)(q:∀(h':Heap) (tk:Nat),s.heap.objs.size<=h'.objs.size->(∀b o,s.heap.get? b=some o->h'.get? b=some o)->Q (es.toList.map (·.key)) {s with heap:=h',toks:=tk}):wpAny 018 A (collect (.ref d)) Q E s:=by
 have hd:d≠s.heap.objs.size:=by obtain⟨o,r,_⟩:=hm;exact wg (wI r)
 have c:∀R:Result->Shared->Prop,(∀(h':Heap) (tk:Nat) (a:028) (f:Nat),(∀b o,s.heap.get? b=some o->h'.get? b=some o)->h'.get? s.heap.objs.size=some {cls:=.type "list",dict:=none,data:=.seq a f,slots:=#[]}->ItemsOf (λi v=>(es[i]?).map (·.key)=some v) a es.size ->
   R (.ok (.ret 043)) {s with heap:=h',toks:=tk})->codeAny (model prog w) A (.builtin "proto.collect" ⟨[.ref d],[]⟩) R s:=by
  intro R u;refine vc xo ?_;rw[vJ xn];refine wA (m:=newList []) (wf (wD ⟨uR ua _,vc F.entry_list_iadd ?_⟩));rw[vJ ua];have x:(s.heap.push {cls:=.type "list",data:=.seq ([]:List Value).toArray}).get? s.heap.objs.size=some {cls:=.type "list",data:=.seq #[] 0}:=wJ _ rfl;exact kdl_extend (R:=R) (s:={s with heap:=s.heap.push {cls:=.type "list",data:=.seq ([]:List Value).toArray}}) (qgX lo) p (hm.at λo e=>wB _ e) s.heap.objs.size (Ne.symm hd) (Ne.symm hd) 043 0 x (λh' tk a f j h hi =>
   u h' tk a f (λb o e=>j b o (wg (wI e)) (wB _ e)) h hi) hn
 unfold collect;refine wA (wpAny_runValue (c _ λh' tk a f j h hi=>?_));refine wA (m:=load s.heap.objs.size) (wpAny_load h (wD ?_));have e:a.toList=es.toList.map (·.key):=by
  apply List.ext_getElem?;intro i;rw[wk];cases z:a[i]? with
  |none =>
   have l:a.size<=i:=by simpa using z
   rw[hi.1]at l;have y:es[i]?=none:=xf l;rw[u7,u7,z,y];rfl
  |some v =>
   have:=hi.2 i v z;rw[u7,u7,z,this]
 rw[e];exact q h' tk (Nat.le_of_lt (wI h)) j
end
end R
namespace R
open PySem PySem.Spec L2 SeqAt
open PyProof.Rows hiding St
open PySem.W (KasT kas_sort)
def qbP:∀a:List Int,HT.lexLt a a=false
 |[]=>rfl
 |x::a=>by rw[HT.zA,wN rfl];exact qbP a
def qbQ:∀{a b c:008},HT.lexLt a b=true->HT.lexLt b c=true->HT.lexLt a c=true
 |[],[],_,h,_=>by cases h
 |[],_::_,[],_,h=>by cases h
 |[],_::_,_::_,_,_=>rfl
 |_::_,[],_,h,_=>by cases h
 |_::_,_::_,[],_,h=>by cases h
 |x::a,y::b,z::c,h,k=>by
  rw[HT.zA]at h k ⊢;by_cases e1:x=y
  .subst e1
   rw[wN rfl]at h;by_cases e2:x=z
   .subst e2
    rw[wN rfl]at k ⊢;exact qbQ h k
   .rw [wT e2]at k ⊢;exact k
  .rw [wT e1]at h
   have h':=vR h;by_cases e2:y=z
   .subst e2
    rw[wT e1];exact h
   .rw [wT e2]at k
    have d:=vR k;rw[wT 00];exact wQ 00
def lex_tot:∀{a b:008},a≠b->HT.lexLt a b=true\/HT.lexLt b a=true
 |[],[],h=>absurd rfl h
 |[],_::_,_=>.inl rfl
 |_::_,[],_=>.inr rfl
 |x::a,y::b,h=>by
  rw[HT.zA,HT.zA];by_cases e:x=y
  .subst e
   rw[wN rfl,wN rfl];exact lex_tot λz=>h (by rw[z])
  .rw [wT e,wT (Ne.symm e)]
   rcases Int.lt_or_gt_of_ne e with z|z
   .exact .inl (wQ z)
   .exact .inr (wQ z)
def jW(x:008):∀l:List (List Int),(insT x l).Perm (x::l)
 |[]=>.refl _
 |y::r=>by
  unfold insT;split
  .exact ((jW x r).cons y).trans (.swap ..)
  .exact .refl _
def zk:∀l:List (List Int),(sortT l).Perm l
 |[]=>.refl _
 |x::r=>(jW x (sortT r)).trans ((zk r).cons x)
def Ris(l:List (List Int)):Prop:=l.Pairwise λa b=>HT.lexLt a b=true
def qcF{x:008}:∀{l:List (List Int)},x∉l->Ris l->Ris (insT x l)
 |[],_,_=>List.pairwise_singleton _ _
 |y::r,hn,h=>by
  obtain⟨f,i⟩:=ws.mp h;unfold insT;split
  .rename_i hl
   refine ws.mpr ⟨λz d=>?_,qcF (λm=>hn (wM _ m)) i⟩;rcases wW.mp ((jW x r).mem_iff.mp d)with e|e
   .rw [e];exact hl
   .exact f z e
  .rename_i hl
   have c:HT.lexLt x y=true:=by
    rcases lex_tot (a:=x) (b:=y) λe=>hn (by rw[e];exact wR)with z|z
    .exact z
    .rw [z]at hl;exact absurd rfl hl
   refine ws.mpr ⟨λz d=>?_,h⟩;rcases wW.mp d with e|e
   .rw [e];exact c
   .exact qbQ c (f z e)
def jX:∀{l:List (List Int)},l.Nodup->Ris (sortT l)
 |[],_=>.nil
 |x::r,h=>by
  obtain⟨a,c⟩:=u6.mp h;exact qcF (λm=>a ((zk r).mem_iff.mp m)) (jX c)
def qcG:∀{a b:List (List Int)},a.Perm b->Ris a->Ris b->a=b
 |[],b,p,_,_=>(List.nil_perm.mp p).symm
 |x::a,[],p,_,_=>absurd (List.perm_nil.mp p) 07
 |x::a,y::b,p,h,k=>by
  obtain⟨d,f⟩:=ws.mp h;obtain⟨k1,k2⟩:=ws.mp k;have e:x=y:=by
   rcases wW.mp (p.mem_iff.mp wR)with z|z
   .exact z
   .rcases wW.mp (p.symm.mem_iff.mp wR)with c|c
    .exact c.symm
    .have:=qbQ (d y c) (k1 x z)
     rw[qbP]at this;cases this
  subst e;rw[qcG (List.Perm.cons_inv p) f k2]
def jY(x:Int):∀l:List Int,(insI x l).Perm (x::l)
 |[]=>.refl _
 |y::r=>by
  unfold insI;split
  .exact .refl _
  .exact ((jY x r).cons y).trans (.swap ..)
def zQ:∀l:List Int,(sortI l).Perm l
 |[]=>.refl _
 |x::r=>(jY x (sortI r)).trans ((zQ r).cons x)
def qer{x:Int}:∀{l:008},l.Pairwise (·<=·)->(insI x l).Pairwise (·<=·)
 |[],_=>List.pairwise_singleton _ _
 |y::r,h=>by
  obtain⟨c,d⟩:=ws.mp h;unfold insI;split
  .rename_i hl
   refine ws.mpr ⟨λz a=>?_,h⟩;rcases wW.mp a with e|e
   .rw [e];exact hl
   .exact vD hl (c z e)
  .rename_i hl
   refine ws.mpr ⟨λz a=>?_,qer d⟩;rcases wW.mp ((jY x r).mem_iff.mp a)with e|e
   .rw [e];lia
   .exact c z e
def qaF:∀l:List Int,(sortI l).Pairwise (·<=·)
 |[]=>.nil
 |x::r=>qer (qaF r)
def qdv{ks:List (List Int)}(nd:ks.Nodup):Ord (ltK ks) ks.length where
 irr:=λa _=>qbP _
 tr:=λa b c _ _ _ h k=>qbQ h k
 tot:=λa b ha hb h=>lex_tot λe=>h (by
  rw[we,we,wC ha,wC hb]at e;exact(xb nd).mp e)
def qcH{ks:List (List Int)}(nd:ks.Nodup)(d:1<=ks.length):(evT (ltK ks) (kas_sort ks.length)).toList.map (λi=>ks.getD i [])=sortT ks:=by
 obtain⟨pm,f⟩:=qeo (qdv nd) d;generalize evT (ltK ks) (kas_sort ks.length)=p at *;have h:(p.toList.map λi=>ks.getD i []).Perm ks:=by
  have e:(List.range ks.length).map (λi=>ks.getD i [])=ks:=by
   apply List.ext_getElem?;intro i;rw[wk];by_cases hi:i<ks.length
   .rw [wC 042,wC hi]
    simp[hi]
   .rw [xj 042,xj 00];rfl
  have:=pm.map λi=>ks.getD i []
  rwa [e]at this
 refine qcG (h.trans (zk ks).symm) ?_ (jX nd);show(p.toList.map λi=>ks.getD i []).Pairwise _;rw[List.pairwise_map,List.pairwise_iff_getElem];intro i j hi c a;have hsz:=pm.size;have:=f i j a (by simpa[hsz]using c);rw[qcD 042,qcD (by simpa using c)]at this;simpa[ltK]using this
section
variable{X:Cx}{pins:List (Addr×Obj)}{σ:St}{H:Hp}{s:Shared}{ι:List Addr}{S:Sr}
theorem qes(I:016):∀{l:04} {ks:List (List Int)} {xs:List V} {vs:005},tupsOf l=some ks->Dens ι H l xs->Vals xs vs->TupsAt s.heap vs ks/\l=ks.map tupI
 |[],ks,xs,vs,e,hd,r=>by
  cases e;cases (show xs=[]from hd);cases r;exact⟨rfl,rfl⟩
 | .t a::l,ks,xs,vs,e,hd,r=>by
  obtain⟨x,d,rfl,f,hl⟩:=hd;obtain⟨b,ys,rfl,_,hb,h⟩:=f;simp only[tupsOf]at e;cases z1:intsOf a with
  |none=>rw[z1]at e;cases e
  |some k =>
   rw[z1,wX]at e;cases z2:tupsOf l with
   |none=>rw[z2]at e;cases e
   |some i =>
    rw[z2]at e;cases e;cases r with
    |cons j m =>
     cases j;obtain⟨t1,t2⟩:=qes I z2 hl m;obtain⟨c,n,p,_⟩:=qax I hb;have o:=intsOf_eq z1;subst o;cases dens_ints h;refine⟨⟨b,c,k,i,rfl,rfl,p,zB n,t1⟩,?_⟩;rw[t2];rfl
 | .non::_,_,_,_,e,_,_=>by cases e
 | .bl _::_,_,_,_,e,_,_=>by cases e
 | .int _::_,_,_,_,e,_,_=>by cases e
 | .str _::_,_,_,_,e,_,_=>by cases e
 | .l _::_,_,_,_,e,_,_=>by cases e
 | .emp::_,_,_,_,e,_,_=>by cases e
 | .exc _::_,_,_,_,e,_,_=>by cases e
 | .ref _::_,_,_,_,e,_,_=>by cases e
theorem qcI{xs:List V}{vs:005}(r:Vals xs vs):∀p:List Nat,(∀i∈p,i<vs.length)->Vals (p.map λi=>xs.getD i .non) (p.map λi=>vs.getD i .none)
 |[],_=>.nil
 |i::p,h=>by
  refine .cons ?_ (qcI r p λj a=>h j (wM _ a));have hi:=h i wR;obtain⟨x,e1,e2⟩:=Vals.at r hi;dsimp only;rw[we,we,e1,wC hi];exact e2
theorem qcJ{l:04}{xs:List V}(h:Dens ι H l xs):∀p:List Nat,(∀i∈p,i<l.length)->Dens ι H (p.map λi=>l.getD i .non) (p.map λi=>xs.getD i .non)
 |[],_=>rfl
 |i::p,hp=>by
  have hi:=hp i wR;obtain⟨x,e1,e2⟩:=h.get (wC hi);refine⟨_,_,rfl,?_,qcJ h p λj a=>hp j (wM _ a)⟩;dsimp only;rw[we,we,e1,wC hi];exact e2
theorem yq{m:Bool}{x:Value}{l:04}{ks:List (List Int)}{xs:List V}{vs:005}{Q:VK}(I:016)(st:Sto ι H S)(hc:017)(n:Dens ι H l xs)(p:Vals xs vs)(e:tupsOf l=some ks)(y:l.length<64)(nd:ks.Nodup)(ne:∀k∈ks,k≠[])(col:∀(u:015) (Q':List Value->Shared->Prop),(∀(h':Heap) (tk:Nat),s.heap.objs.size<=h'.objs.size->(∀b o,s.heap.get? b=some o->h'.get? b=some o)->Q' vs {s with heap:=h',toks:=tk})->wpAny 006 X.A.in1 (collect x) Q' u s)(q:Pst Den (newL m ((sortT ks).map tupI) S) ι H Q):wpAny 006 X.A (call (.builtin "sorted") [x]) (EP X pins σ Q) X.xe s:=by
 obtain⟨v,r⟩:=qes I e n p;have len:vs.length=ks.length:=v.len;have B:l.length=ks.length:=by rw[r];simp
 refine qfr (κ:=tuples' true) (lt:=ltK ks) 00 col (λh h' tk kp=>?_) λh' tk D c sz kp E=>?_
 .have t':TupsAt h' vs ks:=v.keep λa o _ F=>kp a o F
  exact⟨λu Q' J=>qgV (s:={s with heap:=h',toks:=tk}) t' ne h J,by rw[len];exact qdv nd,λi j C hi N K=>qi0 (s:={s with heap:=h',toks:=tk}) t' 00 00 K⟩
 .
  have fin:∃f,Vals f (outOf (ltK ks) vs)/\Dens ι H ((sortT ks).map tupI) f:=by
   unfold outOf;by_cases h:vs.length<2
   .rw [wN h]
    refine⟨xs,p,?_⟩;have:sortT ks=ks:=by
     match ks,len with
     |[],_=>rfl
     |[k],_=>rfl
     |_::_::_,len=>simp at len;lia
    rw[this,<-r];exact n
   .rw [wT h]
    rw[len];obtain⟨pm,_⟩:=qeo (qdv nd) (show 1<=ks.length by lia);have hb:∀i∈(evT (ltK ks) (kas_sort ks.length)).toList,i<ks.length:=λi hi=>uB.mp (pm.mem_iff.mp hi)
    refine⟨_,qcI p _ λi hi=>by rw[len];exact hb i hi,?_⟩;have d:=qcJ n _ λi hi=>by rw[B];exact hb i hi
    have e2:(sortT ks).map tupI=(evT (ltK ks) (kas_sort ks.length)).toList.map λi=>l.getD i .non:=by
     rw[<-qcH nd 00,wo];refine vK λi hi=>?_
     have:=hb i hi;rw[r];simp[this]
    rw[e2];exact d
  obtain⟨f,L,d'⟩:=fin;have fr:H D=none:=I.hok.fresh sz;have M:f.length<=sizeLine:=by
   rw[<-d'.length,wF,(zk ks).length_eq,vm];lia
  exact⟨.ref D,upd H D (.l f),I.laid (o:=.l f) (t':=tk) kp sz ⟨M,outOf (ltK ks) vs,c,L,E⟩,rfl,zy st d' q D fr⟩
theorem qgY{a:Addr}{xs:List V}(I:016)(h:Rd H a (.l xs)):∃vs:List Value,Vals xs vs/\s.heap.IsList a vs.toArray/\(∀(A:Around) (c:015) (Q':List Value->Shared->Prop),(∀(h':Heap) (tk:Nat),s.heap.objs.size<=h'.objs.size->(∀b o,s.heap.get? b=some o->h'.get? b=some o)->Q' vs {s with heap:=h',toks:=tk})->wpAny 006 A (collect (.ref a)) Q' c s):=by
 obtain⟨vs,r,p,d⟩:=jU I h;refine⟨vs,r,p,λA c Q' f=>collect_list p (f _ s.toks ?_ λb o e=>?_) (by rw[<-r.length];exact d)⟩
 .rw [vx,size_push'];lia
 .exact (wZ _ _ (vj (wI e))).trans (wB _ e)
theorem qfv{m:Bool}{a:Addr}{ns:008}{xs:List V}{Q:VK}(I:016)(st:Sto ι H S)(h:Rd H a (.l xs))(l:Dens ι H (ns.map .int) xs)(u:ns.length<64)(q:Pst Den (newL m ((sortI ns).map .int) S) ι H Q):
  wpAny 006 X.A (call (.builtin "sorted") [.ref a]) (EP X pins σ Q) X.xe s:=by
 obtain⟨vs,r,p,E⟩:=jU I h;cases dens_ints l;have j:IntsAre vs ns:=zB r;have hl:=j.length;refine sorted_ints p j 00 λout d i1 i2 v=>?_
 have y:d=sortI ns:=PySem.W.lks_uniq (i2.trans (zQ ns).symm) v (qaF ns);have up:∀b o,s.heap.get? b=some o->(sortedAll s.heap vs out).get? b=some o:=λb o e=>by
  have hb:b<s.heap.objs.size:=wI e;unfold sortedAll sortedHeap;refine(wZ _ _ (vj (u9 hb))).trans (wB _ (wB _ ((wZ _ _ (vj (u9 hb))).trans (wB _ ?_))));exact(wZ _ _ (vj hb)).trans (wB _ e)
 have B:(((s.heap.push (seqObj "list" #[] 0)).update s.heap.objs.size (Obj.mapSeq (·++vs.toArray))).push (seqObj "list" vs.toArray 0)).get? (s.heap.objs.size+1)=some (seqObj "list" vs.toArray 0):=by
  have:((s.heap.push (seqObj "list" #[] 0)).update s.heap.objs.size (Obj.mapSeq (·++vs.toArray))).objs.size=s.heap.objs.size+1:=by rw[vx,size_push']
  rw[<-this];exact wJ _ rfl
 obtain⟨c,at'⟩:∃c,(sortedAll s.heap vs out).get? (s.heap.objs.size+1)=some (seqObj "list" out c):=by
  unfold sortedAll sortedHeap;have e1:=xg B λ_=>(#[]:Array Value)
  have e2:=wB (seqObj "list" #[] 0) (wB (seqObj "tuple" vs.toArray 0) e1);exact⟨_,xg e2 λ_=>out⟩
 have sz:s.heap.objs.size<=s.heap.objs.size+1:=Nat.le_succ _;have fr:H (s.heap.objs.size+1)=none:=I.hok.fresh sz;have C:Vals (d.map V.int) out.toList:=by
  have:∀{us:005} {ms:008},IntsAre us ms->Vals (ms.map V.int) us:=λ{us ms} h=>by
   induction h with
   |nil=>exact .nil
   |cons n t _ f=>exact .cons ⟨t,rfl⟩ f
  exact this i1
 have dd:Dens ι H ((sortI ns).map .int) (d.map V.int):=by
  rw[y];have:∀ms:List Int,Dens ι H (ms.map .int) (ms.map V.int):=λms=>by
   induction ms with
   |nil=>rfl
   |cons x r f=>exact⟨_,_,rfl,rfl,f⟩
  exact this _
 have i:(d.map V.int).length<=sizeLine:=by rw[wF,i2.length_eq,vm];lia
 refine⟨.ref _,upd H (s.heap.objs.size+1) (.l (d.map V.int)),I.laid (o:=.l (d.map V.int)) (t':=s.toks) up sz ⟨i,out.toList,c,C,by rw[at']⟩,rfl,zy st dd q _ fr⟩
theorem qgZ(m:Bool)(hc:017):CallR X (.builtin "sorted") (Gn (one (bSorted m))):=by
 intro pins s σ H xs us Q I r h;obtain⟨ι,S,ds,st,hd,p⟩:=h;obtain⟨d,rfl,p⟩:=qbG p
 .skip
  obtain⟨x,rfl,N⟩:=dens1 hd;obtain⟨u,rfl,O⟩:=vals1 r;simp only[one,bSorted]at p;have f:∀{l:04},lstOf S d=some l->walkD S d=some l->wpAny 006 X.A (call (.builtin "sorted") [u]) (EP X pins σ Q) X.xe s:=λ{l} hl hw=>by
   obtain⟨a,xs,rfl,ha,n⟩:=qT st hl N;cases O;rw[hw,wX]at p;unfold sortL at p;by_cases c:l.length<64
   .rw [wN c]at p
    cases z:intsOf l with
    |some ns =>
     rw[z]at p;have:=intsOf_eq z;subst this;exact qfv I st ha n (by simpa using c) p
    |none =>
     rw[z]at p;cases z2:tupsOf l with
     |none=>simp only[z2,xX]at p;exact p.elim
     |some ks =>
      simp only[z2,wX]at p;by_cases i:ks.Nodup/\∀t∈ks,t≠[]
      .rw [wN i]at p
       obtain⟨vs,J,_,col⟩:=qgY I ha;exact yq I st hc n J z2 c i.1 i.2 (col _) p
      .rw [wT i]at p;exact p.elim
   .rw [wT c]at p;exact p.elim
  cases d with
  |l l=>exact f rfl rfl
  |ref k =>
   cases z:S[k]? with
   |none=>simp only[walkD,z,xX]at p;exact p.elim
   |some so =>
    cases so with
    |l l=>exact f (by unfold lstOf;dsimp only;rw[z]) (by unfold walkD;dsimp only;rw[z])
    |dis l=>simp only[walkD,z,xX]at p;exact p.elim
    |dic l =>
     obtain⟨a,rfl,ha⟩:=N;cases O;obtain⟨_,kvs,e1,dk⟩:=st.obj k a _ ha z;obtain⟨hz,lo,ys,C,o,es,ep,P,ex,U,W,Y⟩:=I.hok a _ e1;simp only[walkD,z,wX]at p;have E:∀{l:List (List Int×D)} {kvs:List (List Key×V)} {ys:List (List Key×Addr×Value)},DGs keyT ι H l kvs->Paired (λ(p:List Key×V) (q:List Key×Addr×Value)=>p.1=q.1/\H q.2.1=some (.t (p.1.map kV))/\RelV p.2 q.2.2) kvs ys ->
       Dens ι H (l.map λp=>tupI p.1) (ys.map λq=>V.ref q.2.1):=λ{l}=>by
      induction l with
      |nil=>intro kvs ys K L;cases (show kvs=[]from K);cases L;rfl
      |cons q l F =>
       intro kvs ys K L;obtain⟨v,r',rfl,_,Z⟩:=K;cases L with
       |cons y t =>
        rename_i q2 a0;obtain⟨ya,M,yc⟩:=y;refine⟨_,_,rfl,⟨q2.2.1,_,rfl,λhm=>?_,M,?_⟩,F Z t⟩
        .obtain ⟨j,hj,ej⟩:=uG hm
         have hs:j<S.length:=by rw[<-st.len];exact hj
         have B:=st.obj j _ S[j] (by rw[wC hj,ej]) (wC hs);cases e:S[j]with
         |l _=>rw[e]at B;obtain⟨_,_,k2,_⟩:=B;rw[M]at k2;cases k2
         |dic _=>rw[e]at B;obtain⟨_,_,k2,_⟩:=B;rw[M]at k2;cases k2
         |dis _=>rw[e]at B;obtain⟨_,_,k2,_⟩:=B;rw[M]at k2;cases k2
        .show Dens ι H (q.1.map .int) ((keyT q.1).map kV)
         unfold keyT;rw[wo];have:∀ms:List Int,Dens ι H (ms.map .int) (ms.map (kV∘Sum.inl)):=λms=>by
          induction ms with
          |nil=>rfl
          |cons x r F=>exact⟨_,_,rfl,rfl,F⟩
         exact this _
     have n:=E dk C;have J:Vals (ys.map λq=>V.ref q.2.1) (ys.map λq=>Value.ref q.2.1):=by
      clear C W n Y;induction ys with
      |nil=>exact .nil
      |cons q r F=>exact .cons rfl F
     have ev:es.toList.map (·.key)=ys.map λq=>Value.ref q.2.1:=by rw[W,wo];rfl
     have hsz:es.size<=sizeLine:=by
      have K:es.toList.length=ys.length:=by rw[W];simp
      have L:kvs.length=ys.length:=Paired.length C;have:es.size=es.toList.length:=by simp
      lia
     have col:∀(E':015) (Q':List Value->Shared->Prop),(∀(h':Heap) (tk:Nat),s.heap.objs.size<=h'.objs.size->(∀b o,s.heap.get? b=some o->h'.get? b=some o)->Q' (ys.map λq=>Value.ref q.2.1) {s with heap:=h',toks:=tk})->wpAny 006 X.A.in1 (collect (.ref a)) Q' E' s:=λE' Q' hq =>
      qbm (A:=X.A.in1) (I.ok.hd hc) lo ⟨o,P,ex,U⟩ hsz (by rw[ev];exact hq)
     unfold sortL at p;by_cases c:(l.map λp=>tupI p.1).length<64
     .rw [wN c]at p
      cases z1:intsOf (l.map λp=>tupI p.1)with
      |some ns =>
       rw[z1]at p;cases l with
       |nil =>
        cases z1;exact yq (ks:=[]) I st hc n J rfl 07 07 07 col p
       |cons q l=>cases z1
      |none =>
       rw[z1]at p;cases z2:tupsOf (l.map λp=>tupI p.1)with
       |none=>simp only[z2,xX]at p;exact p.elim
       |some ks =>
        simp only[z2,wX]at p;by_cases i:ks.Nodup/\∀t∈ks,t≠[]
        .rw [wN i]at p
         exact yq I st hc n J z2 c i.1 i.2 col p
        .rw [wT i]at p;exact p.elim
     .rw [wT c]at p;exact p.elim
  |emp =>
   obtain⟨a,rfl,_,ha⟩:=N;cases O;obtain⟨hz,lo,ys,C,o,es,ep,P,ex,U,eK,eP,_⟩:=I.hok a _ ha;cases C;have e0:es.toList.map (·.key)=[]:=by
    cases eP' :es.toList with
    |nil=>rfl
    |cons q r=>rw[eP']at eP;cases eP
   have hsz:es.size<=sizeLine:=by
    have:es.toList=[]:=by simpa using e0
    have:es.size=es.toList.length:=by simp
    simp_all
   simp only[walkD,wX]at p;refine yq (l:=[]) (ks:=[]) (xs:=[]) (vs:=[]) I st hc rfl .nil rfl 07 07 07 (λE' Q' hq=>qbm (A:=X.A.in1) (I.ok.hd hc) lo ⟨o,P,ex,U⟩ hsz (by rw[e0];exact hq)) p
  |_=>exact p.elim
end
end R
namespace R
open PySem PySem.Spec L2 SeqAt
open PyProof.Rows hiding St
noncomputable def CEs.len:CEs->Nat
 | .nil=>0
 | .cons _ r=>r.len+1
def ji{F:Fs}:∀{es:CEs} {ρ:En} {S:Sr} {l:04} {a:Sr},evs F es ρ S=.ok l a->l.length=es.len
 | .nil,_,_,_,_,h=>by cases h;rfl
 | .cons e r,ρ,S,l,a,h=>by
  unfold evs at h;cases z:ev F e ρ S with
  |no=>rw[z]at h;cases h
  |err=>rw[z]at h;cases h
  |ok x S1 =>
   rw[z,Res.bind_ok]at h;cases z2:evs F r ρ S1 with
   |no=>rw[z2]at h;cases h
   |err=>rw[z2]at h;cases h
   |ok l2 S2 =>
    rw[z2,Res.bind_ok]at h;cases h;show l2.length+1=r.len+1;rw[ji z2]
noncomputable def CTs.len:CTs->Nat
 | .nil=>0
 | .cons _ r=>r.len+1
def qcK{F:Fs}:∀{ts:CTs} {l:04} {ρ:En} {S:Sr} {ρ':En} {a:Sr},asgs F ts l ρ S=.ok ρ' a->l.length=ts.len
 | .nil,[],_,_,_,_,_=>rfl
 | .nil,_::_,_,_,_,_,h=>by unfold asgs at h;cases h
 | .cons t r,[],_,_,_,_,h=>by unfold asgs at h;cases h
 | .cons t r,d::l,ρ,S,ρ',a,h=>by
  unfold asgs at h;dsimp only at h;cases z:asg F t d ρ S with
  |no=>rw[z]at h;cases h
  |err=>rw[z]at h;cases h
  |ok ρ1 S1 =>
   rw[z,Res.bind_ok]at h;show l.length+1=r.len+1;rw[qcK h]
noncomputable def FnAt(P:Program)(w:World)(K:009)(mg:025)(base:Heap)(k:Nat)(F:Fs)(i:Nat)(x:Str)(ps:014):Prop :=
 ∃f fd,mg x=some (.ref f)/\PySem.W.keepIn K (.ref f)=true/\Binds K fd ps []/\FnOk P w K mg base CX0 k f fd ps (SpD ps.length (F i))
structure Gb (mg:025):Prop where
 len:mg "len"=none
 range:mg "range"=none
 list:mg "list"=none
 tuple:mg "tuple"=none
 sorted:mg "sorted"=none
 sum:mg "sum"=none
 all:mg "all"=none
 any:mg "any"=none
 zip:mg "zip"=none
 min:mg "min"=none
 max:mg "max"=none
 abs:mg "abs"=none
 divmod:mg "divmod"=none
 isinstance:mg "isinstance"=none
 int:mg "int"=none
 bool:mg "bool"=none
 str:mg "str"=none
 dict:mg "dict"=none
 set:mg "set"=none
def Gb.ty{mg:025}(g:Gb mg):∀t:Ty,mg 040=none
 | .int=>g.int|.bool=>g.bool|.tuple=>g.tuple|.str=>g.str
noncomputable def nodupB:List Str->Bool
 |[]=>true
 |x::r=>!(r.any λy=>y == x)&&nodupB r
def zC:∀{l:014},nodupB l=true->l.Nodup
 |[],_=>.nil
 |x::r,h=>by
  unfold nodupB at h;simp only[wS,ub,List.any_eq_false,uC]at h;exact u6.mpr ⟨λhm=>h.1 x hm rfl,zC h.2⟩
@[irreducible] noncomputable def QE(X:Cx)(e:Expr)(t:TE):Prop:=PE X e t
@[irreducible] noncomputable def QT(X:Cx)(e:Expr)(t:TT):Prop:=PT X e t
@[irreducible] noncomputable def QW(X:Cx)(e:Expr)(t:TT):Prop:=PW X e t
@[irreducible] noncomputable def QA(X:Cx)(e:010)(t:TA):Prop:=PA X e t
@[irreducible] noncomputable def QS(X:Cx)(e:Stmt)(t:TS):Prop:=PS X e t
@[irreducible] noncomputable def QSs(X:Cx)(e:List Stmt)(t:TS):Prop:=PSs X e t
@[irreducible] noncomputable def QG(X:Cx)(e:Expr)(t:L2.TG):Prop:=PG X e t
@[irreducible] noncomputable def QGs(X:Cx)(e:010)(t:L2.TGs):Prop:=PGs X e t
@[irreducible] noncomputable def QI(X:Cx)(tg e:Expr)(t:TI):Prop:=PI X tg e t
@[irreducible] noncomputable def QO(X:Cx)(e:Option Expr)(t:TO):Prop:=PO X e t
@[irreducible] noncomputable def QTl(X:Cx)(e:010)(t:TT):Prop:=PTl X e t
def Qpt{X:Cx}{e:Expr}{t:TT}(h:QW X e t):QT X e t:=by delta QW at h;delta QT;exact h.pt
def QSs.un{X:Cx}{e:List Stmt}{t:TS}(h:QSs X e t):PSs X e t:=by delta QSs at h;exact h
section
variable{X:Cx}{F:Fs}{pos:Pos}
theorem qc(i:Nat){x:Str}(c:X.N[i]?=some x:=by rfl)(d:Vis X.env.scope x:=by first|exact Or.inl rfl|exact Or.inr (Or.inl rfl)|exact Or.inr (Or.inr rfl))(hd:dB x:=by decide)(a:(x == ("__classdict__":Str))=false:=by decide):QE X (.Name x pos) (T (ev F (.v i))):=by
 delta QE;exact(qml (qkm c d hd a))
theorem qg{n:Int}{j}:QE X (.Constant (.int n) j pos) (T (ev F (.k (.int n)))):=by
 delta QE;exact(qcp qkn λ_ _=>rfl)
theorem qP{b:Bool}{j}:QE X (.Constant (.bool b) j pos) (T (ev F (.k (.bl b)))):=by
 delta QE;exact(qcp qfO λ_ _=>rfl)
theorem jZ{j}:QE X (.Constant .none j pos) (T (ev F (.k .non))):=by
 delta QE;exact(qcp qko λ_ _=>rfl)
theorem qV{x:Str}{j}:QE X (.Constant (.str x) j pos) (T (ev F (.k (.str x)))):=by
 delta QE;exact(qcp qkp λ_ _=>rfl)
theorem j0{x:Str}{n:Int}{t:Tok}(hm:X.mg x=some (.int n t))(a:Gl X x:=by rfl)(hd:dB x:=by decide):QE X (.Name x pos) (T (ev F (.k (.int n)))):=by
 delta QE;exact(qgi (qbz (v:=.int n) a hm ⟨t,rfl⟩ hd) λ_ _=>rfl)
theorem qbR{x n:Str}{t:Tok}(hm:X.mg x=some (.str n t))(a:Gl X x:=by rfl)(hd:dB x:=by decide):QE X (.Name x pos) (T (ev F (.k (.str n)))):=by
 delta QE;exact(qgi (qbz (v:=.str n) a hm ⟨t,rfl⟩ hd) λ_ _=>rfl)
theorem qk(o:BOp){a b:Expr}{c cb:CE}(ha:QE X a (T (ev F c)))(hb:QE X b (T (ev F cb))):QE X (.BinOp a (opOf o) b pos) (T (ev F (.bin o c cb))):=by
 delta QE;delta QE at ha;delta QE at hb;exact(qjR (qiz o) ha hb)
theorem qbS(o:BOp){a b:Expr}{c cb:CE}(ha:QE X a (T (ev F c)))(hb:QE X b (T (ev F cb))):QE X (.BinOp a (opOf o) b pos) (T (ev F (.binM o c cb))):=by
 delta QE;delta QE at ha;delta QE at hb;exact(qjR (qiA o) ha hb)
theorem jF{a:Expr}{c:CE}(ha:QE X a (T (ev F c))):QE X (.UnaryOp .USub a pos) (T (ev F (.neg c))):=by
 delta QE;delta QE at ha;exact(qmr ha)
theorem jG(o:COp){k:Nat}{a b:Expr}{c cb:CE}(d:Room k X.A)(ha:QE X a (T (ev F c)))(hb:QE X b (T (ev F cb)))(hm:behindInMarks (cOf o) b=false:=by rfl):QE X (.Compare a [cOf o] [b] pos) (T (ev F (.cmp o c cb))):=by
 delta QE;delta QE at ha;delta QE at hb;exact(qmn (jg o (by have:=d.un;lia)) ha hb hm)
theorem qi1(o o':COp){k:Nat}{a b c:Expr}{d cb f:CE}(h:Room k X.A)(ha:QE X a (T (ev F d)))(hb:QE X b (T (ev F cb)))(hc:QE X c (T (ev F f)))(hm:lastMarks [cOf o,cOf o'] [b,c]=false:=by rfl):
  QE X (.Compare a [cOf o,cOf o'] [b,c] pos) (T (ev F (.chain o o' d cb f))):=by
 delta QE;delta QE at ha;delta QE at hb;delta QE at hc;exact(qiE (jg o (by have:=h.un;lia)) (jg o' (by have:=h.un;lia)) ha hb hc hm)
theorem yj{a:Expr}{t:TE}(ha:QE X a t):QE X (.BoolOp .And [a] pos) t:=by
 delta QE;delta QE at ha;exact(qks ha)
theorem yV{a b:Expr}{rest:010}{c cb:CE}(ha:QE X a (T (ev F c)))(hb:QE X (.BoolOp .And (b::rest) pos) (T (ev F cb))):QE X (.BoolOp .And (a::b::rest) pos) (T (ev F (.and c cb))):=by
 delta QE;delta QE at ha;delta QE at hb;exact(qmp ha hb)
theorem qjX{a:Expr}{c:CE}(ha:QE X a (T (ev F c))):QE X (.UnaryOp .Not a pos) (T (ev F (.not c))):=by
 delta QE;delta QE at ha;exact(qmq ha)
theorem qjY{c a b:Expr}{d:CB}{f cb:CE}(hc:QT X c (TB (tst F d)))(ha:QE X a (T (ev F f)))(hb:QE X b (T (ev F cb))):QE X (.IfExp c a b pos) (T (ev F (.ife d f cb))):=by
 delta QE;delta QT at hc;delta QE at ha;delta QE at hb;exact(qms hc ha hb)
theorem qd :QA X [] (TL (evs F .nil)):=by
 delta QA;exact(qmm)
theorem qb{e:Expr}{es:010}{c:CE}{cs:CEs}(a:QE X e (T (ev F c)))(d:QA X es (TL (evs F cs)))(hs:sE X e es:=by rfl):QA X (e::es) (TL (evs F (.cons c cs))):=by
 delta QA;delta QE at a;delta QA at d;exact(qkQ a d hs)
theorem ql{es:010}{k:Nat}{cs:CEs}(h:QA X es (TL (evs F cs))):QE X (.Tuple es k pos) (T (ev F (.t cs))):=by
 delta QE;delta QA at h;exact(qmt h)
theorem qL(m:Bool){es:010}{cs:CEs}(h:QA X es (TL (evs F cs))):QE X (.List es pos) (T (ev F (.l m cs))):=by
 delta QE;delta QA at h;exact(qmu h)
theorem qet(m:Bool):QE X (.Dict [] [] pos) (T (ev F (.dic m))):=by
 delta QE;exact(qmv)
theorem qi{k i:Nat}{x:Str}{ps:014}{e:Expr}{es:010}{cs:CEs}{p:Pos}(h:FnAt X.prog X.w X.K X.mg X.base k F i x ps)(d:Room k X.A)(ha:QA X (e::es) (TL (evs F cs)))(j:Gl X x:=by rfl)(hl:cs.len=ps.length:=by rfl)(a:dB x:=by decide)(m:sE X e es:=by rfl)(c:bT X es pos:=by rfl):QE X (.Call (.Name x p) (e::es) [] pos) (T (ev F (.call i cs))):=by
 delta QE;delta QA at ha;obtain⟨f,fd,hm,n,hb,o⟩:=h;exact qkX o d j hm n hb pass0 ha (λρ S l q z=>(ji z).trans hl) a m c
theorem qae(b:Blt){x:Str}{id:String}{e:Expr}{es:010}{cs:CEs}{p:Pos}(hc:CallR X (.builtin id) (Gn (bltD b)))(hm:X.mg x=none)(d:bootBuiltins x=some (.builtin id))(ha:PA X (e::es) (TL (evs F cs)))(f:Gl X x:=by rfl)(hn:x≠"__name__":=by decide)(a:dB x:=by decide)(h:sE X e es:=by rfl)(c:bT X es pos:=by rfl):PE X (.Call (.Name x p) (e::es) [] pos) (T (ev F (.blt b cs))):=qiI hc f hm d ha hn a h c
theorem qjZ(b:Blt){x:Str}{ty:String}{e:Expr}{es:010}{cs:CEs}{p:Pos}(hc:CallR X (.type ty) (Gn (bltD b)))(hm:X.mg x=none)(d:bootBuiltins x=some (.type ty))(ha:PA X (e::es) (TL (evs F cs)))(f:Gl X x:=by rfl)(hn:x≠"__name__":=by decide)(a:dB x:=by decide)(h:sE X e es:=by rfl)(c:bT X es pos:=by rfl):PE X (.Call (.Name x p) (e::es) [] pos) (T (ev F (.blt b cs))):=qgq hc f hm d ha hn a h c
theorem zV(t:Ty){a:Expr}{h:CE}{p c:Pos}(gb:Gb X.mg)(ha:QE X a (T (ev F h)))(i:Gl X "isinstance":=by rfl)(hgt:Gl X 040:=by rfl)(j:starEach [a,.Name 040 c] X.env=(false,eval a X.env)::starEach [.Name 040 c] X.env:=by rfl)(d:starEach [.Name 040 c] X.env=(false,eval (.Name 040 c) X.env)::starEach [] X.env:=by rfl)(f:(backTo pos (starEach [.Name 040 c] X.env)).any (·.1)=false:=by rfl):
  QE X (.Call (.Name "isinstance" p) [a,.Name 040 c] [] pos) (T (ev F (.isi t h))):=by
 delta QE;delta QE at ha;exact(qmx i gb.isinstance hgt (gb.ty t) ha j d f)
theorem qmU{o e:Expr}{co j:CE}{c:Pos}(l:QE X o (T (ev F co)))(m:QE X e (T (ev F j)))(i:starEach [e] X.env=(false,eval e X.env)::starEach [] X.env:=by rfl)(d:attributeBase o "pop" X.env (eval o X.env)=eval o X.env:=by rfl)(f:(c.endLine == pos.line)=true:=by rfl)(h:((backTo pos (starEach [e] X.env)).all (λx=>!x.1)&&(backToKw pos (keywordEach [] X.env)).all (λx=>x.1.isSome)&&decide ([e].length+([]:List Keyword).length+(if([]:List Keyword).isEmpty then 0 else 1)<30))=true:=by rfl)(a:(backTo pos (starEach [] X.env)).any (·.1)=false:=by rfl):QE X (.Call (.Attribute o "pop" c) [e] [] pos) (T (ev F (.popAt co j))):=by
 delta QE;delta QE at l;delta QE at m;exact(qgt PySem.F.slot_list_pop PySem.F.type_list_pop qf8 (λι S x y v u H Q st n q p=>qmF st n q p) l m i d f h a)
theorem qcL{o e:Expr}{co j:CE}{c:Pos}(l:QE X o (T (ev F co)))(m:QE X e (T (ev F j)))(i:starEach [e] X.env=(false,eval e X.env)::starEach [] X.env:=by rfl)(d:attributeBase o "append" X.env (eval o X.env)=eval o X.env:=by rfl)(f:(c.endLine == pos.line)=true:=by rfl)(h:((backTo pos (starEach [e] X.env)).all (λx=>!x.1)&&(backToKw pos (keywordEach [] X.env)).all (λx=>x.1.isSome)&&decide ([e].length+([]:List Keyword).length+(if([]:List Keyword).isEmpty then 0 else 1)<30))=true:=by rfl)(a:(backTo pos (starEach [] X.env)).any (·.1)=false:=by rfl):QE X (.Call (.Attribute o "append" c) [e] [] pos) (T (ev F (.app co j))):=by
 delta QE;delta QE at l;delta QE at m;exact(qgt PySem.F.slot_list_append PySem.F.type_list_append jS (λι S x y v u H Q st n q p=>qjT st n q p) l m i d f h a)
theorem qu{k:Nat}{a b:Expr}{c cb:CE}(d:Room k X.A)(ha:QE X a (T (ev F c)))(hb:QE X b (T (ev F cb)))(hs:PlainIx b:=by exact λ_ _=>rfl):QE X (.Subscript a b pos) (T (ev F (.idx c cb))):=by
 delta QE;delta QE at ha;delta QE at hb;exact(qmw (qjO d) ha hb hs)
theorem k_on :QO X none (TOp (evO F .none)):=by
 delta QO;exact(qgp)
theorem k_os{e:Expr}{c:CE}(h:QE X e (T (ev F c))):QO X (some e) (TOp (evO F (.some c))):=by
 delta QO;delta QE at h;exact(qgo h)
theorem zD{e:Expr}{lo hi:Option Expr}{f:Pos}{c:CE}{cl ch:CO}(a:QE X e (T (ev F c)))(hl:QO X lo (TOp (evO F cl)))(d:QO X hi (TOp (evO F ch))):QE X (.Subscript e (.Slice lo hi none f) pos) (T (ev F (.slc c cl ch))):=by
 delta QE;delta QE at a;delta QO at hl;delta QO at d;exact(qmy a hl d)
theorem qlc(m:Bool){a:Expr}{es:010}{cs:CEs}{h i c:Pos}(gb:Gb X.mg)(ha:QA X (a::es) (TL (evs F cs)))(hc:017:=by rfl)(j:Gl X "range":=by rfl)(d:Gl X "list":=by rfl)(hs:sE X a es:=by rfl)(f:(backTo c (starEach es X.env)).any (·.1)=false:=by rfl):QE X (.Call (.Name "list" h) [.Call (.Name "range" i) (a::es) [] c] [] pos) (T (ev F (.rng (some m) cs))):=by
 delta QE;delta QA at ha;exact(qmR (k:=some m) (.inl ⟨rfl,rfl,m,rfl⟩) hc j gb.range d gb.list ha hs f)
theorem qW{e:Expr}{c:CE}(h:QE X e (T (ev F c)))(d:∀a,isTrue e X.env a=(do let v <-a;standAt e.pos;holding [v] (truthy v)):=by intro _;rfl):QT X e (TB (tst F (.val c))):=by
 delta QT;delta QE at h;exact(qkS h d)
theorem q9(o:COp){k:Nat}{a b:Expr}{c cb:CE}(d:Room k X.A)(ha:QE X a (T (ev F c)))(hb:QE X b (T (ev F cb)))(hm:behindInMarks (cOf o) b=false:=by rfl):QT X (.Compare a [cOf o] [b] pos) (TB (tst F (.val (.cmp o c cb)))):=by
 delta QT;delta QE at ha;delta QE at hb;exact(qkT (jg o (by have:=d.un;lia)) ha hb hm)
theorem qeu(o o':COp){k:Nat}{a b c:Expr}{d cb f:CE}(h:Room k X.A)(ha:QE X a (T (ev F d)))(hb:QE X b (T (ev F cb)))(hc:QE X c (T (ev F f)))(hm:lastMarks [cOf o,cOf o'] [b,c]=false:=by rfl):
  QT X (.Compare a [cOf o,cOf o'] [b,c] pos) (TB (tst F (.val (.chain o o' d cb f)))):=by
 delta QT;delta QE at ha;delta QE at hb;delta QE at hc;exact(qgm (jg o (by have:=h.un;lia)) (jg o' (by have:=h.un;lia)) ha hb hc hm)
theorem zb{a:Expr}{c:CB}(ha:QT X a (TB (tst F c))):QT X (.UnaryOp .Not a pos) (TB (tst F (.not c))):=by
 delta QT;delta QT at ha;exact(qkV ha)
theorem qld{a:Expr}{t:TT}(ha:QT X a t):QW X (.BoolOp .And [a] pos) t:=by
 delta QW;delta QT at ha;exact(qik ha)
theorem zN{a:Expr}{t:TT}(ha:QT X a t):QW X (.BoolOp .Or [a] pos) t:=by
 delta QW;delta QT at ha;exact(qkq ha)
theorem qmV{a b:Expr}{rest:010}{c cb:CB}(ha:QT X a (TB (tst F c)))(hb:QW X (.BoolOp .And (b::rest) pos) (TB (tst F cb))):QW X (.BoolOp .And (a::b::rest) pos) (TB (tst F (.and c cb))):=by
 delta QW;delta QT at ha;delta QW at hb;exact(qkU ha hb)
theorem w_or{a b:Expr}{rest:010}{c cb:CB}(ha:QT X a (TB (tst F c)))(hb:QW X (.BoolOp .Or (b::rest) pos) (TB (tst F cb))):QW X (.BoolOp .Or (a::b::rest) pos) (TB (tst F (.or c cb))):=by
 delta QW;delta QT at ha;delta QW at hb;exact(qmo ha hb)
theorem zh :QTl X [] (TB (tsts F .nil)):=by
 delta QTl;exact(qk3)
theorem zH{tg e:Expr}{c:CE}(h:QE X e (T (ev F c))):QI X tg e (TIt (evI F (.seq c))):=by
 delta QI;delta QE at h;exact(qmM h)
theorem qcM{tg a:Expr}{es:010}{cs:CEs}{p:Pos}(gb:Gb X.mg)(ha:QA X (a::es) (TL (evs F cs)))(d:Gl X "range":=by rfl)(hs:sE X a es:=by rfl)(c:bT X es pos:=by rfl):
  QI X tg (.Call (.Name "range" p) (a::es) [] pos) (TIt (evI F (.rng cs))):=by
 delta QI;delta QA at ha;exact(i_rng d gb.range ha hs c)
theorem yk{es:010}{n:Nat}{f:Pos}{e1 e2:Expr}{c1 c2:CE}{p:Pos}(gb:Gb X.mg)(c:QE X e1 (T (ev F c1)))(d:QE X e2 (T (ev F c2)))(h:Gl X "zip":=by rfl)(hs:starEach [e1,e2] X.env=(false,eval e1 X.env)::starEach [e2] X.env:=by rfl)(a:starEach [e2] X.env=(false,eval e2 X.env)::starEach [] X.env:=by rfl):QI X (.Tuple es n f) (.Call (.Name "zip" p) [e1,e2] [] pos) (TIt (evI F (.zip c1 c2))):=by
 delta QI;delta QE at c;delta QE at d;exact(qmT h gb.zip c d hs a)
theorem qp(i:Nat){x:Str}(a:nodupB X.N=true:=by rfl)(hi:X.N[i]?=some x:=by rfl)(c:Loc X.env.scope x:=by first|exact Or.inl rfl|exact Or.inr rfl)(d:X.fn x=true\/X.env.scope.names.lookup x=some .local:=by first|exact .inl rfl|exact .inr rfl):QG X (.Name x pos) (TGt (asg F (.v i))):=by
 delta QG;exact(qmG (qd1 (zC a) hi c d))
theorem qQ :QGs X [] (TGts (asgs F .nil)):=by
 delta QGs;exact(qmH)
theorem qo{e:Expr}{es:010}{c:CT}{cs:CTs}(a:QG X e (TGt (asg F c)))(d:QGs X es (TGts (asgs F cs)))(hs:(assignEach (e::es) X.env).map (·.2)=assign e X.env::(assignEach es X.env).map (·.2):=by rfl):QGs X (e::es) (TGts (asgs F (.cons c cs))):=by
 delta QGs;delta QG at a;delta QGs at d;exact(qk0 a d hs)
theorem qR{es:010}{k:Nat}{cs:CTs}(h:QGs X es (TGts (asgs F cs)))(hc:017:=by rfl)(hn:(assignEach es X.env).length=cs.len:=by rfl)(a:(assignEach es X.env).findIdx? (·.1)=none:=by rfl):QG X (.Tuple es k pos) (TGt (asg F (.t cs))):=by
 delta QG;delta QGs at h;exact(qmI hc h hn a λl ρ S ρ' c z=>qcK z)
theorem qaG{k:Nat}{o i:Expr}{co d:CE}(h:Room k X.A)(f:QE X o (T (ev F co)))(hi:QE X i (T (ev F d)))(ha:∀v,assign (.Subscript o i pos) X.env v=(do
   let a <-holding [v] (eval o X.env)
   let c <-holding [v,a] (eval i X.env)
   standAt pos
   holding [v,a,c] (setItem a c v)
   release [v,a,c] []):=by intro _;rfl):QG X (.Subscript o i pos) (TGt (asg F (.sub co d))):=by
 delta QG;delta QE at f;delta QE at hi;exact(qmJ (qjO h) f hi ha)
end
section
variable{X:Cx}{F:Fs}{N:Nat}{pos:Pos}
theorem qj :QSs X [] (TSm (exs F N .nil)):=by
 delta QSs;exact(qmK)
theorem qf{st:Stmt}{rest:List Stmt}{c:CS}{cs:CSs}(a:QS X st (TSm (ex F N c)))(d:QSs X rest (TSm (exs F N cs))):QSs X (st::rest) (TSm (exs F N (.cons c cs))):=by
 delta QSs;delta QS at a;delta QSs at d;exact(qk1 a d)
theorem yW{e:Expr}{c:CE}(a:QE X e (T (ev F c)))(hs:swapsWith e none pos.line X.env=pure false:=by rfl):QS X (.Expr e pos) (TSm (ex F N (.expr c))):=by
 delta QS;delta QE at a;exact(qk2 a hs)
theorem qz{e:Expr}{c:CE}(a:QE X e (T (ev F c))):QS X (.Return (some e) pos) (TSm (ex F N (.ret c))):=by
 delta QS;delta QE at a;exact(qmL a)
theorem z_if{c:Expr}{a b:List Stmt}{d:CB}{f cb:CSs}(hc:QT X c (TB (tst F d)))(ha:QSs X a (TSm (exs F N f)))(hb:QSs X b (TSm (exs F N cb))):QS X (.If c a b pos) (TSm (ex F N (.ifs d f cb))):=by
 delta QS;delta QT at hc;delta QSs at ha;delta QSs at hb;exact(s_if hc ha hb)
theorem yd{tg e:Expr}{c:CE}{t:CT}(a:QE X e (T (ev F c)))(d:QG X tg (TGt (asg F t)))(hs:swapsWithSole [tg] e pos.line X.env=pure false:=by rfl)(hw:swappedStores [tg] e X.env=pure none:=by rfl)(f:(assignEach [tg] X.env).map (·.2)=[assign tg X.env]:=by rfl):
  QS X (.Assign [tg] e pos) (TSm (ex F N (.set t c))):=by
 delta QS;delta QE at a;delta QG at d;exact(qjU (qkx a d hs hw f))
theorem qE(i:Nat){x:Str}{e:Expr}{c:CE}{a:Pos}(o:QE X e (T (ev F c)))(r:nodupB X.N=true:=by rfl)(hi:X.N[i]?=some x:=by rfl)(s:Loc X.env.scope x:=by first|exact Or.inl rfl|exact Or.inr rfl)(hs:swapsWith e (some (.Name x a)) pos.line X.env=pure false:=by rfl)(u:X.fn x=true\/X.env.scope.names.lookup x=some .local:=by first|exact .inl rfl|exact .inr rfl):QS X (.Assign [.Name x a] e pos) (TSm (ex F N (.set (.v i) c))):=by
 delta QS;delta QE at o;refine qjU (g:=λd ρ S=>.ok (ρ.set i (some d)) S) (PSimp (qky (zC r) hi s o hs u) λD C H hw=>?_);obtain⟨ι,S,ρ,w,st,p⟩:=hw;refine⟨ι,S,ρ,w,st,?_⟩;cases z:ev F c ρ S with
 |no=>rw[z]at p;exact p
 |err=>rw[z]at p;exact p
 |ok d S1 =>
  rw[z]at p;intro v f q s1 h y;obtain⟨j,S2,A,d2,l,m,n,B⟩:=p v f q s1 h y;exact B _ j q 019 m (l.set n)
theorem ye{tg iter:Expr}{body:List Stmt}{it:CI}{t:CT}{cb:CSs}(hi:QI X tg iter (TIt (evI F it)))(a:QG X tg (TGt (asg F t)))(hb:QSs X body (TSm (exs F N cb)))(c:PassesOwn 006 X.A X.env X.xe:=by exact PassesOwn.never)(hc:017:=by rfl)(hs:044:=by intro _;rfl):QS X (.For tg iter body [] pos) (TSm (ex F N (.forS t it cb))):=by
 delta QS;delta QI at hi;delta QG at a;delta QSs at hb;exact(qmN c hc hi a hb hs)
theorem qev{c:Expr}{body:List Stmt}{a:CB}{cb:CSs}(hc:QT X c (TB (tst F a)))(hb:QSs X body (TSm (exs F N cb)))(d:PassesOwn 006 X.A X.env X.xe:=by exact PassesOwn.never):QS X (.While c body [] pos) (TSm (ex F N (.whileS a cb))):=by
 delta QS;delta QT at hc;delta QSs at hb;exact(qiL d hc hb)
noncomputable def cscB(O:List (Str×NameKind))(N':014)(sc:Scope)(fr:List Nat)(xs ts:014):Bool :=
 (sc.kind == .function)&&sc.names.all (λy=>y.2 != .cell)&&sc.names.all (λy=>y.2 != .local || sc.names.lookup y.1 == some .local)&&sc.names.all (λy=>y.2 != .free || O.lookup y.1 == some .cell || O.lookup y.1 == some .free) &&
 decide (fr.length=xs.length)&&(fr.zip xs).all (λp=>N'[p.1]? == some p.2)&&xs.all (λx=>sc.names.lookup x == some .free&&(O.lookup x == some .cell || O.lookup x == some .free))&&ts.all (λx=>sc.names.lookup x == some .local)&&decide (xs++ts).Nodup
theorem yX{sc:Scope}{fr:List Nat}{xs ts:014}(h:050):CSc X sc fr xs ts:=by
 unfold cscB at h;simp only[wS,wb,Bool.or_eq_true,bne_iff_ne,uC,vH]at h;obtain⟨⟨⟨⟨⟨⟨⟨⟨c,d⟩,f⟩,l⟩,m⟩,n⟩,h7⟩,o⟩,p⟩:=h;refine⟨c,d,λy a hl=>?_,λy a q=>?_,⟨m,λi j x e1 e2=>?_,h7,o,p⟩⟩
 .rcases f y a with z|z
  .exact absurd hl z
  .exact z
 .rcases l y a with (z|z)|z
  .exact absurd q z
  .exact .inl z
  .exact .inr z
 .have hm:(j,x)∈fr.zip xs:=by
   apply wq (i:=i);rw[uf];exact⟨e1,e2⟩
  exact n (j,x) hm
theorem zo{k:Nat}{sc:Scope}{cl:List (Str×Addr)}{C:Addr}{code:Value}{N':014}{fp:03}{tg elt iter:Expr}{ifs:010}{a:Pos}{it:Addr}{o:Addr×Obj}{s:09}{H:Hp}(r:Room (k+1) X.A):
  Room k (genCx X sc cl C code N' fp (.GeneratorExp elt [⟨tg,iter,ifs,0⟩] sc a) it o s H).A:=by
 have d:=r.hd;have f:=r.dp;have h:=r.un;refine⟨d,?_,?_⟩
 .show X.A.depth+frameCount ([].map Frame.where_)+Code.weight _+3*k+5<_
  have:Code.weight (.compLoop (.GeneratorExp elt [⟨tg,iter,ifs,0⟩] sc a) 0 (.ref it) .none (genEnv sc cl C code builtinsNs X.env))<=1:=Nat.le_of_ble_eq_true rfl;have c:frameCount (([]:List Frame).map Frame.where_)=0:=rfl;rw[c];lia
 .show X.A.units+1+1+1+1+1+unitsOf ([].map Frame.where_)+Code.cUnits _+16*k+200<_
  have:Code.cUnits (.compLoop (.GeneratorExp elt [⟨tg,iter,ifs,0⟩] sc a) 0 (.ref it) .none (genEnv sc cl C code builtinsNs X.env))<=3:=Nat.le_of_ble_eq_true rfl;have c:unitsOf (([]:List Frame).map Frame.where_)=0:=rfl;rw[c];lia
theorem k_lc(m:Bool)(fr:List Nat)(xs ts:014){tg elt iter:Expr}{ifs:010}{sc:Scope}{t:CT}{it:CI}{a:CBs}{c:CE}(hi:QI X tg iter (TIt (evI F it)))(rt:∀cl C fp s H,QG (compCx X sc cl C (xs++ts) fp s H) tg (TGt (asg F t)))(ri:∀cl C fp s H,QTl (compCx X sc cl C (xs++ts) fp s H) ifs (TB (tsts F a)))(re:∀cl C fp s H,QE (compCx X sc cl C (xs++ts) fp s H) elt (T (ev F c)))(hc:017:=by rfl)(hs:044:=by intro _;rfl)(h:050:=by rfl):QE X (.ListComp elt [⟨tg,iter,ifs,0⟩] sc pos) (T (ev F (.lc m fr ts.length c t it a))):=by
 delta QE;delta QI at hi;delta QG at rt;delta QTl at ri;delta QE at re;exact(r_lc hc hi hs (yX h) ⟨rt,ri,re⟩)
theorem qew(i:Nat)(m:Bool)(fr:List Nat)(xs ts:014){tg elt iter:Expr}{ifs:010}{sc:Scope}{t:CT}{it:CI}{d:CBs}{f:CE}{y:Str}{j a:Pos}(hi:QI X tg iter (TIt (evI F it)))(rt:∀cl C fp s H,QG (compCx X sc cl C (xs++ts) fp s H) tg (TGt (asg F t)))(ri:∀cl C fp s H,QTl (compCx X sc cl C (xs++ts) fp s H) ifs (TB (tsts F d)))(re:∀cl C fp s H,QE (compCx X sc cl C (xs++ts) fp s H) elt (T (ev F f)))(hc:017:=by rfl)(hs:044:=by intro _;rfl)(h:050:=by rfl)(l:nodupB X.N=true:=by rfl)(n:X.N[i]?=some y:=by rfl)(hl:X.env.scope.names.lookup y=some .local:=by rfl)(c:swapsWith (.ListComp elt [⟨tg,iter,ifs,0⟩] sc pos) (some (.Name y j)) a.line X.env=pure true:=by rfl):
  QS X (.Assign [.Name y j] (.ListComp elt [⟨tg,iter,ifs,0⟩] sc pos) a) (TSm (ex F N (.set (.v i) (.lc m fr ts.length f t it d)))):=by
 delta QS;delta QI at hi;delta QG at rt;delta QTl at ri;delta QE at re;exact(qiO hc hi hs (yX h) ⟨rt,ri,re⟩ (zC l) n hl c)
theorem qmW(w:GW)(fr:List Nat)(xs ts:014){id:String}{f:Str}{p i:Pos}{tg elt iter:Expr}{ifs:010}{sc:Scope}{k:Nat}{c T':Addr}{t:CT}{it:CI}{n:CBs}{q:CE}(r:Room k X.A)(u:GCall X w (.builtin id))(hm:X.mg f=none)(v:bootBuiltins f=some (.builtin id))(a:X.env.code=.ref c)(d:codeTab X.K c T'=true)(hi:PI X tg iter (TIt (evI F it)))(rt:∀cl C code fp it o s H,PG (genCx X sc cl C code (xs++ts) fp (.GeneratorExp elt [⟨tg,iter,ifs,0⟩] sc i) it o s H) tg (TGt (asg F t)))(ri:∀cl C code fp it o s H,PTl (genCx X sc cl C code (xs++ts) fp (.GeneratorExp elt [⟨tg,iter,ifs,0⟩] sc i) it o s H) ifs (TB (tsts F n)))(re:∀cl C code fp it o s H,PE (genCx X sc cl C code (xs++ts) fp (.GeneratorExp elt [⟨tg,iter,ifs,0⟩] sc i) it o s H) elt (T (ev F q)))(hc:017:=by rfl)(j:Gl X f:=by rfl)(hn:f≠"__name__":=by decide)(l:dB f:=by decide)(hs:∀x,genFold iter X.env x=pure x:=by intro _;rfl)(h:050:=by rfl)(y:sc.names.lookup (".0":Str)=some NameKind.local:=by rfl)(m:sc.isCoroutine=false:=by rfl):PE X (.Call (.Name f p) [.GeneratorExp elt [⟨tg,iter,ifs,0⟩] sc i] [] pos) (T (ev F (.gen w fr ts.length q t it n))) :=
 qmQ hc r.depth u j hm v hn l hi hs (yX h) y m a d ⟨rt,ri,re⟩
theorem yY(fr:List Nat)(xs ts:014){p f:Pos}{tg elt iter:Expr}{ifs:010}{sc:Scope}{k:Nat}{c T':Addr}{t:CT}{it:CI}{m:CBs}{n:CE}(i:Room k X.A)(gb:Gb X.mg)(a:X.env.code=.ref c)(d:codeTab X.K c T'=true)(hi:QI X tg iter (TIt (evI F it)))(rt:∀cl C code fp it o s H,QG (genCx X sc cl C code (xs++ts) fp (.GeneratorExp elt [⟨tg,iter,ifs,0⟩] sc f) it o s H) tg (TGt (asg F t)))(ri:∀cl C code fp it o s H,QTl (genCx X sc cl C code (xs++ts) fp (.GeneratorExp elt [⟨tg,iter,ifs,0⟩] sc f) it o s H) ifs (TB (tsts F m)))(re:∀cl C code fp it o s H,QE (genCx X sc cl C code (xs++ts) fp (.GeneratorExp elt [⟨tg,iter,ifs,0⟩] sc f) it o s H) elt (T (ev F n)))(hc:017:=by rfl)(j:Gl X "all":=by rfl)(hs:∀x,genFold iter X.env x=pure x:=by intro _;rfl)(h:050:=by rfl)(q:sc.names.lookup (".0":Str)=some NameKind.local:=by rfl)(l:sc.isCoroutine=false:=by rfl):QE X (.Call (.Name "all" p) [.GeneratorExp elt [⟨tg,iter,ifs,0⟩] sc f] [] pos) (T (ev F (.gen .all fr ts.length n t it m))):=by
 delta QE;delta QI at hi;delta QG at rt;delta QTl at ri;delta QE at re;exact(qmW .all fr xs ts i (qk6 hc i.depth λ_=>i.hd) gb.all (by decide +kernel) a d hi rt ri re hc j 01 01 hs h q l)
end
structure FunT (K:009) (x:Str) (st:Stmt) (f:Addr) (fd:FuncData) (c T':Addr):Prop where
 ex:∃(oc:Value) (od:Option Addr) (kV doc pm:Value) (an:Option Addr) (ct:Value) (osl:Array (Option Value)),
  fd=PySem.W.fnOf x x (defArgs st) (defBody st) (defScope st) .none kV doc pm an (.ref c) ct/\K.lookup f=some ⟨oc,od,.func fd,osl⟩/\PySem.W.codeIn K (.ref c) x=true
 tab:codeTab K c T'=true
 kp:PySem.W.keepIn K (.ref f)=true
mutual
def Den.frz{ι:03}{H:Hp}{S:Sr}{n:Nat}(st:Sto ι H S):∀(d:D) {d':D} {v:V},R.frz S n d=some d'->Den ι H d v->Den (ι.take n) H d' v
 | .non,d',v,e,h=>by cases e;exact h
 | .bl b,d',v,e,h=>by cases e;exact h
 | .int b,d',v,e,h=>by cases e;exact h
 | .str b,d',v,e,h=>by cases e;exact h
 | .exc _,d',v,e,h=>by cases e
 | .emp,d',v,e,h=>by
  cases e;obtain⟨a,e1,e2,e3⟩:=h;exact⟨a,e1,λm=>e2 (vh m),e3⟩
 | .t l,d',v,e,h=>by
  unfold R.frz at e;cases z:R.frzs S n l with
  |none=>rw[z]at e;cases e
  |some l' =>
   rw[z]at e;cases e;obtain⟨a,xs,e1,e2,e3,e4⟩:=h;exact⟨a,xs,e1,λm=>e2 (vh m),e3,Dens.frz st l z e4⟩
 | .l l,d',v,e,h=>by
  unfold R.frz at e;cases z:R.frzs S n l with
  |none=>rw[z]at e;cases e
  |some l' =>
   rw[z]at e;cases e;obtain⟨a,xs,e1,e2,e3,e4⟩:=h;exact⟨a,xs,e1,λm=>e2 (vh m),e3,Dens.frz st l z e4⟩
 | .ref m,d',v,e,h=>by
  obtain⟨a,e1,e2⟩:=h;unfold R.frz at e;split at e
  .rename_i hm
   cases e;exact⟨a,e1,by rw[List.getElem?_take];rw[wN hm];exact e2⟩
  .rename_i hm
   split at e
   .rename_i l hl
    split at e
    rotate_left
    .cases e
    rename_i f;cases e;obtain⟨_,xs,h1,h2⟩:=st.obj m a _ e2 hl;refine⟨a,xs,e1,λhmem=>?_,.inl h1,Dens.less l f h2⟩;obtain⟨i,hi,ei⟩:=List.mem_iff_getElem?.mp hmem |>.elim λi hi=>(⟨i,by
     have:=(wG.mp hi).1;rw[vZ]at this;lia,hi⟩:∃i,i<n/\(ι.take n)[i]?=some a)
    rw[List.getElem?_take,wN hi]at ei;have hlt:=(wG.mp ei).1;have:=(List.getElem?_inj hlt st.nd).mp (ei.trans e2.symm);lia
   .cases e
def Dens.frz{ι:03}{H:Hp}{S:Sr}{n:Nat}(st:Sto ι H S):∀(ds:04) {ds':04} {xs:List V},R.frzs S n ds=some ds'->Dens ι H ds xs->Dens (ι.take n) H ds' xs
 |[],ds',xs,e,h=>by cases e;exact h
 |d::r,ds',xs,e,h=>by
  unfold R.frzs at e;split at e
  .rename_i a b h1 h2
   cases e;obtain⟨x,t,e1,e2,e3⟩:=h;exact⟨x,t,e1,Den.frz st d h1 e2,Dens.frz st r h2 e3⟩
  .cases e
end
def qi2{F:Fs}{N:Nat}{c:CF}{ns ps:014}{vs:List V}{H:Hp}{Q:VK}(r:ps.length=c.np)(hn:ns.length=c.nn)(s:c.np<=c.nn)(h:SpD ps.length (callC F N c) vs H Q E0):TSm (exs F N c.body) {nx:=λ_ H'=>Q .non H',rt:=Q} (start ns vs) H:=by
 obtain⟨hl,ι,S,ds,st,m,p⟩:=h;have n:ds.length=c.np:=by rw[m.length,hl,r]
 unfold callC at p;rw[wN n]at p;have u:EnR ι H (ds.map some++List.replicate (c.nn-c.np) none) (start ns vs):=by
  unfold L2.start;have e1:ns.length-vs.length=c.nn-c.np:=by rw[hn,hl,r]
  rw[e1];refine⟨by simp[m.length],λi d e=>?_⟩;by_cases hi:i<ds.length
  .rw [wL 042,wk,wC hi]at e
   cases e;obtain⟨x,e2,w⟩:=m.get (wC hi);refine⟨x,?_,w⟩;rw[wL (by rw[wF,<-m.length];exact hi),wk,e2];rfl
  .rw [wK 042,vC]at e
   split at e <;> cases e
 refine⟨ι,S,_,u,st,?_⟩;have lv:∀{d:D} {S1:Sr},Pst Den (leave c.keeps S.length d S1) ι H Q->∀a H',Stp ι H a H'->Sto a H' S1->∀v,Den a H' d v->Q v H':=by
  intro d S1 q a H' s1 j v l;unfold leave at q;split at q
  .exact q v a H' s1 j l
  .split at q
   .exact q v a H' s1 j l
   .split at q
    .rename_i y
     have e:=s1.take_eq;have o:ι.length=S.length:=st.len;refine q v (a.take S.length) H' (by rw[<-o];exact s1.less) (j.less _) (Den.less d y l)
    .split at q
     .rename_i d' hd
      have o:ι.length=S.length:=st.len;exact q v (a.take S.length) H' (by rw[<-o];exact s1.less) (j.less _) (Den.frz j d hd l)
     .exact q.elim
 cases z:exs F N c.body (ds.map some++List.replicate (c.nn-c.np) none) S with
 |no=>rw[z]at p;exact p.elim
 |err=>rw[z]at p;exact p.elim
 |ok f S1 =>
  rw[z,Res.bind_ok]at p;intro a H' s1 j;cases f with
  |nx ρ=>exact λA _=>lv p a H' s1 j .non rfl
  |rt d=>exact λv l=>lv p a H' s1 j v l
  |bk ρ=>exact p.elim
  |ct ρ=>exact p.elim
noncomputable def isFields:Data->Bool
 | .fields _=>true
 |_=>false
noncomputable def plainK(K:009):Bool:=K.all λp=>p.2.cls != .type "list"&&!(p.2.cls == .none&&isFields p.2.data)
noncomputable def sameData:Data->Bool
 | .fields vs=>sameName vs
 |_=>false
noncomputable def codesK(q:Program)(K:009):Bool:=K.all λp=>p.2.cls != .type "code" || !(sameData p.2.data) || (recsOf q).any λd=>match PySem.W.nsIn K mainGlobals d.name with
 |some (some (.ref a))=>(match K.lookup a with
  |some ⟨_,_,.func fd,_⟩=>fd.code == .ref p.1
  |_=>false)
 |_=>false
def yF:∀{K:009} {a:Addr} {o:Obj},K.lookup a=some o->(a,o)∈K
 |[],_,_,h=>by cases h
 | (b,u)::K,a,o,h=>by
  rw[vw]at h;cases z:a == b with
  |true=>rw[z]at h;cases h;rw[uC.mp z];exact wR
  |false=>rw[z]at h;exact wM _ (yF h)
def qg0{K:009}(h:plainK K=true){a:Addr}{o:Obj}(e:K.lookup a=some o):o.cls≠.type "list"/\¬(o.cls=.none/\isFields o.data=true):=by
 unfold plainK at h;rw[wb]at h;have:=h _ (yF e);simp only[wS,bne_iff_ne,ub,xp,wv]at this;refine⟨this.1,λ⟨c,d⟩=>?_⟩;rcases this.2 with z|z
 .exact z c
 .rw [d]at z;cases z
def qaH{K:009}{c t:Addr}(h:codeTab K c t=true):∃o vs,K.lookup c=some o/\o.cls=.type "code"/\o.data=.fields vs/\vs[11]?=some (.ref t)/\sameName vs=true:=by
 unfold codeTab at h;split at h
 .rename_i cls d vs sl hl
  simp only[wS,uC]at h;obtain⟨⟨e1,i⟩,e2⟩:=h;split at e2
  .rename_i a b p q r s u v w j f l h7 x m
   simp only[wS,uC,bne_iff_ne]at e2;obtain⟨⟨y,n⟩,ne⟩:=e2;subst n;exact⟨_,vs,hl,e1,rfl,f,i⟩
  .cases e2
 .cases h
def qi3{q:Program}{f:014}{j:ExcName->Option Value}{mg mb:025}{h:Heap}{K:009}(T:Top q f j mg mb h)(l:K.In h)(hc:codesK q K=true){c t:Addr}(e:codeTab K c t=true):
  h.get? t=some {cls:=.none,data:=.fields #[]}/\isCodeTable h t:=by
 obtain⟨o,vs,n,cl,m,p,sn⟩:=qaH e;unfold codesK at hc;rw[wb]at hc;have:=hc _ (yF n);simp only[Bool.or_eq_true,bne_iff_ne,List.any_eq_true]at this;rcases this with (z|z)|⟨d,hd,hz⟩
 .exact absurd cl z
 .rw [m]at z;rw[show sameData (.fields vs)=true from sn]at z;cases z
 .split at hz
  .rename_i a hn
   split at hz
   .rename_i oc od fd sl hl
    have i:fd.code=.ref c:=by simpa using hz
    obtain⟨C,o',v,E,F,e1,e2,w,r,H,x⟩:=T.tab d hd;have y:=xT l T.g hn;rw[y]at e1;cases e1;have:=l _ _ hl;rw[e2]at this;cases this;cases w;rw[i]at r;cases r;obtain⟨⟨A,I,g1,g2,s,u⟩,B⟩:=x;have:=l _ _ n;rw[g1]at this;cases this;rw[m]at s;cases s;rw[p]at u;cases u;exact⟨B,c,_,_,g1,cl,m,p⟩
   .cases hz
  .cases hz
noncomputable def tabOf(K:009)(b:Addr):Bool:=K.any λp=>codeTab K p.1 b
def qbn{K:009}{b:Addr}:tabOf K b=true ↔ ∃c,codeTab K c b=true:=by
 unfold tabOf;rw[List.any_eq_true];constructor
 .rintro ⟨p,_,h⟩;exact⟨p.1,h⟩
 .rintro ⟨c,h⟩
  obtain⟨o,vs,a,_⟩:=qaH h;exact⟨(c,o),yF a,h⟩
noncomputable def entryH(K:009)(a:Addr)(vs:005)(ns:008):Hp:=λb=>if b=a then some (.frz {cls:=.type "list",data:=.seq vs.toArray} (.l (ns.map V.int)))else if tabOf K b=true then some (.tbl #[])else none
def qfw{P:Program}{w:World}{q:Program}{A:014}{J:ExcName->Option Value}{K:009}{mg mb:025}{k:Nat}{fa a:Addr}{fd:FuncData}{x:Str}{sp:Sp}{f:09}{vs:005}{ns:008}(T:Top q A J mg mb f.heap)(N:K.In f.heap)(hp:plainK K=true)(O:codesK q K=true)(hg:f.gens=#[])(ha:f.heap.get? a=some {cls:=.type "list",data:=.seq vs.toArray})(hi:IntsAre vs ns)(hl:ns.length<=sizeLine)(hr:Room k callerA)(F:∀base:Heap,K.In base->base.Ns mainGlobals mg->FnOk P w K mg base CX0 k fa fd [x] sp)(B:∀(s:09) (u:Value),BindsTo s fd ⟨[u],[]⟩ [(x,u)])(Q:∀H:Hp,H a=some (.frz {cls:=.type "list",data:=.seq vs.toArray} (.l (ns.map V.int)))->sp [.ref a] H (λv _=>v=.bl true) λ_ _ _=>False):
  codeAny (model P w) callerA (.call (.ref fa) ⟨[.ref a],[]⟩) (λr s'=>r=.ok (.ret (.bool true))/\OldK f.heap s'.heap/\s'.os=f.os/\AllBare s'.gens) f:=by
 have rv:=qbi hi;have E:∀{b:Addr},tabOf K b=true->f.heap.get? b=some {cls:=.none,data:=.fields #[]}/\isCodeTable f.heap b:=λ{b} h=>by
  obtain⟨c,e⟩:=qbn.mp h;exact qi3 T N O e
 have na:tabOf K a≠true:=λh=>by
  have:=(E h).1;rw[ha]at this;cases this
 generalize S:entryH K a vs ns=H;have U:H a=some (.frz {cls:=.type "list",data:=.seq vs.toArray} (.l (ns.map V.int))):=by rw[<-S];unfold entryH;rw[wN rfl]
 have X:∀{b:Addr},tabOf K b=true->H b=some (.tbl #[]):=λ{b} h=>by
  rw[<-S];unfold entryH;rw[wT (λ(z:b=a)=>na (by rw[<-z];exact h)),wN h]
 have j:∀{b:Addr} {u:HO},H b=some u->(b=a/\u=.frz {cls:=.type "list",data:=.seq vs.toArray} (.l (ns.map V.int)))\/(tabOf K b=true/\u=.tbl #[]):=λ{b u} e=>by
  rw[<-S]at e;unfold entryH at e;split at e
  .rename_i z;cases e;exact .inl ⟨z,rfl⟩
  .split at e
   .rename_i z;cases e;exact .inr ⟨z,rfl⟩
   .cases e
 have hok:HOk P w H f.heap:=λb u e=>by
  rcases j e with ⟨rfl,rfl⟩|⟨h,rfl⟩
  .exact ⟨ha,by rw[wF];exact hl,vs,_,rv,ha⟩
  .exact ⟨(E h).1,trivial⟩
 have i:∀{b:Addr} {o:Obj},f.heap.get? b=some o->H b=none->(hidT f.heap H).get? b=some o:=λe n=>qfN e n
 have Y:∀{b:Addr} {o:Obj} {es:Array DictEntry} {I:Nat},f.heap.get? b=some o->o.data=.dict es I->H b=none:=λ{b o es I} e d=>by
  cases z:H b with
  |none=>rfl
  |some u =>
   rcases j z with ⟨rfl,rfl⟩|⟨h,rfl⟩
   .rw [ha]at e;cases e;cases (show Data.seq vs.toArray _=Data.dict es I from d)
   .rw [(E h).1]at e;cases e;cases (show Data.fields #[]=Data.dict es I from d)
 have l:∀{b:Addr} {m:025},f.heap.Ns b m->(hidT f.heap H).Ns b m:=λ{b m} ⟨o,es,I,e,d,r⟩=>⟨o,es,I,i e (Y e d),d,r⟩
 have L:K.In (hidT f.heap H):=λb o e=>i (N b o e) (by
  cases z:H b with
  |none=>rfl
  |some u =>
   obtain⟨p1,p2⟩:=qg0 hp e;have e':=N b o e;rcases j z with ⟨rfl,rfl⟩|⟨h,rfl⟩
   .rw [ha]at e';cases e';exact absurd rfl p1
   .rw [(E h).1]at e';cases e';exact absurd ⟨rfl,rfl⟩ p2)
 have bm:∃bm ob,mg "__builtins__"=some (.ref bm)/\bm≠builtinsNs/\(hidT f.heap H).get? bm=some ob/\ob.cls=.type "module"/\ob.dict=some builtinsNs/\ob.data=.plain:=by
  obtain⟨bm,ob,e1,e2,C,M,e5,e6⟩:=T.bmain;refine⟨bm,ob,e1,e2,i C ?_,M,e5,e6⟩;cases z:H bm with
  |none=>rfl
  |some u =>
   rcases j z with ⟨rfl,rfl⟩|⟨h,rfl⟩
   .rw [ha]at C;cases C;exact absurd (show Value.type "list"=Value.type "module" from M) 01
   .rw [(E h).1]at C;cases C;exact absurd M 01
 have hM:Mod K mg (hidT f.heap H):=⟨L,l T.g,⟨mb,l T.b,T.builtins⟩,(let ⟨mc,h1,h2⟩:=T.nolimit;⟨mc,l h1,h2⟩),bm⟩;have e0:Env0 P w K mg (hidT f.heap H) callerA [] f H:=⟨rfl,hM,λb o e=>qij e,xL (qe5 _ _),trivial,λb hb=>absurd (show b∈([]:List Addr)from hb) 07,hok,.of_eq hg,λc t z=>⟨_,X (qbn.mpr ⟨c,z⟩)⟩⟩;refine codeAny_mono ((F _ L (l T.g)).run callerA [] f H ⟨[.ref a],[]⟩ [.ref a] [.ref a] _ _ hr e0 (B f (.ref a)) (.cons rfl .nil) (Q H U)) λr s' h=>?_
 cases r with
 |error e=>exact(show False from h).elim
 |ok fl =>
  cases fl with
  |next=>exact False.elim h
  |brk=>exact False.elim h
  |cont=>exact False.elim h
  |ret u =>
   obtain⟨v,H',os,bare,un,p,r',Z⟩:=h;have Z:v=.bl true:=Z;subst Z;obtain rfl:u=Value.bool true:=r';have old:∀b o,f.heap.get? b=some o->asItWas f.heap s'.heap b o/\∃o',s'.heap.get? b=some o':=λb o e=>by
    cases z:H b with
    |none =>
     have:=un.keep b o e z (by intro y;exact absurd (show b∈([]:List Addr)from y) 07) 07;exact⟨.inl this,_,this⟩
    |some u =>
     rcases j z with ⟨rfl,rfl⟩|⟨h,rfl⟩
     .have z2:=un.frzs _ _ _ z
      obtain⟨e2,_⟩:=p _ _ z2;rw[ha]at e;cases e;exact⟨.inl e2,_,e2⟩
     .obtain ⟨more,z2⟩:=un.tbls _ _ z
      obtain⟨e2,_⟩:=p _ _ z2;obtain⟨C,M⟩:=E h;rw[C]at e;cases e;exact⟨.inr (.inl ⟨M,rfl,#[],more,rfl,e2⟩),_,e2⟩
   exact⟨rfl,⟨λb o e=>(old b o e).1,λb o e=>(old b o e).2⟩,os,bare.bare⟩
def qle{l:PySem.W.OpenLaw}{n k:Nat}{q:Program}{i:014}{XP:(Str->Option Value)->Heap->Prop}{E:World->Heap->Prop}{d:DefRec}{K:Params->PySem.W.Frag}{x:Str}{g:List D->Sr->Res D}(hn:l.most=some n)(y:n<=sizeLine)(A:d.params.defaults=[])(N:Room k callerA)(O:∀(w:World) (h:Heap),E w h->(K w.params).In h)(Q:∀P,plainK (K P)=true)(B:∀P,codesK q (K P)=true)(F:∀(w:World) (mg:025) (p:Addr) (h:Heap),(K w.params).In h->h.Ns mainGlobals mg->mg d.name=some (.ref p) ->
   ∃fd:FuncData,(∀(s:09) (u:Value),BindsTo s fd ⟨[u],[]⟩ [(x,u)])/\∀base:Heap,(K w.params).In base->base.Ns mainGlobals mg->FnOk l.prog w (K w.params) mg base CX0 k p fd [x] (SpD 1 g))(S:∀ns:List Int,ns.length<=n->∃I,g [.l (ns.map .int)] []=.ok (.bl true) I):
  PySem.W.WalkO q i XP E l.row.toRowW d [] (λf vs=>PySem.call f vs):=by
 refine Att.attach_call hn A λw s₀ J mg mb p o pm cd doc a vs ns G Y ho hd L C m j c U=>?_
 have M:=O w _ Y;obtain⟨fd,hb,X⟩:=F w mg p _ M G.T.g C;refine qfw G.T M (Q _) (B _) U m j (vF c y) N X hb λH Z=>?_
 obtain⟨I,e⟩:=S ns c;have dd:∀ms:List Int,Dens [] H (ms.map .int) (ms.map V.int):=λms=>by
  induction ms with
  |nil=>rfl
  |cons x r ih=>exact⟨_,_,rfl,rfl,ih⟩
 refine⟨rfl,[],[],[.l (ns.map .int)],⟨rfl,.nil,λn a so e1 _=>by simp at e1⟩,⟨_,_,rfl,⟨a,ns.map V.int,rfl,by simp,.inr ⟨_,Z⟩,dd ns⟩,rfl⟩,?_⟩;rw[e];exact λv a0 H' _ _ hv=>hv
def m2{k:Nat}{A:Around}(r:Room (k+2) A):Room k A:=r.mono 00
def m1{k:Nat}{A:Around}(r:Room (k+1) A):Room k A:=r.mono 00
def qlf:bootBuiltins "len"=some (.builtin "len"):=by decide +kernel
def qlg:bootBuiltins "min"=some (.builtin "min"):=by decide +kernel
def qlh:bootBuiltins "max"=some (.builtin "max"):=by decide +kernel
def qli:bootBuiltins "abs"=some (.builtin "abs"):=by decide +kernel
def qfx:bootBuiltins "divmod"=some (.builtin "divmod"):=by decide +kernel
def qfy:bootBuiltins "sorted"=some (.builtin "sorted"):=by decide +kernel
def qlj:bootBuiltins "all"=some (.builtin "all"):=by decide +kernel
def qlk:bootBuiltins "sum"=some (.builtin "sum"):=by decide +kernel
def qi4:bootBuiltins "list"=some (.type "list"):=by decide +kernel
def qg1:bootBuiltins "tuple"=some (.type "tuple"):=by decide +kernel
section
variable{X:Cx}{F:Fs}{pos p:Pos}{e:Expr}{es:List Expr}{cs:CEs}
theorem zd(gb:Gb X.mg)(ha:QA X (e::es) (TL (evs F cs)))(c:Gl X "len":=by rfl)(d:sE X e es:=by rfl)(a:bT X es pos:=by rfl):QE X (.Call (.Name "len" p) (e::es) [] pos) (T (ev F (.blt .len cs))):=by
 delta QE;delta QA at ha;exact(qae .len qmz gb.len qlf ha c 01 01 d a)
theorem qj0(gb:Gb X.mg)(ha:QA X (e::es) (TL (evs F cs)))(hc:017:=by rfl)(c:Gl X "min":=by rfl)(d:sE X e es:=by rfl)(a:bT X es pos:=by rfl):QE X (.Call (.Name "min" p) (e::es) [] pos) (T (ev F (.blt .min2 cs))):=by
 delta QE;delta QA at ha;exact(qae .min2 (qmB hc) gb.min qlg ha c 01 01 d a)
theorem qmX(gb:Gb X.mg)(ha:QA X (e::es) (TL (evs F cs)))(hc:017:=by rfl)(c:Gl X "max":=by rfl)(d:sE X e es:=by rfl)(a:bT X es pos:=by rfl):QE X (.Call (.Name "max" p) (e::es) [] pos) (T (ev F (.blt .max2 cs))):=by
 delta QE;delta QA at ha;exact(qae .max2 (qmC hc) gb.max qlh ha c 01 01 d a)
theorem qex(gb:Gb X.mg)(ha:QA X (e::es) (TL (evs F cs)))(c:Gl X "abs":=by rfl)(d:sE X e es:=by rfl)(a:bT X es pos:=by rfl):QE X (.Call (.Name "abs" p) (e::es) [] pos) (T (ev F (.blt .abs cs))):=by
 delta QE;delta QA at ha;exact(qae .abs qmA gb.abs qli ha c 01 01 d a)
theorem qg2(gb:Gb X.mg)(ha:QA X (e::es) (TL (evs F cs)))(c:Gl X "divmod":=by rfl)(d:sE X e es:=by rfl)(a:bT X es pos:=by rfl):QE X (.Call (.Name "divmod" p) (e::es) [] pos) (T (ev F (.blt .divmod cs))):=by
 delta QE;delta QA at ha;exact(qae .divmod qgs gb.divmod qfx ha c 01 01 d a)
theorem qcN(m:Bool)(gb:Gb X.mg)(ha:QA X (e::es) (TL (evs F cs)))(hc:017:=by rfl)(c:Gl X "sorted":=by rfl)(d:sE X e es:=by rfl)(a:bT X es pos:=by rfl):QE X (.Call (.Name "sorted" p) (e::es) [] pos) (T (ev F (.blt (.sorted m) cs))):=by
 delta QE;delta QA at ha;exact(qae (.sorted m) (qgZ m hc) gb.sorted qfy ha c 01 01 d a)
theorem qj1(gb:Gb X.mg)(ha:QA X (e::es) (TL (evs F cs)))(hc:017:=by rfl)(c:Gl X "all":=by rfl)(d:sE X e es:=by rfl)(a:bT X es pos:=by rfl):QE X (.Call (.Name "all" p) (e::es) [] pos) (T (ev F (.blt .all cs))):=by
 delta QE;delta QA at ha;exact(qae .all (qmD hc) gb.all qlj ha c 01 01 d a)
theorem qmY(gb:Gb X.mg)(ha:QA X (e::es) (TL (evs F cs)))(hc:017:=by rfl)(c:Gl X "sum":=by rfl)(d:sE X e es:=by rfl)(a:bT X es pos:=by rfl):QE X (.Call (.Name "sum" p) (e::es) [] pos) (T (ev F (.blt .sum cs))):=by
 delta QE;delta QA at ha;exact(qae .sum (qmE hc) gb.sum qlk ha c 01 01 d a)
theorem j3(m:Bool)(gb:Gb X.mg)(ha:QA X (e::es) (TL (evs F cs)))(c:Gl X "list":=by rfl)(d:sE X e es:=by rfl)(a:bT X es pos:=by rfl):QE X (.Call (.Name "list" p) (e::es) [] pos) (T (ev F (.blt (.list m) cs))):=by
 delta QE;delta QA at ha;exact(qjZ (.list m) (qkZ m) gb.list qi4 ha c 01 01 d a)
theorem zz(gb:Gb X.mg)(ha:QA X (e::es) (TL (evs F cs)))(c:Gl X "tuple":=by rfl)(d:sE X e es:=by rfl)(a:bT X es pos:=by rfl):QE X (.Call (.Name "tuple" p) (e::es) [] pos) (T (ev F (.blt .tuple cs))):=by
 delta QE;delta QA at ha;exact(qjZ .tuple qiJ gb.tuple qg1 ha c 01 01 d a)
end
def qmZ{P:Program}{w:World}{K:009}{mg:025}{base:Heap}{k N i:Nat}{F G:Fs}{x:Str}{st:Stmt}{f c T':Addr}{fd:FuncData}{a:CF}{ns ps:014}(U:FunT K x st f fd c T')(S:FnScope ns ps (defScope st))(l:ps.length=a.np)(hn:ns.length=a.nn)(d:a.np<=a.nn)(m:G i=callC F N a)(body:∀(A:Around) (outer:List Env) (s:09) (H:Hp) (E:XK),Room k (A.deeper (envOfC x (defScope st) s.heap.objs.size f (.ref c)))->QSs (cxOf CX0 P w K mg base ns x (defScope st) f (.ref c) A outer s H E).nox (defBody st) (TSm (exs F N a.body))):
  FnOk P w K mg base CX0 (k+1) f fd ps (SpD ps.length (G i)):=by
 obtain⟨oc,od,kV,doc,pm,an,ct,osl,rfl,n,j⟩:=U.ex;refine qjM n j S (λvs H Q E h=>h.1) λA outer s H vs Q E o h=>⟨_,(body A outer s H E o).un.nox,?_⟩
 rw[m]at h;exact qi2 l hn d h
def qm0{P:Program}{w:World}{K:009}{mg:025}{base:Heap}{i:Nat}{G:Fs}{f:Addr}{fd:FuncData}{ps:014}(a:G i=λ_ _=>.no){k:Nat}:
  FnOk P w K mg base CX0 k f fd ps (SpD ps.length (G i)):=by
 refine⟨λvs H Q E h=>h.1,λA outer s H args us vs Q E _ _ _ _ h=>?_⟩;obtain⟨_,ι,S,ds,_,_,p⟩:=h;rw[a]at p;exact p.elim
def DefIn(K:009)(mg:025)(x:Str)(st:Stmt)(ps:014):Prop:=∃(f:Addr) (fd:FuncData) (c t:Addr),mg x=some (.ref f)/\FunT K x st f fd c t/\Binds K fd ps []
def DefIn.fn{P:Program}{w:World}{K:009}{mg:025}{base:Heap}{k i:Nat}{F:Fs}{x:Str}{st:Stmt}{ps:014}(u:DefIn K mg x st ps)(h:∀f fd c t,FunT K x st f fd c t->FnOk P w K mg base CX0 k f fd ps (SpD ps.length (F i))):FnAt P w K mg base k F i x ps:=by
 obtain⟨f,fd,c,t,hm,U,hb⟩:=u;exact⟨f,fd,hm,U.kp,hb,h f fd c t U⟩
def len0{us:005}(h:us.length=0):us=[]:=List.eq_nil_of_length_eq_zero h
def lenS{us:005}{n:Nat}(h:us.length=n+1):∃a r,us=a::r/\r.length=n:=by
 cases us with
 |nil=>cases h
 |cons a r=>exact⟨a,r,rfl,Nat.succ.inj h⟩
def len1{us:005}(h:us.length=1):∃c,us=[c]:=by
 obtain⟨a,_,rfl,q⟩:=lenS h;cases len0 q;exact⟨a,rfl⟩
def len2{us:005}(h:us.length=2):∃c d,us=[c,d]:=by
 obtain⟨a,r,rfl,q⟩:=lenS h;obtain⟨f,rfl⟩:=len1 q;exact⟨a,f,rfl⟩
def len3{us:005}(h:us.length=3):∃c d f,us=[c,d,f]:=by
 obtain⟨a,r,rfl,q⟩:=lenS h;obtain⟨i,b1,rfl⟩:=len2 q;exact⟨a,i,b1,rfl⟩
def len4{us:005}(h:us.length=4):∃c d f i,us=[c,d,f,i]:=by
 obtain⟨a,r,rfl,q⟩:=lenS h;obtain⟨j,b1,b2,rfl⟩:=len3 q;exact⟨a,j,b1,b2,rfl⟩
noncomputable def tabIn(vs:028)(c T':Addr):Bool:=match(vs.getD 11 Value.none:Value),(vs.getD 18 Value.none:Value),(vs.getD 7 Value.none:Value),(vs.getD 9 Value.none:Value),(vs.getD 10 Value.none:Value)with
  | .ref a,.str _ _,.int _ _,.bool _,.int _ _=>(a == T'&&c != T')&&sameName vs
  |_,_,_,_,_=>false
def qll{K:009}{c t:Addr}{d:Option Addr}{vs:028}{sl:Array (Option Value)}(i:K.lookup c=some ⟨.type "code",d,.fields vs,sl⟩)(f:vs[11]?=some (.ref t))(h:tabIn vs c t=true):codeTab K c t=true:=by
 unfold codeTab;rw[i];simp only[f];unfold tabIn at h;split at h
 .rename_i a n o p q r s e1 e2 j l m
  simp only[e1,e2,j,l,m];simpa[and_comm]using h
 .cases h
def qlm{K:009}{h:Heap}{mg:025}(X:K.In h)(G:h.Ns mainGlobals mg){x:Str}{st:Stmt}{ps:014}{f c t:Addr}{oc kV doc pm ct:Value}{od an:Option Addr}{osl:Array (Option Value)}{d2:Option Addr}{vs:028}{d:Array (Option Value)}(a:PySem.W.nsIn K mainGlobals x=some (some (.ref f)))(l:K.lookup f=some ⟨oc,od,.func (PySem.W.fnOf x x (defArgs st) (defBody st) (defScope st) .none kV doc pm an (.ref c) ct),osl⟩)(m:PySem.W.codeIn K (.ref c) x=true)(n:K.lookup c=some ⟨.type "code",d2,.fields vs,d⟩)(i:vs[11]?=some (.ref t))(o:tabIn vs c t=true)(kp:PySem.W.keepIn K (.ref f)=true)(hb:∀(kV doc pm:Value) (an:Option Addr) (j ct:Value) (us:005),us.length=ps.length->bindArgs (PySem.W.fnOf x x (defArgs st) (defBody st) (defScope st) .none kV doc pm an j ct) ⟨us,[]⟩=pure (ps.zip us)):DefIn K mg x st ps :=
 ⟨f,_,c,t,xT X G a,⟨⟨oc,od,kV,doc,pm,an,ct,osl,rfl,l,m⟩,qll n i o,kp⟩,.all (hb kV doc pm an (.ref c) ct)⟩
def qln{K:009}{h:Heap}{mg:025}(X:K.In h)(G:h.Ns mainGlobals mg){x:Str}{i:Int}{t:Tok}{v:Value}(a:PySem.W.nsIn K mainGlobals x=some (some v))(e:v=.int i t):∃t:Tok,mg x=some (.int i t):=⟨t,by rw[xT X G a,e]⟩
def qi5{K:009}{h:Heap}{mg:025}(X:K.In h)(G:h.Ns mainGlobals mg){x i:Str}{t:Tok}{v:Value}(a:PySem.W.nsIn K mainGlobals x=some (some v))(e:v=.str i t):∃t:Tok,mg x=some (.str i t):=⟨t,by rw[xT X G a,e]⟩
section
variable{X:Cx}{F:Fs}{N:Nat}{pos:Pos}
theorem qg3(i j:Nat){x y:Str}{a b:Expr}{d cb:CE}{f m pt:Pos}{kt k2 pt2}(ha:QA X [a,b] (TL (evs F (.cons d (.cons cb .nil)))))(hc:017:=by rfl)(B:nodupB X.N=true:=by rfl)(hi:X.N[i]?=some x:=by rfl)(C:X.N[j]?=some y:=by rfl)(n:i≠j:=by decide)(E:X.env.scope.names.lookup x=some .local:=by rfl)(I:X.env.scope.names.lookup y=some .local:=by rfl)(hw:swappedStores [.Tuple [.Name x f,.Name y m] kt pt] (.Tuple [a,b] k2 pt2) X.env=pure (some [x,y]):=by rfl)(hs:swapsWithSole [.Tuple [.Name x f,.Name y m] kt pt] (.Tuple [a,b] k2 pt2) pos.line X.env=pure false:=by rfl):
  QS X (.Assign [.Tuple [.Name x f,.Name y m] kt pt] (.Tuple [a,b] k2 pt2) pos) (TSm (ex F N (.set (.t (.c (.v i) (.c (.v j) .n))) (.t (.cons d (.cons cb .nil)))))):=by
 delta QS;delta QA at ha;refine PSimp (qkz hc (zC B) hi C n E I ha hw hs) λL M H h=>?_
 obtain⟨ι,S,ρ,A,st,p⟩:=h;refine⟨ι,S,ρ,A,st,?_⟩;have c:∀{l S'},evs F (.cons d (.cons cb .nil)) ρ S=.ok l S'->l.length=2:=λz=>ji z
 simp only[ex,ev]at p;cases z:evs F (.cons d (.cons cb .nil)) ρ S with
 |no=>rw[z]at p;exact p
 |err=>rw[z]at p;exact p
 |ok l S1 =>
  rw[z]at p;have hl:=c z
  match l,hl with
  |[d1,d2],_ =>
   have hs:([d1,d2]:List D).length<=sizeLine:=by simp[sizeLine]
   simp only[Res.bind,hs,uO,asg,asgs]at p;intro vs o J s1 q K;obtain⟨v,r,rfl,s,w,O,rfl,u,rfl⟩:=K;exact⟨v,w,rfl,p o J s1 q _ (((A.mono s1).set s).set u)⟩
end
end R
namespace R
open PySem PySem.Spec L2 SeqAt
open PyProof.Rows hiding St
section
variable{X:Cx}{F:Fs}{N:Nat}{pos:Pos}
theorem qg4{m:Bool}{fr:List Nat}{nt:Nat}{a c:CE}{t:CT}{f:CBs}:mLcG m fr nt (mRef (ev F c)) (asg F t) (tsts F f) (ev F a)=ev F (.lcR m fr nt a t c f):=by
 funext ρ S;unfold mLcG mRef;simp only[ev];cases ev F c ρ S with
 |ok d S1 =>
  cases hr:refL d S1 <;> simp only[Res.bind,hr]
 |err=>rfl
 |no=>rfl
theorem qm1(m:Bool)(fr:List Nat)(xs ts:014){tg elt iter:Expr}{ifs:010}{sc:Scope}{t:CT}{c:CE}{a:CBs}{d:CE}(hi:QE X iter (T (ev F c)))(rt:∀cl C fp s H,QG (compCx X sc cl C (xs++ts) fp s H) tg (TGt (asg F t)))(ri:∀cl C fp s H,QTl (compCx X sc cl C (xs++ts) fp s H) ifs (TB (tsts F a)))(re:∀cl C fp s H,QE (compCx X sc cl C (xs++ts) fp s H) elt (T (ev F d)))(hc:017:=by rfl)(hs:044:=by intro _;rfl)(h:050:=by rfl):QE X (.ListComp elt [⟨tg,iter,ifs,0⟩] sc pos) (T (ev F (.lcR m fr ts.length d t c a))):=by
 rw[<-qg4];delta QE;delta QE at hi;delta QG at rt;delta QTl at ri;delta QE at re;exact(qjW hc (qmO hi) hs (yX h) ⟨rt,ri,re⟩)
end
noncomputable def accL(us:028)(c:Nat):Obj:={cls:=.type "list",dict:=none,data:=.seq us c,slots:=#[]}
section
variable{X:Cx}{sc:Scope}{cl:List (Str×Addr)}{C:Addr}{code:Value}{N':List Str}{fp:List Addr}{ge:Expr}{it a:Addr}{o:Obj}{s4:Shared}{H4:Hp}{J:It}{tn:Nat->Heap->Prop}{ds:List D}{gu:Sr->Prop}{g:D->En->Sr->Res En}{mt:En->Sr->Res Bool}{me:En->Sr->Res D}
theorem qi6{R:Result->Shared->Prop}(hh:X.A.handled=none)(hd:X.A.depth<recursionLimit)(hg:∀h:Heap,h.get? a=some o->h.IsGen a s4.gens.size)(tk:∀i h h',tn i h->(∀b∈fp,∀o,h.get? b=some o->h'.get? b=some o)->tn i h'){p:Addr}(hp:s4.heap.objs.size<=p)(M:a≠p):∀(k i:Nat) (ρ:En) (l:04) (xs:List V) (us:028) (S:Sr) (ι:03) (H:Hp) (s:09) (c:Nat) {d:D} {K:Sr},l.length<=sizeLine->ds.length<k+i->Dens ι H l xs->Vals xs us.toList ->
  Cs (genCx X sc cl C code N' fp ge it (a,o) s4 H4) J tn fp ds gu X.A.in4.in1 g mt me s4.gens.size k i ρ S ι H [(p,accL us c)] s->genLoopG gu g mt me (stepG .tuple) (finG .tuple) (ds.drop i) ρ (.t l) S=.ok d K ->
  (∀j f H' z N n r c',d=.t N->N.length<=sizeLine->Dens f H' N n->Vals n (Array.toList r)->Inv (genCx X sc cl C code N' fp ge it (a,o) s4 H4) [(p,accL r c')] j H' (z.setGen s4.gens.size .running)->GK s4.gens z.gens->Stp ι H f H'->Sto f H' K->R (.ok (.ret (.ref p))) z) ->
  codeAny 006 X.A.in1.in1 (.builtin "list.extend.loop" ⟨[.ref p,.ref a,.ref p],[]⟩) R s:=by
 intro k;induction k with
 |zero =>
  intro i ρ l xs us S ι H s c d K _ hk _ _ O _ _;have:=O.sus.le;lia
 |succ k ih =>
  intro i ρ l xs us S ι H s c d K hl hk P Q O e hR;refine vc F.entry_extend_loop ?_;rw[vJ F.plain_extend_loop];refine wA (m:=pyNext (.ref a)) (wpAny_of_in1 (qek (X:=genCx X sc cl C code N' fp ge it (a,o) s4 H4) (A:=X.A.in4) hh hd wR hg rfl rfl O (qgG e) (λS2 f H' j z L Iz U q st=>?_) λi' ρ' v S2 f H' y u z L q dv ry Cz=>?_))
  .have q2:=yU e
   rw[L]at q2;cases q2;exact wD (hR j f H' z l xs us c rfl hl (Dens.mono q l P) Q Iz U q st)
  .have q2:=yU e
   have hi:=qaB _ _ _ _ L;rw[L]at q2;simp only[gen1,stepG]at q2;by_cases B:l.length<sizeLine
   .rw [wN B]at q2
    have E:z.heap.get? p=some (accL us c):=by
     obtain⟨σ,I,_⟩:=Cz.sus.inv;exact(I.pin (p,accL us c) (w9 _ (wV.mpr rfl))).1
    have hsz:us.size=l.length:=by rw[P.length,Q.length,uI]
    show wpAny _ _ (updateSeq p (·.push u) >>= _) _ _ _;refine wA (wpAny_updateSeq E rfl (wD ⟨uR F.plain_extend_loop _,?_⟩) (by rw[hsz];exact hl) (by show(us.push u).size<=sizeLine+1;rw[Array.size_push,hsz];lia));refine ih i' ρ' (l++[v]) (xs++[y]) (us.push u) S2 f H' _ _ (by rw[wP,vr];lia) 00 ((Dens.mono q l P).snoc dv) ?_ (qel (t:=z.toks) Cz tk hp (λq hq=>?_) (λb x hb ex=>(wZ _ _ (Ne.symm hb)).trans ex) (vO _ E rfl) λv z=>by cases z) q2 λW Y H2 z2 l2 x2 u2 c2 ec el d2 v2 I2 U s2 Z=>hR W Y H2 z2 l2 x2 u2 c2 ec el d2 v2 I2 U (q.trans s2) Z
    .rw [Array.toList_push]
     exact Vals.append Q (.cons ry .nil)
    .have a0:q=(a,o):=by
      have:q∈[(a,o)]:=hq;simpa using this
     subst a0;exact M
   .rw [wT B]at q2
    cases q2
end
section
variable{X:Cx}{pos gp:Pos}
theorem qlo(hc:017)(hd:X.A.depth<recursionLimit)(hok:X.calm=true->X.A.handled=none):GCall X .tuple (.type "tuple"):=by
 intro pins s σ H ι a ds gu g mt me ρ S Q gh h;obtain⟨sc,cl,C,code,N',fp,ge,it,o,Y,H4,J,tn,Z,cs,hf,tk,out⟩:=gh;obtain⟨d,S',e,q⟩:=qem h;have hh:=(cs 0).sus.inv;obtain⟨i,I,_⟩:=hh;have ha:s.heap.get? a=some o:=(I.pin (a,o) (wu _ wR)).1;have lt:Y.heap.objs.size<=s.heap.objs.size:=I.sz;have B:a≠s.heap.objs.size:=wg (wI ha);have O:∀(Q2:List Value->Shared->Prop) (E:015),(∀i j H' z K l c N,d=.t K->K.length<=sizeLine->Dens j H' K l->Vals l (Array.toList c)->Inv (genCx X sc cl C code N' fp ge it (a,o) Y H4) [(s.heap.objs.size,accL c N)] i H' (z.setGen Y.gens.size .running)->GK Y.gens z.gens->Stp ι H j H'->Sto j H' S'->Q2 c.toList z) ->
   wpAny 006 X.A.in1.in1 (collect (.ref a)) Q2 E s:=by
  intro Q2 E hQ;unfold collect;refine wA (wpAny_runValue (vc xo ?_));rw[vJ xn _];refine wA (m:=newList []) (wf (wD ⟨uR ua _,vc F.entry_list_iadd ?_⟩));rw[vJ ua _];have P:(s.heap.push {cls:=.type "list",data:=.seq ([]:List Value).toArray}).get? a=some o:=wB _ ha;have U:({s with heap:=s.heap.push {cls:=.type "list",data:=.seq ([]:List Value).toArray}}:Shared).TypeIs (.ref a) "generator":=(Z _ P).typeIs;show wpAny _ X.A.in1.in1.in1 (Builtin.List.listExtendWith 043 (.ref a) 043) _ _ _;unfold Builtin.List.listExtendWith;refine wA (xI U ?_);have h1:Builtin.List.listSameRef 043 (.ref a)=false:=by simp[Builtin.List.listSameRef,Ne.symm B]
  have h2:(Value.type "generator" == Value.type "list")=false:=by decide
  have h3:(Value.type "generator" == Value.type "tuple")=false:=by decide
  simp only[h1,h2,h3,Bool.or_false,vf,ui];refine wA (wpAny_pyIter_gen (Z _ P) ?_);refine wA (vQ ?_);unfold Builtin.List.listLengthHint;refine wA (wpAny_specialOf U F.gen_no_len ?_);show wpAny _ X.A.in1.in1.in1 (specialOf (Value.ref a) (Str.ofString "__length_hint__") >>= _) _ _ _;refine wA (wpAny_specialOf U F.gen_no_hint ?_);refine wD ?_;show wpAny _ X.A.in1.in1.in1 (rule "list.extend.makes-room" >>= λ_=>Builtin.List.listTouch 043 >>= λ_ =>
   again (.builtin "list.extend.loop" ⟨[.ref s.heap.objs.size,.ref a,.ref s.heap.objs.size],[]⟩)) _ _ _
  refine wA (ux ?_);have n:(s.heap.push {cls:=.type "list",data:=.seq ([]:List Value).toArray}).get? s.heap.objs.size=some {cls:=.type "list",data:=.seq ([]:List Value).toArray}:=wJ _ rfl;refine wA ?_;show wpAny _ X.A.in1.in1.in1 (updateSeq s.heap.objs.size (·.push .none) >>= λ_=>updateSeq s.heap.objs.size (·.pop)) _ _ _;refine wA (wpAny_updateSeq n rfl ?_);have r:=vO (Obj.mapSeq (·.push Value.none)) n rfl;refine wpAny_updateSeq r rfl ?_;have L:=vO (Obj.mapSeq (·.pop)) r rfl;refine wD ⟨uR F.plain_extend_loop _,?_⟩;have C1:=qiS (t:=s.toks) (cs (ds.length+1)) tk hf (u:={cls:=.type "list",data:=.seq ([]:List Value).toArray}) (wJ _ rfl) λv z=>by cases z
  have C2:=qel (t:=s.toks) C1 tk lt (λq hq=>by
   have a0:q=(a,o):=by
    have:q∈[(a,o)]:=hq;simpa using this
   subst a0;exact B) (λb x hb ex=>(wZ _ _ (Ne.symm hb)).trans ((wZ _ _ (Ne.symm hb)).trans ex)) L λv z=>by cases z
  refine qi6 (hok hc) hd Z tk (p:=s.heap.objs.size) lt B (ds.length+1) 0 ρ [] [] #[] S ι H _ _ (wr _) 00 rfl .nil C2 e λi j H' z K l c N ed el dd vv Iz gk s1 M=>?_
  have a1:z.heap.get? s.heap.objs.size=some (accL c N):=(Iz.pin (s.heap.objs.size,accL c N) (w9 _ (wV.mpr rfl))).1;show wpAny _ _ (load s.heap.objs.size >>= _) _ _ z;exact wA (wpAny_load a1 (wD (hQ i j H' z K l c N ed el dd vv Iz gk s1 M)))
 have new:codeAny 006 X.A.in1 (.call (.builtin "tuple.__new__") ⟨[.type "tuple",.ref a],[]⟩) (wants (λobj f=>f.TypeIs obj "tuple"/\EP X pins σ Q obj f) X.xe) s:=by
  refine codeAny_of_tree (?_:wpAny _ X.A.in1.in1 (do checkBuiltinCall "tuple.__new__" ⟨[.type "tuple",.ref a],[]⟩;again (.builtin "tuple.__new__" ⟨[.type "tuple",.ref a],[]⟩)) _ _ s);refine wA (wpAny_of_eq (F.newCall_tuple_1 _) (wD ⟨uR xS _,vc F.entry_tuple_new ?_⟩));rw[vJ xS];have k1:=sub_tuple_self;have k2:=init_tuple_lookup;have k3:=madeHere_tuple;have U:s.TypeIs (.ref a) "generator":=(Z _ ha).typeIs;wp_walk using xI U,O;intro i j H' z K l c N ed el dd vv Iz gk s1 M;refine wA (m:=Builtin.Tuple.tupleExact c.toList.toArray) ?_;unfold Builtin.Tuple.tupleExact;have hsz:c.size=K.length:=by rw[dd.length,vv.length,uI]
  refine wf (wD ?_) (by
   have:c.toList.toArray.size<=sizeLine:=by rw[xD,hsz];exact el
   exact this)
  have e2:c.toList.toArray=c:=xD ..;rw[e2];subst ed;have I2:=out _ i H' z Iz gk;have W:H' z.heap.objs.size=none:=I2.hok.fresh (wH _);refine⟨⟨_,wJ _ rfl,rfl⟩,.ref _,upd H' z.heap.objs.size (.t l),I2.laid (t':=z.toks) (λb o e=>wB _ e) (wH _) ⟨?_,c.toList,vv,⟨_,wJ _ rfl,rfl,0,by simp⟩,λo q=>by rw[wJ _ rfl]at q;cases q;rfl⟩,rfl,zG M dd (λv a2 H2 s2 a3 dv=>q v a2 H2 (s1.trans s2) a3 dv) _ W⟩;rw[<-dd.length];exact el
 refine callType_codes xA (F.typeCall_tuple_1 _) F.entry_object_init new λobj f y=>?_
 exact⟨y.1,F.args_object_init_2 obj _,object_init_meets xA.init.lookup xA.made 01 X.prog X.w X.A.in1 _ f ⟨y.1,rfl,y.2⟩⟩
theorem qey{p:Pos}{tg elt iter:Expr}{ifs:010}{sc:Scope}{fr:List Nat}{xs ts:014}{mi:En->Sr->Res (List D×(Sr->Prop))}{g:024}{mt:022}{me:007}{c T':Addr}(hc:017)(d:X.A.depth<recursionLimit)(hok:X.calm=true->X.A.handled=none)(j:Gl X "tuple")(hm:X.mg "tuple"=none)(hi:PI X tg iter (TIg mi))(hs:∀x,genFold iter X.env x=pure x)(C':CSc X sc fr xs ts)(n:sc.names.lookup (".0":Str)=some NameKind.local)(l:sc.isCoroutine=false)(f:X.env.code=.ref c)(i:codeTab X.K c T'=true)(B:BlkG X sc (xs++ts) tg iter ifs elt gp g mt me):
  PE X (.Call (.Name "tuple" p) [.GeneratorExp elt [⟨tg,iter,ifs,0⟩] sc gp] [] pos) (T (mGenG .tuple fr ts.length mi g mt me)):=by
 intro pins s o H Q I hw;have hb:bootBuiltins "tuple"=some (.type "tuple"):=by decide +kernel
 refine Call_ (yM I j hm hb ?_ 01 01);obtain⟨ι,S,ρ,r,st,h⟩:=hw;dsimp only[mGenG]at h;cases z:mi ρ S with
 |no=>rw[z]at h;exact h.elim
 |err=>rw[z]at h;exact h.elim
 |ok u S1 =>
  obtain⟨ds,gu⟩:=u;rw[z,Res.bind_ok]at h;refine uE (e:=.GeneratorExp elt [⟨tg,iter,ifs,0⟩] sc gp) (rest:=[]) ?_ rfl rfl;refine uM (thn (qcy hc d hi hs C' n l f i B I r st z) λv s' ⟨a,m,H',ev,q,w⟩=>?_);subst ev;exact uz (qlo hc d hok pins s' o H' m a ds gu g mt me _ S1 Q w (Pst.from h q))
theorem qlp{p:Pos}{tg elt iter:Expr}{ifs:010}{sc:Scope}{fr:List Nat}{xs ts:014}{mi:038}{g:024}{mt:022}{me:007}{c T':Addr}(hc:017)(a:X.A.depth<recursionLimit)(hok:X.calm=true->X.A.handled=none)(h:Gl X "tuple")(hm:X.mg "tuple"=none)(hi:PI X tg iter (TIt mi))(hs:∀x,genFold iter X.env x=pure x)(C':CSc X sc fr xs ts)(j:sc.names.lookup (".0":Str)=some NameKind.local)(i:sc.isCoroutine=false)(d:X.env.code=.ref c)(f:codeTab X.K c T'=true)(B:BlkG X sc (xs++ts) tg iter ifs elt gp g mt me):
  PE X (.Call (.Name "tuple" p) [.GeneratorExp elt [⟨tg,iter,ifs,0⟩] sc gp] [] pos) (T (mGen .tuple fr ts.length mi g mt me)):=by
 rw[<-qgH];exact qey hc a hok h hm (pi_g hi) hs C' j i d f B
end
section
variable{X:Cx}{F:Fs}{N:Nat}{pos:Pos}
theorem qcO(fr:List Nat)(xs ts:014){p f:Pos}{tg elt iter:Expr}{ifs:010}{sc:Scope}{k:Nat}{c T':Addr}{t:CT}{it:CI}{l:CBs}{m:CE}(n:Room k X.A)(gb:Gb X.mg)(a:X.env.code=.ref c)(d:codeTab X.K c T'=true)(hi:QI X tg iter (TIt (evI F it)))(rt:∀cl C code fp it o s H,QG (genCx X sc cl C code (xs++ts) fp (.GeneratorExp elt [⟨tg,iter,ifs,0⟩] sc f) it o s H) tg (TGt (asg F t)))(ri:∀cl C code fp it o s H,QTl (genCx X sc cl C code (xs++ts) fp (.GeneratorExp elt [⟨tg,iter,ifs,0⟩] sc f) it o s H) ifs (TB (tsts F l)))(re:∀cl C code fp it o s H,QE (genCx X sc cl C code (xs++ts) fp (.GeneratorExp elt [⟨tg,iter,ifs,0⟩] sc f) it o s H) elt (T (ev F m)))(hc:017:=by rfl)(i:Gl X "tuple":=by rfl)(hs:∀x,genFold iter X.env x=pure x:=by intro _;rfl)(h:050:=by rfl)(q:sc.names.lookup (".0":Str)=some NameKind.local:=by rfl)(j:sc.isCoroutine=false:=by rfl):QE X (.Call (.Name "tuple" p) [.GeneratorExp elt [⟨tg,iter,ifs,0⟩] sc f] [] pos) (T (ev F (.gen .tuple fr ts.length m t it l))):=by
 delta QE;delta QI at hi;delta QG at rt;delta QTl at ri;delta QE at re;exact(qlp hc n.depth (λ_=>n.hd) i gb.tuple hi hs (yX h) q j a d ⟨rt,ri,re⟩)
end
section
variable{X:Cx}{pos:Pos}{tg:Expr}
noncomputable def mX(m:007):En->Sr->Res (List D×(Sr->Prop)):=λρ S=>(m ρ S).bind λx S1=>match refX x S1 with
 |some p=>.ok p S1
 |none=>.no
theorem i_X{e:Expr}{m:007}(h:PE X e (T m)):PI X tg e (TIg (mX m)):=PIimp (qbJ h) λs H R hw=>by
 obtain⟨ι,S,ρ,q,st,p⟩:=hw;refine⟨ι,S,ρ,q,st,?_⟩;dsimp only[mX]at p;cases z:m ρ S with
 |no=>rw[z]at p;exact p
 |err=>rw[z]at p;exact p
 |ok d S1 =>
  rw[z,Res.bind_ok]at p;intro v f i s1 c j;cases d with
  |ref n =>
   obtain⟨a,rfl,ha⟩:=j;cases zn:S1[n]? with
   |none=>simp only[refX,zn]at p
   |some so =>
    cases so with
    |l l =>
     simp only[refX,zn]at p;obtain⟨_,xs,r,_⟩:=c.obj n a _ ha zn;exact .inl ⟨a,rfl,⟨xs,.inl (.inl r)⟩,p f i _ s1 c (qeg ha)⟩
    |dic l=>simp only[refX,zn]at p
    |dis l=>simp only[refX,zn]at p
  |t l =>
   obtain⟨a,xs,rfl,hn,ha,o⟩:=j;exact .inr ⟨a,rfl,⟨xs,.inl (.inl ha)⟩,p f i _ s1 c (qgw hn ha o).g⟩
  |l l =>
   obtain⟨a,xs,rfl,hn,ha,o⟩:=j;exact .inl ⟨a,rfl,⟨xs,.inl ha⟩,p f i _ s1 c (qgv hn ha o).g⟩
  |_=>exact p.elim
end
section
variable{X:Cx}{F:Fs}{N:Nat}{pos:Pos}
theorem qlq{tg iter:Expr}{body:List Stmt}{c:CE}{t:CT}{cb:CSs}(hi:QE X iter (T (ev F c)))(a:QG X tg (TGt (asg F t)))(hb:QSs X body (TSm (exs F N cb)))(f:PassesOwn 006 X.A X.env X.xe:=by exact PassesOwn.never)(hc:017:=by rfl)(hs:044:=by intro _;rfl):QS X (.For tg iter body [] pos) (TSm (ex F N (.forX t c cb))):=by
 have e:ex F N (.forX t c cb)=λρ S=>(mX (ev F c) ρ S).bind λp S1=>endG p.2 (forLoop (λd ρ S=>(grd p.2 S (asg F t d ρ S)).bind λρ1 S1=>exs F N cb ρ1 S1) p.1 ρ S1):=by
  funext ρ S;unfold mX;simp only[ex];cases ev F c ρ S with
  |ok d S1 =>
   cases hr:refX d S1 <;> simp only[Res.bind,hr]
  |err=>rfl
  |no=>rfl
 rw[e];delta QS;delta QE at hi;delta QG at a;delta QSs at hb;exact(qgx f hc (i_X hi) a hb hs)
theorem qi7{w:GW}{fr:List Nat}{nt:Nat}{a c:CE}{t:CT}{f:CBs}:mGenG w fr nt (mX (ev F c)) (asg F t) (tsts F f) (ev F a)=ev F (.genX w fr nt a t c f):=by
 funext ρ S;unfold mGenG mX;simp only[ev];cases ev F c ρ S with
 |ok d S1 =>
  cases hr:refX d S1 <;> simp only[Res.bind,hr]
 |err=>rfl
 |no=>rfl
theorem qbo(fr:List Nat)(xs ts:014){p f:Pos}{tg elt iter:Expr}{ifs:010}{sc:Scope}{k:Nat}{c T':Addr}{t:CT}{l:CE}{m:CBs}{n:CE}(q:Room k X.A)(gb:Gb X.mg)(a:X.env.code=.ref c)(d:codeTab X.K c T'=true)(hi:QE X iter (T (ev F l)))(rt:∀cl C code fp it o s H,QG (genCx X sc cl C code (xs++ts) fp (.GeneratorExp elt [⟨tg,iter,ifs,0⟩] sc f) it o s H) tg (TGt (asg F t)))(ri:∀cl C code fp it o s H,QTl (genCx X sc cl C code (xs++ts) fp (.GeneratorExp elt [⟨tg,iter,ifs,0⟩] sc f) it o s H) ifs (TB (tsts F m)))(re:∀cl C code fp it o s H,QE (genCx X sc cl C code (xs++ts) fp (.GeneratorExp elt [⟨tg,iter,ifs,0⟩] sc f) it o s H) elt (T (ev F n)))(hc:017:=by rfl)(i:Gl X "tuple":=by rfl)(hs:∀x,genFold iter X.env x=pure x:=by intro _;rfl)(h:050:=by rfl)(r:sc.names.lookup (".0":Str)=some NameKind.local:=by rfl)(j:sc.isCoroutine=false:=by rfl):QE X (.Call (.Name "tuple" p) [.GeneratorExp elt [⟨tg,iter,ifs,0⟩] sc f] [] pos) (T (ev F (.genX .tuple fr ts.length n t l m))):=by
 delta QE;delta QE at hi;delta QG at rt;delta QTl at ri;delta QE at re;rw[<-qi7];exact(qey hc q.depth (λ_=>q.hd) i gb.tuple (i_X hi) hs (yX h) r j a d ⟨rt,ri,re⟩)
end
structure Mk (H0:Hp) (D:Addr) (as:03) (H:Hp):Prop where
 nd:as.Nodup
 nD:D∉as
 new:∀p∈as,H0 p=none/\H p=some (.l [])
 out:H D=some (.l (as.map .ref))
 oth:∀b,b≠D->b∉as->H b=H0 b
def Mk.start{H0:Hp}{D:Addr}:Mk H0 D [] (upd H0 D (.l [])) :=
 ⟨.nil,by simp,by simp,qK,λb h _=>qD h⟩
def Mk.step{H0 H:Hp}{D p:Addr}{as:03}(m:Mk H0 D as H)(h:H p=none):Mk H0 D (as++[p]) (upd (upd H p (.l [])) D (.l (as.map .ref++[.ref p]))):=by
 have c:p≠D:=λz=>by rw[z,m.out]at h;cases h
 have d:p∉as:=λz=>by rw[(m.new p z).2]at h;cases h
 refine⟨?_,?_,λq n=>?_,by rw[qK];simp,λb l f=>?_⟩
 .rw [vo]
  exact⟨m.nd,by simp,λa ha b hb e=>d (by rw[wV.mp hb]at e;rw[<-e];exact ha)⟩
 .simp only[wa,wV,not_or]
  exact⟨m.nD,Ne.symm c⟩
 .rcases wa.mp n with z|z
  .have i:q≠D:=λe=>m.nD (e ▸ z)
   have j:q≠p:=λe=>d (e ▸ z)
   exact⟨(m.new q z).1,by rw[qD i,qD j];exact(m.new q z).2⟩
  .obtain rfl:=wV.mp z
   exact⟨by rw[<-m.oth q c d];exact h,by rw[qD c];exact qK⟩
 .simp only[wa,wV,not_or]at f
  rw[qD l,qD f.2];exact m.oth b l f.1
def Mk.stp{ι:03}{H0 H:Hp}{D:Addr}{as:03}(m:Mk H0 D as H)(c:H0 D=none):Stp ι H0 (ι++as++[D]) H where
 pre:=by rw[wy];exact List.prefix_append _ _
 new:=λa h=>by
  simp only[wa,wV]at h;rcases h with (h|h)|h
  .exact .inl h
  .exact .inr (m.new a h).1
  .rw [h];exact .inr c
 keep:=λa o e _ _=>by
  rw[m.oth a (λz=>by rw[z,c]at e;cases e) (λz=>by rw[(m.new a z).1]at e;cases e)];exact e
 there:=λa h=>by
  by_cases d:a=D
  .rw [d,m.out];simp
  .by_cases f:a∈as
   .rw [(m.new a f).2];simp
   .rw [m.oth a d f];exact h
def qbp{ι:03}{H:Hp}:∀(as:03) (n:Nat),(∀i,i<as.length->ι[n+i]?=as[i]?)->Dens ι H ((List.range as.length).map λi=>D.ref (n+i)) (as.map .ref)
 |[],_,_=>rfl
 |a::r,n,h=>by
  have e:(List.range (a::r).length).map (λi=>D.ref (n+i))=D.ref n::(List.range r.length).map λi=>D.ref (n+1+i):=by
   rw[wY,List.range_succ_eq_map,wj,wo];congr 1;exact vK λi _=>by simp only[Function.comp_apply];congr 1;lia
  rw[e];refine⟨.ref a,r.map .ref,rfl,⟨a,rfl,by simpa using h 0 07⟩,qbp r (n+1) λi hi=>?_⟩;have:=h (i+1) 042;rw[show n+1+i=n+(i+1) by lia,this];simp
def Mk.sto{ι:03}{H0 H:Hp}{D:Addr}{as:03}{S:Sr}(m:Mk H0 D as H)(h:H0 D=none)(st:Sto ι H0 S):
  Sto (ι++as++[D]) H (S++List.replicate as.length (.l [])++[.l ((List.range as.length).map λi=>.ref (S.length+i))]):=by
 have sp:=m.stp (ι:=ι) h;have c:∀a∈ι,a≠D/\a∉as:=λa ha=>⟨λz=>st.there ha (by rw[z];exact h),λz=>st.there ha (m.new a z).1⟩
 have nd:(ι++as++[D]).Nodup:=by
  rw[vo,vo];refine⟨⟨st.nd,m.nd,λa ha b hb e=>(c a ha).2 (e ▸ hb)⟩,by simp,λa ha b hb e=>?_⟩;rw[wV.mp hb]at e;subst e;rcases wa.mp ha with z|z
  .exact (c _ z).1 rfl
  .exact m.nD z
 refine⟨by simp[st.len],nd,λn a so e1 e2=>?_⟩;by_cases hn:n<ι.length
 .rw [wy,wL hn]at e1
  rw[wy,wL (by rw[<-st.len];exact hn)]at e2;have:=c a (wq e1);exact(st.obj n a so e1 e2).mono sp (m.oth a this.1 this.2)
 .by_cases j:n<ι.length+as.length
  .have f:=e1
   rw[wL 030,wK 00]at e1;rw[wL (by simp[<-st.len];lia),wK (by rw[<-st.len];lia),vC]at e2;split at e2
   .cases e2
    exact⟨⟨n,f,rfl⟩,[],(m.new a (wq e1)).2,rfl⟩
   .cases e2
  .have hl:=(wG.mp e1).1
   simp at hl;have l:n=ι.length+as.length:=by lia
   subst l;have f:=e1;rw[wK 07]at e1;rw[wK (by simp[<-st.len])]at e2;simp[<-st.len]at e1 e2;subst e1 e2;refine⟨⟨_,f,qJ λd hd=>?_⟩,_,m.out,?_⟩
   .obtain ⟨i,hi,rfl⟩:=w8.mp hd
    exact wQ (by have:=uB.mp hi;lia)
   .refine qbp as ι.length λi hi=>?_
    rw[wL 030,wK 00];congr 1;lia
section
variable{X:Cx}{pos:Pos}
theorem qg5{t:Str}{E lp:Pos}{iter:Expr}{sc:Scope}{fp:03}{it c a:Addr}{tn:Nat->Heap->Prop}{j:Nat}{R:Result->Shared->Prop}{xs:List V}(n:X.xe=λ_ _=>False)(hc:017)(F:X.ex=fp)(J:X.pn=[])(T':Turn X.prog X.w X.K (.Name t E) (Itt X.K a) fp it tn)(hg:PG X (.Name t E) (gName j)){H0 H:Hp}{σ:St}{s:09}(L:H0 c=none)(ha:H0 a=some (.t xs))(hl:xs.length<=sizeLine)(I:Inv X [] σ H s)(m0:Mk H0 c [] H)(h0:tn 0 s.heap)(M:∀b∈fp,H b=none)(fin:∀(q:St) (H':Hp) (as:03) (s':09),Inv X [] q H' s'->Mk H0 c as H'->as.length=xs.length->R (.ok .next) s'):
  codeAny 006 X.A (.compLoop (.ListComp (.List [] lp) [⟨.Name t E,iter,[],0⟩] sc pos) 0 (.ref it) (.ref c) X.env) R s:=by
 refine codeAny_loop rfl (λk s'=>∃(q:St) (H':Hp) (as:03),k=xs.length-as.length/\as.length<=xs.length/\Inv X [] q H' s'/\tn as.length s'.heap/\(∀b∈fp,H' b=none)/\Mk H0 c as H') ?_
  xs.length ⟨σ,H,[],by simp,wr _,I,h0,M,m0⟩
 rintro k s1 ⟨f,B,as,rfl,hi,I1,t1,f1,m1⟩;have d:∀{H':Hp},(∀b∈fp,H' b=none)->∀b∈fp,FpOk X [] H' b:=λhn b hb=>by
  have h:b∈X.ex:=by rw[F];exact hb
  exact⟨hn b hb,(I.ok.exf b h).1,λz=>I.ok.exfs b h z,.inl h,(I.ok.exf b h).2,λp l=>by rw[J]at l;exact absurd l 07⟩
 have N:a≠c:=λz=>by rw[z,L]at ha;cases ha
 have O:∀{P:03} {H':Hp},Mk H0 c P H'->H' a=some (.t xs):=λm=>by
  rw[m.oth a N (λz=>by rw[(m.new a z).1]at ha;cases ha)];exact ha
 have sq:SqT X.K B a xs:=.inl (.inl (O m1));show wpAny _ X.A ((compTurn (.ListComp (.List [] lp) [⟨.Name t E,iter,[],0⟩] sc pos) 0 (.ref it) (.ref c) X.env).onRaise (λx=>do noteFrame x X.env;theTreesLotGoes x)) _ _ s1;refine wpAny_noted ?_;rw[compTurn_list];refine wA (vy (wA ?_));by_cases C:as.length<xs.length
 .refine thnF (T'.item X rfl rfl rfl hc as.length [] s1 f B _ I1 (d f1) t1 ⟨xs,xs[as.length],sq,wC C⟩) λr s2 ⟨u,Q,h2⟩=>?_
  subst Q;refine wA (thnF h2 λ_ s3 ⟨x,H3,I3,r3,y3,t3,f3⟩=>?_);obtain rfl:H3=B:=y3.1;have S:=I3.pinned (d f3) (T'.obj _ _ t3);refine wA (wt (hg _ s3 f _ x u (λi v=>v=H3) S r3 rfl) (λ_ s4 ⟨i,v,I4,e4⟩=>?_) λ_ _ z=>by rw[n]at z;exact z.elim);subst e4;refine wA (wD ?_);refine wA (wA (wt (qf1 (pos:=lp) jo _ s4 i _ (λy H6=>∃p,y=.ref p/\v p=none/\H6=upd v p (.l [])) I4 ⟨wr _,λp l=>⟨p,rfl,l,rfl⟩⟩) (λy' s6 ⟨y,H6,I6,ry,p,ey,l,e6⟩=>?_) λ_ _ z=>by rw[n]at z;exact z.elim));subst ey e6;have U:c≠p:=λz=>by rw[<-z,m1.out]at l;cases l
  have W:upd v p (.l []) c=some (.l (as.map .ref)):=by rw[qD U];exact m1.out
  refine wA (wt (jS (X:=X) _ s6 i _ (.ref c) [.ref p] (.ref c) [y'] (λ_ H7=>H7=upd (upd v p (.l [])) c (.l (as.map .ref++[.ref p]))) I6 rfl (.cons ry .nil) ⟨c,as.map .ref,.ref p,rfl,rfl,W,by rw[wF];exact w6 C hl,rfl⟩) (λ_ s7 ⟨_,H7,Y,_,e7⟩=>?_) λ_ _ z=>by rw[n]at z;exact z.elim);subst e7;have m7:=m1.step l;refine wD (wD ⟨rfl,xs.length-(as++[p]).length,by simp;lia,i,_,as++[p],rfl,by simp;lia,Y.unpinned,?_,λb hb=>?_,m7⟩)
  .rw [wP,vr]
   exact T'.keep _ _ _ t3 λb hb o Z=>(Y.pin (b,o) (w9 _ (w9 _ (zu hb Z)))).1
  .obtain ⟨o,Z,_⟩:=T'.obj _ _ t3 b hb
   exact(Y.pin (b,o) (w9 _ (w9 _ (zu hb Z)))).2.1
 .have a0:as.length=xs.length:=by lia
  refine thnF (T'.done X rfl rfl rfl hc as.length [] s1 f B _ I1 (d f1) t1 ⟨xs,sq,by lia⟩) λr s2 ⟨Q,I2⟩=>?_
  subst Q;exact wD (fin f B as s2 I2 m1 a0)
end
noncomputable def mLls(m:007):En->Sr->Res D:=λρ S=>(m ρ S).bind λx S1=>match x with
 | .t l=>newLls l.length S1
 |_=>.no
section
variable{X:Cx}{pos:Pos}
theorem qg6{t:Str}{B lp:Pos}{iter:Expr}{sc:Scope}{m:007}(hc:017)(hi:PE X iter (T m))(hs:044)(C':CSc X sc [] [] [t])(hg:∀cl C fp s H,PG (compCx X sc cl C ([]++[t]) fp s H) (.Name t B) (gName 0)){pins:011}{s:09}{E:St}{H:Hp}{Q:VK}{use:Option (Value->Sem Unit)}{Q':015}(I:Inv X pins E H s)(hw:T (mLls m) E H Q)(fin:∀(D C:Addr) (H':Hp) (s':09) (m:025),s'.heap.Ns C m->C≠X.env.locals->(∀x c,X.env.cells.lookup x=some c->c≠C)->(H' C=none/\X.s₀.heap.objs.size<=C/\∀p∈X.pn++pins,p.1≠C)->(∀h',Heap.SameBut C s'.heap h'->Inv X pins E H' {s' with heap:=h' })->Q (.ref D) H'->compPost 006 X.A X.xe use Q' (.ref D) C (.ok .next) s'):
  wpAny 006 X.A (comprehension (.ListComp (.List [] lp) [⟨.Name t B,iter,[],0⟩] sc pos) sc X.env (firstIterPos [⟨.Name t B,iter,[],0⟩] pos) (newList []) false (eval iter X.env) use) Q' X.xe s:=by
 obtain⟨ι,S,ρ,er,st,p⟩:=hw;dsimp only[mLls]at p;cases z:m ρ S with
 |no=>rw[z]at p;exact p.elim
 |err=>rw[z]at p;exact p.elim
 |ok dx S1 =>
 rw[z,Res.bind_ok]at p;obtain⟨l,rfl⟩:∃l,dx=.t l:=by
  cases dx with
  |t l=>exact⟨l,rfl⟩
  |_=>exact p.elim
 dsimp only[newLls]at p;by_cases i:l.length<=sizeLine
 rotate_left
 .rw [wT i]at p;exact p.elim
 rw[wN i]at p;obtain⟨cl,CL⟩:=qaj (X:=X) (sc:=sc) λx hx hf=>I.ok.has x.1 (C'.frees x hx hf)
 refine wpAny_comprehension_free rfl hs CL.eq C'.kind C'.names ?_;refine thn (qbJ (tg:=.Name t B) hi pins s E H (λJ H2=>∃j a ys,Stp ι H j H2/\Sto j H2 S1/\J=Itt X.K a/\H2 a=some (.t ys)/\ys.length=l.length) I ⟨ι,S,ρ,er,st,?_⟩) λxv s1 h1=>thn h1 λa5 s2 h2=>?_
 .rw [z]
  intro v P H' q U hv;obtain⟨a,ys,rfl,hn,ha,dl⟩:=hv;exact .inr ⟨a,rfl,⟨ys,.inl (.inl ha)⟩,P,a,ys,q,U,rfl,ha,dl.length.symm⟩
 obtain⟨it,fp,tn,J,H2,e,I2,T',t2,f2,j,a,ys,q2,n,eJ,W,F⟩:=h2;subst eJ;subst e;refine wf ?_;have r:H2 s2.heap.objs.size=none:=I2.hok.fresh (wH _);have L:∀b∈fp,b<s2.heap.objs.size:=λb hb=>by
  obtain⟨o,d,_⟩:=T'.obj _ _ t2 b hb;exact wI d
 have u:Inv X pins E (upd H2 s2.heap.objs.size (.l [])) {s2 with heap:=s2.heap.push {cls:=.type "list",dict:=none,data:=.seq ([]:List Value).toArray}} :=
  I2.laid (t':=s2.toks) (λb o e=>wB _ e) (wH _) ⟨wr _,[],0,.nil,wJ _ rfl⟩
 have Y:∀b∈fp,FpOk X pins (upd H2 s2.heap.objs.size (.l [])) b:=λb hb=>⟨by rw[qD (wg (L b hb))];exact(f2 b hb).1,(f2 b hb).2⟩
 generalize M:({s2 with heap:=s2.heap.push {cls:=.type "list",dict:=none,data:=.seq ([]:List Value).toArray}}:Shared)=s3 at u ⊢;have N:∀b∈fp,b<s3.heap.objs.size:=λb hb=>by
  rw[<-M];show b<(s2.heap.push _).objs.size;rw[vp];exact u9 (L b hb)
 have t3:tn 0 s3.heap:=T'.keep _ _ _ t2 λb hb o d=>by rw[<-M];exact wB _ d
 refine wpAny_newFunctionEnv C'.nocell (by intro y hy;simp at hy) (λZ a0 a1=>?_) C'.kind;have f:∀b o,s3.heap.get? b=some o->Z.get? b=some o:=λb o d=>a1.extBut b o (wg (wI d)) (wB _ d)
 have I4:=qaz (tk:=s3.toks+([]:List (Str×Value)).length) u C'.kind C'.nocell CL Y N C'.frs a0 f;have t4:tn 0 Z:=T'.keep _ _ _ t3 λb hb o d=>f b o d
 have h:codeAny 006 X.A (.compLoop (.ListComp (.List [] lp) [⟨.Name t B,iter,[],0⟩] sc pos) 0 (.ref it) (.ref s2.heap.objs.size) (compEnvC sc cl s3.heap.objs.size X.env)) (compPost 006 X.A X.xe use Q' (.ref s2.heap.objs.size) s3.heap.objs.size) {s3 with heap:=Z,toks:=s3.toks+([]:List (Str×Value)).length}:=by
  refine qg5 (X:=compCx X sc cl s3.heap.objs.size ([]++[t]) fp s3 (upd H2 s2.heap.objs.size (.l []))) (pos:=pos) rfl hc rfl rfl T' (hg _ _ _ _ _) r W (by rw[F];exact i) I4 Mk.start t4 (λb hb=>(Y b hb).1) λa6 H' as s' J' mk a2=>?_
  obtain⟨m',a3,_⟩:=J'.loc;refine fin s2.heap.objs.size s3.heap.objs.size H' s' m' a3 (vj u.lt) (λx c ec ez=>?_) ⟨J'.free,u.sz,λq hq ez=>by have:=wI (u.pin q hq).1;rw[ez]at this;exact absurd this (ve _)⟩ (λh5 a4=>qaA u Y J' a4) ?_
  .obtain ⟨v,o,d,_⟩:=u.cell x c ec
   rw[ez]at d;exact absurd (wI d) (ve _)
  .have el:as.length=l.length:=a2.trans F
   have O:=mk.sto r n;rw[el]at O;refine p (.ref s2.heap.objs.size) _ H' (q2.trans (mk.stp r)) O ⟨_,rfl,?_⟩;rw[wK (by simp[n.len,el])];simp[n.len,el]
 exact codeAny_compStart_list h (T'.self _ 0 _ _ _ t4 h)
theorem qg7{t:Str}{n lp:Pos}{iter:Expr}{sc:Scope}{r:007}{i:Nat}{y:Str}{h c:Pos}(hc:017)(hi:PE X iter (T r))(hs:044)(C':CSc X sc [] [] [t])(Q:∀cl C fp s H,PG (compCx X sc cl C ([]++[t]) fp s H) (.Name t n) (gName 0))(U:X.N.Nodup)(W:X.N[i]?=some y)(hl:X.env.scope.names.lookup y=some .local)(u:swapsWith (.ListComp (.List [] lp) [⟨.Name t n,iter,[],0⟩] sc pos) (some (.Name y h)) c.line X.env=pure true):
  PS X (.Assign [.Name y h] (.ListComp (.List [] lp) [⟨.Name t n,iter,[],0⟩] sc pos) c) (TSm λρ S=>(mLls r ρ S).bind λd S1=>.ok (.nx (ρ.set i (some d))) S1):=λpins s w H D I hw=>by
 obtain⟨ι,S,ρ,O,st,p⟩:=hw;rw[exec_Assign_Name_used _ _ _ _ u];refine wA (vy (wA ?_));show wpAny _ X.A (do let _ <-comprehension (.ListComp (.List [] lp) [⟨.Name t n,iter,[],0⟩] sc pos) sc X.env _ (newList []) false (eval iter X.env) (some (assign (.Name y h) X.env))) _ _ s;have Y:T (mLls r) w H (λv B=>D.nx (w.set i (some v)) B):=⟨ι,S,ρ,O,st,PsF.bind p λa S1 E B b s1 F Z p1=>p1 E B 019 F _ ((O.mono s1).set Z)⟩;refine wA (wt (qg6 (use:=some (assign (.Name y h) X.env)) (Q':=λ_ s'=>SP X pins D .next s') hc hi hs C' Q I Y λP C H' s' m hn j l f hI q=>?_) (λ_ s' hq=>wD (wD hq)) λ_ _ e=>e);show wpAny _ X.A (assign (.Name y h) X.env (.ref P)) _ _ _;have I0:Inv X pins w H' s':=by
  have:=hI s'.heap (Heap.SameBut.refl ..);exact this
 refine wpAny_assign_Name (jQ I0 U W (.inl hl) (v:=.ref P) rfl (λs'' J K=>?_) (.inr hl));obtain⟨a,sb,ha⟩:=K;have L:C≠a:=by
  rcases ha with z|z
  .rw [z];exact j
  .exact λq=>l y a z q.symm
 refine⟨m,hn.sameBut sb L,λh' M=>?_⟩;have I3:=J.turned (h':=h') (t':=s''.toks) (it:=C) (λb o hb e=>M.extBut b o hb e) f.1 j (.inr f.2.1) l f.2.2;exact⟨_,H',I3,q⟩
end
section
variable{X:Cx}{F:Fs}{N:Nat}{pos:Pos}
theorem qg8(i:Nat){x:Str}(a:nodupB X.N=true:=by rfl)(hi:X.N[i]?=some x:=by rfl)(c:Loc X.env.scope x:=by first|exact Or.inl rfl|exact Or.inr rfl)(d:X.fn x=true\/X.env.scope.names.lookup x=some .local:=by first|exact .inl rfl|exact .inr rfl):PG X (.Name x pos) (gName i):=qd1 (zC a) hi c d
theorem qcP(i:Nat){t:Str}{f lp:Pos}{iter:Expr}{sc:Scope}{c:CE}{y:Str}{l a:Pos}(hi:QE X iter (T (ev F c)))(m:∀cl C fp s H,PG (compCx X sc cl C ([]++[t]) fp s H) (.Name t f) (gName 0))(hc:017:=by rfl)(hs:044:=by intro _;rfl)(h:cscB X.env.scope.names X.N sc [] [] [t]=true:=by rfl)(n:nodupB X.N=true:=by rfl)(o:X.N[i]?=some y:=by rfl)(hl:X.env.scope.names.lookup y=some .local:=by rfl)(j:swapsWith (.ListComp (.List [] lp) [⟨.Name t f,iter,[],0⟩] sc pos) (some (.Name y l)) a.line X.env=pure true:=by rfl):
  QS X (.Assign [.Name y l] (.ListComp (.List [] lp) [⟨.Name t f,iter,[],0⟩] sc pos) a) (TSm (ex F N (.set (.v i) (.lls c)))):=by
 have e:ex F N (.set (.v i) (.lls c))=λρ S=>(mLls (ev F c) ρ S).bind λd S1=>.ok (.nx (ρ.set i (some d))) S1:=by
  funext ρ S;unfold mLls;simp only[ex,asg,ev]
  all_goals (cases ev F c ρ S with
   |ok d S1=>cases d <;> rfl
   |err=>rfl
   |no=>rfl)
 rw[e];delta QS;delta QE at hi;exact(qg7 hc hi hs (yX h) m (zC n) o hl j)
end
variable{X:Cx}
end R
namespace R
open PySem PySem.Spec L2
open PyProof.Rows hiding St
namespace EX
noncomputable abbrev fr1(l:List Env):List Addr:=l.filterMap (·.frame)
structure Kpt (S:03) (e:Addr) (T:Option Addr) (h h':Heap):Prop where
 size:h.objs.size<=h'.objs.size
 slot:∀b o,b≠e->some b≠T->h.get? b=some o->∃sl,h'.get? b=some {o with slots:=sl}
 keep:∀b o,b≠e->some b≠T->b∉S->h.get? b=some o->h'.get? b=some o
def Fl(h:Heap)(e:Addr)(c:Value)(T:Addr):Prop:=∃a vs d ts,h.get? e=some a/\a.cls=c/\a.data=.fields vs/\vs[1]?=some (.ref T)/\T≠e/\h.get? T=some d/\d.data=.fields ts/\ts[3]?=some .none
section
variable{M:Model}{A:Around}{E:Value->Shared->Prop}{s:Shared}{base:Heap}
theorem j4{env:Env}{outer:List Env}{L e:Addr}{B:Obj}{vs:028}{i:Value}{j:Bool}{Q:Unit->Shared->Prop}(F:A.frames=some (env::outer))(hl:s.heap.FunFrames base (env::outer))(K:env.frame=some L)(J:s.heap.get? e=some B)(hd:B.data=.fields vs)(hsz:1<vs.size)(h:∀h' T,s.heap.objs.size<=T->Kpt (fr1 (env::outer)) e none s.heap h'->Fl h' e B.cls T->Q () {s with heap:=h' }):
  wpAny M A (do let a <-frameOf env;let pl <-entryPlaceOf L j;let b <-EntryCells.newEntry i a .none (rawInt L) .none pl;setField (.ref e) 1 b) (λ_ s'=>wpAny M A (setFlight (.ref e) none) Q E s') E s:=by
 have v:e∉(env::outer).filterMap (·.frame):=λhm=>by
  obtain⟨_,o,C,H⟩:=hl.mem hm;rw[J]at C;injection C with C;subst C;exact H vs hd
 refine wA (wpAny_frameOf_fun F hl K λc d=>?_);refine wA (wpAny_entryPlaceOf λpl w=>?_);unfold EntryCells.newEntry newFields;refine wA (wf ?_ (w.sizeOk5 _ _ _ _ _));have l:c.get? e=some B:=(d.2.1 e v).trans J;have m:=wB (h:=c) {cls:=.type "traceback",dict:=none,data:=.fields ([i,.ref L,.none,rawInt L,.none]++(if pl.isEmpty then List.replicate 6 Value.none else pl)).toArray} l;refine uN m hd hsz ?_;have q:c.objs.size≠e:=vj (wI l);have f:=vd hd (·.setIfInBounds 1 (Value.ref c.objs.size));have n:=vO (Obj.mapFields (·.setIfInBounds 1 (Value.ref c.objs.size))) m (u5 f);have p:=(wZ (c.push {cls:=.type "traceback",dict:=none,data:=.fields ([i,.ref L,.none,rawInt L,.none]++(if pl.isEmpty then List.replicate 6 Value.none else pl)).toArray})
  (Obj.mapFields (·.setIfInBounds 1 (Value.ref c.objs.size))) (Ne.symm q)).trans (wJ c rfl)
 unfold setFlight;refine wA (vG n f (x:=.ref c.objs.size) (by simp[hsz]) ?_);rw[wN (show(Value.ref c.objs.size != Value.none)=true from by simp)];refine uN p rfl (by simp only[wO,wP,wY,uF] <;> omega) (h _ c.objs.size (xL d.1.symm) ⟨?_,λb o r _ hb=>?_,λb o r _ I hb=>?_⟩ ?_)
 .rw [vx,vx,vp,d.1];exact Nat.le_succ _
 .obtain ⟨sl,hs⟩:=d.2.2 b o hb
  have u:c.objs.size≠b:=vj (wI hs);exact⟨sl,by rw[wZ _ _ u,wZ _ _ (Ne.symm r)];exact wB _ hs⟩
 .have y:c.get? b=some o:=(d.2.1 b I).trans hb
  have u:c.objs.size≠b:=vj (wI y);rw[wZ _ _ u,wZ _ _ (Ne.symm r)];exact wB _ y
 .refine ⟨_,_,_,_,?_,Obj.cls_mapFields _ _,f,by simp[hsz],q,vO _ p (u5 (vd rfl _)),vd rfl _,by first|(simp;done)|(rcases w with rfl|⟨_,_,_,_,_,_,_,rfl⟩ <;> simp)⟩
  rw[wZ _ _ q];exact n
theorem leave1{env:Env}{outer:List Env}{L e:Addr}{a:Obj}{vs:028}{Q:Unit->Shared->Prop}(c:A.frames=some (env::outer))(hl:s.heap.FunFrames base (env::outer))(d:env.frame=some L)(f:s.heap.get? e=some a)(hd:a.data=.fields vs)(i:vs[1]?=some .none)(h:∀h' T,s.heap.objs.size<=T->Kpt (fr1 (env::outer)) e none s.heap h'->Fl h' e a.cls T->Q () {s with heap:=h' }):wpAny M A (leaving env (.ref e)) Q E s:=by
 unfold leaving noteFrame;simp only[d];refine wA (wA (vG f hd i ?_));rw[wT 01];exact j4 c hl d f hd (wi.mp i).1 h
theorem leave2{env:Env}{outer:List Env}{L e l:Addr}{c:Value}{Q:Unit->Shared->Prop}(n:A.frames=some (env::outer))(hl:s.heap.FunFrames base (env::outer))(v:env.frame=some L)(B:Fl s.heap e c l)(h:∀h' T,s.heap.objs.size<=T->Kpt (fr1 (env::outer)) e (some l) s.heap h'->Fl h' e c T->Q () {s with heap:=h' }):wpAny M A (leaving env (.ref e)) Q E s:=by
 obtain⟨C,vs,F,ts,w,m,hd,x,p,r,d,y⟩:=B;subst m;unfold leaving noteFrame;simp only[v];refine wA (wA (vG w hd x ?_));rw[wN (show(Value.ref l != Value.none)=true from by simp)];refine wA (vG r d y ?_);rw[wT (show ¬((Value.none == rawInt L)=true)from by simp[rawInt])];refine wA (uN r d (wi.mp y).1 ?_);have other:∀b,b≠l->(s.heap.update l (Obj.mapFields (·.setIfInBounds 3 Value.none))).get? b=s.heap.get? b:=λb hb=>wZ _ _ (Ne.symm hb)
 have a:∀b o,s.heap.get? b=some o->(∀vs,o.data≠.fields vs)->b≠l:=λb o hb i q=>by
  rw[q,r]at hb;injection hb with hb;subst hb;exact i ts d
 refine j4 n (hl.of_keeps λb o hb i=>⟨o,(other b (a b o hb i)).trans hb,rfl⟩) v ((other e (Ne.symm p)).trans w) hd (wi.mp x).1 λh' T hs k f=>h h' T ?_ ⟨?_,λb o hb j e=>?_,λb o hb j u e=>?_⟩ f
 .rw [vx]at hs;exact hs
 .have:=k.size;rw[vx]at this;exact this
 .exact k.slot b o hb 07 ((other b λz=>j (by rw[z])).trans e)
 .exact k.keep b o hb 07 u ((other b λz=>j (by rw[z])).trans e)
end
end EX
namespace EX
def qg9{P:Program}{w:World}{H:Hp}{h h':Heap}(x:HOk P w H h)(k:∀b o,H b≠none->h.get? b=some o->h'.get? b=some o):HOk P w H h':=λa o e =>
 (x a o e).stay (λb u q z=>k b u (by rcases q with rfl|q <;> simp[*]) z) (λ_ q=>q) λ_ _ q=>q
def there{P:Program}{w:World}{H:Hp}{h:Heap}{a:Addr}{o:HO}(x:ObjOk P w H h a o):∃u,h.get? a=some u:=by
 cases o with
 |l xs=>obtain⟨_,_,_,_,e⟩:=x;exact⟨_,e⟩
 |t xs=>obtain⟨_,_,_,p,_⟩:=x;obtain⟨_,e,_⟩:=p;exact⟨_,e⟩
 |dK kvs=>obtain⟨_,_,_,_,o,_,_,e,_⟩:=x;exact⟨_,e⟩
 |dT kvs=>obtain⟨_,_,_,_,o,_,_,e,_⟩:=x;exact⟨_,e⟩
 |set S n=>obtain⟨o,_,_,_,e,_⟩:=x;exact⟨_,e⟩
 |ins C dx fs=>obtain⟨_,_,_,e,_⟩:=x;exact⟨_,e⟩
 |own y=>obtain⟨_,e⟩:=x;exact⟨_,e⟩
 |xd fs=>obtain⟨_,⟨_,_,_,e,_⟩,_⟩:=x;exact⟨_,e⟩
 |rng lo hi=>obtain⟨_,_,_,e⟩:=x;exact⟨_,e⟩
 |frz ob u=>obtain⟨e,_⟩:=x;exact⟨_,e⟩
 |tbl ps=>exact⟨_,(show h.get? a=some _ from x.1)⟩
 |met f y=>exact⟨_,(show h.get? a=some _ from x)⟩
 |ext c=>obtain⟨_,⟨_,e⟩,_⟩:=x;exact⟨_,e⟩
def gone{P:Program}{w:World}{H:Hp}{h:Heap}{a:Addr}(x:HOk P w H h)(e:h.get? a=none):H a=none:=by
 cases q:H a with
 |none=>rfl
 |some o =>
  obtain⟨u,z⟩:=there (x a o q);rw[e]at z;cases z
noncomputable def CXR(P:Program)(w:World):CXT:=λouter H s E e s'=>∃a C T H',e=.ref a/\s'.os=s.os/\GK s.gens s'.gens/\Un (frs outer) [] H H' s.heap s'.heap/\HOk P w H' s'.heap /\
 Fl s'.heap a (.ref C) T/\s.heap.get? a=none/\s.heap.get? T=none/\H' a=none/\H' T=none/\E (.ref a) (some C) H'
structure IsDef (X:Cx) (E:XK):Prop where
 xe:∀e s',X.xe e s'=wpAny 006 X.A (leaving X.env e) (λ_ s''=>CXR X.prog X.w X.outer X.H₀ X.s₀ E e s'') (λe' s''=>CXR X.prog X.w X.outer X.H₀ X.s₀ E e' s'') s'
 stk:X.stack=X.env::X.outer
 fr:X.env.frame=some X.env.locals
 ex:X.ex=[]
def isDef{P:Program}{w:World}{K:009}{mg:025}{base:Heap}{N:014}{a:Str}{scope:Scope}{f:Addr}{c:Value}{A:Around}{outer:List Env}{s:09}{H:Hp}{E:XK}:
  IsDef (cxOf (CXR P w) P w K mg base N a scope f c A outer s H E) E:=⟨λ_ _=>rfl,rfl,rfl,rfl⟩
section
variable{X:Cx}{E:XK}{pins:List (Addr×Obj)}{σ:St}{H:Hp}{s:Shared}
theorem qcQ(D:IsDef X E)(I:016){a C T:Addr}{i:Option Addr}{j h':Heap}(un:∀b o,s.heap.get? b=some o->j.get? b=some o)(k:Kpt (fr1 (X.env::X.outer)) a i j h')(f:Fl h' a (.ref C) T)(m:X.s₀.heap.get? a=none)(u:∀b,i=some b->X.s₀.heap.get? b=none)(p:H a=none)(v:∀b,i=some b->H b=none)(x:j.objs.size<=T)(e:E (.ref a) (some C) H):
  CXR X.prog X.w X.outer X.H₀ X.s₀ E (.ref a) {s with heap:=h' }:=by
 have c:∀b o,X.s₀.heap.get? b=some o->b≠a/\some b≠i:=λb o q=>⟨λz=>by subst z;exact absurd (m.symm.trans q) 07,λz=>absurd ((u b z.symm).symm.trans q) 07⟩
 have d:∀b,b∉X.ex:=λb z=>by rw[D.ex]at z;cases z
 have y:∀b o,X.s₀.heap.get? b=some o->b∉frs X.outer->b∉fr1 (X.env::X.outer):=λb o q n z=>by
  unfold fr1 at z;rw[uT,D.fr]at z;rcases wW.mp z with z|z
  .subst z;exact absurd (wI q) (Nat.not_lt.mpr I.ok.above)
  .exact n z
 have B:=I.base;have r:s.heap.get? T=none:=by
  cases q:s.heap.get? T with
  |none=>rfl
  |some o=>exact absurd (wI (un _ _ q)) (Nat.not_lt.mpr x)
 refine⟨a,C,T,H,rfl,I.os,I.bare,⟨?_,?_,?_,?_,B.tups,B.frzs,B.tbls⟩,?_,f,m,?_,p,gone I.hok r,e⟩
 .exact λb o q n nb _=>k.keep b o (c b o q).1 (c b o q).2 (y b o q nb) (un _ _ (B.keep b o q n nb (d b)))
 .intro b o q n nb _
  obtain⟨sl,z⟩:=B.slot b o q n nb (d b);obtain⟨h,l⟩:=k.slot b _ (c b o q).1 (c b o q).2 (un _ _ z);exact⟨h,l⟩
 .exact λb o q n _=>B.free b o q n (d b)
 .intro b o q _
  obtain⟨o',z⟩:=B.there b o q (d b);obtain⟨h,l⟩:=k.slot b _ (c b o q).1 (c b o q).2 (un _ _ z);exact⟨_,l⟩
 .refine qg9 I.hok λb o n q=>k.keep b o (λz=>n (z ▸ p)) (λz=>n (v b z.symm)) (λz=>n (I.stkFree b (by rw[D.stk];exact z))) (un _ _ q)
 .cases q:X.s₀.heap.get? T with
  |none=>rfl
  |some o =>
   obtain⟨o',z⟩:=B.there T o q (d T);rw[r]at z;cases z
theorem qha(D:IsDef X E)(I:016){e C:Addr}{args:005}{a:Heap}(hm:Heap.MadeExcOf s.heap a e (.ref C) args)(hE:E (.ref e) (some C) H):
  X.xe (.ref e) {s with heap:=a}:=by
 rw[D.xe];obtain⟨t,d,_,_⟩:=hm.there;have hl:s.heap.FunFrames X.base (X.env::X.outer):=D.stk ▸ I.stack;have c:a.FunFrames X.base (X.env::X.outer):=hl.of_keeps λb o hb _=>⟨o,hm.keeps b o hb,rfl⟩
 have h:X.s₀.heap.get? e=none:=by
  cases q:X.s₀.heap.get? e with
  |none=>rfl
  |some o =>
   obtain⟨o',z⟩:=I.base.there e o q (by rw[D.ex];simp);rw[hm.new]at z;cases z
 have i:H e=none:=gone I.hok hm.new;exact leave1 (s:={s with heap:=a}) (by rw[I.ok.frames,D.stk]) c D.fr d rfl 07 λh' T j k f =>
  qcQ D I hm.keeps k f h (λ_ z=>by cases z) i (λ_ z=>by cases z) j hE
theorem passR(D:IsDef X E){h:XK}(hE:∀a C H',h a C H'->E a C H'):Passes (CXR X.prog X.w) X h:=by
 intro pins σ H s e s' I j;obtain⟨a,C,y,H',rfl,os,l,un,hok,m,p,r,u,HT,q⟩:=j;obtain⟨v,g,d,t,c⟩:=s';obtain rfl:c=s.os:=os;have i:=I.call (h':=v) (g':=g) (d':=d) (t':=t) (ch:=[]) un hok l (λb z=>absurd z 07);rw[D.xe];have up:∀b,s.heap.get? b=none->X.s₀.heap.get? b=none:=λb n=>by
  cases q:X.s₀.heap.get? b with
  |none=>rfl
  |some o =>
   obtain⟨o',z⟩:=I.base.there b o q (by rw[D.ex];simp);rw[n]at z;cases z
 exact leave2 (by rw[I.ok.frames,D.stk]) (D.stk ▸ i.stack) D.fr m λh' T x k f =>
  qcQ D i (λ_ _ z=>z) k f (up _ p) (λb z=>by cases z;exact up _ r) u (λb z=>by cases z;exact HT) x (hE _ _ _ q)
end
end EX
namespace EX
section
variable{X:Cx}{E:XK}{x:Str}{C:Addr}{e:Expr}{es:List Expr}{t:TA}{p cpos pos:Pos}{B Bn newId nid initId inN:String}{bm bmN:List Value}
noncomputable def tRaise(E:XK)(C:Addr)(t:TA):TS:=λ_ d H=>t d H λvs c=>vs.length<=sizeLine/\∀a,c a=none->E (.ref a) (some C) c
theorem qhb(D:IsDef X E)(hc:017)(n:Gl X x)(O:OwnCls x C bm newId X.mg X.base)(u:ExcBaseFacts Bn newId inN bmN)(c:bm.contains (.type Bn)=true)(l:ExcBaseFacts B nid initId bm)(ha:PA X (e::es) t)(d:dB x:=by decide)(m:sE X e es:=by rfl)(f:(backTo cpos (starEach es X.env)).any (·.1)=false:=by rfl):
  PS X (.Raise (some (.Call (.Name x p) (e::es) [] cpos)) none pos) (tRaise E C t):=by
 intro pins s v H Q I h;have J:OwnCls x C bm newId X.mg s.heap:=O.keeps λb o q=>(I.bs b o q).1
 obtain⟨tl,N,nm,q,bs,hdct,sn,sub,ab,col,dd,k0,k1,k2,k3,k5,mN,w,A,i,T⟩:=O.obj;refine wpAny_Raise_call_subU (C:=C) (nm:=nm) (q:=q) (N:=N) (bs:=bs) (bm:=tl) (hdct:=hdct) (sn:=sn) (sub:=sub) (ab:=ab) (col:=col) (dd:=dd) (k0:=k0) (k1:=k1) (k2:=k2) (k3:=k3) (k5:=k5)
  u c l (mN:=mN) (T.hasType l.hasBase) (I.ok.hd hc) (by rw[m];show(false || (backTo cpos (starEach es X.env)).any (·.1))=false;rw[f];rfl) i (jy I n O.bound ⟨rfl,?_⟩ d)
 have h':=ha cpos pins s v H _ I h;rw[m]at h' ⊢;refine Calls.evalArgs_plain (wt h' (λus s1 F=>?_) λ_ _ y=>y);obtain⟨vs,K,j,r,hl,hE⟩:=F;have kp:∀b o,X.base.get? b=some o->s1.heap.get? b=some o:=λb o q=>(j.bs b o q).1
 exact⟨rfl,by have:=r.length;simp only[<-this]at *;exact hl,kp _ _ w,A.keeps kp,T.keeps kp,λL a hm=>qha D j hm (hE a (gone j.hok hm.new))⟩
end
end EX
namespace EX
section
variable{M:Model}{A:Around}{E:Value->Shared->Prop}{s:Shared}{base:Heap}
theorem note2{env:Env}{outer:List Env}{L e l:Addr}{c:Value}{Q:Unit->Shared->Prop}(n:A.frames=some (env::outer))(hl:s.heap.FunFrames base (env::outer))(v:env.frame=some L)(B:Fl s.heap e c l)(h:∀h' T,s.heap.objs.size<=T->Kpt (fr1 (env::outer)) e (some l) s.heap h'->Fl h' e c T->Q () {s with heap:=h' }):
  wpAny M A (noteFrame (.ref e) env) (λ_ s'=>wpAny M A (setFlight (.ref e) none) Q E s') E s:=by
 obtain⟨C,vs,F,ts,w,m,hd,x,p,r,d,y⟩:=B;subst m;unfold noteFrame;simp only[v];refine wA (vG w hd x ?_);rw[wN (show(Value.ref l != Value.none)=true from by simp)];refine wA (vG r d y ?_);rw[wT (show ¬((Value.none == rawInt L)=true)from by simp[rawInt])];refine wA (uN r d (wi.mp y).1 ?_);have other:∀b,b≠l->(s.heap.update l (Obj.mapFields (·.setIfInBounds 3 Value.none))).get? b=s.heap.get? b:=λb hb=>wZ _ _ (Ne.symm hb)
 have a:∀b o,s.heap.get? b=some o->(∀vs,o.data≠.fields vs)->b≠l:=λb o hb i q=>by
  rw[q,r]at hb;injection hb with hb;subst hb;exact i ts d
 refine j4 n (hl.of_keeps λb o hb i=>⟨o,(other b (a b o hb i)).trans hb,rfl⟩) v ((other e (Ne.symm p)).trans w) hd (wi.mp x).1 λh' T hs k f=>h h' T ?_ ⟨?_,λb o hb j e=>?_,λb o hb j u e=>?_⟩ f
 .rw [vx]at hs;exact hs
 .have:=k.size;rw[vx]at this;exact this
 .exact k.slot b o hb 07 ((other b λz=>j (by rw[z])).trans e)
 .exact k.keep b o hb 07 u ((other b λz=>j (by rw[z])).trans e)
end
end EX
end R
namespace R
open PySem PySem.Calls PySem.Spec
open PyProof.Rows hiding St
namespace EX
section
variable{M:Model}{A:Around}{E:Value->Shared->Prop}
variable{nm q nm' q':Str}{C N C' N':Addr}{bs bm bs' bm':List Value}{hdct hdct':Bool}{sn sn':List Str}{sub sub':List Value}{ab ab':Bool}{col col':Option Bool}{dd dd':Option Addr}{k0 k1 k2 k3 k5 k0' k1' k2' k3' k5':Option Value}{newId newId':String}
theorem qcR{b:Bool}{h:Heap}{g:Array GenState}{d:Drawn}{t:Nat}{os:OsState}{e:Addr}{l:Obj}{Q:Bool->Shared->Prop}(m:h.get? C=some (excClassObj nm q C N bs bm hdct sn sub ab col dd k0 k1 k2 k3 k5 newId))(c:h.get? C'=some (excClassObj nm' q' C' N' bs' bm' hdct' sn' sub' ab' col' dd' k0' k1' k2' k3' k5' newId'))(n:h.get? e=some l)(i:l.cls=.ref C)(a:bm'.contains (.type "BaseException")=true)(hb:(Value.ref C::bm).contains (.ref C')=b)(o:Q b ⟨h,g,d,t,os⟩):wpAny M A (excMatches (.ref e) (.ref C')) Q E ⟨h,g,d,t,os⟩:=by
 have j:(Value.ref C'::bm').contains (.type "BaseException")=true:=by rw[List.contains_cons,a,Bool.or_true]
 have f:=tc_notTuple;unfold excMatches;cases b <;> (repeat (first|(with_reducible refine wpAny_loadPart_at n ?_;rw[i])|with_reducible refine wpAny_loadPart_at c ?_|(with_reducible refine wpAny_isSubtype_exc c ?_;rw[j])|(with_reducible refine wpAny_isSubtype_exc m ?_;rw[hb])|wp_step)) <;> exact o
end
end EX
namespace EX
def IsExc(h:Heap)(C:Addr)(bm:005):Prop:=bm.contains (.type "BaseException")=true /\
 ∃N nm q bs hdct sn sub ab col dd k0 k1 k2 k3 k5 a,h.get? C=some (excClassObj nm q C N bs bm hdct sn sub ab col dd k0 k1 k2 k3 k5 a)
def IsExc.keeps{h h':Heap}{C:Addr}{bm:005}(x:IsExc h C bm)(k:∀b o,h.get? b=some o->h'.get? b=some o):IsExc h' C bm:=by
 obtain⟨a,N,nm,q,bs,hdct,sn,sub,ab,col,dd,k0,k1,k2,k3,k5,c,e⟩:=x;exact⟨a,N,nm,q,bs,hdct,sn,sub,ab,col,dd,k0,k1,k2,k3,k5,c,k _ _ e⟩
section
variable{prog:Program}{w:World}{A:Around}{E:Value->Shared->Prop}{s:Shared}{env:Env}
theorem qbT{e C C':Addr}{bm bm':005}{b:Bool}{t:Expr}{n:Str}{j:Stmt}{i:List Stmt}{pos:Pos}{rest:List ExceptHandler}{Q:Flow->Shared->Prop}(hb:(Value.ref C::bm).contains (.ref C')=b)(h:wpAny 018 (A.mark (some (.ref e))) (eval t env) (λc a=>c=.ref C'/\IsExc a.heap C bm/\IsExc a.heap C' bm'/\(∃x,a.heap.get? e=some x/\x.cls=.ref C) /\
   if b then wpAny 018 (A.mark (some (.ref e))) (setFlight (.ref e) none) (λ_ m =>
     wpAny 018 (A.mark (some (.ref e))) (storeName env n (.ref e)) (λ_ o =>
      wpAny 018 (A.mark (some (.ref e))) (execs (j::i) env)
       (λf p=>wpAny 018 A (do bindName env n .none;unbindBehindTheSuite env n pos) (λ_ r=>Q f r) E p)
       (AsSuiteRaised 018 (A.mark (some (.ref e))) env n pos (notedBy 018 (A.mark (some (.ref e))) env (cameBackBy 018 A env E))) o) (notedBy (model prog w) (A.mark (some (.ref e))) env (cameBackBy (model prog w) A env E)) m) (notedBy (model prog w) (A.mark (some (.ref e))) env (cameBackBy (model prog w) A env E)) a
   else wpAny 018 A (handleBy (.ref e) env rest) Q E a) (notedBy (model prog w) (A.mark (some (.ref e))) env (cameBackBy (model prog w) A env E)) s):
  wpAny 018 A (handleBy (.ref e) env (.ExceptHandler (some t) (some n) (j::i) pos::rest)) Q E s:=by
 refine wpAny_handleBy_cons (codeAny_handlers_test (wt h (λc a u=>?_) λ_ _ y=>y)) (by intro q;cases q);obtain⟨rfl,⟨_,N,nm,q,bs,hdct,sn,sub,ab,col,dd,k0,k1,k2,k3,k5,ni,K⟩,⟨l,N',L,q',M,B,O,H,P,I,S,U,W,X,Y,Z,a0,F⟩,⟨x,he,v⟩,J⟩:=u;obtain⟨hh,g,d,tk,os⟩:=a;refine qcR K F he v l hb ?_;cases b with
 |true=>exact codeAny_handlers_suite_as J
 |false=>exact J
end
end EX
end R
namespace R
open PySem PySem.Spec L2
open PyProof.Rows hiding St
namespace EX
section
variable{X:Cx}{pins:List (Addr×Obj)}{σ:St}{H0 H:Hp}{s0 s:Shared}
theorem qez(hs:X.stack=X.env::X.outer)(E:X.ex=[])(F:X.env.frame=some X.env.locals)(J:Inv X pins σ H0 s0)(I:016){a d:Addr}{c:Value}{h':Heap}(P:Fl s.heap a c d)(K:s0.heap.get? a=none)(L:s0.heap.get? d=none)(Q:H a=none)(HT:H d=none)(k:Kpt (fr1 (X.env::X.outer)) a (some d) s.heap h'):
  Inv X pins σ H {s with heap:=h' }:=by
 obtain⟨oe,vs,oT,ts,S,_,hd,_,_,U,w,_⟩:=P;have f:∀b o,s.heap.get? b=some o->(∀vs,o.data≠.fields vs)->∃sl,h'.get? b=some {o with slots:=sl}:=λb o q n =>
  k.slot b o (λz=>by subst z;rw[S]at q;cases q;exact n _ hd) (λz=>by cases z;rw[U]at q;cases q;exact n _ w) q
 have h:∀b v,s.heap.IsCell b v->h'.IsCell b v:=λb v ⟨o,q,e⟩=>by
  obtain⟨sl,z⟩:=f b o q (λvs z=>by rw[e]at z;cases z);exact⟨_,z,e⟩
 have up:∀b o,X.s₀.heap.get? b=some o->b≠a/\some b≠some d:=λb o q=>by
  obtain⟨o',z⟩:=J.base.there b o q (by rw[E];simp);exact⟨λy=>(by subst y;rw[K]at z;cases z),λy=>(by cases y;rw[L]at z;cases z)⟩
 have W:∀b o,X.s₀.heap.get? b=some o->b∉frs X.outer->b∉fr1 (X.env::X.outer):=λb o q n z=>by
  unfold fr1 at z;rw[uT,F]at z;rcases wW.mp z with z|z
  .subst z;exact absurd (wI q) (Nat.not_lt.mpr I.ok.above)
  .exact n z
 have xi:∀b,b∉X.ex:=λb z=>by rw[E]at z;cases z
 have B:=I.base;refine⟨I.ok,I.os,I.bare,⟨?_,?_,?_,?_,B.tups,B.frzs,B.tbls⟩,?_,?_,I.free,I.freeC,?_,?_,I.len⟩
 .exact λb o q n nb nx=>k.keep b o (up b o q).1 (up b o q).2 (W b o q nb) (B.keep b o q n nb nx)
 .intro b o q n nb nx
  obtain⟨sl,z⟩:=B.slot b o q n nb nx;obtain⟨j,A⟩:=k.slot b _ (up b o q).1 (up b o q).2 z;exact⟨j,A⟩
 .exact B.free
 .intro b o q nx
  obtain⟨o',z⟩:=B.there b o q nx;obtain⟨j,A⟩:=k.slot b _ (up b o q).1 (up b o q).2 z;exact⟨_,A⟩
 .obtain ⟨m,⟨o,es,Y,q,l,Z,r2⟩,lk⟩:=I.loc
  obtain⟨sl,z⟩:=f _ o q (λvs z=>by rw[l]at z;cases z);refine⟨m,⟨_,es,Y,z,l,Z,r2⟩,λi x v a1 a2 a3=>?_⟩;obtain⟨u,rv,lo⟩:=lk i x v a1 a2 a3;refine⟨u,rv,?_⟩;rcases lo with y|⟨y,C,y1,y2⟩
  .exact .inl y
  .exact .inr ⟨y,C,y1,h _ _ y2⟩
 .intro x C q
  obtain⟨v,z⟩:=I.cell x C q;exact⟨v,h _ _ z⟩
 .intro p M
  obtain⟨r,_⟩:=J.pin p M;obtain⟨q,n1,N,O,n4⟩:=I.pin p M;refine⟨k.keep _ _ (λy=>?_) (λy=>?_) (λz=>?_) q,n1,N,O,n4⟩
  .rw [y,K]at r;cases r
  .rw [Option.some.inj y,L]at r;cases r
  .unfold fr1 at z
   rw[uT,F]at z;rcases wW.mp z with z|z
   .exact N z
   .exact O z
 .exact qg9 I.hok λb o n q=>k.keep b o (λz=>n (z ▸ Q)) (λz=>n (by cases z;exact HT)) (λz=>n (I.stkFree b (by rw[hs];exact z))) q
theorem caught(hs:X.stack=X.env::X.outer)(v:X.ex=[])(j:X.env.frame=some X.env.locals){l:XK}{e:Value}{s':09}{Q:Unit->Shared->Prop}{E:015}(I:016)(B:CXR X.prog X.w X.stack H s l e s')(h:∀a C T H' s'',e=.ref a->Inv X pins σ H' s''->Fl s''.heap a (.ref C) T->H' a=none->H' T=none->s.heap.get? a=none->s.heap.get? T=none->l (.ref a) (some C) H'->Q () s''):
  wpAny 006 X.A (noteFrame e X.env) (λ_ s2=>wpAny 006 X.A (setFlight e none) Q E s2) E s':=by
 obtain⟨a,C,M,H',rfl,os,F,un,hok,m,n,J,p,HT,q⟩:=B;obtain⟨r,g,d,t,c⟩:=s';obtain rfl:c=s.os:=os;have i:=I.call (h':=r) (g':=g) (d':=d) (t':=t) (ch:=[]) un hok F (λb z=>absurd z 07);refine note2 (by rw[I.ok.frames,hs]) (hs ▸ i.stack) j m λh' T K k f=>?_
 have L:=qez hs v j I i m n J p HT k;have u:∀x:Heap,(∀b o,x.get? b=some o->∃o',r.get? b=some o')->x.get? T=none:=λx up=>by
  cases y:x.get? T with
  |none=>rfl
  |some o =>
   obtain⟨o',z⟩:=up _ _ y;exact absurd (wI z) (Nat.not_lt.mpr K)
 exact h a C T H' _ rfl L f p (gone i.hok (u _ λb o y=>⟨o,y⟩)) n (u _ λb o y=>un.there b o y 07) q
end
end EX
namespace EX
section
variable{X:Cx}{pins:List (Addr×Obj)}{σ:St}{H:Hp}{s:Shared}
theorem goes{M:Model}{A:Around}{E:015}{Q:Unit->Shared->Prop}{n:Str}{i:Nat}{pos:Pos}(I:016)(K:X.N.Nodup)(hi:X.N[i]?=some n)(L:X.env.kindOf n=some .local)(h:∀s',Inv X pins (σ.set i none) H s'->Heap.SameBut X.env.locals s.heap s'.heap->Q () s'):wpAny M A (do bindName X.env n .none;unbindBehindTheSuite X.env n pos) Q E s:=by
 obtain⟨m,hn,hl⟩:=id I.loc;have r:(X.env.scope.kind == .class || (X.env.scope.kind == .module&&X.env.locals != X.env.globals))=false:=by rw[I.ok.kind];rfl
 have u:i<σ.length:=by rw[I.len];exact(wG.mp hi).1
 have cne:=I.cne;have f:∀{a:Addr} {h':Heap},(∃o,s.heap.get? a=some o/\H a=none)->Heap.SameBut a s.heap h'->HOk X.prog X.w H h':=λ{a h'} ha hs b ob e=>by
  obtain⟨_,_,l⟩:=ha;refine(I.hok b ob e).stay (λc J hc q=>(hs.2 c ?_).trans q) (λ_ q=>q) λ_ _ q=>q
  rintro rfl;rcases hc with rfl|hc
  .rw [l]at e;cases e
  .rw [l]at hc;cases hc
 refine wpAny_nameGoes_keeps L hn r λh' v B hs=>?_
 obtain⟨O,_,_,C,_⟩:=id hn;refine h _ ⟨I.ok,I.os,I.bare,⟨λb o e n hb x=>?_,λb o e n hb x=>?_,I.base.free,λb o e x=>?_,I.base.tups,I.base.frzs,I.base.tbls⟩,⟨_,B,λj y P e1 e2 S=>?_⟩,λy c e=>?_,I.free,I.freeC,λp U=>?_,f ⟨O,C,I.free⟩ hs,by simpa using I.len⟩ hs
 .exact (hs.2 b (wg (w6 (wI e) I.ok.above))).trans (I.base.keep b o e n hb x)
 .obtain ⟨sl,e1⟩:=I.base.slot b o e n hb x
  exact⟨sl,(hs.2 b (wg (w6 (wI e) I.ok.above))).trans e1⟩
 .obtain ⟨o',e1⟩:=I.base.there b o e x
  exact⟨o',(hs.2 b (wg (w6 (wI e) I.ok.above))).trans e1⟩
 .by_cases F:j=i
  .subst F
   rw[vW u]at e2;cases e2
  .rw [vi (Ne.symm F)]at e2
   obtain⟨W,Y,q⟩:=hl j y P e1 e2 S;refine⟨W,Y,?_⟩;rcases q with ⟨k,e⟩|⟨k,c,e,z⟩
   .refine .inl ⟨k,?_⟩
    have:y≠n:=λe=>F (qaq K e1 (e ▸ hi))
    simp[this,e]
   .exact .inr ⟨k,c,e,z.sameBut hs (cne y c e)⟩
 .obtain ⟨J,z⟩:=I.cell y c e
  exact⟨J,z.sameBut hs (cne y c e)⟩
 .obtain ⟨e,n,ne,Z,d⟩:=I.pin p U
  exact⟨(hs.2 p.1 ne).trans e,n,ne,Z,d⟩
end
end EX
namespace EX
def XP(X:Cx)(pins:011)(E:St->XK)(e:Value)(s':09):Prop:=∃a H s,Inv X pins a H s/\CXR X.prog X.w X.stack H s (E a) e s'
noncomputable abbrev TX:=Ends->(St->XK)->St->Hp->Prop
noncomputable def PX(X:Cx)(st:Stmt)(t:TX):Prop :=
 ∀(pins:011) (s:09) (a:St) (H:Hp) (D:Ends) (E:St->XK),Inv X pins a H s->t D E a H->wpAny 006 X.A (exec st X.env) (SP X pins D) (XP X pins E) s
noncomputable def PXs(X:Cx)(st:List Stmt)(t:TX):Prop :=
 ∀(pins:011) (s:09) (a:St) (H:Hp) (D:Ends) (E:St->XK),Inv X pins a H s->t D E a H->wpAny 006 X.A (execs st X.env) (SP X pins D) (XP X pins E) s
section
variable{X:Cx}{k:Nat}{f:Addr}{fd:FuncData}{ps:List Str}{sp:Sp}{dvs:List V}{ds:List Value}{x:Str}{p pos pos':Pos}{e:Expr}{es:List Expr}{t:TA}
theorem qm2{pins:011}{c:St}{H:Hp}{s:09}{Q:VK}{E:XK}{us:005}{vs:List V}(F:FnOk X.prog X.w X.K X.mg X.base (CXR X.prog X.w) k f fd ps sp)(i:Room k X.A)(hb:Binds X.K fd ps ds)(hd:Vals dvs ds)(I:Inv X pins c H s)(r:Vals vs us)(h:sp (vs++dvs) H Q E):wpAny 006 X.A (call (.ref f) us) (EP X pins c Q) (λe s'=>CXR X.prog X.w X.stack H s E e s') s:=by
 have d:Vals (vs++dvs) (us++ds):=r.append hd;have hl:(us++ds).length=ps.length:=by rw[<-d.length];exact F.len _ _ _ _ h
 refine wpAny_call (codeAny_mono (F.run X.A X.stack s H ⟨us,[]⟩ (us++ds) (vs++dvs) Q E i I.env0 (hb s us I.kIn hl) d h) λr s' a=>?_);cases r with
 |error e=>exact a
 |ok j =>
  cases j with
  |ret u=>exact I.after a
  |next=>exact False.elim a
  |brk=>exact False.elim a
  |cont=>exact False.elim a
noncomputable def tCallX(sp:Sp)(dvs:List V)(t:TA):TX:=λD E a H=>t a H λvs c=>sp (vs++dvs) c (λ_ H2=>D.nx a H2) (E a)
theorem qi8(F:FnOk X.prog X.w X.K X.mg X.base (CXR X.prog X.w) k f fd ps sp)(l:Room k X.A)(m:Gl X x)(hm:X.mg x=some (.ref f))(n:PySem.W.keepIn X.K (.ref f)=true)(hb:Binds X.K fd ps ds)(hd:Vals dvs ds)(ha:PA X.nox (e::es) t)(d:dB x:=by decide)(o:sE X e es:=by rfl)(i:bT X es pos:=by rfl)(hs:swapsWith (.Call (.Name x p) (e::es) [] pos) none pos'.line X.env=pure false:=by rfl):
  PX X (.Expr (.Call (.Name x p) (e::es) [] pos) pos') (tCallX sp dvs t):=by
 intro pins s a H D E I h;refine wpAny_Expr_any (Q:=SP X pins D) ?_ I.quiet hs;refine wt (Q:=EP X pins a (λ_ H2=>D.nx a H2)) ?_ (λv s1 ⟨x,j,c,u,q1⟩=>⟨a,j,c,q1⟩) (λ_ _ z=>z);refine uq (jy I m hm ?_ d);refine PySem.W.callWith_K (h₀:=X.base) I.ok.mod.kin n (wt (ha pos pins s a H _ (I.wish _) h) (λus s1 ⟨vs,j,c,r,q⟩=>⟨c.unwish.kIn,?_⟩) λ_ _ z=>False.elim z) o i;exact wt (qm2 F l hb hd c.unwish r q) (λ_ _ z=>z) λe s' z=>⟨a,j,s1,c.unwish,z⟩
theorem qi9{st:Stmt}{t:TX}(h:PX X st t):PXs X [st] t:=by
 intro pins s a H D E I hw;refine wpAny_execs_cons (wt (h pins s a H D E I hw) (λf s' q=>?_) λ_ _ z=>z);cases f with
 |next=>exact xE q
 |brk=>exact q
 |cont=>exact q
 |ret u=>exact q
end
end EX
namespace EX
section
variable{X:Cx}{pins:List (Addr×Obj)}{σ:St}{H H0:Hp}{s s0:Shared}
theorem track(i:Inv X pins σ H0 s0)(E:X.ex=[])(I:016){a C T:Addr}(F:Fl s.heap a (.ref C) T)(j:s0.heap.get? a=none)(J:H a=none):Inv X pins σ (upd H a (.ext (Errs a C))) s:=by
 obtain⟨l,vs,P,ts,f,d,hd,_⟩:=F;have nd:∀b o,s.heap.get? b=some o->(∀vs,o.data≠.fields vs)->b≠a:=λb o q n z=>by subst z;rw[f]at q;cases q;exact n _ hd
 have up:∀b,b≠a->upd H a (.ext (Errs a C)) b=H b:=λb n=>by simp[upd,n]
 have K:∀b o,X.s₀.heap.get? b=some o->b≠a:=λb o q z=>by
  subst z;obtain⟨o',y⟩:=i.base.there b o q (by rw[E];simp);rw[j]at y;cases y
 have B:=I.base;have old:∀b o,H b=some o->upd H a (.ext (Errs a C)) b=some o:=λb o q=>by rw[up b λz=>by subst z;rw[J]at q;cases q];exact q
 refine⟨I.ok,I.os,I.bare,⟨B.keep,B.slot,?_,B.there,?_,?_,?_⟩,I.loc,I.cell,?_,?_,?_,?_,I.len⟩
 .exact λb o q n nx=>by rw[up b (K b o q)];exact B.free b o q n nx
 .exact λb xs q=>old _ _ (B.tups b xs q)
 .exact λb o u q=>old _ _ (B.frzs b o u q)
 .exact λb ps q=>let ⟨m,z⟩:=B.tbls b ps q;⟨m,old _ _ z⟩
 .obtain ⟨m,⟨o,es,Q,q,h,_⟩,_⟩:=I.loc
  rw[up _ (nd _ o q λvs z=>by rw[h]at z;cases z)];exact I.free
 .intro x c q
  obtain⟨v,o,z,e⟩:=I.cell x c q;rw[up _ (nd _ o z λvs y=>by rw[e]at y;cases y)];exact I.freeC x c q
 .intro p w
  obtain⟨A,_⟩:=i.pin p w;obtain⟨q,L,M,N,O⟩:=I.pin p w;exact⟨q,by rw[up _ λz=>by rw[z,j]at A;cases A];exact L,M,N,O⟩
 .intro b o q
  by_cases hb:b=a
  .subst hb
   have:o=.ext (Errs b C):=by simp[upd]at q;exact q.symm
   subst this;exact⟨⟨l,vs,f,d,hd⟩,⟨l,f⟩,λS U ⟨o,vs,e,r⟩ k=>⟨o,vs,k _ e,r⟩⟩
  .rw [up b hb]at q
   exact(I.hok b o q).stay (λ_ _ _ z=>z) (λc z=>old _ _ z) λc xs z=>old _ _ z
theorem landed{M:Model}{A:Around}{E:015}{Q:Unit->Shared->Prop}(hs:X.stack=X.env::X.outer)(u:X.ex=[])(v:X.env.frame=some X.env.locals)(w:Inv X pins σ H0 s0)(I:016){a C T:Addr}(m:Fl s.heap a (.ref C) T)(x:s0.heap.get? a=none)(y:s0.heap.get? T=none)(B:H a=none)(HT:H T=none)(h:∀s',Inv X pins σ H s'->Fl s'.heap a (.ref C) T->Q () s'):wpAny M A (setFlight (.ref a) none) Q E s:=by
 obtain⟨F,vs,K,ts,n,f,hd,p,i,r,c,J⟩:=id m;unfold setFlight;refine wA (vG n hd p ?_);rw[wN (show(Value.ref T != Value.none)=true from by simp)];have j:=(wi.mp J).1;refine uN r c j ?_;have other:∀b,b≠T->(s.heap.update T (Obj.mapFields (·.setIfInBounds 3 Value.none))).get? b=s.heap.get? b:=λb hb=>wZ _ _ (Ne.symm hb)
 have l:=vO (Obj.mapFields (·.setIfInBounds 3 Value.none)) r (u5 (vd c _));refine h _ (qez hs u v w I m x y B HT ⟨?_,λb o nb d q=>⟨o.slots,?_⟩,λb o nb d _ q=>?_⟩) ?_
 .exact xL (vx ..).symm
 .exact (other b λz=>d (by rw[z])).trans q
 .exact (other b λz=>d (by rw[z])).trans q
 .exact ⟨F,vs,_,_,(other a (Ne.symm i)).trans n,f,hd,p,i,l,vd c _,by simp[j]⟩
end
end EX
namespace EX
noncomputable abbrev inS(X:Cx)(A':Around)(xe':015):Cx:={X with A:=A',calm:=false,xe:=xe' }
section
variable{X:Cx}{pins:List (Addr×Obj)}{σ:St}{H:Hp}{s:Shared}{A':Around}{xe':Value->Shared->Prop}
theorem okS(ok:X.Ok)(a:A'.frames=X.A.frames):(inS X A' xe').Ok :=
 ⟨ok.mod,ok.kind,ok.glob,ok.blt,ok.above,ok.inj,ok.has,ok.cab,nofun,a.trans ok.frames,ok.stk,ok.exf,ok.bs,ok.bsz,ok.noex,ok.exfs,ok.funs,ok.frf,ok.tab⟩
theorem toS(I:016)(a:A'.frames=X.A.frames):Inv (inS X A' xe') pins σ H s:=⟨okS I.ok a,I.os,I.bare,I.base,I.loc,I.cell,I.free,I.freeC,I.pin,I.hok,I.len⟩
theorem ofS(ok:X.Ok)(I:Inv (inS X A' xe') pins σ H s):Inv X pins σ H s:=⟨ok,I.os,I.bare,I.base,I.loc,I.cell,I.free,I.freeC,I.pin,I.hok,I.len⟩
end
section
variable{X:Cx}{C':Addr}{bm':List Value}{body suite:List Stmt}{b₀:Stmt}{n x:Str}{p hp pos:Pos}{i:Nat}{tb:TX}{ts:TS}
noncomputable def tTry(base:Heap)(C':Addr)(i:Nat)(tb:TX)(ts:TS):TS:=λD h H=>tb D (λd e c H'=>∃a C bm,e=.ref a/\c=some C/\IsExc base C bm/\(Value.ref C::bm).contains (.ref C')=true /\
 ts {nx:=λf H2=>D.nx (f.set i none) H2,rt:=λ_ _=>False} (d.set i (some (.ref a))) (upd H' a (.ext (Errs a C)))) h H
theorem qlr(hs:X.stack=X.env::X.outer)(d:X.ex=[])(F:X.env.frame=some X.env.locals)(hc:017)(J:X.N.Nodup)(hi:X.N[i]?=some n)(Q:X.env.kindOf n=some .local)(hl:X.env.scope.names.lookup n=some .local)(S:Gl X x)(hm:X.mg x=some (.ref C'))(j:IsExc X.base C' bm')(hb:PXs X body tb)(l:∀K m,K.frames=X.A.frames->PSs (inS X K m) (b₀::suite) ts)(o:dB x:=by decide):
  PS X (.Try body [.ExceptHandler (some (.Name x p)) (some n) (b₀::suite) hp] [] [] pos) (tTry X.base C' i tb ts):=by
 intro pins s U H D I h;refine wpAny_Try_except (wt (hb pins s U H D _ I h) (λf s1 q=>?_) λe s' q=>?_)
 .cases f with
  |next=>exact xE q
  |brk=>exact q
  |cont=>exact q
  |ret u=>exact q
 .obtain ⟨W,H1,s1,r,q⟩:=q
  refine caught hs d F r q λa C T H2 s2 Y c L M HT O Z w=>?_
  subst Y;obtain⟨a',C1,bm,e1,e2,hC,y,ht⟩:=w;cases e1;cases e2;have B:(X.A.mark (some (.ref a))).frames=X.A.frames:=rfl;refine qbT (C:=C) (C':=C') (bm:=bm) (bm':=bm') (b:=true) y ?_;refine jy (X:=inS X (X.A.mark (some (.ref a))) X.xe) (toS c B) S hm ⟨rfl,hC.keeps c.bk,j.keeps c.bk,?_,?_⟩ o
  .obtain ⟨oe,vs,oT,tz,z1,z2,_⟩:=L
   exact⟨oe,z1,z2⟩
  .rw [wN rfl]
   refine landed hs d F r c L O Z M HT λs3 I3 E=>?_
   have I4:=track r d I3 E O M;refine yL (v:=.ref a) I4 J hi (.inl hl) rfl (λs5 P=>?_) (.inr hl);refine wt (l (X.A.mark (some (.ref a))) _ B pins s5 _ _ _ (toS P B) ht) (λf s6 z=>?_) λ_ _ z=>z
   cases f with
   |next =>
    obtain⟨a0,H6,I6,q6⟩:=z;exact goes (ofS P.ok I6) J hi Q λs7 I7 _=>⟨_,_,I7,q6⟩
   |brk=>obtain⟨_,_,_,q⟩:=z;exact q.elim
   |cont=>obtain⟨_,_,_,q⟩:=z;exact q.elim
   |ret u=>obtain⟨_,_,_,_,_,q⟩:=z;exact q.elim
end
end EX
namespace EX
noncomputable def excRow(K:009)(C:Addr):Option (List Value):=match K.lookup C with
 |some ⟨.type "type",_,.cls cd,sl⟩=>(match cd.mro,sl.toList with
  | .ref C'::bm,[_,_,_,_,some (.builtin n),_]=>if C' == C&&!cd.hasDel&&bm.contains (.type "BaseException")then some bm else none
  |_,_=>none)
 |_=>none
def jH{K:009}{h:Heap}(X:K.In h){C:Addr}{bm:005}(q:excRow K C=some bm):IsExc h C bm:=by
 unfold excRow at q;split at q
 .rename_i dd d sl f
  split at q
  .rename_i C' bm' k0 k1 k2 k3 n k5 hm hs
   split at q
   .rename_i hc
    cases q;simp only[wS,uC,ub]at hc;obtain⟨⟨rfl,a⟩,hb⟩:=hc;obtain⟨nm,bs,i,ns,m,hd,sn,sub,ab,col,j⟩:=d;dsimp only at hm a;subst hm a;have c:sl=#[k0,k1,k2,k3,some (.builtin n),k5]:=by
     obtain⟨l⟩:=sl;simp only at hs;rw[hs]
    subst c;exact⟨hb,_,_,_,_,_,_,_,_,_,_,_,_,_,_,_,_,X _ _ f⟩
   .cases q
  .cases q
 .cases q
end EX
namespace EX
open PySem.W PySem.Calls PySem.Builtin PySem.Builtin.ObjectAttr PySem.Builtin.Getset_descriptor
section
variable{prog:Program}{w:World}{A:Around}{E:Value->Shared->Prop}{s:Shared}{K:Frag}{a C:Addr}
theorem yA{M:Model}{h:Heap}(I:Errs a C h):Looks M h (typeOf (.ref a)) (.ref C):=by
 obtain⟨o,vs,c,d,_⟩:=I;exact d ▸ (Looks.ld c).andThen .now
theorem qhc{R:Result->Shared->Prop}{c:Value}(X:K.In s.heap)(I:Errs a C s.heap)(hm:mroIn K C (.type "object")=some true)(h:R (.ok (.ret (.ref C))) s):codeAny 018 A (.call (.builtin "getset_descriptor.__get__") ⟨[.builtin "object.__class__",.ref a,c],[]⟩) R s:=by
 obtain⟨d,g,f,t,os⟩:=s;have i:=yA (M:=model prog w) I;have j:=looks_mroIn (M:=model prog w) X hm;refine codeAny_call_builtin KF.slot_gs.plain KF.entry_gs (KF.slot_gs.check _ _ _ _ _ _ _ _ KF.type_class (KF.args_gs _ _ _) ?_);unfold Builtin.«getset_descriptor.__get__» descrGet;rw[dga_obj];refine wA (wD ?_);unfold descrGetter descrCheckInstance descrNameAndClass isInstance;simp only[KF.owner_class]
 repeat lk
 refine⟨Code.quiet_builtin _ (by decide +kernel),vc KF.entry_class ?_⟩;unfold Builtin.«object.__class__» shownTypeOf
 repeat lk
 exact h
structure ErrK (K:Frag) (C:Addr):Prop where
 ga:findIn K (.ref C) "__getattribute__"=some (some (.builtin "BaseException.__getattribute__"))
 no:findIn K (.ref C) "__getattr__"=some none
 cls:findIn K (.ref C) "__class__"=some (some (.builtin "object.__class__"))
 get:specialIn K (.builtin "object.__class__") "__get__"=some (some (.builtin "getset_descriptor.__get__"))
 tk:takesIn K (.builtin "object.__class__")=some true
 obj:mroIn K C (.type "object")=some true
 be:mroIn K C (.type "BaseException")=some true
 ic:(clsIn K C).isSome=true
theorem qfz{M:Model}{h:Heap}(X:K.In h)(Z:ErrK K C):Looks M h (find (.ref a) (.ref C) "__class__") (.bind (.builtin "getset_descriptor.__get__") (.builtin "object.__class__")):=by
 refine(looks_findIn X Z.cls).andThen ((show Looks M h (getOf (some (.builtin "object.__class__"))) _ from looks_specialIn X Z.get).andThen ?_);exact(show Looks M h (dataDescriptor? (some (.builtin "object.__class__")) (some (.builtin "getset_descriptor.__get__"))) (some (.builtin "getset_descriptor.__get__",.builtin "object.__class__"))from(looks_takesIn X Z.tk).andThen .now).andThen (Looks.tag .now)
theorem qdw{tk:Tok}{Q:Fin->Shared->Prop}(X:K.In s.heap)(I:Errs a C s.heap)(Z:ErrK K C)(c:Q (.done (.ret (.ref C))) s):
  wpAny 018 A (Builtin.«object.__getattribute__» ⟨[.ref a,.str "__class__" tk],[]⟩) Q E s:=by
 have d:=yA (M:=model prog w) I;have f:=qfz (a:=a) (M:=model prog w) X Z;obtain⟨h,g,i,t,os⟩:=s;unfold Builtin.«object.__getattribute__»;refine wA (wD (wA (wD (wA (d.at (wA (f.at ?_)))))));show wpAny _ _ (holding [.builtin "object.__class__"] (call (.builtin "getset_descriptor.__get__") [.builtin "object.__class__",.ref a,.ref C]) >>= ret) _ _ _;exact wA (vQ (wpAny_call (qhc X I Z.obj (wD c))))
theorem qdx{M:Model}{c:Value}{Q:Unit->Shared->Prop}(X:K.In s.heap)(I:Errs a C s.heap)(Z:ErrK K C)(i:Q () s):wpAny M A (checkBuiltinCall "BaseException.__getattribute__" ⟨[.ref a,c],[]⟩) Q E s:=by
 have f:builtinKind "BaseException.__getattribute__"=some .slot:=by decide +kernel
 have d:splitId "BaseException.__getattribute__"=some ("BaseException","__getattribute__"):=by decide +kernel
 have ha:=F.args_bexc_ga (.ref a) c;have h:Looks M s.heap (isInstance (.ref a) (.type "BaseException")) true:=(yA I).andThen (looks_mroIn X Z.be);obtain⟨j,g,l,t,os⟩:=s;simp only[checkBuiltinCall,f,d];refine wA (h.at ?_)
 repeat (any_goals (first|assumption|wp_step))
theorem qfA{tk:Tok}{R:Result->Shared->Prop}(X:K.In s.heap)(I:Errs a C s.heap)(Z:ErrK K C)(c:R (.ok (.ret (.ref C))) s):
  codeAny 018 A (.call (.builtin "BaseException.__getattribute__") ⟨[.ref a,.str "__class__" tk],[]⟩) R s :=
 codeAny_call_builtin PySem.F.attr_ValueError.ga.plain F.entry_bexc_ga (qdx X I Z (qdw X I Z c))
theorem qdy{Q:Option Value->Shared->Prop}(X:K.In s.heap)(I:Errs a C s.heap)(Z:ErrK K C)(c:Q (some (.ref C)) {s with toks:=s.toks+1}):wpAny 018 A (getAttr? (.ref a) "__class__") Q E s:=by
 obtain⟨f,g,d,t,os⟩:=s;have h:=yA (M:=model prog w) I;have i:=looks_findIn (M:=model prog w) X Z.ga;have j:=looks_findIn (M:=model prog w) X Z.no;have l:=PySem.F.attr_ValueError.ga.bind (.ref a);unfold getAttr? getAttrBy? getAttrBy;refine wA (wpAny_mkText (wA (uo (vQ (wA (h.at (wA (i.at ?_))))))));have m:(onTheHeap (Value.ref C)&&Value.builtin "BaseException.__getattribute__" == Value.builtin "object.__getattribute__")=false:=by
  have:(Value.builtin "BaseException.__getattribute__" == Value.builtin "object.__getattribute__")=false:=by decide +kernel
  rw[this];rfl
 show wpAny _ _ (if(onTheHeap (Value.ref C)&&Value.builtin "BaseException.__getattribute__" == Value.builtin "object.__getattribute__")=true then _ else _) _ _ _;rw[m];refine wA (show wpAny _ _ (typeLookup (.ref C) "__getattr__") _ _ _ from j.at ?_);refine wA (uo (vQ ?_));show wpAny _ _ (boundAndCalled _ _ _) _ _ _;unfold boundAndCalled;rw[l];refine wA (wD (wpAny_call (qfA (s:=⟨f,g,d,t+1,os⟩) X I Z ?_)));exact handed_on rfl (wD c)
theorem qhd(Z:ErrK K C):KitX K (.ref a) (.ref C) (λh=>Errs a C h) where
 ty:=λM h _ I=>yA I
 it:=λ_ _ X _=>by
  have c:=Z.ic;unfold clsIn at c;split at c
  .rename_i l d' d f i
   intro p Q' r s' k q;unfold isType loadHead;exact wA (wpAny_loadPart (k _ _ (X _ _ i)) (wD q))
  .cases c
 ne:=λh m dd o n sl X j=>by
  have c:=Z.ic;refine Bool.eq_false_iff.mpr λq=>?_
  have e:C=m:=Value.ref.inj (uC.mp q);subst e;unfold clsIn at c;split at c
  .rename_i l d' d f i
   have z:=(X _ _ i).symm.trans j;cases z
  .cases c
 ca:=λX I k=>qdy X I Z k
end
end EX
end R
namespace R
open PySem PySem.Spec L2 SeqAt
open PyProof.Rows hiding St
namespace EX
def PsX{f h:Type}(R:List Addr->Hp->f->h->Prop)(r:Res f)(ι:03)(H:Hp)(Q:h->Hp->Prop)(E:XK):Prop:=match r with
 | .ok a d=>∀b c H',Stp ι H c H'->Sto c H' d->R c H' a b->Q b H'
 | .err (.exc C) d=>∀a c H',Stp ι H c H'->Sto c H' d->H' a=none->E (.ref a) (some C) H'
 |_=>False
def PsX.from{f i:Type}{R:List Addr->Hp->f->i->Prop}{r:Res f}{ι d:03}{H H':Hp}{Q:i->Hp->Prop}{E:XK}(h:PsX R r ι H Q E)(s:Stp ι H d H'):PsX R r d H' Q E:=by
 cases r with
 |ok a S=>exact λb c H2 t st q=>h b c H2 (s.trans t) st q
 |err x S =>
  cases x with
  |exc C=>exact λa c H2 t st q=>h a c H2 (s.trans t) st q
  |_=>exact h
 |no=>exact h
def PsX.bind{d j l m:Type}{R:List Addr->Hp->d->j->Prop}{n:List Addr->Hp->l->m->Prop}{r:Res d}{f:d->Sr->Res l}{ι:03}{H:Hp}{Q:m->Hp->Prop}{K:j->Hp->Prop}{E:XK}(h:PsX n (r.bind f) ι H Q E)(k:∀a o c H' b,Stp ι H c H'->Sto c H' o->R c H' a b->PsX n (f a o) c H' Q E->K b H'):PsX R r ι H K E:=by
 cases r with
 |ok a S=>exact λb i H2 t st q=>k a S i H2 b t st q (PsX.from h t)
 |err x S =>
  cases x with
  |exc C=>exact h
  |_=>exact h
 |no=>exact h
def PsFX(r:Res _root_.R.Fl)(ι:03)(H:Hp)(D:Ends)(E:XK):Prop:=match r with
 | .ok f d=>PsF (.ok f d) ι H D
 | .err (.exc C) d=>∀a c H',Stp ι H c H'->Sto c H' d->H' a=none->E (.ref a) (some C) H'
 |_=>False
def PsFX.from{r:Res _root_.R.Fl}{ι c:03}{H H':Hp}{D:Ends}{E:XK}(h:PsFX r ι H D E)(s:Stp ι H c H'):PsFX r c H' D E:=by
 cases r with
 |ok f S=>exact PsF.from (show PsF (.ok f S) ι H D from h) s
 |err x S =>
  cases x with
  |exc C=>exact λa d H2 t st q=>h a d H2 (s.trans t) st q
  |_=>exact h
 |no=>exact h
def PsFX.bind{d j:Type}{R:List Addr->Hp->d->j->Prop}{r:Res d}{f:d->Sr->Res _root_.R.Fl}{ι:03}{H:Hp}{D:Ends}{K:j->Hp->Prop}{E:XK}(h:PsFX (r.bind f) ι H D E)(k:∀a l c H' b,Stp ι H c H'->Sto c H' l->R c H' a b->PsFX (f a l) c H' D E->K b H'):PsX R r ι H K E:=by
 cases r with
 |ok a S=>exact λb i H2 t st q=>k a S i H2 b t st q (PsFX.from h t)
 |err x S =>
  cases x with
  |exc C=>exact h
  |_=>exact h
 |no=>exact h
def PsFX.ok{r:Res _root_.R.Fl}{ι:03}{H:Hp}{D:Ends}{E:XK}(h:PsFX (noE r) ι H D E):PsF r ι H D:=by
 cases r with
 |ok f S=>exact h
 |err x S=>exact h.elim
 |no=>exact h.elim
noncomputable def TGX{a c:Type}(R:List Addr->Hp->a->c->Prop)(m:En->Sr->Res a)(E:XK):St->Hp->(c->Hp->Prop)->Prop:=λd H Q=>∃ι S ρ,EnR ι H ρ d/\Sto ι H S/\PsX R (m ρ S) ι H Q E
def TGX.b1{d n o q:Type}{R:List Addr->Hp->d->n->Prop}{r:List Addr->Hp->o->q->Prop}{m:En->Sr->Res d}{f:En->d->Sr->Res o}{i:St}{H:Hp}{Q:q->Hp->Prop}{K:n->Hp->Prop}{E:XK}(h:TGX r (λρ S=>(m ρ S).bind λa S1=>f ρ a S1) E i H Q)(k:∀ι S ρ a b c,EnR ι c ρ i->Sto ι c S->R ι c a b->PsX r (f ρ a S) ι c Q E->K b c):TGX R m E i H K:=by
 obtain⟨ι,S,ρ,u,st,h⟩:=h;exact⟨ι,S,ρ,u,st,PsX.bind h λa v j H' b s l w p=>k j v ρ a b H' (u.mono s) l w p⟩
noncomputable def TSX(m:En->Sr->Res _root_.R.Fl)(E:XK):TS:=λD a H=>∃ι S ρ,EnR ι H ρ a/\Sto ι H S/\PsFX (m ρ S) ι H D E
noncomputable def SpX(np:Nat)(g:List D->Sr->Res D):Sp:=λvs H Q E=>vs.length=np/\∃ι S ds,Sto ι H S/\Dens ι H ds vs/\PsX Den (g ds S) ι H Q E
noncomputable def FnAtX(P:Program)(w:World)(K:009)(mg:025)(base:Heap)(k:Nat)(F:Fs)(i:Nat)(x:Str)(ps:014):Prop :=
 ∃f fd,mg x=some (.ref f)/\PySem.W.keepIn K (.ref f)=true/\Binds K fd ps []/\FnOk P w K mg base (CXR P w) k f fd ps (SpX ps.length (F i))
section
variable{X:Cx}{F:Fs}{N:Nat}{pos:Pos}{E:XK}
theorem PAnox{es:010}{t:TA}(h:PA X.nox es t):PA X es t:=λpos pins s a H Q I hw=>wt (h pos pins s a H Q (I.wish _) hw) (λus s1 ⟨vs,c,d,r,q⟩=>⟨vs,c,d.unwish,r,q⟩) λ_ _ z=>False.elim z
theorem PSnox{st:Stmt}{t:TS}(h:PS X.nox st t):PS X st t:=λpins s a H D I hw=>wt (h pins s a H D (I.wish _) hw) (λ_ _ q=>q.unwish) λ_ _ z=>False.elim z
theorem zI:PSs X [] (TSX (exs F N .nil) E):=PSsimp qdZ λD a H hw=>by
 obtain⟨ι,S,ρ,c,st,p⟩:=hw;exact p ι H 019 st a c
theorem qY{st:Stmt}{rest:List Stmt}{c:CS}{cs:CSs}(m:PS X st (TSX (ex F N c) E))(n:PSs X rest (TSX (exs F N cs) E)):PSs X (st::rest) (TSX (exs F N (.cons c cs)) E):=PSsimp (qcj m n) λD r H hw=>by
 obtain⟨ι,S,ρ,o,st,p⟩:=hw;refine⟨ι,S,ρ,o,st,?_⟩;unfold exs at p;cases z:ex F N c ρ S with
 |no=>rw[z]at p;exact p
 |err x S1 =>
  rw[z]at p;cases x with
  |exc C=>exact p
  |_=>exact p
 |ok f S1 =>
  rw[z]at p;intro h l s1 i;cases f with
  |nx ρ1=>exact λj a=>⟨h,S1,ρ1,a,i,PsFX.from p s1⟩
  |bk ρ1=>exact λj a=>p h l s1 i j a
  |ct ρ1=>exact λj a=>p h l s1 i j a
  |rt d=>exact λv q=>p h l s1 i v q
theorem qbq{st:Stmt}{c:CS}(h:QS X.nox st (TSm (ex F N c))):PS X st (TSX (ex F N (.cal c)) E):=by
 delta QS at h;refine PSnox (PSimp h λD d H hw=>?_);obtain⟨ι,S,ρ,a,st,p⟩:=hw;unfold ex at p;exact⟨ι,S,ρ,a,st,PsFX.ok p⟩
theorem x_expr{e:Expr}{c:CE}(i:PE X e (TGX Den (ev F c) E))(hs:swapsWith e none pos.line X.env=pure false:=by rfl):PS X (.Expr e pos) (TSX (ex F N (.expr c)) E):=PSimp (qd0 i hs) λD j H hw=>by
 obtain⟨ι,S,ρ,h,st,p⟩:=hw;unfold ex at p;exact⟨ι,S,ρ,h,st,PsFX.bind p λa S1 d l b s1 f n m=>m d l 019 f j (h.mono s1)⟩
theorem x_if{c:Expr}{a b:List Stmt}{i:CB}{j cb:CSs}(hc:PT X c (TGX EqR (tst F i) E))(ha:PSs X a (TSX (exs F N j) E))(hb:PSs X b (TSX (exs F N cb) E)):PS X (.If c a b pos) (TSX (ex F N (.ifs i j cb)) E):=PSimp (qjL hc ha hb) λD n H hw=>by
 obtain⟨ι,S,ρ,h,st,p⟩:=hw;unfold ex at p;refine⟨ι,S,ρ,h,st,PsFX.bind p λa S1 d o b s1 f m l=>?_⟩;cases (show a=b from m);cases a with
 |true=>rw[wN rfl];exact⟨d,S1,ρ,h.mono s1,f,l⟩
 |false=>rw[wT 01];exact⟨d,S1,ρ,h.mono s1,f,l⟩
theorem qdz{c:Expr}{a:CB}(h:QT X.nox c (TB (tst F a))):PT X c (TGX EqR (tst F (.cal a)) E):=by
 delta QT at h;refine(PTimp h λi H Q hw=>?_).nox;obtain⟨ι,S,ρ,d,st,p⟩:=hw;unfold tst at p;refine⟨ι,S,ρ,d,st,?_⟩;cases z:tst F a ρ S with
 |ok f S1=>rw[z]at p;exact p
 |err x S1=>rw[z]at p;exact p.elim
 |no=>rw[z]at p;exact p.elim
theorem qm3{e:Expr}{c:CE}(h:PE X e (TGX Den (ev F c) E))(i:∀d,isTrue e X.env d=(do let v <-d;standAt e.pos;holding [v] (truthy v)):=by intro _;rfl):PT X e (TGX EqR (tst F (.val c)) E) :=
 PTimp (qck h i) λj H Q hw=>by
  have hw:TGX EqR (λρ S=>(ev F c ρ S).bind λx S1=>ofO (truD S1 x) S1) E j H Q:=by
   obtain⟨ι,S,ρ,f,st,p⟩:=hw;unfold tst at p;exact⟨ι,S,ρ,f,st,p⟩
  refine TGX.b1 hw λι S ρ a b l f st m p=>?_
  cases z:truD S a with
  |none=>rw[z]at p;exact p.elim
  |some k=>rw[z]at p;exact⟨k,qea st z m,p k ι l 019 st rfl⟩
theorem qm4{e:Expr}{c:CB}(h:PT X e (TGX EqR (tst F c) E)):PT X (.UnaryOp .Not e pos) (TGX EqR (tst F (.not c)) E) :=
 PTimp (qfP h) λm H Q hw=>by
  obtain⟨ι,S,ρ,i,st,p⟩:=hw;unfold tst at p;refine⟨ι,S,ρ,i,st,PsX.bind p λa n d H' b s f j l=>?_⟩;cases (show a=b from j);exact l _ d H' 019 f rfl
theorem j5(D:IsDef X E){k i:Nat}{x:Str}{ps:014}{e:Expr}{es:010}{cs:CEs}{p:Pos}(h:FnAtX X.prog X.w X.K X.mg X.base k F i x ps)(o:Room k X.A)(ha:QA X.nox (e::es) (TL (evs F cs)))(a:∀ρ S,noE (evs F cs ρ S)=evs F cs ρ S)(q:Gl X x:=by rfl)(hl:cs.len=ps.length:=by rfl)(c:dB x:=by decide)(r:sE X e es:=by rfl)(d:bT X es pos:=by rfl):PE X (.Call (.Name x p) (e::es) [] pos) (TGX Den (ev F (.call i cs)) E):=by
 delta QA at ha;obtain⟨f,fd,hm,s,hb,u⟩:=h;refine PEimp (qbA u o q hm s hb (dvs:=[]) .nil (passR D λ_ _ _ z=>z) (PAnox ha) c r d) λy H Q hw=>?_
 obtain⟨ι,S,ρ,v,st,p⟩:=hw;refine⟨ι,S,ρ,v,st,?_⟩;unfold ev at p;cases z:evs F cs ρ S with
 |no=>rw[z]at p;exact p.elim
 |err x S1=>have:=a ρ S;rw[z]at this;cases this
 |ok l S1 =>
  rw[z]at p;intro xs j B s1 m n;refine⟨?_,j,S1,l,m,by simpa using n,PsX.from p s1⟩;rw[vu,<-n.length];exact(ji z).trans hl
theorem qbU(D:IsDef X E){x:Str}{C:Addr}{e:Expr}{es:010}{cs:CEs}{p f:Pos}{B u c h d i:String}{bm j:005}(O:OwnCls x C bm c X.mg X.base)(w:ExcBaseFacts u c i j)(m:bm.contains (.type u)=true)(y:ExcBaseFacts B h d bm)(ha:QA X.nox (e::es) (TL (evs F cs)))(n:∀ρ S,∃l,evs F cs ρ S=.ok l S)(A:cs.len<=1000)(hc:017:=by rfl)(I:Gl X x:=by rfl)(o:dB x:=by decide)(J:sE X e es:=by rfl)(q:(backTo f (starEach es X.env)).any (·.1)=false:=by rfl):
  PS X (.Raise (some (.Call (.Name x p) (e::es) [] f)) none pos) (TSX (ex F N (.raise C)) E):=by
 delta QA at ha;refine PSimp (qhb D hc I O w m y (PAnox ha) o J q) λD P H hw=>?_
 obtain⟨ι,S,ρ,K,st,p⟩:=hw;unfold ex at p;obtain⟨l,v⟩:=n ρ S;refine⟨ι,S,ρ,K,st,?_⟩;rw[v];intro xs r L s1 s M;refine⟨?_,λa ha=>p a r L s1 s ha⟩;rw[<-M.length,ji v,vm];lia
end
def qhe{c:CF}{ns ps:014}{vs:List V}{H:Hp}{ι:03}{ds:04}(f:ps.length=c.np)(hn:ns.length=c.nn)(hl:vs.length=ps.length)(a:Dens ι H ds vs):EnR ι H (ds.map some++List.replicate (c.nn-c.np) none) (start ns vs):=by
 have h:ds.length=c.np:=by rw[a.length,hl,f]
 unfold L2.start;have e1:ns.length-vs.length=c.nn-c.np:=by rw[hn,hl,f]
 rw[e1];refine⟨by simp[a.length],λi d e=>?_⟩;by_cases hi:i<ds.length
 .rw [wL 042,wk,wC hi]at e
  cases e;obtain⟨x,e2,j⟩:=a.get (wC hi);refine⟨x,?_,j⟩;rw[wL (by rw[wF,<-a.length];exact hi),wk,e2];rfl
 .rw [wK 042,vC]at e
  split at e <;> cases e
def qeA{keeps:Bool}{d:D}{S S1:Sr}{ι:03}{H:Hp}{Q:VK}{E:XK}(st:Sto ι H S)(q:PsX Den (leave keeps S.length d S1) ι H Q E):∀a H',Stp ι H a H'->Sto a H' S1->∀v,Den a H' d v->Q v H':=by
 intro a H' s1 c v f;unfold leave at q;split at q
 .exact q v a H' s1 c f
 .split at q
  .exact q v a H' s1 c f
  .split at q
   .rename_i i
    have e:=s1.take_eq;have h:ι.length=S.length:=st.len;refine q v (a.take S.length) H' (by rw[<-h];exact s1.less) (c.less _) (Den.less d i f)
   .split at q
    .rename_i d' hd
     have h:ι.length=S.length:=st.len;exact q v (a.take S.length) H' (by rw[<-h];exact s1.less) (c.less _) (Den.frz c d hd f)
    .exact q.elim
def qhf{F:Fs}{N:Nat}{c:CF}{ns ps:014}{vs:List V}{H:Hp}{Q:VK}{E:XK}(m:ps.length=c.np)(hn:ns.length=c.nn)(o:c.np<=c.nn)(h:SpX ps.length (callC F N c) vs H Q E):TSX (exs F N c.body) E {nx:=λ_ H'=>Q .non H',rt:=Q} (start ns vs) H:=by
 obtain⟨hl,ι,S,ds,st,n,p⟩:=h;have j:ds.length=c.np:=by rw[n.length,hl,m]
 unfold callC at p;rw[wN j]at p;refine⟨ι,S,_,qhe m hn hl n,st,?_⟩;cases z:exs F N c.body (ds.map some++List.replicate (c.nn-c.np) none) S with
 |ok f S1 =>
  rw[z]at p;cases f with
  |nx ρ1=>exact λa l s1 i q r=>qeA st p a l s1 i .non rfl
  |rt d=>exact λa l s1 i v s=>qeA st p a l s1 i v s
  |bk _=>exact p.elim
  |ct _=>exact p.elim
 |err x S1 =>
  rw[z]at p;cases x with
  |exc C=>exact p
  |_=>exact p
 |no=>rw[z]at p;exact p.elim
def qls{P:Program}{w:World}{K:009}{mg:025}{base:Heap}{k N i:Nat}{F G:Fs}{x:Str}{st:Stmt}{f c T':Addr}{fd:FuncData}{a:CF}{ns ps:014}(U:FunT K x st f fd c T')(S:FnScope ns ps (defScope st))(l:ps.length=a.np)(hn:ns.length=a.nn)(d:a.np<=a.nn)(m:G i=callC F N a)(body:∀(A:Around) (outer:List Env) (s:09) (H:Hp) (E:XK),Room k (A.deeper (envOfC x (defScope st) s.heap.objs.size f (.ref c)))->PSs (cxOf (CXR P w) P w K mg base ns x (defScope st) f (.ref c) A outer s H E) (defBody st) (TSX (exs F N a.body) E)):
  FnOk P w K mg base (CXR P w) (k+1) f fd ps (SpX ps.length (G i)):=by
 obtain⟨oc,od,kV,doc,pm,an,ct,osl,rfl,n,j⟩:=U.ex;refine qjM n j S (λvs H Q E h=>h.1) λA outer s H vs Q E o h=>⟨_,body A outer s H E o,?_⟩
 rw[m]at h;exact qhf l hn d h
def qlt{P:Program}{w:World}{K:009}{mg:025}{base:Heap}{i:Nat}{G:Fs}{f:Addr}{fd:FuncData}{ps:014}(a:G i=λ_ _=>.no){k:Nat}:
  FnOk P w K mg base (CXR P w) k f fd ps (SpX ps.length (G i)):=by
 refine⟨λvs H Q E h=>h.1,λA outer s H args us vs Q E _ _ _ _ h=>?_⟩;obtain⟨_,ι,S,ds,_,_,p⟩:=h;rw[a]at p;exact p.elim
def DefIn.fnX{P:Program}{w:World}{K:009}{mg:025}{base:Heap}{k i:Nat}{F:Fs}{x:Str}{st:Stmt}{ps:014}(u:DefIn K mg x st ps)(h:∀f fd c t,FunT K x st f fd c t->FnOk P w K mg base (CXR P w) k f fd ps (SpX ps.length (F i))):FnAtX P w K mg base k F i x ps:=by
 obtain⟨f,fd,c,t,hm,U,hb⟩:=u;exact⟨f,fd,hm,U.kp,hb,h f fd c t U⟩
end EX
namespace EX
noncomputable def TXm(m:En->Sr->Res _root_.R.Fl):TX:=λD E a H=>∃ι S ρ,EnR ι H ρ a/\Sto ι H S/\PsFX (m ρ S) ι H D (E a)
def EnR.un{ι:03}{H:Hp}{ρ:En}{a:St}(e:EnR ι H ρ a)(i:Nat):EnR ι H (ρ.set i none) (a.set i none):=by
 refine⟨by simp[e.len],λj x q=>?_⟩;by_cases z:i=j
 .subst z
  by_cases hl:i<ρ.length
  .rw [vW hl]at q;cases q
  .rw [xj (by simpa using hl)]at q;cases q
 .rw [vi z]at q ⊢
  exact e.get j x q
section
variable{X:Cx}{F:Fs}{N:Nat}{pos:Pos}
theorem qlu{k i:Nat}{x:Str}{ps:014}{e:Expr}{es:010}{cs:CEs}{p c:Pos}(h:FnAtX X.prog X.w X.K X.mg X.base k F i x ps)(B:Room k X.A)(ha:QA X.nox (e::es) (TL (evs F cs)))(d:∀ρ S,noE (evs F cs ρ S)=evs F cs ρ S)(C:Gl X x:=by rfl)(hl:cs.len=ps.length:=by rfl)(j:dB x:=by decide)(J:sE X e es:=by rfl)(m:bT X es pos:=by rfl)(hs:swapsWith (.Call (.Name x p) (e::es) [] pos) none c.line X.env=pure false:=by rfl):
  PX X (.Expr (.Call (.Name x p) (e::es) [] pos) c) (TXm (ex F N (.expr (.call i cs)))):=by
 delta QA at ha;obtain⟨f,fd,hm,L,hb,M⟩:=h;intro pins s u H D E I hw;refine qi8 M B C hm L hb (dvs:=[]) .nil ha j J m hs pins s u H D E I ?_;obtain⟨ι,S,ρ,v,st,p⟩:=hw;refine⟨ι,S,ρ,v,st,?_⟩;unfold ex ev at p;cases z:evs F cs ρ S with
 |no=>rw[z]at p;exact p.elim
 |err x S1=>have:=d ρ S;rw[z]at this;cases this
 |ok l S1 =>
  rw[z]at p;intro xs n P s1 o y;refine⟨?_,n,S1,l,o,by simpa using y,?_⟩
  .rw [vu,<-y.length]
   exact(ji z).trans hl
  .exact PsFX.bind (PsFX.from p s1) λa S2 q H2 b s2 r Q O=>O q H2 019 r u (v.mono (s1.trans s2))
theorem qm5{st:Stmt}{c:CS}(h:PX X st (TXm (ex F N c))):PXs X [st] (TXm (exs F N (.cons c .nil))):=λpins s a H D E I hw=>qi9 h pins s a H D E I (by
 obtain⟨ι,S,ρ,d,st,p⟩:=hw;refine⟨ι,S,ρ,d,st,?_⟩;unfold exs at p;cases z:ex F N c ρ S with
 |no=>rw[z]at p;exact p
 |err x S1=>rw[z]at p;cases x <;> exact p
 |ok f S1=>rw[z]at p;cases f <;> exact p)
theorem qm6{C':Addr}{bm':005}{body c:List Stmt}{j:Stmt}{n x:Str}{p L:Pos}{t:List (Addr×Bool)}{cb cs:CSs}(i:Nat)(hm:X.mg x=some (.ref C'))(s:IsExc X.base C' bm')(M:∀C,lookA C t=some true->∃bm,IsExc X.base C bm/\(Value.ref C::bm).contains (.ref C')=true)(hb:PXs X body (TXm (exs F N cb)))(u:∀r l,r.frames=X.A.frames->QSs (inS X r l) (j::c) (TSm (exs F N cs)))(hs:X.stack=X.env::X.outer:=by rfl)(O:X.ex=[]:=by rfl)(P:X.env.frame=some X.env.locals:=by rfl)(hc:017:=by rfl)(Q:nodupB X.N=true:=by rfl)(hi:X.N[i]?=some n:=by rfl)(U:X.env.kindOf n=some .local:=by rfl)(hl:X.env.scope.names.lookup n=some .local:=by rfl)(W:Gl X x:=by rfl)(v:dB x:=by decide):
  QS X (.Try body [.ExceptHandler (some (.Name x p)) (some n) (j::c) L] [] [] pos) (TSm (ex F N (.tryX t i cb cs))):=by
 delta QS;refine PSimp (qlr hs O P hc (zC Q) hi U hl W hm s hb (ts:=TSm (exs F N cs)) (λr l h=>(u r l h).un) v) λD σ H hw=>?_
 obtain⟨ι,S,ρ,K,st,p⟩:=hw;refine⟨ι,S,ρ,K,st,?_⟩;unfold ex at p;cases z:exs F N cb ρ S with
 |no=>rw[z]at p;exact p.elim
 |ok f S1=>rw[z]at p;exact p
 |err y S1 =>
  rw[z]at p;cases y with
  |exc C =>
   dsimp only at p;cases q:lookA C t with
   |none=>rw[q]at p;exact p.elim
   |some b =>
    rw[q]at p;cases b with
    |false=>exact p.elim
    |true =>
     dsimp only at p;intro a d w s1 o ha;obtain⟨bm,Y,Z⟩:=M C q;refine⟨a,C,bm,rfl,rfl,Y,Z,?_⟩;have na:a∉d:=o.fresh ha;have s2:Stp d w d (upd w a (.ext (Errs a C))):=Stp.laid ha _;have B:Sto d (upd w a (.ext (Errs a C))) S1:=o.laid ha _;refine⟨d,S1,ρ.set i (some (.exc C)),((K.mono s1).mono s2).set ⟨a,rfl,na,by simp[upd]⟩,B,?_⟩;have m:=PsF.from p (s1.trans s2);cases z2:exs F N cs (ρ.set i (some (.exc C))) S1 with
     |no=>rw[z2]at m;exact m.elim
     |err=>rw[z2]at m;exact m.elim
     |ok f S2 =>
      rw[z2]at m;cases f with
      |nx ρ1=>exact λE H3 s3 I a0 J=>m E H3 s3 I _ (EnR.un J i)
      |_=>exact m.elim
  |_=>exact p.elim
end
end EX
namespace EX
section
variable{X:Cx}{F:Fs}{N:Nat}{pos:Pos}
theorem qhg{y:V}{c:Value}(d:∀u,RelV y u->u=c):CallR X (.builtin "isinstance") (λxs H Q=>∃a C b,xs=[.ref a,y]/\H a=some (.ext (Errs a C))/\ErrK X.K C/\PySem.W.kitOne X.K (.ref C) c=some b/\Q (.bl b) H):=by
 intro pins s o H xs us Q I r h;obtain⟨a,C,b,rfl,f,i,j,q⟩:=h;obtain⟨u,p,rfl,l,m⟩:=vals2 r;cases l;cases d _ m;obtain⟨n,_⟩:=(show ObjOk X.prog X.w H s.heap a (.ext (Errs a C))from I.hok a _ f);exact vY (qhd i) I.kIn n j (λz=>nomatch z) λtk=>⟨.bl b,H,I.tok _,rfl,q⟩
theorem qj2{a:Expr}{p f:Pos}{c:CE}{t:List (Addr×Bool)}{y:V}{l:Value}{nm:Str}(r:Gl X "isinstance")(hm:X.mg "isinstance"=none)(hn:PE X (.Name nm f) (λ_ H Q=>Q y H))(s:∀u,RelV y u->u=l)(v:∀C b,lookA C t=some b->ErrK X.K C/\PySem.W.kitOne X.K (.ref C) l=some b)(ha:PE X a (T (ev F c)))(m:starEach [a,.Name nm f] X.env=(false,eval a X.env)::starEach [.Name nm f] X.env)(h:starEach [.Name nm f] X.env=(false,eval (.Name nm f) X.env)::starEach [] X.env)(i:(backTo pos (starEach [.Name nm f] X.env)).any (·.1)=false):
  PE X (.Call (.Name "isinstance" p) [a,.Name nm f] [] pos) (T (ev F (.isx t c))):=by
 refine PEimp (qas (qhg s) r hm qcu (yf ha (yf hn jo h) m) 01 01 m i) λw H Q hw=>?_
 have hw:T (λρ S=>(ev F c ρ S).bind λx S1=>ofO ((isxD t x).map .bl) S1) w H Q:=by
  obtain⟨ι,S,ρ,n,st,p⟩:=hw;unfold ev at p;exact⟨ι,S,ρ,n,st,p⟩
 refine TG.b1 hw λι S ρ a b A n st B p=>?_
 obtain⟨d,e,q⟩:=Pst.ofO p st;cases a with
 |exc C =>
  obtain⟨o,z,rfl⟩:=Option.map_eq_some_iff.mp e;obtain⟨E,rfl,_,j⟩:=B;obtain⟨I,J⟩:=v C o z;exact⟨E,C,o,rfl,j,I,J,q _ ι A 019 st rfl⟩
 |_=>cases e
theorem yK(t:List (Addr×Bool)){a:Expr}{i:CE}{p c:Pos}{nm:Str}{C':Addr}(gb:Gb X.mg)(hm:X.mg nm=some (.ref C'))(j:∀C b,lookA C t=some b->ErrK X.K C/\PySem.W.kitOne X.K (.ref C) (.ref C')=some b)(ha:QE X a (T (ev F i)))(l:Gl X "isinstance":=by rfl)(d:Gl X nm:=by rfl)(hd:dB nm:=by decide)(m:starEach [a,.Name nm c] X.env=(false,eval a X.env)::starEach [.Name nm c] X.env:=by rfl)(f:starEach [.Name nm c] X.env=(false,eval (.Name nm c) X.env)::starEach [] X.env:=by rfl)(h:(backTo pos (starEach [.Name nm c] X.env)).any (·.1)=false:=by rfl):
  QE X (.Call (.Name "isinstance" p) [a,.Name nm c] [] pos) (T (ev F (.isx t i))):=by
 delta QE;delta QE at ha;exact qj2 l gb.isinstance (qbz (v:=.ref C') d hm rfl hd) (λu r=>by cases r;rfl) j ha m f h
theorem qlv(t:List (Addr×Bool)){a:Expr}{i:CE}{p c:Pos}{nm:Str}{ty:String}(gb:Gb X.mg)(hm:X.mg nm=none)(j:bootBuiltins nm=some (.type ty))(l:∀C b,lookA C t=some b->ErrK X.K C/\PySem.W.kitOne X.K (.ref C) (.type ty)=some b)(ha:QE X a (T (ev F i)))(m:Gl X "isinstance":=by rfl)(d:Gl X nm:=by rfl)(hn:nm≠"__name__":=by decide)(hd:dB nm:=by decide)(n:starEach [a,.Name nm c] X.env=(false,eval a X.env)::starEach [.Name nm c] X.env:=by rfl)(f:starEach [.Name nm c] X.env=(false,eval (.Name nm c) X.env)::starEach [] X.env:=by rfl)(h:(backTo pos (starEach [.Name nm c] X.env)).any (·.1)=false:=by rfl):
  QE X (.Call (.Name "isinstance" p) [a,.Name nm c] [] pos) (T (ev F (.isx t i))):=by
 delta QE;delta QE at ha;exact qj2 m gb.isinstance (qdY (v:=.ty ty) d hm j rfl hn hd) (λu r=>by cases r;rfl) l ha n f h
noncomputable def eqT:Value->Bool
 | .bool b=>b == true
 |_=>false
def rIndexT:V->List V->Hp->VK->Prop:=λx vs H Q=>∃(a:Addr) (bs:List Bool),x=.ref a/\vs=[.bl true]/\Rd H a (.l (bs.map V.bl))/\true∈bs/\bs.length<4000/\Q (.int (bs.idxOf true:Nat)) H
theorem bls_are:∀{bs:List Bool} {vs:005},Vals (bs.map V.bl) vs->vs=bs.map Value.bool
 |[],_,r=>by cases r;rfl
 |b::bs,_,r=>by cases r with|cons a c=>cases a;rw[bls_are c];rfl
theorem qfB:MtM X "list.index" rIndexT:=by
 intro pins s E H x vs v us Q I l m h;obtain⟨a,bs,rfl,rfl,o,hb,d,q⟩:=h;cases l;obtain⟨u,rfl,w⟩:=m.one;cases w;obtain⟨A,r,hl,_⟩:=jU I o;cases bls_are r;obtain⟨⟨cls,dd,data,sl⟩,f,hc,n,hd⟩:=id hl;simp only at hc hd;subst hc hd;have B:bs.idxOf true<bs.length:=List.idxOf_lt_length_iff.mpr hb;refine uJ PySem.F.slot_list_index ⟨_,f,rfl⟩ PySem.F.entry_list_index (PySem.F.args_list_index_2 _ _)
  (list_indexAt a (bs.map Value.bool).toArray n dd sl (.bool true) eqT (bs.idxOf true) (by simpa using B) 00 ?_ ?_) ⟨f,λy i=>?_,?_⟩
 .rw [xr,xa,List.getElem_idxOf];rfl
 .intro j C c
  rw[xr,xa];show(bs[j] == true)=false;exact List.not_of_lt_findIdx (xs:=bs) (p:=(· == true)) c
 .rw [List.mem_toArray,w8]at i
  obtain⟨b,_,rfl⟩:=i;exact EqAt.bool_bool _ _
 .exact ⟨.int (bs.idxOf true:Nat),H,I.tok _,⟨_,rfl⟩,q⟩
theorem bools_dens{ι:03}{H:Hp}:∀{l:04} {bs:List Bool} {xs:List V},boolsOf l=some bs->Dens ι H l xs->xs=bs.map V.bl
 |[],bs,xs,h,hd=>by cases h;exact hd
 | .bl c::l,bs,xs,h,hd=>by
  obtain⟨x,t,rfl,a,d⟩:=hd;cases (show x=_ from a);simp only[boolsOf]at h;cases z:boolsOf l with
  |none=>rw[z]at h;cases h
  |some b2=>rw[z]at h;cases h;rw[bools_dens z d];rfl
 | .non::_,_,_,h,_=>by cases h
 | .int _::_,_,_,h,_=>by cases h
 | .str _::_,_,_,h,_=>by cases h
 | .t _::_,_,_,h,_=>by cases h
 | .l _::_,_,_,h,_=>by cases h
 | .emp::_,_,_,h,_=>by cases h
 | .ref _::_,_,_,h,_=>by cases h
 | .exc _::_,_,_,h,_=>by cases h
theorem qm7{o:Expr}{co:CE}{f m:Pos}{j}(s:QE X o (T (ev F co)))(n:starEach [.Constant (.bool true) j m] X.env=(false,eval (.Constant (.bool true) j m) X.env)::starEach [] X.env:=by rfl)(h:attributeBase o "index" X.env (eval o X.env)=eval o X.env:=by rfl)(i:(f.endLine == pos.line)=true:=by rfl)(r:((backTo pos (starEach [.Constant (.bool true) j m] X.env)).all (λx=>!x.1)&&(backToKw pos (keywordEach [] X.env)).all (λx=>x.1.isSome)&&decide ([Expr.Constant (.bool true) j m].length+([]:List Keyword).length+(if([]:List Keyword).isEmpty then 0 else 1)<30))=true:=by rfl)(c:(backTo pos (starEach [] X.env)).any (·.1)=false:=by rfl):
  QE X (.Call (.Attribute o "index" f) [.Constant (.bool true) j m] [] pos) (T (ev F (.ixT co))):=by
 delta QE;delta QE at s;refine PEimp (qf7 xU PySem.F.slot_list_index PySem.F.type_list_index qfB s (yf qfO jo n) h r i n c) λw H Q hw=>?_
 have hw:T (λρ S=>(ev F co ρ S).bind λx S1=>ofO (ixtD S1 x) S1) w H Q:=by
  obtain⟨ι,S,ρ,u,st,p⟩:=hw;unfold ev at p;exact⟨ι,S,ρ,u,st,p⟩
 refine TG.b1 hw λι S ρ x v y u st A p=>?_
 obtain⟨d,e,q⟩:=Pst.ofO p st;unfold ixtD at e;cases z:lstOf S x with
 |none=>rw[z]at e;cases e
 |some l =>
  rw[z,wX]at e;cases z2:boolsOf l with
  |none=>rw[z2]at e;cases e
  |some bs =>
   rw[z2,wX]at e;by_cases hb:true∈bs/\bs.length<4000
   .rw [wN hb]at e
    cases e;obtain⟨a,xs,rfl,hs,B⟩:=qT st z A;cases bools_dens z2 B;exact⟨.inl ⟨rfl,_,.inl hs⟩,⟨a,bs,rfl,rfl,hs,hb.1,hb.2,q _ ι y 019 st rfl⟩⟩
   .rw [wT hb]at e;cases e
end
end EX
end R
namespace R
open PySem PySem.Spec L2 SeqAt
open PyProof.Rows hiding St
open PySem.W (Frag excIn tailIn nsOkIn nsIn)
open EX
section
variable{X:Cx}{F:Fs}{N:Nat}{pos:Pos}
theorem qbV{st:Stmt}{C:Addr}:QS X st (TSm (ex F N (.raise C))):=by
 delta QS;exact PSimp qfS λD a H hw=>let ⟨_,_,_,_,_,p⟩:=hw;p
theorem qbr{st:Stmt}{c:CS}(h:QS X st (TSm (ex F N c))):QS X st (TSm (ex F N (.cal c))):=by
 delta QS;delta QS at h;refine PSimp h λD d H hw=>?_
 obtain⟨ι,S,ρ,a,st,p⟩:=hw;unfold ex at p;refine⟨ι,S,ρ,a,st,?_⟩;cases z:ex F N c ρ S with
 |ok f S1=>rw[z]at p;exact p
 |err x S1=>rw[z]at p;exact p.elim
 |no=>rw[z]at p;exact p.elim
theorem qhh{e:Expr}{c:CB}(h:QT X e (TB (tst F c))):QT X e (TB (tst F (.cal c))):=by
 delta QT;delta QT at h;refine PTimp h λd H Q hw=>?_
 obtain⟨ι,S,ρ,a,st,p⟩:=hw;unfold tst at p;refine⟨ι,S,ρ,a,st,?_⟩;cases z:tst F c ρ S with
 |ok f S1=>rw[z]at p;exact p
 |err x S1=>rw[z]at p;exact p.elim
 |no=>rw[z]at p;exact p.elim
theorem js:∀(ρ:En) (S:Sr),noE (evs F .nil ρ S)=evs F .nil ρ S:=λ_ _=>rfl
theorem zR{i:Nat}{cs:CEs}(h:∀ρ S,noE (evs F cs ρ S)=evs F cs ρ S):∀ρ S,noE (evs F (.c (.v i) cs) ρ S)=evs F (.c (.v i) cs) ρ S:=by
 intro ρ S;unfold evs ev varE;have:=h ρ S;split
 .rw [Res.bind_ok]
  cases z:evs F cs ρ S with
  |ok l S1=>rfl
  |err x S1=>rw[z]at this;cases this
  |no=>rfl
 .rfl
variable{p:Pos}{e:Expr}{es:List Expr}{cs:CEs}
end
def zJ{Q:Addr->Bool->Prop}:∀C b,lookA C []=some b->Q C b:=λ_ _ h=>by cases h
def qC{Q:Addr->Bool->Prop}{c:Addr}{b:Bool}{r:List (Addr×Bool)}(h:Q c b)(d:∀C b,lookA C r=some b->Q C b):∀C a,lookA C ((c,b)::r)=some a->Q C a:=λC a q=>by
 unfold lookA at q;split at q
 .rename_i z;cases q;subst z;exact h
 .exact d C a q
def qm8{Q:Addr->Prop}{r:List (Addr×Bool)}(h:∀C b,lookA C r=some b->b=true->Q C):∀C,lookA C r=some true->Q C:=λC q=>h C true q rfl
def qlw{K:Frag}{h:Heap}{mg:025}(X:K.In h)(G:h.Ns mainGlobals mg){x:Str}{v u:Value}(a:nsIn K mainGlobals x=some (some v))(e:v=u):mg x=some u:=e ▸ xT X G a
def qdA{K:Frag}{h:Heap}{mg:025}{x:Str}{C:Addr}{c:005}{a:String}(X:K.In h)(hm:mg x=some (.ref C))(q:excIn K C c a=true):OwnCls x C c a mg h:=⟨hm,by
 revert q;unfold excIn;intro q;split at q
 .rename_i y l sl m
  split at q
  .rename_i D bm n o p r nn s f es
   cases l with|mk nm bs u ns A hd sn sub ab col v=>?_
   simp only[wS,uC,ub]at q;have e2:sl=#[n,o,p,r,some (.builtin nn),s]:=by cases sl;exact congrArg _ es
   have q1:=q.1.1.1.1.1;have q2:=q.1.1.1.1.2;have i:=q.1.1.1.2;have w:=q.1.1.2;have d:=q.1.2;have j:=q.2;dsimp only at f i d j;subst q1 q2 i f e2;exact⟨_,_,_,_,_,_,_,_,_,_,_,_,_,_,_,_,_,X _ _ m,.of_isNs (PySem.W.isNs_of_in X d),PySem.W.nsMap_none_of_in X d j,PySem.W.tail_of_in X w⟩
  .cases q
 .cases q⟩
end R
namespace R
open PySem PySem.Spec L2 SeqAt
open PyProof.Rows hiding St
namespace EX
section
variable{X:Cx}{F:Fs}{N:Nat}{pos:Pos}
def rCountT:V->List V->Hp->VK->Prop:=λx vs H Q=>∃(a:Addr) (bs:List Bool),x=.ref a/\vs=[.bl true]/\Rd H a (.l (bs.map V.bl))/\Q (.int (bs.count true:Nat)) H
theorem qdB(bs:List Bool):(bs.map Value.bool).countP eqT=bs.count true:=by
 rw[List.countP_map];rfl
theorem qfC:MtM X "list.count" rCountT:=by
 intro pins s o H x vs v us Q I f i h;obtain⟨a,bs,rfl,rfl,j,q⟩:=h;cases f;obtain⟨u,rfl,l⟩:=i.one;cases l;obtain⟨m,r,hl,_⟩:=jU I j;cases bls_are r;obtain⟨⟨cls,dd,data,sl⟩,c,hc,n,hd⟩:=id hl;simp only at hc hd;subst hc hd;refine uJ PySem.F.slot_list_count ⟨_,c,rfl⟩ PySem.F.entry_list_count (PySem.F.args_list_count_2 _ _) (list_countAt a (bs.map Value.bool).toArray n dd sl (.bool true) eqT) ⟨c,λy d=>?_,?_⟩
 .rw [List.mem_toArray,w8]at d
  obtain⟨b,_,rfl⟩:=d;exact EqAt.bool_bool _ _
 .rw [show(bs.map Value.bool).toArray.toList=bs.map Value.bool from rfl,qdB]
  exact⟨.int (bs.count true:Nat),H,I.tok _,⟨_,rfl⟩,q⟩
theorem qlx{o:Expr}{co:CE}{f m:Pos}{j}(s:QE X o (T (ev F co)))(n:starEach [.Constant (.bool true) j m] X.env=(false,eval (.Constant (.bool true) j m) X.env)::starEach [] X.env:=by rfl)(h:attributeBase o "count" X.env (eval o X.env)=eval o X.env:=by rfl)(i:(f.endLine == pos.line)=true:=by rfl)(r:((backTo pos (starEach [.Constant (.bool true) j m] X.env)).all (λx=>!x.1)&&(backToKw pos (keywordEach [] X.env)).all (λx=>x.1.isSome)&&decide ([Expr.Constant (.bool true) j m].length+([]:List Keyword).length+(if([]:List Keyword).isEmpty then 0 else 1)<30))=true:=by rfl)(c:(backTo pos (starEach [] X.env)).any (·.1)=false:=by rfl):
  QE X (.Call (.Attribute o "count" f) [.Constant (.bool true) j m] [] pos) (T (ev F (.blt .sumB (.cons co .nil)))):=by
 delta QE;delta QE at s;refine PEimp (qf7 xU PySem.F.slot_list_count PySem.F.type_list_count qfC s (yf qfO jo n) h r i n c) λw H Q hw=>?_
 have hw:T (λρ S=>(ev F co ρ S).bind λx S1=>bSumB x S1) w H Q:=by
  obtain⟨ι,S,ρ,u,st,p⟩:=hw;refine⟨ι,S,ρ,u,st,?_⟩;show Pst Den ((ev F co ρ S).bind λx S1=>bSumB x S1) ι H Q;cases z:ev F co ρ S with
  |ok x S1=>simp only[ev,evs,z,Res.bind,bltD,one]at p;exact p
  |err x S1=>simp only[ev,evs,z,Res.bind]at p;exact p.elim
  |no=>simp only[ev,evs,z,Res.bind]at p;exact p.elim
 refine TG.b1 hw λι S ρ x v y u st A p=>?_
 obtain⟨d,e,q⟩:=Pst.ofO p st;cases z:lstOf S x with
 |none=>rw[z]at e;cases e
 |some l =>
  rw[z]at e;cases z2:boolsOf l with
  |none=>rw[wX,z2]at e;cases e
  |some bs =>
   rw[wX,z2]at e;cases e;obtain⟨a,xs,rfl,hs,B⟩:=qT st z A;cases bools_dens z2 B;exact⟨.inl ⟨rfl,_,.inl hs⟩,⟨a,bs,rfl,rfl,hs,q _ ι y 019 st rfl⟩⟩
end
end EX
namespace EX
def TR(m:007)(E:XK):St->Hp->Prop:=λa H=>TGX Den m E a H λ_ _=>False
def PsX.mono{d f:Type}{R:List Addr->Hp->d->f->Prop}{r:Res d}{ι:03}{H:Hp}{Q Q':f->Hp->Prop}{E:XK}(h:PsX R r ι H Q E)(k:∀b H,Q b H->Q' b H):PsX R r ι H Q' E:=by
 cases r with
 |ok a S=>exact λb c H2 t st q=>k _ _ (h b c H2 t st q)
 |err x S =>
  cases x with
  |exc C=>exact h
  |_=>exact h
 |no=>exact h
def TR.up{m:007}{E:XK}{a:St}{H:Hp}(h:TR m E a H)(Q:V->Hp->Prop):TGX Den m E a H Q:=by
 obtain⟨ι,S,ρ,c,st,p⟩:=h;exact⟨ι,S,ρ,c,st,PsX.mono p λ_ _ z=>z.elim⟩
section
variable{X:Cx}{F:Fs}{N:Nat}{pos:Pos}{E:XK}{m:En->Sr->Res D}
theorem q_of{e:Expr}(h:PE X e (TGX Den m E)):PE X e (λa H _=>TR m E a H):=PEimp h λa H Q hw=>TR.up hw Q
theorem qak{e:Expr}{es:010}(h:PE X e (λa H _=>TR m E a H))(hs:sE X e es:=by rfl):PA X (e::es) (λa H _=>TR m E a H):=by
 intro pos pins s a H Q I hw;rw[hs];show wpAny _ _ (spliced ((false,eval e X.env)::backTo pos (starEach es X.env))) _ _ s;exact uM (wt (h pins s a H (λ_ _=>False) I hw) (λu s1 ⟨x,c,d,f,q1⟩=>q1.elim) λ_ _ z=>z)
theorem qhi{x:Str}{ty:String}{e:Expr}{es:010}{p:Pos}(hm:X.mg x=none)(f:bootBuiltins x=some (.type ty))(ha:PA X (e::es) (λa H _=>TR m E a H))(h:Gl X x:=by rfl)(hn:x≠"__name__":=by decide)(c:dB x:=by decide)(i:sE X e es:=by rfl)(d:bT X es pos:=by rfl):PE X (.Call (.Name x p) (e::es) [] pos) (λa H _=>TR m E a H) :=
 PEimp (qbf (r:=λ_ _ _=>False) (λ_ _ _ _ _ _ _ _ _ hw=>hw.elim) h hm f ha hn c i d) λa H Q hw=>hw
theorem qm9{k i:Nat}{x:Str}{ps:014}{e:Expr}{es:010}{p:Pos}(h:FnAt X.prog X.w X.K X.mg X.base k F i x ps)(j:Room k X.A)(ha:PA X (e::es) (λa H _=>TR m E a H))(l:Gl X x:=by rfl)(c:dB x:=by decide)(n:sE X e es:=by rfl)(d:bT X es pos:=by rfl):PE X (.Call (.Name x p) (e::es) [] pos) (λa H _=>TR m E a H):=by
 obtain⟨f,fd,hm,o,hb,q⟩:=h;exact PEimp (qbA (E:=E) q j l hm o hb (dvs:=[]) .nil pass0 ha c n d) λa H Q hw=>hw
theorem qna{tg elt iter:Expr}{ifs:010}{sc:Scope}{fr:List Nat}{xs ts:014}(h:PE X iter (λc H _=>TR m E c H))(a:X.A.depth<recursionLimit)(hs:∀x,genFold iter X.env x=pure x:=by intro _;rfl)(f:050:=by rfl)(i:sc.names.lookup (".0":Str)=some NameKind.local:=by rfl)(d:sc.isCoroutine=false:=by rfl):PE X (.GeneratorExp elt [⟨tg,iter,ifs,0⟩] sc pos) (λc H _=>TR m E c H):=by
 intro pins s c H Q I hw;have C':CSc X sc fr xs ts:=yX f;obtain⟨cl,j⟩:=qaj (X:=X) (sc:=sc) λx l n=>I.ok.has x.1 (C'.frees x l n)
 refine wpAny_GeneratorExp_make d j.eq C'.nocell i C'.kind a ?_ hs;exact wt (h pins s c H (λ_ _=>False) I hw) (λu s1 ⟨x,o,p,q,q1⟩=>q1.elim) λ_ _ z=>z
theorem qj3{e:Expr}(h:PE X e (λa H _=>TR m E a H)):PS X (.Return (some e) pos) (λ_ a H=>TR m E a H):=PSimp (qfR h) λD a H hw=>hw
theorem qj4{st:Stmt}{c:CE}{s:CS}(h:QS X.nox st (TSm (ex F N s)))(j:PS X st (λ_ a H=>TR (ev F c) E a H)):PS X st (TSX (ex F N (.grd c s)) E):=by
 delta QS at h;intro pins f a H D I hw;obtain⟨ι,S,ρ,i,st,p⟩:=hw;unfold ex at p;cases z:ev F c ρ S with
 |ok d S1 =>
  rw[z]at p;exact PSnox h pins f a H D I ⟨ι,S,ρ,i,st,PsFX.ok p⟩
 |err x S1 =>
  rw[z]at p;refine j pins f a H D I ⟨ι,S,ρ,i,st,?_⟩;rw[z];cases x with
  |exc C=>exact p
  |_=>exact p.elim
 |no=>rw[z]at p;exact p.elim
theorem qj5{st:Stmt}{c:CE}{s:CS}(h:QS X st (TSm (ex F N s))):QS X st (TSm (ex F N (.grd c s))):=by
 delta QS;delta QS at h;refine PSimp h λD i H hw=>?_
 obtain⟨ι,S,ρ,a,st,p⟩:=hw;unfold ex at p;refine⟨ι,S,ρ,a,st,?_⟩;cases z:ev F c ρ S with
 |ok d S1 =>
  rw[z]at p;cases z2:ex F N s ρ S with
  |ok f S2=>rw[z2]at p;exact p
  |err x S2=>rw[z2]at p;exact p.elim
  |no=>rw[z2]at p;exact p.elim
 |err x S1=>rw[z]at p;exact p.elim
 |no=>rw[z]at p;exact p.elim
end
end EX
namespace EX
def qnb{F:Fs}{i:Nat}{d:D}(ρ:En)(S:Sr):noE (ev F (.idx (.v i) (.k d)) ρ S)=ev F (.idx (.v i) (.k d)) ρ S:=by
 simp only[ev,varE];cases ρ[i]? with
 |none=>rfl
 |some o =>
  cases o with
  |none=>rfl
  |some x =>
   simp only[Res.bind];cases idxD S x d <;> rfl
def PEnox{X:Cx}{e:Expr}{t:TE}(h:PE X.nox e t):PE X e t:=λpins s a H Q I hw=>wt (h pins s a H Q (I.wish _) hw) (λu s1 ⟨v,c,d,r,q⟩=>⟨v,c,d.unwish,r,q⟩) λ_ _ z=>False.elim z
section
variable{X:Cx}{F:Fs}{pos:Pos}{E:XK}{m:En->Sr->Res D}
theorem q_lc{tg elt iter:Expr}{ifs:010}{sc:Scope}(h:PE X iter (λa H _=>TR m E a H)):PE X (.ListComp elt [⟨tg,iter,ifs,0⟩] sc pos) (λa H _=>TR m E a H):=by
 intro pins s a H Q I hw;rw[eval_ListComp];unfold comprehension;exact wA (wt (h pins s a H (λ_ _=>False) I hw) (λu s1 ⟨x,c,d,f,q1⟩=>q1.elim) λ_ _ z=>z)
theorem qhj{e1 e2:Expr}{es:010}{c1 c2:CE}(i:QE X.nox e1 (T (ev F c1)))(c:∀ρ S,noE (ev F c1 ρ S)=ev F c1 ρ S)(l:PA X (e2::es) (λa H _=>TR (ev F c2) E a H))(hs:starEach (e1::e2::es) X.env=(false,eval e1 X.env)::starEach (e2::es) X.env:=by rfl):PA X (e1::e2::es) (λa H _=>TR (ev F (.ife (.val (.isi .tuple c1)) c2 c2)) E a H):=by
 delta QE at i;have d:PE X e1 (T (ev F c1)):=PEnox i;refine PAimp (yf d l hs) λa H Q hw=>?_
 obtain⟨ι,S,ρ,j,st,p⟩:=hw;cases z:ev F c1 ρ S with
 |no=>exfalso;simp only[ev,tst,z,Res.bind]at p;exact p
 |err x S1=>have:=c ρ S;rw[z]at this;cases this
 |ok x S1 =>
  cases z2:isiD S1 .tuple x with
  |none=>exfalso;simp only[ev,tst,z,z2,Res.bind,Option.map_none,ofO]at p;exact p
  |some b =>
   have e:ev F (.ife (.val (.isi .tuple c1)) c2 c2) ρ S=ev F c2 ρ S1:=by
    simp only[ev,tst,z,z2,Res.bind,wn,ofO,truD];cases b <;> rfl
   rw[e]at p;refine⟨ι,S,ρ,j,st,?_⟩;rw[z];exact λv f n s1 h _=>⟨f,S1,ρ,j.mono s1,h,PsX.from p s1⟩
end
end EX
end R
namespace RP
open R
def c_0:CF:=⟨1,1,false,.c (.ret (.and (.isi .int 02) (.not (.isi .bool 02)))) .nil⟩
def c_1:CF:=⟨3,3,false,.c (.ret (.and (.call 0 (.c 02 .n)) (.chain .le .le 06 02 002))) .nil⟩
def c_2:CF:=⟨2,2,false,.c (.whileS (.val 06) (.c (.set (.t 035) (.t (.c 06 (.c (.bin .mod 02 06) .n)))) .n)) (.c (.ret 02) .n)⟩
def c_3:CF:=⟨2,3,false,.c (.set 002 (.call 2 (.c (.blt .abs (.c 02 .n)) 027))) (.c (.ret (.t (.c (.bin .fdiv 02 002) (.c (.bin .fdiv 06 002) .n)))) .n)⟩
def c_4:CF:=⟨1,3,false,.c (.ifs (.or (.not (.val (.isi .tuple 02))) (.val (.cmp .ne 039 (.k (.int 2))))) (.c 041 .n) .n) (.c (.set (.t 034) 02) (.c (.ifs (.or (.not (.val (.call 0 027))) (.or (.not (.val (.call 0 032))) (.val (.cmp .lt 002 05)))) (.c 041 .n) .n) (.c (.ret (.cmp .eq (.call 2 (.c (.blt .abs 027) 032)) 05)) .n)))⟩
def c_5:CF:=⟨1,1,false,.c (.ret (.and (.call 4 (.c 02 .n)) (.cmp .ge (.idx 02 003) 003))) .nil⟩
def c_6:CF:=⟨1,1,false,.c (.ret (.and (.call 5 (.c 02 .n)) (.cmp .gt (.idx 02 003) 003))) .nil⟩
def c_7:CF:=⟨1,4,false,.c (.set (.t 034) 049) (.c (.forX 000 02 (.c (.set (.t 034) (.call 3 (.c (.bin .add (.bin .mul 06 (.idx 000 05)) (.bin .mul (.idx 000 003) 002)) (.c (.bin .mul 002 (.idx 000 05)) .n)))) .n)) (.c (.ret (.t 034)) .n))⟩
def c_8:CF:=⟨2,2,false,.c (.ret (.call 3 (.c (.idx 02 003) (.c (.bin .mul (.idx 02 05) 06) .n)))) .nil⟩
def c_9:CF:=⟨2,2,false,.c (.ret (.call 3 (.c (.bin .sub (.bin .mul (.idx 02 003) (.idx 06 05)) (.bin .mul (.idx 06 003) (.idx 02 05))) (.c (.bin .mul (.idx 02 05) (.idx 06 05)) .n)))) .nil⟩
def c_10:CF:=⟨2,2,false,.c (.ret (.call 3 (.c (.bin .mul (.idx 02 003) (.idx 06 003)) (.c (.bin .mul (.idx 02 05) (.idx 06 05)) .n)))) .nil⟩
def c_11:CF:=⟨1,3,false,.c (.ifs (.or (.not (.val (.isi .tuple 02))) (.val (.cmp .ne 039 (.k (.int 2))))) (.c 041 .n) .n) (.c (.set (.t 034) 02) (.c (.ret (.and (.call 12 027) (.call 13 (.c 002 (.c (.blt .len 027) .n))))) .n))⟩
def c_12:CF:=⟨1,1,false,.c (.ifs (.or (.not (.val (.isi .tuple 02))) (.not (.val (.chain .le .le 05 039 (.k (.int 12)))))) (.c 041 .n) .n) (.c (.ret (.gen .all [] 1 (.call 1 (.c 02 (.c 05 (.c (.k (.int 100)) .n)))) 02 (.seq 02) .n)) .n)⟩
def c_13:CF:=⟨2,2,false,.c (.ifs (.or (.not (.val (.isi .tuple 02))) (.val (.cmp .gt 039 (.k (.int 30))))) (.c 041 .n) .n) (.c (.ifs (.not (.val (.gen .all [1] 1 (.call 14 (.c 06 (.c 02 .n))) 06 (.seq 02) .n))) (.c 041 .n) .n) (.c (.ret (.call 17 (.c (.lc false [] 2 02 (.t 035) (.seq 02) .n) .n))) .n))⟩
def c_14:CF:=⟨2,4,false,.c (.ifs (.or (.not (.val (.isi .tuple 02))) (.val (.cmp .ne 039 (.k (.int 2))))) (.c 041 .n) .n) (.c (.set (.t (.c 002 (.c 000 .n))) 02) (.c (.ret (.and (.call 15 (.c 002 027)) (.call 1 (.c 000 (.c 05 (.c (.k (.int 1000000)) .n)))))) .n))⟩
def c_15:CF:=⟨2,2,false,.c (.ret (.and (.call 16 035) (.cmp .le 039 (.k (.int 4))))) .nil⟩
def c_16:CF:=⟨2,2,false,.c (.ifs (.or (.not (.val (.isi .tuple 02))) (.not (.val 02))) (.c 041 .n) .n) (.c (.ret (.and (.gen .all [1] 1 (.call 1 (.c 06 (.c 003 (.c (.bin .sub 02 05) .n)))) 06 (.seq 02) .n) (.call 17 (.c 02 .n)))) .n)⟩
def c_17:CF:=⟨1,1,false,.c (.ret (.gen .all [] 2 (.cmp .lt 02 06) (.t 035) (.zip 02 (.slc 02 (.some 05) .none)) .n)) .nil⟩
def c_18:CF:=⟨1,1,false,.c (.ifs (.cal (.not (.val (.call 11 (.c 02 .n))))) (.c (.raise 37) .n) .n) .nil⟩
def c_19:CF:=⟨2,3,false,.c (.expr (.call 18 (.c 02 .n))) (.c (.cal (.set 002 (.idx 02 05))) (.c (.ifs (.cal (.or (.not (.val (.isi .tuple 06))) (.val (.cmp .ne (.blt .len 027) (.blt .len 032))))) (.c (.cal 041) .n) .n) (.c (.cal (.ret (.gen .all [] 2 (.call 20 035) (.t 035) (.zip 002 06) .n))) .n)))⟩
def c_20:CF:=⟨2,4,false,.c (.set (.t (.c 002 (.c 000 .n))) 02) (.c (.ifs (.or (.not (.val (.isi .tuple 06))) (.val (.cmp .ne (.blt .len 027) (.blt .len 032)))) (.c 041 .n) .n) (.c (.ret (.and (.gen .all [] 1 (.call 5 (.c 02 .n)) 02 (.seq 06) .n) (.cmp .eq (.call 7 027) (.t (.c 000 (.c 05 .n)))))) .n))⟩
def c_21:CF:=⟨2,2,false,.c (.ifs (.not (.val (.call 19 035))) (.c (.raise 61) .n) .n) .nil⟩
def c_22:CF:=⟨2,8,false,.c (.expr (.call 21 035)) (.c (.cal (.set 002 (.lls (.idx 02 003)))) (.c (.cal (.forS (.t (.c (.t (.c 000 (.c (.v 4) .n))) (.c (.v 5) .n))) (.zip (.idx 02 05) 06) (.c (.forS (.t (.c (.v 6) (.c (.v 7) .n))) (.zip 000 (.v 5)) (.c (.expr (.app (.idx 002 (.v 6)) (.v 7))) .n)) .n))) (.c (.cal (.ret (.genX .tuple [] 1 (.call 7 (.c 02 .n)) 02 002 .n))) .n)))⟩
def c_23:CF:=⟨2,2,false,.c (.grd (.call 22 035) (.ret (.gen .tuple [] 2 (.call 8 035) (.t 035) (.zip (.call 22 035) (.idx 02 003)) .n))) .nil⟩
def c_24:CF:=⟨1,1,false,.c (.ifs (.or (.not (.val (.isi .tuple 02))) (.not (.val (.chain .le .le 05 039 (.k (.int 6)))))) (.c 041 .n) .n) (.c (.ret (.gen .all [] 1 (.call 25 (.c 02 .n)) 02 (.seq 02) .n)) .n)⟩
def c_25:CF:=⟨1,4,false,.c (.ifs (.or (.not (.val (.isi .tuple 02))) (.val (.cmp .ne 039 (.k (.int 3))))) (.c 041 .n) .n) (.c (.set (.t (.c 06 (.c 002 (.c 000 .n)))) 02) (.c (.ifs (.or (.not (.val (.isi .str 06))) (.val (.cmp .nin 06 (.t (.c (.k (.str 047)) (.c (.k (.str (PySem.Str.ofString "below"))) .n)))))) (.c 041 .n) .n) (.c (.ret (.and (.call 5 032) (.call 6 (.c 000 .n)))) .n)))⟩
def c_26:CF:=⟨3,3,false,.c (.expr (.call 18 027)) (.c (.ifs (.cal (.not (.val (.call 24 (.c 02 .n))))) (.c (.raise 73) .n) .n) (.c (.grd (.ife (.val (.isi .tuple (.idx 06 003))) (.call 23 034) (.call 23 034)) (.ret (.call 7 (.c (.lc false [0] 2 (.call 27 (.c 02 034)) (.t 034) (.zip (.idx 06 003) (.call 23 034)) .n) .n)))) .n))⟩
def c_27:CF:=⟨3,3,false,.c (.ret (.call 10 (.c (.t (.c 06 (.c 05 .n))) (.c (.call 7 (.c (.lc false [2] 1 (.call 28 (.c 06 (.c 02 .n))) 06 (.seq 02) .n) .n)) .n)))) .nil⟩
def c_28:CF:=⟨2,6,false,.c (.set (.t (.c 002 (.c 000 (.c (.v 4) .n)))) 02) (.c (.set (.v 5) (.ife (.val (.cmp .eq 002 (.k (.str 047)))) (.call 9 (.c 06 (.c 000 .n))) (.call 9 (.c 000 027)))) (.c (.ret (.ife (.val (.call 6 (.c (.v 5) .n))) (.call 10 (.c (.v 4) (.c (.v 5) .n))) 049)) .n))⟩
def c_29:CF:=⟨1,1,false,.c (.ret (.bin .mod (.bin .mul (.bin .mod 02 (.bin .pow (.k (.int 10)) (.k (.int 60)))) (.k (.int 845098040014256830712216258592636193483572396323965406503637))) (.bin .pow (.k (.int 10)) (.k (.int 60))))) .nil⟩
def c_30:CF:=⟨2,5,true,.c (.set 002 003) (.c (.forS 000 (.seq (.l false (.c (.bin .add 06 05) 027))) (.c (.set (.v 4) (.idx (.bin .add (.slc 02 (.some 000) (.some (.bin .add 000 05))) (.l false (.c (.bin .add (.bin .add (.bin .mul (.k (.int 5701)) 000) (.k (.int 43))) (.bin .mul (.k (.int 7)) (.idx (.bin .add 02 (.l false (.c 003 .n))) 003))) .n))) 003)) (.c (.set 002 (.bin .add (.bin .mul 002 (.bin .pow (.k (.int 10)) (.k (.int 60)))) (.call 29 (.c (.v 4) .n)))) .n))) (.c (.ret (.l true 032)) .n))⟩
def c_31:CF:=⟨2,3,false,.c (.set (.t (.c (.sub 02 003) 032)) (.blt .divmod (.c (.idx 02 003) 027))) (.c (.ret 002) .n)⟩
def c_32:CF:=⟨2,4,false,.c (.set (.t (.c 002 (.c 000 .n))) (.t (.c (.blt .abs (.c 02 .n)) (.c (.blt .abs 027) .n)))) (.c (.whileS (.val (.cmp .ne 000 003)) (.c (.set (.t (.c 002 (.c 000 .n))) (.t (.c 000 (.c (.bin .mod 002 000) .n)))) .n)) (.c (.ifs (.val (.cmp .lt 06 003)) (.c (.set 002 (.bin .sub 003 002)) .n) .n) (.c (.ret (.t (.c (.bin .fdiv 02 002) (.c (.bin .fdiv 06 002) .n)))) .n)))⟩
def c_33:CF:=⟨2,2,false,.c (.ret (.call 32 (.c (.bin .add (.bin .mul (.idx 02 003) (.idx 06 05)) (.bin .mul (.idx 06 003) (.idx 02 05))) (.c (.bin .mul (.idx 02 05) (.idx 06 05)) .n)))) .nil⟩
def c_34:CF:=⟨2,2,false,.c (.ret (.call 32 (.c (.bin .sub (.bin .mul (.idx 02 003) (.idx 06 05)) (.bin .mul (.idx 06 003) (.idx 02 05))) (.c (.bin .mul (.idx 02 05) (.idx 06 05)) .n)))) .nil⟩
def c_35:CF:=⟨2,2,false,.c (.ret (.call 32 (.c (.bin .mul (.idx 02 003) (.idx 06 003)) (.c (.bin .mul (.idx 02 05) (.idx 06 05)) .n)))) .nil⟩
def c_36:CF:=⟨2,5,false,.c (.set 002 (.idx (.l false (.c (.k (.int 2)) (.c (.k (.int 2)) (.c (.k (.int 2)) (.c (.k (.int 3)) (.c (.k (.int 3)) (.c 05 (.c (.k (.int 4)) (.c (.k (.int 2)) .n))))))))) (.call 31 (.c 02 (.c (.k (.int 8)) .n))))) (.c (.set 000 (.rng (some true) 027)) (.c (.set (.v 4) (.lc false [3,0] 1 (.popAt 02 (.call 31 (.c 06 (.c 039 .n)))) 002 (.rng (.c (.blt .min2 (.c 002 027)) .n)) .n)) (.c (.ret (.blt .tuple (.c (.blt (.sorted false) (.c (.v 4) .n)) .n))) .n)))⟩
def c_37:CF:=⟨3,8,false,.c (.set 000 (.bin .add 05 (.call 31 035))) (.c (.set (.v 4) (.bin .mul (.l false (.c 05 .n)) 000)) (.c (.ifs (.val (.cmp .eq (.call 31 (.c 02 (.c (.k (.int 3)) .n))) 003)) (.c (.set (.v 4) (.lc false [0] 1 (.bin .add 05 (.call 31 (.c 02 (.c (.k (.int 5)) .n)))) 06 (.rng (.c 000 .n)) .n)) .n) .n) (.c (.set (.v 5) (.dic true)) (.c (.forS (.v 6) (.rng (.c (.call 31 (.c 02 (.c (.bin .add 002 05) .n))) .n)) (.c (.set (.v 7) (.call 36 (.c 02 (.c 000 .n)))) (.c (.set (.sub (.v 5) (.v 7)) (.bin .add 05 (.call 31 (.c 02 (.c (.k (.int 9)) .n))))) .n))) (.c (.ret (.t (.c (.blt .tuple (.c (.v 4) .n)) (.c (.blt .tuple (.c (.lc false [5] 1 (.t (.c 06 (.c (.idx 02 06) .n))) 06 (.seq (.blt (.sorted false) (.c (.v 5) .n))) .n) .n)) .n)))) .n)))))⟩
def c_38:CF:=⟨2,7,false,.c (.set 002 (.l true .nil)) (.c (.forS (.t (.c 000 (.c (.v 4) .n))) (.seq (.idx 06 05)) (.c (.set (.v 5) (.call 31 (.c 02 (.c (.k (.int 3)) .n)))) (.c (.set (.v 6) (.binM .mul (.l false (.c 05 .n)) (.blt .len (.c 000 .n)))) (.c (.ifs (.val (.cmp .eq (.v 5) 003)) (.c (.set (.v 6) (.binM .mul (.l false (.c 003 .n)) (.blt .len (.c 000 .n)))) (.c (.set (.sub (.v 6) (.call 31 (.c 02 (.c (.blt .len (.c 000 .n)) .n)))) 05) .n)) .n) (.c (.ifs (.val (.cmp .eq (.v 5) (.k (.int 2)))) (.c (.set (.v 6) (.lc true [0] 1 (.call 31 (.c 02 (.c (.k (.int 3)) .n))) 06 (.seq 000) .n)) (.c (.set (.sub (.v 6) (.neg 05)) (.bin .add 05 (.idx (.v 6) (.neg 05)))) .n)) .n) (.c (.expr (.app 002 (.blt .tuple (.c (.lcR false [4,6] 1 (.call 32 (.c (.bin .mul 02 002) (.c (.blt .sum 027) .n))) 002 (.v 6) .n) .n)))) .n)))))) (.c (.ret (.blt .tuple 032)) .n))⟩
def c_39:CF:=⟨2,8,false,.c (.set 002 (.binM .mul (.l false (.c 049 .n)) (.blt .len (.c (.idx 02 003) .n)))) (.c (.forS (.t (.c (.t (.c 000 (.c (.v 4) .n))) (.c (.v 5) .n))) (.zip (.idx 02 05) 06) (.c (.forS (.t (.c (.v 6) (.c (.v 7) .n))) (.zip 000 (.v 5)) (.c (.set (.sub 002 (.v 6)) (.call 33 (.c (.idx 002 (.v 6)) (.c (.v 7) .n)))) .n)) .n)) (.c (.ret (.blt .tuple 032)) .n))⟩
def c_40:CF:=⟨2,2,false,.c (.ret (.blt .tuple (.c (.lc false [] 2 (.call 35 (.c 02 (.c (.t (.c 05 027)) .n))) (.t 035) (.zip (.call 39 035) (.idx 02 003)) .n) .n))) .nil⟩
def c_41:CF:=⟨2,6,false,.c (.set 002 (.l true .nil)) (.c (.forS 000 (.rng (.c (.bin .add 05 (.call 31 035)) .n)) (.c (.set (.v 4) (.idx (.l false (.c (.k (.str 047)) (.c (.k (.str (PySem.Str.ofString "below"))) .n))) (.call 31 (.c 02 (.c (.k (.int 2)) .n))))) (.c (.set (.v 5) (.call 32 (.c (.call 31 (.c 02 (.c (.k (.int 13)) .n))) (.c (.idx (.l false (.c 05 (.c 05 (.c (.k (.int 2)) (.c (.k (.int 3)) .n))))) (.call 31 (.c 02 (.c (.k (.int 4)) .n)))) .n)))) (.c (.expr (.app 002 (.t (.c (.v 4) (.c (.v 5) (.c (.call 32 (.c (.bin .add 05 (.call 31 (.c 02 (.c (.k (.int 9)) .n)))) (.c (.bin .add 05 (.call 31 (.c 02 (.c (.k (.int 4)) .n)))) .n))) .n)))))) .n)))) (.c (.ret (.blt .tuple 032)) .n))⟩
def c_42:CF:=⟨3,10,false,.c (.set 000 049) (.c (.forS (.t (.c (.v 4) (.c (.v 5) .n))) (.zip 06 002) (.c (.forS (.t (.c (.v 6) (.c (.v 7) (.c (.v 8) .n)))) (.seq 02) (.c (.set (.v 9) (.call 34 (.c (.v 5) (.c (.v 7) .n)))) (.c (.ifs (.val (.cmp .eq (.v 6) (.k (.str (PySem.Str.ofString "below"))))) (.c (.set (.v 9) (.call 34 (.c (.v 7) (.c (.v 5) .n)))) .n) .n) (.c (.ifs (.val (.cmp .gt (.idx (.v 9) 003) 003)) (.c (.set 000 (.call 33 (.c 000 (.c (.call 35 (.c (.t (.c (.v 4) (.c 05 .n))) (.c (.call 35 (.c (.v 8) (.c (.v 9) .n))) .n))) .n)))) .n) .n) .n)))) .n)) (.c (.ret 000) .n))⟩
def c_43:CF:=⟨1,1,false,.c (.ifs (.or (.not (.val (.isi .tuple 02))) (.val (.cmp .ne 039 (.k (.int 2))))) (.c 041 .n) .n) (.c (.ifs (.or (.not (.val (.blt .all (.c (.lc false [] 1 (.and (.isi .int 02) (.not (.isi .bool 02))) 02 (.seq 02) .n) .n)))) (.val (.cmp .lt (.idx 02 05) 05))) (.c 041 .n) .n) (.c (.ret (.cmp .eq (.call 32 (.c (.idx 02 003) (.c (.idx 02 05) .n))) 02)) .n))⟩
def c_44:CF:=⟨1,3,false,.c (.set 06 (.l false (.c (.isx [(61,false),(73,false),(37,true)] 02) (.c (.isx [(61,false),(73,false),(37,false)] 02) (.c (.isx [(61,true),(73,false),(37,false)] 02) .n))))) (.c (.set 06 (.bin .add 06 (.l false (.c (.isx [(61,false),(73,true),(37,false)] 02) (.c (.isx [(61,false),(73,false),(37,false)] 02) (.c (.isx [(61,false),(73,false),(37,false)] 02) .n)))))) (.c (.set 06 (.bin .add 06 (.l false (.c (.isx [(61,false),(73,false),(37,false)] 02) (.c (.isx [(61,false),(73,false),(37,false)] 02) (.c (.isx [(61,false),(73,false),(37,false)] 02) .n)))))) (.c (.set 06 (.bin .add 06 (.l false (.c (.isx [(61,false),(73,false),(37,false)] 02) (.c (.isx [(61,false),(73,false),(37,false)] 02) (.c (.isx [(61,false),(73,false),(37,false)] 02) .n)))))) (.c (.ifs (.or (.val (.cmp .ne (.blt .sumB 027) 05)) (.not (.val (.isx [(61,true),(73,true),(37,true)] 02)))) (.c (.ret (.k (.str (PySem.Str.ofString "other")))) .n) .n) (.c (.set 002 (.l false (.c (.k (.str (PySem.Str.ofString "web"))) (.c (.k (.str (PySem.Str.ofString "part"))) (.c (.k (.str (PySem.Str.ofString "laying"))) (.c (.k (.str (PySem.Str.ofString "measure"))) (.c (.k (.str (PySem.Str.ofString "road"))) (.c (.k (.str (PySem.Str.ofString "size"))) (.c (.k (.str (PySem.Str.ofString "arrows"))) (.c (.k (.str (PySem.Str.ofString "thread"))) (.c (.k (.str (PySem.Str.ofString "number"))) (.c (.k (.str (PySem.Str.ofString "text"))) (.c (.k (.str (PySem.Str.ofString "call"))) .n))))))))))))) (.c (.ret (.idx (.bin .add 002 (.l false (.c (.k (.str (PySem.Str.ofString "kept"))) .n))) (.ixT 06))) .n))))))⟩
def c_45:CF:=⟨1,4,false,.c (.set (.t 034) 02) (.c (.set 000 (.l false (.c (.k .non) (.c (.k (.int 7)) (.c (.k (.bl true)) (.c (.k (.str (PySem.Str.ofString "web"))) (.c (.t .nil) (.c (.l false .nil) (.c (.dic false) (.c 06 (.c (.t 027) (.c (.blt (.list false) (.c 02 .n)) (.c (.t (.c (.blt (.list false) 027) 032)) (.c (.t (.c 06 (.c (.blt (.list false) 032) .n))) .n)))))))))))))) (.c (.set 000 (.bin .add 000 (.l false (.c (.t (.c (.t .nil) (.c (.t .nil) .n))) (.c (.t (.c (.bin .add (.t (.c 003 .n)) (.slc 06 (.some 05) .none)) 032)) (.c (.t (.c (.bin .add (.slc 06 .none (.some (.neg 05))) (.t (.c (.k (.int 101)) .n))) 032)) (.c (.t (.c (.bin .add (.t (.c (.k (.bl true)) .n)) (.slc 06 (.some 05) .none)) 032)) .n))))))) (.c (.set 000 (.bin .add 000 (.l false (.c (.t (.c 06 (.c (.bin .add 002 (.t (.c (.t (.c (.t (.c (.blt .len 027) .n)) (.c 05 .n))) .n))) .n))) (.c (.t (.c 06 (.c (.bin .add 002 (.t (.c (.t (.c (.t .nil) (.c 05 .n))) .n))) .n))) (.c (.t (.c 06 (.c (.t (.c (.t (.c (.t (.c 003 .n)) (.c 003 .n))) .n)) .n))) .n)))))) (.c (.set 000 (.bin .add 000 (.l false (.c (.t (.c 06 (.c (.t (.c (.t (.c (.t (.c 003 .n)) (.c (.k (.bl true)) .n))) .n)) .n))) (.c (.t (.c 06 (.c (.t (.c (.t (.c (.t (.c 003 (.c 003 .n))) (.c 05 .n))) .n)) .n))) (.c (.t (.c 06 (.c (.t (.c (.t (.c (.t (.c 003 .n)) (.c (.bin .add (.bin .pow (.k (.int 10)) (.k (.int 6))) 05) .n))) .n)) .n))) .n)))))) (.c (.set 000 (.bin .add 000 (.l false (.c (.t (.c 06 (.c (.t (.c (.t (.c (.t (.c 003 .n)) (.c 05 .n))) (.c (.t (.c (.t (.c 003 .n)) (.c (.k (.int 2)) .n))) .n))) .n))) (.c (.t (.c 06 (.c (.t (.c (.t (.c (.l false (.c 003 .n)) (.c 05 .n))) .n)) .n))) (.c (.t (.c (.bin .mul (.t (.c 05 .n)) (.k (.int 13))) (.c (.t .nil) .n))) .n)))))) (.c (.ret (.bin .add 000 (.l false (.c (.t (.c 06 (.c (.t (.c 049 .n)) .n))) (.c (.bin .add 02 (.t (.c (.t .nil) .n))) .n))))) .n))))))⟩
def c_46:CF:=⟨2,5,false,.c (.set 002 (.l false (.c (.k .non) (.c (.k (.int 7)) (.c (.k (.bl true)) (.c (.t .nil) (.c (.l false .nil) (.c (.dic false) (.c (.bin .add 06 (.t (.c (.t .nil) .n))) (.c (.blt (.list false) 027) (.c (.t 027) (.c (.k (.str (PySem.Str.ofString "laying"))) .n)))))))))))) (.c (.ifs (.val (.cmp .eq 06 (.t .nil))) (.c (.ret (.bin .add (.slc 002 .none (.some (.k (.int 3)))) (.slc 002 (.some (.k (.int 4))) .none))) .n) .n) (.c (.set 000 (.idx 06 003)) (.c (.set (.v 4) (.call 32 (.c (.bin .add (.idx (.idx 000 003) 003) (.idx (.idx 000 003) 05)) (.c (.idx (.idx 000 003) 05) .n)))) (.c (.set 002 (.bin .add 002 (.l false (.c (.slc 06 (.some 05) .none) (.c (.bin .add (.t (.c (.blt (.list false) (.c 000 .n)) .n)) (.slc 06 (.some 05) .none)) (.c (.bin .add (.t (.c (.bin .add 000 (.t (.c 049 .n))) .n)) (.slc 06 (.some 05) .none)) .n)))))) (.c (.set 002 (.bin .add 002 (.l false (.c (.bin .add (.t (.c (.slc 000 (.some 05) .none) .n)) (.slc 06 (.some 05) .none)) (.c (.bin .add (.t (.c (.bin .add (.t (.c (.v 4) .n)) (.slc 000 (.some 05) .none)) .n)) (.slc 06 (.some 05) .none)) (.c (.bin .add (.slc 06 .none (.some (.neg 05))) (.t (.c (.k .non) .n))) .n)))))) (.c (.ret (.bin .add 002 (.l false (.c (.bin .add (.slc 06 .none (.some (.neg 05))) (.t (.c (.bin .mul (.t (.c (.t (.c (.neg 05) (.c 05 .n))) .n)) (.blt .len (.c (.idx 06 (.neg 05)) .n))) .n))) (.c (.bin .add (.t (.c (.bin .add (.t (.c (.idx (.idx (.idx 02 05) 003) 05) .n)) (.slc 000 (.some 05) .none)) .n)) (.slc 06 (.some 05) .none)) .n))))) .n))))))⟩
def c_47:CF:=⟨3,5,false,.c (.set 000 (.k .non)) (.c (.tryX [(61,true),(73,true),(37,true)] 4 (.c (.expr (.call 26 (.c 02 034))) .n) (.c (.set 000 (.v 4)) .n)) (.c (.ifs (.val (.cmp .is 000 (.k .non))) (.c (.ret (.k (.str (PySem.Str.ofString "told")))) .n) .n) (.c (.ret (.call 44 (.c 000 .n))) .n)))⟩
def c_48:CF:=⟨4,8,false,.c (.set (.v 4) (.call 46 (.c 002 (.c 000 .n)))) (.c (.set (.v 5) (.l false (.c (.k .non) (.c (.k (.int 7)) (.c (.t .nil) (.c (.l false .nil) (.c (.dic false) (.c (.blt (.list false) 027) (.c (.idx 06 003) (.c (.slc (.bin .mul 06 (.k (.int 7))) .none (.some (.k (.int 7)))) (.c (.t (.c (.t (.c (.k (.str 047)) (.c (.t (.c (.neg 05) (.c (.k (.int 2)) .n))) (.c (.t (.c 05 (.c 05 .n))) .n)))) .n)) .n))))))))))) (.c (.set (.v 5) (.bin .add (.v 5) (.l false (.c (.t (.c (.t (.c (.k (.str (PySem.Str.ofString "below"))) (.c 049 (.c 049 .n)))) .n)) (.c (.t (.c (.t (.c (.k (.str (PySem.Str.ofString "up"))) (.c 049 (.c (.t (.c 05 (.c 05 .n))) .n)))) .n)) (.c (.t (.c (.t (.c (.k (.str 047)) (.c 049 .n))) .n)) .n)))))) (.c (.forS (.v 6) (.seq (.call 45 032)) (.c (.set (.v 7) (.idx (.bin .add (.v 5) (.l false 027)) (.call 31 (.c 02 (.c (.k (.int 13)) .n))))) (.c (.ifs (.val (.cmp .ne (.call 47 (.c (.v 7) (.c (.v 6) (.c (.idx (.bin .add (.v 4) (.l false (.c 000 .n))) (.call 31 (.c 02 (.c (.bin .add (.blt .len (.c (.v 4) .n)) 05) .n)))) .n)))) (.k (.str (PySem.Str.ofString "web"))))) (.c 041 .n) .n) .n))) (.c (.forS (.v 6) (.seq (.v 5)) (.c (.ifs (.val (.cmp .ne (.call 47 (.c (.v 6) (.c 002 (.c (.idx (.bin .add (.v 4) (.l false (.c 000 .n))) (.call 31 (.c 02 (.c (.bin .add (.blt .len (.c (.v 4) .n)) 05) .n)))) .n)))) (.k (.str (PySem.Str.ofString "measure"))))) (.c 041 .n) .n) .n)) (.c (.ret (.blt .all (.c (.lc false [1,2] 1 (.cmp .eq (.call 47 (.c 02 034)) (.k (.str (PySem.Str.ofString "laying")))) 002 (.seq (.v 4)) .n) .n))) .n)))))⟩
def c_49:CF:=⟨2,3,false,.c (.set 002 (.blt .tuple (.c (.lc false [0] 1 (.bin .add 05 (.call 31 (.c 02 (.c (.k (.int 100)) .n)))) 06 (.seq (.idx 06 003)) .n) .n))) (.c (.ret (.t (.c 002 (.c (.blt .tuple (.c (.lc false [0] 2 (.t (.c 06 (.c (.bin .add 05 (.call 31 (.c 02 (.c (.bin .pow (.k (.int 10)) (.k (.int 6))) .n)))) .n))) (.t 034) (.seq (.idx 06 05)) .n) .n)) .n)))) .n)⟩
def c_50:CF:=⟨2,7,false,.c (.set 002 (.l true .nil)) (.c (.forS (.t (.c 000 (.c (.v 4) .n))) (.seq (.idx 06 05)) (.c (.set (.v 5) (.binM .mul (.l false (.c 049 .n)) (.blt .len (.c 000 .n)))) (.c (.ifs (.val (.cmp .gt (.blt .len (.c 000 .n)) 05)) (.c (.set (.v 6) (.bin .add 05 (.call 31 (.c 02 (.c (.bin .pow (.k (.int 10)) (.k (.int 6))) .n))))) (.c (.set (.sub (.v 5) 003) (.call 32 (.c (.call 31 (.c 02 (.c (.bin .add (.v 6) 05) .n))) (.c (.v 6) .n)))) .n)) .n) (.c (.set (.sub (.v 5) (.neg 05)) (.call 34 (.c (.t (.c (.v 4) (.c 05 .n))) (.c (.idx (.v 5) 003) .n)))) (.c (.expr (.app 002 (.blt .tuple (.c (.v 5) .n)))) .n))))) (.c (.ret (.blt .tuple 032)) .n))⟩
def c_51:CF:=⟨1,3,false,.c (.set 06 (.call 32 (.c (.call 31 (.c 02 (.c (.bin .add (.bin .pow (.k (.int 10)) (.k (.int 9))) 05) .n))) (.c (.bin .add 05 (.call 31 (.c 02 (.c (.bin .pow (.k (.int 10)) (.k (.int 6))) .n)))) .n)))) (.c (.set 002 (.call 32 (.c (.bin .add 05 (.call 31 (.c 02 (.c (.bin .pow (.k (.int 10)) (.k (.int 9))) .n)))) (.c (.bin .add 05 (.call 31 (.c 02 (.c (.bin .pow (.k (.int 10)) (.k (.int 6))) .n)))) .n)))) (.c (.ret (.t (.c (.idx (.l false (.c (.k (.str 047)) (.c (.k (.str (PySem.Str.ofString "below"))) .n))) (.call 31 (.c 02 (.c (.k (.int 2)) .n)))) 034))) .n))⟩
def zW:CF:=⟨1,11,false,.c (.forS 06 (.rng (.c 003 (.c (.blt .max2 (.c 05 (.c (.blt .min2 (.c 039 (.c (.k (.int 24)) .n))) .n))) (.c (.k (.int 6)) .n)))) (.c (.set 002 (.call 37 (.c (.call 30 035) (.c (.k (.int 7)) (.c (.k (.int 10)) .n))))) (.c (.set 000 (.call 30 (.c 02 (.c (.bin .add 06 (.k (.int 2))) .n)))) (.c (.set (.v 4) (.call 30 (.c 02 (.c (.bin .add 06 (.k (.int 41))) .n)))) (.c (.set (.v 5) (.cmp .eq (.call 31 (.c (.v 4) (.c (.k (.int 4)) .n))) 003)) (.c (.ifs (.val (.v 5)) (.c (.set 002 (.call 49 (.c (.v 4) 032))) .n) .n) (.c (.set (.v 6) (.call 38 (.c 000 032))) (.c (.set (.v 7) (.call 41 (.c 000 (.c (.k (.int 6)) .n)))) (.c (.set (.v 8) (.call 30 (.c 02 (.c (.bin .add 06 (.k (.int 53))) .n)))) (.c (.ifs (.and (.not (.val (.v 5))) (.val (.cmp .eq (.call 31 (.c (.v 8) (.c (.k (.int 6)) .n))) 003))) (.c (.set (.v 6) (.call 50 (.c (.v 8) 032))) .n) .n) (.c (.ifs (.val (.v 5)) (.c (.set (.v 7) (.bin .add (.slc (.v 7) .none (.some (.k (.int 5)))) (.t (.c (.call 51 (.c (.v 4) .n)) .n)))) .n) .n) (.c (.set (.v 9) (.call 42 (.c (.v 7) (.c (.idx 002 003) (.c (.call 40 (.c 002 (.c (.v 6) .n))) .n))))) (.c (.set (.v 10) (.call 26 (.c (.v 7) (.c 002 (.c (.v 6) .n))))) (.c (.ifs (.or (.not (.val (.call 43 (.c (.v 10) .n)))) (.val (.cmp .ne (.v 10) (.v 9)))) (.c 041 .n) .n) (.c (.ifs (.or (.not (.val (.call 48 (.c (.call 30 (.c 02 (.c (.bin .add 06 (.k (.int 4))) .n))) (.c (.v 7) (.c 002 (.c (.v 6) .n))))))) (.val (.cmp .ne (.call 26 (.c (.v 7) (.c 002 (.c (.v 6) .n)))) (.v 9)))) (.c 041 .n) .n) .n))))))))))))))) (.c (.ret (.k (.bl true))) .n)⟩
noncomputable def prg:List CF:=[c_0,c_1,c_2,c_3,c_4,c_5,c_6,c_7,c_8,c_9,c_10,c_11,c_12,c_13,c_14,c_15,c_16,c_17,c_18,c_19,c_20,c_21,c_22,c_23,c_24,c_25,c_26,c_27,c_28,c_29,c_30,c_31,c_32,c_33,c_34,c_35,c_36,c_37,c_38,c_39,c_40,c_41,c_42,c_43,c_44,c_45,c_46,c_47,c_48,c_49,c_50,c_51,zW]
end RP
namespace RP
open PySem PySem.Spec L2 SeqAt R R.EX
open PyProof.Rows hiding St
noncomputable def top(i:Nat):Stmt:=PySem.Challenge.pw_weblayers_k30_worth_of_layings.main.body.getD i (.Pass ⟨0,0,0,0⟩)
structure Df where
 (x:Str) (i:Nat) (N:014) (b:CF)
noncomputable abbrev Df.ps(m:Df):List Str:=m.N.take m.b.np
noncomputable abbrev M0:Df:=⟨"is_whole",15,["thing"],c_0⟩
noncomputable abbrev M1:Df:=⟨"is_whole_within",16,["thing","least","most"],c_1⟩
noncomputable abbrev M2:Df:=⟨"common_divisor",17,["one","other"],c_2⟩
noncomputable abbrev M3:Df:=⟨"lowest",18,["top","bottom","divisor"],c_3⟩
noncomputable abbrev M4:Df:=⟨"is_number",19,["thing","top","bottom"],c_4⟩
noncomputable abbrev M5:Df:=⟨"is_amount",20,["thing"],c_5⟩
noncomputable abbrev M6:Df:=⟨"is_above_nothing",21,["thing"],c_6⟩
noncomputable abbrev M7:Df:=⟨"total",22,["amounts","top","bottom","one"],c_7⟩
noncomputable abbrev M8:Df:=⟨"parted",23,["one","divisor"],c_8⟩
noncomputable abbrev M9:Df:=⟨"difference",24,["one","other"],c_9⟩
noncomputable abbrev M10:Df:=⟨"product",25,["one","other"],c_10⟩
noncomputable abbrev M11:Df:=⟨"is_web",32,["thing","costs","ties"],c_11⟩
noncomputable abbrev M12:Df:=⟨"are_costs",33,["thing"],c_12⟩
noncomputable abbrev M13:Df:=⟨"are_ties",34,["thing","many"],c_13⟩
noncomputable abbrev M14:Df:=⟨"is_tie",35,["thing","many","places","heavy"],c_14⟩
noncomputable abbrev M15:Df:=⟨"are_tied_places",36,["thing","many"],c_15⟩
noncomputable abbrev M16:Df:=⟨"are_places",37,["thing","many"],c_16⟩
noncomputable abbrev M17:Df:=⟨"is_rising",38,["things"],c_17⟩
noncomputable abbrev M18:Df:=⟨"need_web",39,["thing"],c_18⟩
noncomputable abbrev M19:Df:=⟨"is_laying",41,["web","thing","ties"],c_19⟩
noncomputable abbrev M20:Df:=⟨"lays_tie",42,["tie","thing","places","heavy"],c_20⟩
noncomputable abbrev M21:Df:=⟨"need_laying",43,["web","thing"],c_21⟩
noncomputable abbrev M22:Df:=⟨"loads",44,["web","laying","lying","places","heavy","amounts","place","amount"],c_22⟩
noncomputable abbrev M23:Df:=⟨"heights",45,["web","laying"],c_23⟩
noncomputable abbrev M24:Df:=⟨"is_measure",50,["thing"],c_24⟩
noncomputable abbrev M25:Df:=⟨"is_measure_part",51,["thing","side","point","heavy"],c_25⟩
noncomputable abbrev M26:Df:=⟨"worth",52,["measure","web","laying"],c_26⟩
noncomputable abbrev M27:Df:=⟨"place_worth",53,["measure","cost","high"],c_27⟩
noncomputable abbrev M28:Df:=⟨"part_worth",54,["part","high","side","point","heavy","beyond"],c_28⟩
noncomputable abbrev M29:Df:=⟨"_law_mixed",56,["_law_cell"],c_29⟩
noncomputable abbrev M30:Df:=⟨"_law_pack",57,["_law_script","_law_k","_law_found","_law_at","_law_cell"],c_30⟩
noncomputable abbrev M31:Df:=⟨"_law_take",58,["_law_pack_here","_law_size","_law_digit"],c_31⟩
noncomputable abbrev M32:Df:=⟨"_law_low",59,["_law_top","_law_bottom","_law_one","_law_other"],c_32⟩
noncomputable abbrev M33:Df:=⟨"_law_more",60,["_law_one","_law_other"],c_33⟩
noncomputable abbrev M34:Df:=⟨"_law_less_by",61,["_law_one","_law_other"],c_34⟩
noncomputable abbrev M35:Df:=⟨"_law_by",62,["_law_one","_law_other"],c_35⟩
noncomputable abbrev M36:Df:=⟨"_law_places",63,["_law_pack_here","_law_many","_law_size","_law_left","_law_found"],c_36⟩
noncomputable abbrev M37:Df:=⟨"_law_web",64,["_law_pack_here","_law_most","_law_ties","_law_many","_law_costs","_law_known","_law_turn","_law_some"],c_37⟩
noncomputable abbrev M38:Df:=⟨"_law_laying",65,["_law_pack_here","_law_web_here","_law_found","_law_some","_law_mass","_law_pick","_law_shares"],c_38⟩
noncomputable abbrev M39:Df:=⟨"_law_loads",66,["_law_web_here","_law_laying_here","_law_found","_law_some","_law_mass","_law_shares","_law_place","_law_one"],c_39⟩
noncomputable abbrev M40:Df:=⟨"_law_heights",67,["_law_web_here","_law_laying_here"],c_40⟩
noncomputable abbrev M41:Df:=⟨"_law_measure",68,["_law_pack_here","_law_most","_law_found","_law_turn","_law_side","_law_point"],c_41⟩
noncomputable abbrev M42:Df:=⟨"_law_worth",69,["_law_measure_here","_law_costs","_law_heights_here","_law_found","_law_price","_law_height","_law_side","_law_point","_law_mass","_law_over"],c_42⟩
noncomputable abbrev M43:Df:=⟨"_law_is_number",70,["_law_thing"],c_43⟩
noncomputable abbrev M44:Df:=⟨"_law_kind",71,["_law_caught","_law_known","_law_words"],c_44⟩
noncomputable abbrev M45:Df:=⟨"_law_odd_webs",72,["_law_web_here","_law_costs","_law_ties","_law_some"],c_45⟩
noncomputable abbrev M46:Df:=⟨"_law_odd_layings",73,["_law_web_here","_law_laying_here","_law_some","_law_first","_law_more_here"],c_46⟩
noncomputable abbrev M47:Df:=⟨"_law_told",74,["_law_measure_here","_law_web_here","_law_laying_here","_law_caught","e"],c_47⟩
noncomputable abbrev M48:Df:=⟨"_law_refused",75,["_law_pack_here","_law_measure_here","_law_web_here","_law_laying_here","_law_layings","_law_measures","_law_odd","_law_other"],c_48⟩
noncomputable abbrev M49:Df:=⟨"_law_great",76,["_law_pack_here","_law_web_here","_law_costs"],c_49⟩
noncomputable abbrev M50:Df:=⟨"_law_fine_laying",77,["_law_pack_here","_law_web_here","_law_found","_law_some","_law_mass","_law_shares","_law_bottom"],c_50⟩
noncomputable abbrev M51:Df:=⟨"_law_great_part",78,["_law_pack_here","_law_point","_law_mass"],c_51⟩
noncomputable abbrev M52:Df:=⟨"law",79,["_law_script","_law_k","_law_web_here","_law_pack_here","_law_more_here","_law_great_here","_law_laying_here","_law_measure_here","_law_digits","_law_due","_law_found"],zW⟩
noncomputable abbrev Uq(K:009)(mg:025)(m:Df):Prop:=DefIn K mg m.x (top m.i) m.ps
structure Pre (K:009) (mg:025):Prop where
 gb:Gb mg
 v0:∃t:Tok,mg "ABOVE"=some (.str 047 t)
 v1:∃t:Tok,mg "BELOW"=some (.str (PySem.Str.ofString "below") t)
 v2:∃t:Tok,mg "MOST_COST"=some (.int 100 t)
 v3:∃t:Tok,mg "MOST_PARTS"=some (.int 6 t)
 v4:∃t:Tok,mg "MOST_PLACES"=some (.int 12 t)
 v5:∃t:Tok,mg "MOST_PLACES_OF_TIE"=some (.int 4 t)
 v6:∃t:Tok,mg "MOST_TIES"=some (.int 30 t)
 v7:∃t:Tok,mg "MOST_WEIGHT"=some (.int 1000000 t)
 v8:mg "NoArrows"=some (.ref 117)
 v9:mg "NoCall"=some (.ref 181)
 v10:mg "NoKept"=some (.ref 201)
 v11:mg "NoLaying"=some (.ref 61)
 v12:mg "NoMeasure"=some (.ref 73)
 v13:mg "NoNumber"=some (.ref 141)
 v14:mg "NoPart"=some (.ref 49)
 v15:mg "NoRoad"=some (.ref 93)
 v16:mg "NoSize"=some (.ref 105)
 v17:mg "NoText"=some (.ref 161)
 v18:mg "NoThread"=some (.ref 129)
 v19:mg "NoWeb"=some (.ref 37)
 v20:mg "WebError"=some (.ref 24)
 v21:mg "ValueError"=none
 v22:R.EX.excRow K 61=some [.ref 24,.type "ValueError",.type "Exception",.type "BaseException",.type "object"]
 v23:R.EX.excRow K 73=some [.ref 24,.type "ValueError",.type "Exception",.type "BaseException",.type "object"]
 v24:R.EX.excRow K 37=some [.ref 24,.type "ValueError",.type "Exception",.type "BaseException",.type "object"]
 v25:R.EX.excRow K 24=some [.type "ValueError",.type "Exception",.type "BaseException",.type "object"]
 v26:PySem.W.excIn K 61 [.type "ValueError",.type "Exception",.type "BaseException",.type "object"] "ValueError.__new__"=true
 v27:R.EX.ErrK K 61
 v28:PySem.W.kitOne K (.ref 61) (.ref 117)=some false
 v29:PySem.W.kitOne K (.ref 61) (.ref 181)=some false
 v30:PySem.W.kitOne K (.ref 61) (.ref 201)=some false
 v31:PySem.W.kitOne K (.ref 61) (.ref 61)=some true
 v32:PySem.W.kitOne K (.ref 61) (.ref 73)=some false
 v33:PySem.W.kitOne K (.ref 61) (.ref 141)=some false
 v34:PySem.W.kitOne K (.ref 61) (.ref 49)=some false
 v35:PySem.W.kitOne K (.ref 61) (.ref 93)=some false
 v36:PySem.W.kitOne K (.ref 61) (.ref 105)=some false
 v37:PySem.W.kitOne K (.ref 61) (.ref 161)=some false
 v38:PySem.W.kitOne K (.ref 61) (.ref 129)=some false
 v39:PySem.W.kitOne K (.ref 61) (.ref 37)=some false
 v40:PySem.W.kitOne K (.ref 61) (.type "ValueError")=some true
 v41:PySem.W.excIn K 73 [.type "ValueError",.type "Exception",.type "BaseException",.type "object"] "ValueError.__new__"=true
 v42:R.EX.ErrK K 73
 v43:PySem.W.kitOne K (.ref 73) (.ref 117)=some false
 v44:PySem.W.kitOne K (.ref 73) (.ref 181)=some false
 v45:PySem.W.kitOne K (.ref 73) (.ref 201)=some false
 v46:PySem.W.kitOne K (.ref 73) (.ref 61)=some false
 v47:PySem.W.kitOne K (.ref 73) (.ref 73)=some true
 v48:PySem.W.kitOne K (.ref 73) (.ref 141)=some false
 v49:PySem.W.kitOne K (.ref 73) (.ref 49)=some false
 v50:PySem.W.kitOne K (.ref 73) (.ref 93)=some false
 v51:PySem.W.kitOne K (.ref 73) (.ref 105)=some false
 v52:PySem.W.kitOne K (.ref 73) (.ref 161)=some false
 v53:PySem.W.kitOne K (.ref 73) (.ref 129)=some false
 v54:PySem.W.kitOne K (.ref 73) (.ref 37)=some false
 v55:PySem.W.kitOne K (.ref 73) (.type "ValueError")=some true
 v56:PySem.W.excIn K 37 [.type "ValueError",.type "Exception",.type "BaseException",.type "object"] "ValueError.__new__"=true
 v57:R.EX.ErrK K 37
 v58:PySem.W.kitOne K (.ref 37) (.ref 117)=some false
 v59:PySem.W.kitOne K (.ref 37) (.ref 181)=some false
 v60:PySem.W.kitOne K (.ref 37) (.ref 201)=some false
 v61:PySem.W.kitOne K (.ref 37) (.ref 61)=some false
 v62:PySem.W.kitOne K (.ref 37) (.ref 73)=some false
 v63:PySem.W.kitOne K (.ref 37) (.ref 141)=some false
 v64:PySem.W.kitOne K (.ref 37) (.ref 49)=some false
 v65:PySem.W.kitOne K (.ref 37) (.ref 93)=some false
 v66:PySem.W.kitOne K (.ref 37) (.ref 105)=some false
 v67:PySem.W.kitOne K (.ref 37) (.ref 161)=some false
 v68:PySem.W.kitOne K (.ref 37) (.ref 129)=some false
 v69:PySem.W.kitOne K (.ref 37) (.ref 37)=some true
 v70:PySem.W.kitOne K (.ref 37) (.type "ValueError")=some true
 u_0:Uq K mg M0
 u_1:Uq K mg M1
 u_2:Uq K mg M2
 u_3:Uq K mg M3
 u_4:Uq K mg M4
 u_5:Uq K mg M5
 u_6:Uq K mg M6
 u_7:Uq K mg M7
 u_8:Uq K mg M8
 u_9:Uq K mg M9
 u_10:Uq K mg M10
 u_11:Uq K mg M11
 u_12:Uq K mg M12
 u_13:Uq K mg M13
 u_14:Uq K mg M14
 u_15:Uq K mg M15
 u_16:Uq K mg M16
 u_17:Uq K mg M17
 u_18:Uq K mg M18
 u_19:Uq K mg M19
 u_20:Uq K mg M20
 u_21:Uq K mg M21
 u_22:Uq K mg M22
 u_23:Uq K mg M23
 u_24:Uq K mg M24
 u_25:Uq K mg M25
 u_26:Uq K mg M26
 u_27:Uq K mg M27
 u_28:Uq K mg M28
 u_29:Uq K mg M29
 u_30:Uq K mg M30
 u_31:Uq K mg M31
 u_32:Uq K mg M32
 u_33:Uq K mg M33
 u_34:Uq K mg M34
 u_35:Uq K mg M35
 u_36:Uq K mg M36
 u_37:Uq K mg M37
 u_38:Uq K mg M38
 u_39:Uq K mg M39
 u_40:Uq K mg M40
 u_41:Uq K mg M41
 u_42:Uq K mg M42
 u_43:Uq K mg M43
 u_44:Uq K mg M44
 u_45:Uq K mg M45
 u_46:Uq K mg M46
 u_47:Uq K mg M47
 u_48:Uq K mg M48
 u_49:Uq K mg M49
 u_50:Uq K mg M50
 u_51:Uq K mg M51
 u_52:Uq K mg M52
structure All (P:Program) (w:World) (K:009) (mg:025) (base:Heap) (k:Nat) (F:Fs):Prop where
 h_0:FnAt P w K mg base k F 0 M0.x M0.ps
 h_1:FnAt P w K mg base k F 1 M1.x M1.ps
 h_2:FnAt P w K mg base k F 2 M2.x M2.ps
 h_3:FnAt P w K mg base k F 3 M3.x M3.ps
 h_4:FnAt P w K mg base k F 4 M4.x M4.ps
 h_5:FnAt P w K mg base k F 5 M5.x M5.ps
 h_6:FnAt P w K mg base k F 6 M6.x M6.ps
 h_7:FnAt P w K mg base k F 7 M7.x M7.ps
 h_8:FnAt P w K mg base k F 8 M8.x M8.ps
 h_9:FnAt P w K mg base k F 9 M9.x M9.ps
 h_10:FnAt P w K mg base k F 10 M10.x M10.ps
 h_11:FnAt P w K mg base k F 11 M11.x M11.ps
 h_12:FnAt P w K mg base k F 12 M12.x M12.ps
 h_13:FnAt P w K mg base k F 13 M13.x M13.ps
 h_14:FnAt P w K mg base k F 14 M14.x M14.ps
 h_15:FnAt P w K mg base k F 15 M15.x M15.ps
 h_16:FnAt P w K mg base k F 16 M16.x M16.ps
 h_17:FnAt P w K mg base k F 17 M17.x M17.ps
 h_18:FnAt P w K mg base k F 18 M18.x M18.ps
 h_19:FnAt P w K mg base k F 19 M19.x M19.ps
 h_20:FnAt P w K mg base k F 20 M20.x M20.ps
 h_21:FnAt P w K mg base k F 21 M21.x M21.ps
 h_22:FnAt P w K mg base k F 22 M22.x M22.ps
 h_23:FnAt P w K mg base k F 23 M23.x M23.ps
 h_24:FnAt P w K mg base k F 24 M24.x M24.ps
 h_25:FnAt P w K mg base k F 25 M25.x M25.ps
 h_26:FnAt P w K mg base k F 26 M26.x M26.ps
 h_27:FnAt P w K mg base k F 27 M27.x M27.ps
 h_28:FnAt P w K mg base k F 28 M28.x M28.ps
 h_29:FnAt P w K mg base k F 29 M29.x M29.ps
 h_30:FnAt P w K mg base k F 30 M30.x M30.ps
 h_31:FnAt P w K mg base k F 31 M31.x M31.ps
 h_32:FnAt P w K mg base k F 32 M32.x M32.ps
 h_33:FnAt P w K mg base k F 33 M33.x M33.ps
 h_34:FnAt P w K mg base k F 34 M34.x M34.ps
 h_35:FnAt P w K mg base k F 35 M35.x M35.ps
 h_36:FnAt P w K mg base k F 36 M36.x M36.ps
 h_37:FnAt P w K mg base k F 37 M37.x M37.ps
 h_38:FnAt P w K mg base k F 38 M38.x M38.ps
 h_39:FnAt P w K mg base k F 39 M39.x M39.ps
 h_40:FnAt P w K mg base k F 40 M40.x M40.ps
 h_41:FnAt P w K mg base k F 41 M41.x M41.ps
 h_42:FnAt P w K mg base k F 42 M42.x M42.ps
 h_43:FnAt P w K mg base k F 43 M43.x M43.ps
 h_44:FnAt P w K mg base k F 44 M44.x M44.ps
 h_45:FnAt P w K mg base k F 45 M45.x M45.ps
 h_46:FnAt P w K mg base k F 46 M46.x M46.ps
 h_47:FnAt P w K mg base k F 47 M47.x M47.ps
 h_48:FnAt P w K mg base k F 48 M48.x M48.ps
 h_49:FnAt P w K mg base k F 49 M49.x M49.ps
 h_50:FnAt P w K mg base k F 50 M50.x M50.ps
 h_51:FnAt P w K mg base k F 51 M51.x M51.ps
 h_52:FnAt P w K mg base k F 52 M52.x M52.ps
 x_18:FnAtX P w K mg base k F 18 M18.x M18.ps
 x_19:FnAtX P w K mg base k F 19 M19.x M19.ps
 x_21:FnAtX P w K mg base k F 21 M21.x M21.ps
 x_22:FnAtX P w K mg base k F 22 M22.x M22.ps
 x_23:FnAtX P w K mg base k F 23 M23.x M23.ps
 x_26:FnAtX P w K mg base k F 26 M26.x M26.ps
noncomputable abbrev Rm(k:Nat)(A:Around)(s:09)(f c:Addr)(m:Df):Prop:=Room (k+2) (A.deeper (envOfC m.x (defScope (top m.i)) s.heap.objs.size f (.ref c)))
noncomputable abbrev Bq(m:Df):Prop:=∀{P:Program} {w:World} {K:009} {mg:025} {base:Heap} {k n:Nat} {F:Fs} {f c t:Addr} {A:Around} {outer:List Env} {s:09} {H:Hp} {E:XK},Pre K mg->K.In base->All P w K mg base k F->codeTab K c t=true->Rm k A s f c m->QSs (cxOf CX0 P w K mg base m.N m.x (defScope (top m.i)) f (.ref c) A outer s H E).nox (defBody (top m.i)) (TSm (exs F n m.b.body))
noncomputable abbrev Bx(m:Df):Prop:=∀{P:Program} {w:World} {K:009} {mg:025} {base:Heap} {k n:Nat} {F:Fs} {f c t:Addr} {A:Around} {outer:List Env} {s:09} {H:Hp} {E:XK},Pre K mg->K.In base->All P w K mg base k F->codeTab K c t=true->Rm k A s f c m->PSs (cxOf (CXR P w) P w K mg base m.N m.x (defScope (top m.i)) f (.ref c) A outer s H E) (defBody (top m.i)) (TSX (exs F n m.b.body) E)
def b_0:Bq M0:=λp c a tab d =>
 qf (qz (yV (zV .int p.gb 08) (yj (qjX (zV .bool p.gb 08))))) qj
def b_1:Bq M1:=λp d a tab c =>
 qf (qz (yV (qi a.h_0 001 (qb 08 qd)) (yj (qi1 .le .le c 004 08 (qc 2))))) qj
def b_2:Bq M2:=λp c a tab d =>
 qf (qev (qW 004) (qf (qg3 0 1 (qb 004 (qb (qk .mod 08 004) qd))) qj)) (qf (qz 08) qj)
def b_3:Bq M3:=λp d a tab c =>
 qf (qE 2 (qi a.h_2 001 (qb (qex p.gb (qb 08 qd)) 026))) (qf (qz (ql (qb (qk .fdiv 08 (qc 2)) (qb (qk .fdiv 004 (qc 2)) qd)))) qj)
def b_4:Bq M4:=λp d a tab c =>
 qf (z_if (Qpt (w_or (zb (qW (zV .tuple p.gb 08))) (zN (q9 .ne c (zd p.gb (qb 08 qd)) qg)))) (qf (qz qP) qj) qj) (qf (yd 08 (qR (qo (qp 1) (qo (qp 2) qQ)))) (qf (z_if (Qpt (w_or (zb (qW (qi a.h_0 001 026))) (w_or (zb (qW (qi a.h_0 001 033))) (zN (q9 .lt c (qc 2) qg))))) (qf (qz qP) qj) qj) (qf (qz (jG .eq c (qi a.h_2 001 (qb (qex p.gb 026) 033)) qg)) qj)))
def b_5:Bq M5:=λp d a tab c =>
 qf (qz (yV (qi a.h_4 001 (qb 08 qd)) (yj (jG .ge c 031 qg)))) qj
def b_6:Bq M6:=λp d a tab c =>
 qf (qz (yV (qi a.h_5 001 (qb 08 qd)) (yj (jG .gt c 031 qg)))) qj
def b_7:Bq M7:=λp d a tab c =>
 qf (yd (ql (qb qg 021)) (qR (qo (qp 1) (qo (qp 2) qQ)))) (qf (qlq 08 (qp 3) (qf (yd (qi a.h_3 001 (qb (qk .add (qk .mul 004 (qu c (qc 3) qg)) (qk .mul (qu c (qc 3) qg) (qc 2))) (qb (qk .mul (qc 2) (qu c (qc 3) qg)) qd))) (qR (qo (qp 1) (qo (qp 2) qQ)))) qj)) (qf (qz (ql (qb 004 033))) qj))
def b_8:Bq M8:=λp d a tab c =>
 qf (qz (qi a.h_3 001 (qb 031 (qb (qk .mul 031 004) qd)))) qj
def b_9:Bq M9:=λp d a tab c =>
 qf (qz (qi a.h_3 001 (qb (qk .sub (qk .mul 031 (qu c 004 qg)) (qk .mul (qu c 004 qg) 031)) (qb (qk .mul 031 (qu c 004 qg)) qd)))) qj
def b_10:Bq M10:=λp d a tab c =>
 qf (qz (qi a.h_3 001 (qb (qk .mul 031 (qu c 004 qg)) (qb (qk .mul 031 (qu c 004 qg)) qd)))) qj
def b_11:Bq M11:=λp d a tab c =>
 qf (z_if (Qpt (w_or (zb (qW (zV .tuple p.gb 08))) (zN (q9 .ne c (zd p.gb (qb 08 qd)) qg)))) (qf (qz qP) qj) qj) (qf (yd 08 (qR (qo (qp 1) (qo (qp 2) qQ)))) (qf (qz (yV (qi a.h_12 001 026) (yj (qi a.h_13 001 (qb (qc 2) (qb (zd p.gb 026) qd)))))) qj))
def b_12:Bq M12:=λp d a tab c =>
 qf (z_if (Qpt (w_or (zb (qW (zV .tuple p.gb 08))) (zN (zb (qeu .le .le c qg (zd p.gb (qb 08 qd)) (j0 (p.v4).choose_spec)))))) (qf (qz qP) qj) qj) (qf (qz (yY [] [] ["one"] c p.gb rfl tab (zH 08) (λ_ _ _ _ _ _ _ _=>qp 0) (λ_ _ _ _ _ _ _ _=>zh) (λ_ _ _ _ _ _ _ _=>qi a.h_1 (m1 (zo c)) (qb 08 (qb qg (qb (j0 (p.v2).choose_spec) qd)))))) qj)
def b_13:Bq M13:=λp d a tab c =>
 qf (z_if (Qpt (w_or (zb (qW (zV .tuple p.gb 08))) (zN (q9 .gt c (zd p.gb (qb 08 qd)) (j0 (p.v6).choose_spec))))) (qf (qz qP) qj) qj) (qf (z_if (zb (qW (yY [1] ["many"] ["one"] c p.gb rfl tab (zH 08) (λ_ _ _ _ _ _ _ _=>qp 1) (λ_ _ _ _ _ _ _ _=>zh) (λ_ _ _ _ _ _ _ _=>qi a.h_14 (m1 (zo c)) (qb 004 (qb 08 qd)))))) (qf (qz qP) qj) qj) (qf (qz (qi a.h_17 001 (qb (k_lc false [] [] ["places","heavy"] (zH 08) (λ_ _ _ _ _=>qR (qo (qp 0) (qo (qp 1) qQ))) (λ_ _ _ _ _=>zh) (λ_ _ _ _ _=>qc 0)) qd))) qj))
def b_14:Bq M14:=λp d a tab c =>
 qf (z_if (Qpt (w_or (zb (qW (zV .tuple p.gb 08))) (zN (q9 .ne c (zd p.gb (qb 08 qd)) qg)))) (qf (qz qP) qj) qj) (qf (yd 08 (qR (qo (qp 2) (qo (qp 3) qQ)))) (qf (qz (yV (qi a.h_15 001 (qb (qc 2) 026)) (yj (qi a.h_1 001 (qb (qc 3) (qb qg (qb (j0 (p.v7).choose_spec) qd))))))) qj))
def b_15:Bq M15:=λp d a tab c =>
 qf (qz (yV (qi a.h_16 001 (qb 08 026)) (yj (jG .le c (zd p.gb (qb 08 qd)) (j0 (p.v5).choose_spec))))) qj
def b_16:Bq M16:=λp d a tab c =>
 qf (z_if (Qpt (w_or (zb (qW (zV .tuple p.gb 08))) (zN (zb (qW 08))))) (qf (qz qP) qj) qj) (qf (qz (yV (yY [1] ["many"] ["one"] c p.gb rfl tab (zH 08) (λ_ _ _ _ _ _ _ _=>qp 1) (λ_ _ _ _ _ _ _ _=>zh) (λ_ _ _ _ _ _ _ _=>qi a.h_1 (m1 (zo c)) (qb 004 (qb qg (qb (qk .sub 08 qg) qd))))) (yj (qi a.h_17 001 (qb 08 qd))))) qj)
def b_17:Bq M17:=λp d a tab c =>
 qf (qz (yY [] [] ["one","other"] c p.gb rfl tab (yk p.gb 08 (zD 08 (k_os qg) (k_on))) (λ_ _ _ _ _ _ _ _=>qR (qo (qp 0) (qo (qp 1) qQ))) (λ_ _ _ _ _ _ _ _=>zh) (λ_ _ _ _ _ _ _ _=>jG .lt (zo c) 08 004))) qj
def b_18:Bq M18:=λp d a tab c =>
 qf (z_if (qhh (zb (qW (qi a.h_11 001 (qb 08 qd))))) (qf (qbV) qj) qj) qj
def qnc:Bx M18:=λp c a tab d =>
 qY (x_if (qdz (zb (qW (qi a.h_11 (m2 d) (qb 08 qd))))) (qY (qbU isDef (qdA c p.v19 p.v56) vk rfl vk (qb qV qd) (λ_ _=>⟨_,rfl⟩) 01) (zI)) (zI)) (zI)
def b_19:Bq M19:=λp d a tab c =>
 qf (yW (qi a.h_18 001 (qb 08 qd))) (qf (qbr (qE 2 031)) (qf (z_if (qhh (Qpt (w_or (zb (qW (zV .tuple p.gb 004))) (zN (q9 .ne c (zd p.gb 026) (zd p.gb 033)))))) (qf (qbr (qz qP)) qj) qj) (qf (qbr (qz (yY [] [] ["tie","amounts"] c p.gb rfl tab (yk p.gb (qc 2) 004) (λ_ _ _ _ _ _ _ _=>qR (qo (qp 0) (qo (qp 1) qQ))) (λ_ _ _ _ _ _ _ _=>zh) (λ_ _ _ _ _ _ _ _=>qi a.h_20 (m1 (zo c)) (qb 08 026))))) qj)))
def qnd:Bx M19:=λp d a tab c =>
 qY (x_expr (j5 isDef a.x_18 001 (qb 08 qd) (zR (js)))) (qY (qbq (qE 2 031)) (qY (x_if (qdz (Qpt (w_or (zb (qW (zV .tuple p.gb 004))) (zN (q9 .ne c (zd p.gb 026) (zd p.gb 033)))))) (qY (qbq (qz qP)) (zI)) (zI)) (qY (qbq (qz (yY [] [] ["tie","amounts"] c p.gb rfl tab (yk p.gb (qc 2) 004) (λ_ _ _ _ _ _ _ _=>qR (qo (qp 0) (qo (qp 1) qQ))) (λ_ _ _ _ _ _ _ _=>zh) (λ_ _ _ _ _ _ _ _=>qi a.h_20 (m1 (zo c)) (qb 08 026))))) (zI))))
def b_20:Bq M20:=λp d a tab c =>
 qf (yd 08 (qR (qo (qp 2) (qo (qp 3) qQ)))) (qf (z_if (Qpt (w_or (zb (qW (zV .tuple p.gb 004))) (zN (q9 .ne c (zd p.gb 026) (zd p.gb 033))))) (qf (qz qP) qj) qj) (qf (qz (yV (yY [] [] ["one"] c p.gb rfl tab (zH 004) (λ_ _ _ _ _ _ _ _=>qp 0) (λ_ _ _ _ _ _ _ _=>zh) (λ_ _ _ _ _ _ _ _=>qi a.h_5 (m1 (zo c)) (qb 08 qd))) (yj (jG .eq c (qi a.h_7 001 026) (ql (qb (qc 3) 021)))))) qj))
def b_21:Bq M21:=λp d a tab c =>
 qf (z_if (zb (qW (qi a.h_19 001 (qb 08 026)))) (qf (qbV) qj) qj) qj
def qne:Bx M21:=λp c a tab d =>
 qY (x_if (qm4 (qm3 (j5 isDef a.x_19 (m2 d) (qb 08 026) (zR (zR (js)))))) (qY (qbU isDef (qdA c p.v11 p.v26) vk rfl vk (qb qV qd) (λ_ _=>⟨_,rfl⟩) 01) (zI)) (zI)) (zI)
def b_22:Bq M22:=λp d a tab c =>
 qf (yW (qi a.h_21 001 (qb 08 026))) (qf (qbr (qcP 2 031 (λ_ _ _ _ _=>qg8 0))) (qf (qbr (ye (yk p.gb 031 004) (qR (qo (qR (qo (qp 3) (qo (qp 4) qQ))) (qo (qp 5) qQ))) (qf (ye (yk p.gb (qc 3) (qc 5)) (qR (qo (qp 6) (qo (qp 7) qQ))) (qf (yW (qcL (qu c (qc 2) (qc 6)) (qc 7))) qj)) qj))) (qf (qbr (qz (qbo [] [] ["amounts"] c p.gb rfl tab (qc 2) (λ_ _ _ _ _ _ _ _=>qp 0) (λ_ _ _ _ _ _ _ _=>zh) (λ_ _ _ _ _ _ _ _=>qi a.h_7 (m1 (zo c)) (qb 08 qd))))) qj)))
def qnf:Bx M22:=λp d a tab c =>
 qY (x_expr (j5 isDef a.x_21 001 (qb 08 026) (zR (zR (js))))) (qY (qbq (qcP 2 031 (λ_ _ _ _ _=>qg8 0))) (qY (qbq (ye (yk p.gb 031 004) (qR (qo (qR (qo (qp 3) (qo (qp 4) qQ))) (qo (qp 5) qQ))) (qf (ye (yk p.gb (qc 3) (qc 5)) (qR (qo (qp 6) (qo (qp 7) qQ))) (qf (yW (qcL (qu c (qc 2) (qc 6)) (qc 7))) qj)) qj))) (qY (qbq (qz (qbo [] [] ["amounts"] c p.gb rfl tab (qc 2) (λ_ _ _ _ _ _ _ _=>qp 0) (λ_ _ _ _ _ _ _ _=>zh) (λ_ _ _ _ _ _ _ _=>qi a.h_7 (m1 (zo c)) (qb 08 qd))))) (zI))))
def b_23:Bq M23:=λp d a tab c =>
 qf (qj5 (qz (qcO [] [] ["load","cost"] c p.gb rfl tab (yk p.gb (qi a.h_22 001 (qb 08 026)) 031) (λ_ _ _ _ _ _ _ _=>qR (qo (qp 0) (qo (qp 1) qQ))) (λ_ _ _ _ _ _ _ _=>zh) (λ_ _ _ _ _ _ _ _=>qi a.h_8 (m1 (zo c)) (qb 08 026))))) qj
def qng:Bx M23:=λp d a tab c =>
 qY (qj4 (qz (qcO [] [] ["load","cost"] c p.gb rfl tab (yk p.gb (qi a.h_22 001 (qb 08 026)) 031) (λ_ _ _ _ _ _ _ _=>qR (qo (qp 0) (qo (qp 1) qQ))) (λ_ _ _ _ _ _ _ _=>zh) (λ_ _ _ _ _ _ _ _=>qi a.h_8 (m1 (zo c)) (qb 08 026)))) (qj3 (qhi (ty:="tuple") p.gb.tuple (by decide +kernel) (qak (qna (fr:=[]) (xs:=[]) (ts:=["load","cost"]) (qhi (ty:="zip") p.gb.zip (by decide +kernel) (qak (q_of (j5 isDef a.x_22 001 (qb 08 026) (zR (zR (js))))))) c.depth))))) (zI)
def b_24:Bq M24:=λp d a tab c =>
 qf (z_if (Qpt (w_or (zb (qW (zV .tuple p.gb 08))) (zN (zb (qeu .le .le c qg (zd p.gb (qb 08 qd)) (j0 (p.v3).choose_spec)))))) (qf (qz qP) qj) qj) (qf (qz (yY [] [] ["one"] c p.gb rfl tab (zH 08) (λ_ _ _ _ _ _ _ _=>qp 0) (λ_ _ _ _ _ _ _ _=>zh) (λ_ _ _ _ _ _ _ _=>qi a.h_25 (m1 (zo c)) (qb 08 qd)))) qj)
def b_25:Bq M25:=λp d a tab c =>
 qf (z_if (Qpt (w_or (zb (qW (zV .tuple p.gb 08))) (zN (q9 .ne c (zd p.gb (qb 08 qd)) qg)))) (qf (qz qP) qj) qj) (qf (yd 08 (qR (qo (qp 1) (qo (qp 2) (qo (qp 3) qQ))))) (qf (z_if (Qpt (w_or (zb (qW (zV .str p.gb 004))) (zN (q9 .nin c 004 (ql (qb (qbR (p.v0).choose_spec) (qb (qbR (p.v1).choose_spec) qd))))))) (qf (qz qP) qj) qj) (qf (qz (yV (qi a.h_5 001 033) (yj (qi a.h_6 001 (qb (qc 3) qd))))) qj)))
def b_26:Bq M26:=λp d a tab c =>
 qf (yW (qi a.h_18 001 026)) (qf (z_if (qhh (zb (qW (qi a.h_24 001 (qb 08 qd))))) (qf (qbV) qj) qj) (qf (qj5 (qz (qi a.h_7 001 (qb (k_lc false [0] ["measure"] ["cost","high"] (yk p.gb (qu c 004 qg) (qi a.h_23 001 (qb 004 033))) (λ_ _ _ _ _=>qR (qo (qp 1) (qo (qp 2) qQ))) (λ_ _ _ _ _=>zh) (λ_ _ _ _ _=>qi a.h_27 001 (qb 08 (qb 004 033)))) qd)))) qj))
def qnh:Bx M26:=λp d a tab c =>
 qY (x_expr (j5 isDef a.x_18 001 026 (zR (js)))) (qY (x_if (qdz (zb (qW (qi a.h_24 001 (qb 08 qd))))) (qY (qbU isDef (qdA d p.v12 p.v41) vk rfl vk (qb qV qd) (λ_ _=>⟨_,rfl⟩) 01) (zI)) (zI)) (qY (qj4 (qz (qi a.h_7 001 (qb (k_lc false [0] ["measure"] ["cost","high"] (yk p.gb (qu c 004 qg) (qi a.h_23 001 (qb 004 033))) (λ_ _ _ _ _=>qR (qo (qp 1) (qo (qp 2) qQ))) (λ_ _ _ _ _=>zh) (λ_ _ _ _ _=>qi a.h_27 001 (qb 08 (qb 004 033)))) qd))) (qj3 (qm9 a.h_7 001 (qak (q_lc (qhi (ty:="zip") p.gb.zip (by decide +kernel) (qhj (qu c 004 qg) qnb (qak (q_of (j5 isDef a.x_23 001 (qb 004 033) (zR (zR (js))))))))))))) (zI)))
def b_27:Bq M27:=λp d a tab c =>
 qf (qz (qi a.h_10 001 (qb (ql (qb 004 021)) (qb (qi a.h_7 001 (qb (k_lc false [2] ["high"] ["part"] (zH 08) (λ_ _ _ _ _=>qp 1) (λ_ _ _ _ _=>zh) (λ_ _ _ _ _=>qi a.h_28 001 (qb 004 (qb 08 qd)))) qd)) qd)))) qj
def b_28:Bq M28:=λp d a tab c =>
 qf (yd 08 (qR (qo (qp 2) (qo (qp 3) (qo (qp 4) qQ))))) (qf (qE 5 (qjY (q9 .eq c (qc 2) (qbR (p.v0).choose_spec)) (qi a.h_9 001 (qb 004 (qb (qc 3) qd))) (qi a.h_9 001 (qb (qc 3) 026)))) (qf (qz (qjY (qW (qi a.h_6 001 (qb (qc 5) qd))) (qi a.h_10 001 (qb (qc 4) (qb (qc 5) qd))) (ql (qb qg 021)))) qj))
def b_29:Bq M29:=λp c a tab d =>
 qf (qz (qk .mod (qk .mul (qk .mod 08 (qk .pow qg qg)) qg) (qk .pow qg qg))) qj
def b_30:Bq M30:=λp d a tab c =>
 qf (qE 2 qg) (qf (ye (zH (qL false (qb (qk .add 004 qg) 026))) (qp 3) (qf (qE 4 (qu c (qk .add (zD 08 (k_os (qc 3)) (k_os (qk .add (qc 3) qg))) (qL false (qb (qk .add (qk .add (qk .mul qg (qc 3)) qg) (qk .mul qg (qu c (qk .add 08 (qL false 021)) qg))) qd))) qg)) (qf (qE 2 (qk .add (qk .mul (qc 2) (qk .pow qg qg)) (qi a.h_29 001 (qb (qc 4) qd)))) qj))) (qf (qz (qL true 033)) qj))
def b_31:Bq M31:=λp d a tab c =>
 qf (yd (qg2 p.gb (qb 031 026)) (qR (qo (qaG c 08 qg) (qo (qp 2) qQ)))) (qf (qz (qc 2)) qj)
def b_32:Bq M32:=λp d a tab c =>
 qf (qg3 2 3 (qb (qex p.gb (qb 08 qd)) (qb (qex p.gb 026) qd))) (qf (qev (q9 .ne c (qc 3) qg) (qf (qg3 2 3 (qb (qc 3) (qb (qk .mod (qc 2) (qc 3)) qd))) qj)) (qf (z_if (q9 .lt c 004 qg) (qf (qE 2 (qk .sub qg (qc 2))) qj) qj) (qf (qz (ql (qb (qk .fdiv 08 (qc 2)) (qb (qk .fdiv 004 (qc 2)) qd)))) qj)))
def b_33:Bq M33:=λp d a tab c =>
 qf (qz (qi a.h_32 001 (qb (qk .add (qk .mul 031 (qu c 004 qg)) (qk .mul (qu c 004 qg) 031)) (qb (qk .mul 031 (qu c 004 qg)) qd)))) qj
def b_34:Bq M34:=λp d a tab c =>
 qf (qz (qi a.h_32 001 (qb (qk .sub (qk .mul 031 (qu c 004 qg)) (qk .mul (qu c 004 qg) 031)) (qb (qk .mul 031 (qu c 004 qg)) qd)))) qj
def b_35:Bq M35:=λp d a tab c =>
 qf (qz (qi a.h_32 001 (qb (qk .mul 031 (qu c 004 qg)) (qb (qk .mul 031 (qu c 004 qg)) qd)))) qj
def b_36:Bq M36:=λp d a tab c =>
 qf (qE 2 (qu c (qL false (qb qg (qb qg (qb qg (qb qg (qb qg (qb qg (qb qg 021)))))))) 048)) (qf (qE 3 (qlc true p.gb 026)) (qf (qew 4 false [3,0] ["_law_left","_law_pack_here"] ["_law_turn"] (qcM p.gb (qb (qj0 p.gb (qb (qc 2) 026)) qd)) (λ_ _ _ _ _=>qp 2) (λ_ _ _ _ _=>zh) (λ_ _ _ _ _=>qmU 08 (qi a.h_31 001 (qb 004 (qb (zd p.gb (qb 08 qd)) qd))))) (qf (qz (zz p.gb (qb (qcN false p.gb (qb (qc 4) qd)) qd))) qj)))
def b_37:Bq M37:=λp d a tab c =>
 qf (qE 3 (qk .add qg (qi a.h_31 001 (qb 08 026)))) (qf (qE 4 (qk .mul (qL false 021) (qc 3))) (qf (z_if (q9 .eq c 048 qg) (qf (qew 4 false [0] ["_law_pack_here"] ["_law_place"] (qcM p.gb (qb (qc 3) qd)) (λ_ _ _ _ _=>qp 1) (λ_ _ _ _ _=>zh) (λ_ _ _ _ _=>qk .add qg 048)) qj) qj) (qf (qE 5 (qet true)) (qf (ye (qcM p.gb (qb (qi a.h_31 001 (qb 08 (qb (qk .add (qc 2) qg) qd))) qd)) (qp 6) (qf (qE 7 (qi a.h_36 001 (qb 08 (qb (qc 3) qd)))) (qf (yd (qk .add qg 048) (qaG c (qc 5) (qc 7))) qj))) (qf (qz (ql (qb (zz p.gb (qb (qc 4) qd)) (qb (zz p.gb (qb (k_lc false [5] ["_law_known"] ["_law_some"] (zH (qcN false p.gb (qb (qc 5) qd))) (λ_ _ _ _ _=>qp 1) (λ_ _ _ _ _=>zh) (λ_ _ _ _ _=>ql (qb 004 (qb (qu c 08 004) qd)))) qd)) qd)))) qj)))))
def b_38:Bq M38:=λp d a tab c =>
 qf (qE 2 (qL true qd)) (qf (ye (zH (qu c 004 qg)) (qR (qo (qp 3) (qo (qp 4) qQ))) (qf (qE 5 048) (qf (qE 6 (qbS .mul (qL false 021) (zd p.gb (qb (qc 3) qd)))) (qf (z_if (q9 .eq c (qc 5) qg) (qf (qE 6 (qbS .mul (qL false 021) (zd p.gb (qb (qc 3) qd)))) (qf (yd qg (qaG c (qc 6) (qi a.h_31 001 (qb 08 (qb (zd p.gb (qb (qc 3) qd)) qd))))) qj)) qj) (qf (z_if (q9 .eq c (qc 5) qg) (qf (qE 6 (k_lc true [0] ["_law_pack_here"] ["_law_place"] (zH (qc 3)) (λ_ _ _ _ _=>qp 1) (λ_ _ _ _ _=>zh) (λ_ _ _ _ _=>qi a.h_31 001 (qb 08 021)))) (qf (yd (qk .add qg (qu c (qc 6) (jF qg))) (qaG c (qc 6) (jF qg))) qj)) qj) (qf (yW (qcL (qc 2) (zz p.gb (qb (qm1 false [4,6] ["_law_mass","_law_shares"] ["_law_one"] (qc 6) (λ_ _ _ _ _=>qp 2) (λ_ _ _ _ _=>zh) (λ_ _ _ _ _=>qi a.h_32 001 (qb (qk .mul 08 (qc 2)) (qb (qmY p.gb 026) qd)))) qd)))) qj)))))) (qf (qz (zz p.gb 033)) qj))
def b_39:Bq M39:=λp d a tab c =>
 qf (qE 2 (qbS .mul (qL false (qb (ql (qb qg 021)) qd)) (zd p.gb (qb 031 qd)))) (qf (ye (yk p.gb 031 004) (qR (qo (qR (qo (qp 3) (qo (qp 4) qQ))) (qo (qp 5) qQ))) (qf (ye (yk p.gb (qc 3) (qc 5)) (qR (qo (qp 6) (qo (qp 7) qQ))) (qf (yd (qi a.h_33 001 (qb (qu c (qc 2) (qc 6)) (qb (qc 7) qd))) (qaG c (qc 2) (qc 6))) qj)) qj)) (qf (qz (zz p.gb 033)) qj))
def b_40:Bq M40:=λp d a tab c =>
 qf (qz (zz p.gb (qb (k_lc false [] [] ["_law_load","_law_price"] (yk p.gb (qi a.h_39 001 (qb 08 026)) 031) (λ_ _ _ _ _=>qR (qo (qp 0) (qo (qp 1) qQ))) (λ_ _ _ _ _=>zh) (λ_ _ _ _ _=>qi a.h_35 001 (qb 08 (qb (ql (qb qg 026)) qd)))) qd))) qj
def b_41:Bq M41:=λp d a tab c =>
 qf (qE 2 (qL true qd)) (qf (ye (qcM p.gb (qb (qk .add qg (qi a.h_31 001 (qb 08 026))) qd)) (qp 3) (qf (qE 4 (qu c (qL false (qb qV (qb qV qd))) 048)) (qf (qE 5 (qi a.h_32 001 (qb 048 (qb (qu c (qL false (qb qg (qb qg (qb qg 021)))) 048) qd)))) (qf (yW (qcL (qc 2) (ql (qb (qc 4) (qb (qc 5) (qb (qi a.h_32 001 (qb (qk .add qg 048) (qb (qk .add qg 048) qd))) qd)))))) qj)))) (qf (qz (zz p.gb 033)) qj))
def b_42:Bq M42:=λp d a tab c =>
 qf (qE 3 (ql (qb qg 021))) (qf (ye (yk p.gb 004 (qc 2)) (qR (qo (qp 4) (qo (qp 5) qQ))) (qf (ye (zH 08) (qR (qo (qp 6) (qo (qp 7) (qo (qp 8) qQ)))) (qf (qE 9 (qi a.h_34 001 (qb (qc 5) (qb (qc 7) qd)))) (qf (z_if (q9 .eq c (qc 6) qV) (qf (qE 9 (qi a.h_34 001 (qb (qc 7) (qb (qc 5) qd)))) qj) qj) (qf (z_if (q9 .gt c (qu c (qc 9) qg) qg) (qf (qE 3 (qi a.h_33 001 (qb (qc 3) (qb (qi a.h_35 001 (qb (ql (qb (qc 4) 021)) (qb (qi a.h_35 001 (qb (qc 8) (qb (qc 9) qd))) qd))) qd)))) qj) qj) qj)))) qj)) (qf (qz (qc 3)) qj))
def b_43:Bq M43:=λp d a tab c =>
 qf (z_if (Qpt (w_or (zb (qW (zV .tuple p.gb 08))) (zN (q9 .ne c (zd p.gb (qb 08 qd)) qg)))) (qf (qz qP) qj) qj) (qf (z_if (Qpt (w_or (zb (qW (qj1 p.gb (qb (k_lc false [] [] ["_law_part"] (zH 08) (λ_ _ _ _ _=>qp 0) (λ_ _ _ _ _=>zh) (λ_ _ _ _ _=>yV (zV .int p.gb 08) (yj (qjX (zV .bool p.gb 08))))) qd)))) (zN (q9 .lt c 031 qg)))) (qf (qz qP) qj) qj) (qf (qz (jG .eq c (qi a.h_32 001 (qb 031 (qb 031 qd))) 08)) qj))
def b_44:Bq M44:=λp d a tab c =>
 qf (qE 1 (qL false (qb (yK [(61,false),(73,false),(37,true)] p.gb p.v19 (qC ⟨p.v27,p.v39⟩ (qC ⟨p.v42,p.v54⟩ (qC ⟨p.v57,p.v69⟩ (zJ)))) 08) (qb (yK [(61,false),(73,false),(37,false)] p.gb p.v14 (qC ⟨p.v27,p.v34⟩ (qC ⟨p.v42,p.v49⟩ (qC ⟨p.v57,p.v64⟩ (zJ)))) 08) (qb (yK [(61,true),(73,false),(37,false)] p.gb p.v11 (qC ⟨p.v27,p.v31⟩ (qC ⟨p.v42,p.v46⟩ (qC ⟨p.v57,p.v61⟩ (zJ)))) 08) qd))))) (qf (qE 1 (qk .add 004 (qL false (qb (yK [(61,false),(73,true),(37,false)] p.gb p.v12 (qC ⟨p.v27,p.v32⟩ (qC ⟨p.v42,p.v47⟩ (qC ⟨p.v57,p.v62⟩ (zJ)))) 08) (qb (yK [(61,false),(73,false),(37,false)] p.gb p.v15 (qC ⟨p.v27,p.v35⟩ (qC ⟨p.v42,p.v50⟩ (qC ⟨p.v57,p.v65⟩ (zJ)))) 08) (qb (yK [(61,false),(73,false),(37,false)] p.gb p.v16 (qC ⟨p.v27,p.v36⟩ (qC ⟨p.v42,p.v51⟩ (qC ⟨p.v57,p.v66⟩ (zJ)))) 08) qd)))))) (qf (qE 1 (qk .add 004 (qL false (qb (yK [(61,false),(73,false),(37,false)] p.gb p.v8 (qC ⟨p.v27,p.v28⟩ (qC ⟨p.v42,p.v43⟩ (qC ⟨p.v57,p.v58⟩ (zJ)))) 08) (qb (yK [(61,false),(73,false),(37,false)] p.gb p.v18 (qC ⟨p.v27,p.v38⟩ (qC ⟨p.v42,p.v53⟩ (qC ⟨p.v57,p.v68⟩ (zJ)))) 08) (qb (yK [(61,false),(73,false),(37,false)] p.gb p.v13 (qC ⟨p.v27,p.v33⟩ (qC ⟨p.v42,p.v48⟩ (qC ⟨p.v57,p.v63⟩ (zJ)))) 08) qd)))))) (qf (qE 1 (qk .add 004 (qL false (qb (yK [(61,false),(73,false),(37,false)] p.gb p.v17 (qC ⟨p.v27,p.v37⟩ (qC ⟨p.v42,p.v52⟩ (qC ⟨p.v57,p.v67⟩ (zJ)))) 08) (qb (yK [(61,false),(73,false),(37,false)] p.gb p.v9 (qC ⟨p.v27,p.v29⟩ (qC ⟨p.v42,p.v44⟩ (qC ⟨p.v57,p.v59⟩ (zJ)))) 08) (qb (yK [(61,false),(73,false),(37,false)] p.gb p.v10 (qC ⟨p.v27,p.v30⟩ (qC ⟨p.v42,p.v45⟩ (qC ⟨p.v57,p.v60⟩ (zJ)))) 08) qd)))))) (qf (z_if (Qpt (w_or (q9 .ne c (qlx 004) qg) (zN (zb (qW (qlv [(61,true),(73,true),(37,true)] p.gb p.v21 (by decide +kernel) (qC ⟨p.v27,p.v40⟩ (qC ⟨p.v42,p.v55⟩ (qC ⟨p.v57,p.v70⟩ (zJ)))) 08)))))) (qf (qz qV) qj) qj) (qf (qE 2 (qL false (qb qV (qb qV (qb qV (qb qV (qb qV (qb qV (qb qV (qb qV (qb qV (qb qV (qb qV qd))))))))))))) (qf (qz (qu c (qk .add (qc 2) (qL false (qb qV qd))) (qm7 004))) qj))))))
def b_45:Bq M45:=λp c a tab d =>
 qf (yd 08 (qR (qo (qp 1) (qo (qp 2) qQ)))) (qf (qE 3 (qL false (qb jZ (qb qg (qb qP (qb qV (qb (ql qd) (qb (qL false qd) (qb (qet false) (qb 004 (qb (ql 026) (qb (j3 false p.gb (qb 08 qd)) (qb (ql (qb (j3 false p.gb 026) 033)) (qb (ql (qb 004 (qb (j3 false p.gb 033) qd))) qd)))))))))))))) (qf (qE 3 (qk .add (qc 3) (qL false (qb (ql (qb (ql qd) (qb (ql qd) qd))) (qb (ql (qb (qk .add (ql 021) (zD 004 (k_os qg) (k_on))) 033)) (qb (ql (qb (qk .add (zD 004 (k_on) (k_os (jF qg))) (ql 021)) 033)) (qb (ql (qb (qk .add (ql (qb qP qd)) (zD 004 (k_os qg) (k_on))) 033)) qd))))))) (qf (qE 3 (qk .add (qc 3) (qL false (qb (ql (qb 004 (qb (qk .add (qc 2) (ql (qb (ql (qb (ql (qb (zd p.gb 026) qd)) 021)) qd))) qd))) (qb (ql (qb 004 (qb (qk .add (qc 2) (ql (qb (ql (qb (ql qd) 021)) qd))) qd))) (qb (ql (qb 004 (qb (ql (qb (ql (qb (ql 021) 021)) qd)) qd))) qd)))))) (qf (qE 3 (qk .add (qc 3) (qL false (qb (ql (qb 004 (qb (ql (qb (ql (qb (ql 021) (qb qP qd))) qd)) qd))) (qb (ql (qb 004 (qb (ql (qb (ql (qb (ql (qb qg 021)) 021)) qd)) qd))) (qb (ql (qb 004 (qb (ql (qb (ql (qb (ql 021) (qb (qk .add (qk .pow qg qg) qg) qd))) qd)) qd))) qd)))))) (qf (qE 3 (qk .add (qc 3) (qL false (qb (ql (qb 004 (qb (ql (qb (ql (qb (ql 021) 021)) (qb (ql (qb (ql 021) 021)) qd))) qd))) (qb (ql (qb 004 (qb (ql (qb (ql (qb (qL false 021) 021)) qd)) qd))) (qb (ql (qb (qk .mul (ql 021) qg) (qb (ql qd) qd))) qd)))))) (qf (qz (qk .add (qc 3) (qL false (qb (ql (qb 004 (qb (ql (qb (ql (qb qg 021)) qd)) qd))) (qb (qk .add 08 (ql (qb (ql qd) qd))) qd))))) qj))))))
def b_46:Bq M46:=λp d a tab c =>
 qf (qE 2 (qL false (qb jZ (qb qg (qb qP (qb (ql qd) (qb (qL false qd) (qb (qet false) (qb (qk .add 004 (ql (qb (ql qd) qd))) (qb (j3 false p.gb 026) (qb (ql 026) (qb qV qd)))))))))))) (qf (z_if (q9 .eq c 004 (ql qd)) (qf (qz (qk .add (zD (qc 2) (k_on) (k_os qg)) (zD (qc 2) (k_os qg) (k_on)))) qj) qj) (qf (qE 3 (qu c 004 qg)) (qf (qE 4 (qi a.h_32 001 (qb (qk .add (qu c (qu c (qc 3) qg) qg) (qu c (qu c (qc 3) qg) qg)) (qb (qu c (qu c (qc 3) qg) qg) qd)))) (qf (qE 2 (qk .add (qc 2) (qL false (qb (zD 004 (k_os qg) (k_on)) (qb (qk .add (ql (qb (j3 false p.gb (qb (qc 3) qd)) qd)) (zD 004 (k_os qg) (k_on))) (qb (qk .add (ql (qb (qk .add (qc 3) (ql (qb (ql (qb qg 021)) qd))) qd)) (zD 004 (k_os qg) (k_on))) qd)))))) (qf (qE 2 (qk .add (qc 2) (qL false (qb (qk .add (ql (qb (zD (qc 3) (k_os qg) (k_on)) qd)) (zD 004 (k_os qg) (k_on))) (qb (qk .add (ql (qb (qk .add (ql (qb (qc 4) qd)) (zD (qc 3) (k_os qg) (k_on))) qd)) (zD 004 (k_os qg) (k_on))) (qb (qk .add (zD 004 (k_on) (k_os (jF qg))) (ql (qb jZ qd))) qd)))))) (qf (qz (qk .add (qc 2) (qL false (qb (qk .add (zD 004 (k_on) (k_os (jF qg))) (ql (qb (qk .mul (ql (qb (ql (qb (jF qg) 021)) qd)) (zd p.gb (qb (qu c 004 (jF qg)) qd))) qd))) (qb (qk .add (ql (qb (qk .add (ql (qb (qu c (qu c 031 qg) qg) qd)) (zD (qc 3) (k_os qg) (k_on))) qd)) (zD 004 (k_os qg) (k_on))) qd))))) qj))))))
def b_47:Bq M47:=λp c a tab d =>
 qf (qE 3 jZ) (qf (qm6 (t:=[(61,true),(73,true),(37,true)]) 4 p.v20 (jH c p.v25) (qm8 (qC (λ_=>⟨_,jH c p.v22,by decide +kernel⟩) (qC (λ_=>⟨_,jH c p.v23,by decide +kernel⟩) (qC (λ_=>⟨_,jH c p.v24,by decide +kernel⟩) (zJ))))) (qm5 (qlu a.x_26 (m2 d) (qb 08 (qb 004 033)) (zR (zR (zR (js)))))) (λ_ _ _=>qf (qE 3 (qc 4)) qj)) (qf (z_if (q9 .is d (qc 3) jZ) (qf (qz qV) qj) qj) (qf (qz (qi a.h_44 (m2 d) (qb (qc 3) qd))) qj)))
def b_48:Bq M48:=λp d a tab c =>
 qf (qE 4 (qi a.h_46 001 (qb (qc 2) (qb (qc 3) qd)))) (qf (qE 5 (qL false (qb jZ (qb qg (qb (ql qd) (qb (qL false qd) (qb (qet false) (qb (j3 false p.gb 026) (qb (qu c 004 qg) (qb (zD (qk .mul 004 qg) (k_on) (k_os qg)) (qb (ql (qb (ql (qb qV (qb (ql (qb (jF qg) 021)) (qb (ql (qb qg 021)) qd)))) qd)) qd))))))))))) (qf (qE 5 (qk .add (qc 5) (qL false (qb (ql (qb (ql (qb qV (qb (ql (qb qg 021)) (qb (ql (qb qg 021)) qd)))) qd)) (qb (ql (qb (ql (qb qV (qb (ql (qb qg 021)) (qb (ql (qb qg 021)) qd)))) qd)) (qb (ql (qb (ql (qb qV (qb (ql (qb qg 021)) qd))) qd)) qd)))))) (qf (ye (zH (qi a.h_45 001 033)) (qp 6) (qf (qE 7 (qu c (qk .add (qc 5) (qL false 026)) 048)) (qf (z_if (q9 .ne c (qi a.h_47 001 (qb (qc 7) (qb (qc 6) (qb (qu c (qk .add (qc 4) (qL false (qb (qc 3) qd))) (qi a.h_31 001 (qb 08 (qb (qk .add (zd p.gb (qb (qc 4) qd)) qg) qd)))) qd)))) qV) (qf (qz qP) qj) qj) qj))) (qf (ye (zH (qc 5)) (qp 6) (qf (z_if (q9 .ne c (qi a.h_47 001 (qb (qc 6) (qb (qc 2) (qb (qu c (qk .add (qc 4) (qL false (qb (qc 3) qd))) (qi a.h_31 001 (qb 08 (qb (qk .add (zd p.gb (qb (qc 4) qd)) qg) qd)))) qd)))) qV) (qf (qz qP) qj) qj) qj)) (qf (qz (qj1 p.gb (qb (k_lc false [1,2] ["_law_measure_here","_law_web_here"] ["_law_odd"] (zH (qc 4)) (λ_ _ _ _ _=>qp 2) (λ_ _ _ _ _=>zh) (λ_ _ _ _ _=>jG .eq c (qi a.h_47 001 (qb 08 (qb 004 033))) qV)) qd))) qj)))))
def b_49:Bq M49:=λp d a tab c =>
 qf (qE 2 (zz p.gb (qb (k_lc false [0] ["_law_pack_here"] ["_law_price"] (zH (qu c 004 qg)) (λ_ _ _ _ _=>qp 1) (λ_ _ _ _ _=>zh) (λ_ _ _ _ _=>qk .add qg 048)) qd))) (qf (qz (ql (qb (qc 2) (qb (zz p.gb (qb (k_lc false [0] ["_law_pack_here"] ["_law_some","_law_mass"] (zH (qu c 004 qg)) (λ_ _ _ _ _=>qR (qo (qp 1) (qo (qp 2) qQ))) (λ_ _ _ _ _=>zh) (λ_ _ _ _ _=>ql (qb 004 (qb (qk .add qg (qi a.h_31 001 (qb 08 (qb (qk .pow qg qg) qd)))) qd)))) qd)) qd)))) qj)
def b_50:Bq M50:=λp d a tab c =>
 qf (qE 2 (qL true qd)) (qf (ye (zH (qu c 004 qg)) (qR (qo (qp 3) (qo (qp 4) qQ))) (qf (qE 5 (qbS .mul (qL false (qb (ql (qb qg 021)) qd)) (zd p.gb (qb (qc 3) qd)))) (qf (z_if (q9 .gt c (zd p.gb (qb (qc 3) qd)) qg) (qf (qE 6 (qk .add qg (qi a.h_31 001 (qb 08 (qb (qk .pow qg qg) qd))))) (qf (yd (qi a.h_32 001 (qb (qi a.h_31 001 (qb 08 (qb (qk .add (qc 6) qg) qd))) (qb (qc 6) qd))) (qaG c (qc 5) qg)) qj)) qj) (qf (yd (qi a.h_34 001 (qb (ql (qb (qc 4) 021)) (qb (qu c (qc 5) qg) qd))) (qaG c (qc 5) (jF qg))) (qf (yW (qcL (qc 2) (zz p.gb (qb (qc 5) qd)))) qj))))) (qf (qz (zz p.gb 033)) qj))
def b_51:Bq M51:=λp d a tab c =>
 qf (qE 1 (qi a.h_32 001 (qb (qi a.h_31 001 (qb 08 (qb (qk .add (qk .pow qg qg) qg) qd))) (qb (qk .add qg (qi a.h_31 001 (qb 08 (qb (qk .pow qg qg) qd)))) qd)))) (qf (qE 2 (qi a.h_32 001 (qb (qk .add qg (qi a.h_31 001 (qb 08 (qb (qk .pow qg qg) qd)))) (qb (qk .add qg (qi a.h_31 001 (qb 08 (qb (qk .pow qg qg) qd)))) qd)))) (qf (qz (ql (qb (qu c (qL false (qb qV (qb qV qd))) 048) (qb 004 033)))) qj))
def b_52:Bq M52:=λp d a tab c =>
 qf (ye (qcM p.gb (qb qg (qb (qmX p.gb (qb qg (qb (qj0 p.gb (qb (zd p.gb (qb 08 qd)) 021)) qd))) 021))) (qp 1) (qf (qE 2 (qi a.h_37 001 (qb (qi a.h_30 001 (qb 08 026)) (qb qg 021)))) (qf (qE 3 (qi a.h_30 001 (qb 08 (qb (qk .add 004 qg) qd)))) (qf (qE 4 (qi a.h_30 001 (qb 08 (qb (qk .add 004 qg) qd)))) (qf (qE 5 (jG .eq c (qi a.h_31 001 (qb (qc 4) 021)) qg)) (qf (z_if (qW (qc 5)) (qf (qE 2 (qi a.h_49 001 (qb (qc 4) 033))) qj) qj) (qf (qE 6 (qi a.h_38 001 (qb (qc 3) 033))) (qf (qE 7 (qi a.h_41 001 (qb (qc 3) 021))) (qf (qE 8 (qi a.h_30 001 (qb 08 (qb (qk .add 004 qg) qd)))) (qf (z_if (Qpt (qmV (zb (qW (qc 5))) (qld (q9 .eq c (qi a.h_31 001 (qb (qc 8) 021)) qg)))) (qf (qE 6 (qi a.h_50 001 (qb (qc 8) 033))) qj) qj) (qf (z_if (qW (qc 5)) (qf (qE 7 (qk .add (zD (qc 7) (k_on) (k_os qg)) (ql (qb (qi a.h_51 001 (qb (qc 4) qd)) qd)))) qj) qj) (qf (qE 9 (qi a.h_42 001 (qb (qc 7) (qb (qu c (qc 2) qg) (qb (qi a.h_40 001 (qb (qc 2) (qb (qc 6) qd))) qd))))) (qf (qE 10 (qi a.h_26 001 (qb (qc 7) (qb (qc 2) (qb (qc 6) qd))))) (qf (z_if (Qpt (w_or (zb (qW (qi a.h_43 001 (qb (qc 10) qd)))) (zN (q9 .ne c (qc 10) (qc 9))))) (qf (qz qP) qj) qj) (qf (z_if (Qpt (w_or (zb (qW (qi a.h_48 001 (qb (qi a.h_30 001 (qb 08 (qb (qk .add 004 qg) qd))) (qb (qc 7) (qb (qc 2) (qb (qc 6) qd))))))) (zN (q9 .ne c (qi a.h_26 001 (qb (qc 7) (qb (qc 2) (qb (qc 6) qd)))) (qc 9))))) (qf (qz qP) qj) qj) qj))))))))))))))) (qf (qz qP) qj)
section
variable{P:Program}{w:World}{K:PySem.W.Frag}{mg:Str->Option Value}{base:Heap}{k N d:Nat}{i:Nat}{m:Df}
theorem oz(u:Uq K mg m)(a:run prg N 0 i=λ_ _=>.no:=by rfl):FnAt P w K mg base 0 (run prg N 0) i m.x m.ps:=u.fn λ_ _ _ _ _=>qm0 a
variable(p:Pre K mg)(kb:K.In base)(a:All P w K mg base k (run prg N d))
include p kb a
theorem og{f:Addr}{fd:FuncData}{c t:Addr}(U:FunT K m.x (top m.i) f fd c t)(b:Bq m)(S:FnScope m.N m.ps (defScope (top m.i)))(h:m.ps.length=m.b.np)(hn:m.N.length=m.b.nn)(hl:m.b.np<=m.b.nn)(j:run prg N (d+1) i=callC (run prg N d) N m.b):FnOk P w K mg base CX0 (k+3) f fd m.ps (SpD m.ps.length (run prg N (d+1) i)):=qmZ (G:=run prg N (d+1)) (i:=i) U S h hn hl j λA outer s H E l=>b p kb a U.tab l
theorem oq(u:Uq K mg m)(b:Bq m)(S:FnScope m.N m.ps (defScope (top m.i)):=by exact⟨rfl,rfl,rfl,by decide +kernel,rfl,by decide +kernel,by decide +kernel⟩)(c:m.ps.length=m.b.np:=by rfl)(hn:m.N.length=m.b.nn:=by rfl)(hl:m.b.np<=m.b.nn:=by decide)(f:run prg N (d+1) i=callC (run prg N d) N m.b:=by rfl):FnAt P w K mg base (k+3) (run prg N (d+1)) i m.x m.ps:=u.fn λ_ _ _ _ U=>og p kb a U b S c hn hl f
theorem oqX(u:Uq K mg m)(b:Bx m)(S:FnScope m.N m.ps (defScope (top m.i)):=by exact⟨rfl,rfl,rfl,by decide +kernel,rfl,by decide +kernel,by decide +kernel⟩)(c:m.ps.length=m.b.np:=by rfl)(hn:m.N.length=m.b.nn:=by rfl)(hl:m.b.np<=m.b.nn:=by decide)(f:run prg N (d+1) i=callC (run prg N d) N m.b:=by rfl):FnAtX P w K mg base (k+3) (run prg N (d+1)) i m.x m.ps:=R.EX.DefIn.fnX u λ_ _ _ _ U=>qls (G:=run prg N (d+1)) (i:=i) U S c hn hl f λA outer s H E h=>b p kb a U.tab h
omit p kb a
theorem ozX(u:Uq K mg m)(c:run prg N 0 i=λ_ _=>.no:=by rfl):FnAtX P w K mg base 0 (run prg N 0) i m.x m.ps:=R.EX.DefIn.fnX u λ_ _ _ _ _=>qlt c
include p kb a
theorem qhk:All P w K mg base (k+3) (run prg N (d+1)):=⟨oq p kb a p.u_0 b_0,oq p kb a p.u_1 b_1,oq p kb a p.u_2 b_2,oq p kb a p.u_3 b_3,oq p kb a p.u_4 b_4,oq p kb a p.u_5 b_5,oq p kb a p.u_6 b_6,oq p kb a p.u_7 b_7,oq p kb a p.u_8 b_8,oq p kb a p.u_9 b_9,oq p kb a p.u_10 b_10,oq p kb a p.u_11 b_11,oq p kb a p.u_12 b_12,oq p kb a p.u_13 b_13,oq p kb a p.u_14 b_14,oq p kb a p.u_15 b_15,oq p kb a p.u_16 b_16,oq p kb a p.u_17 b_17,oq p kb a p.u_18 b_18,oq p kb a p.u_19 b_19,oq p kb a p.u_20 b_20,oq p kb a p.u_21 b_21,oq p kb a p.u_22 b_22,oq p kb a p.u_23 b_23,oq p kb a p.u_24 b_24,oq p kb a p.u_25 b_25,oq p kb a p.u_26 b_26,oq p kb a p.u_27 b_27,oq p kb a p.u_28 b_28,oq p kb a p.u_29 b_29,oq p kb a p.u_30 b_30,oq p kb a p.u_31 b_31,oq p kb a p.u_32 b_32,oq p kb a p.u_33 b_33,oq p kb a p.u_34 b_34,oq p kb a p.u_35 b_35,oq p kb a p.u_36 b_36,oq p kb a p.u_37 b_37,oq p kb a p.u_38 b_38,oq p kb a p.u_39 b_39,oq p kb a p.u_40 b_40,oq p kb a p.u_41 b_41,oq p kb a p.u_42 b_42,oq p kb a p.u_43 b_43,oq p kb a p.u_44 b_44,oq p kb a p.u_45 b_45,oq p kb a p.u_46 b_46,oq p kb a p.u_47 b_47,oq p kb a p.u_48 b_48,oq p kb a p.u_49 b_49,oq p kb a p.u_50 b_50,oq p kb a p.u_51 b_51,oq p kb a p.u_52 b_52,oqX p kb a p.u_18 qnc,oqX p kb a p.u_19 qnd,oqX p kb a p.u_21 qne,oqX p kb a p.u_22 qnf,oqX p kb a p.u_23 qng,oqX p kb a p.u_26 qnh⟩
omit kb a
theorem qhl:All P w K mg base 0 (run prg N 0):=⟨oz p.u_0,oz p.u_1,oz p.u_2,oz p.u_3,oz p.u_4,oz p.u_5,oz p.u_6,oz p.u_7,oz p.u_8,oz p.u_9,oz p.u_10,oz p.u_11,oz p.u_12,oz p.u_13,oz p.u_14,oz p.u_15,oz p.u_16,oz p.u_17,oz p.u_18,oz p.u_19,oz p.u_20,oz p.u_21,oz p.u_22,oz p.u_23,oz p.u_24,oz p.u_25,oz p.u_26,oz p.u_27,oz p.u_28,oz p.u_29,oz p.u_30,oz p.u_31,oz p.u_32,oz p.u_33,oz p.u_34,oz p.u_35,oz p.u_36,oz p.u_37,oz p.u_38,oz p.u_39,oz p.u_40,oz p.u_41,oz p.u_42,oz p.u_43,oz p.u_44,oz p.u_45,oz p.u_46,oz p.u_47,oz p.u_48,oz p.u_49,oz p.u_50,oz p.u_51,oz p.u_52,ozX p.u_18,ozX p.u_19,ozX p.u_21,ozX p.u_22,ozX p.u_23,ozX p.u_26⟩
omit p
theorem qhm(p:Pre K mg)(kb:K.In base):∀d:Nat,All P w K mg base (3*d) (run prg N d)
 |0=>qhl p
 |d+1=>qhk p kb (qhm p kb d)
include p kb a
theorem o_law{f:Addr}{fd:FuncData}{c t:Addr}(U:FunT K M52.x (top M52.i) f fd c t):FnOk P w K mg base CX0 (k+3) f fd M52.ps (SpD M52.ps.length (run prg N (d+1) 52)):=og p kb a U b_52 ⟨rfl,rfl,rfl,by decide +kernel,rfl,by decide +kernel,by decide +kernel⟩ rfl rfl 01 rfl
end
end RP
namespace RP
open R
section
variable{α:Type}{g:α->D}
theorem qal{n:Nat}{bind:024}{test:022}{elt:007}{b:α->Bool}{v:α->D}(R:En->Prop){S:Sr}(hn:S.length=n):∀(ds:List α) (a:04) (ρ:En),a.length+ds.length<=PySem.sizeLine->R ρ ->
  (∀d∈ds,∀(ρ:En) (m:04),R ρ->∃ρ1,bind (g d) ρ (S++[.l m])=.ok ρ1 (S++[.l m])/\R ρ1/\test ρ1 (S++[.l m])=.ok (b d) (S++[.l m])/\(b d=true->elt ρ1 (S++[.l m])=.ok (v d) (S++[.l m])/\refsLt 0 (v d)=true)) ->
  ∃ρ',lcLoop n bind test elt (ds.map g) ρ (S++[.l a])=.ok ρ' (S++[.l (a++(ds.filter b).map v)])
 |[],a,ρ,_,_,_=>⟨ρ,by simp[lcLoop]⟩
 |d::ds,a,ρ,hl,hR,H=>by
  obtain⟨ρ1,e1,c,e2,h⟩:=H d wR ρ a hR;simp only[wY]at hl;rw[wj];unfold lcLoop;rw[e1,Res.bind_ok,e2,Res.bind_ok];cases z:b d with
  |true =>
   obtain⟨i,j⟩:=h z;have l:appD (S++[.l a]) (.ref n) (v d)=.ok .non (S++[.l (a++[v d])]):=by
    subst hn;have f:a.length<PySem.sizeLine:=by lia
    simp[appD,j,f]
   rw[wN rfl,i,Res.bind_ok,l,Res.bind_ok];obtain⟨ρ',e⟩:=qal R hn ds (a++[v d]) ρ1 030 c λd' hd=>H d' (wM _ hd)
   exact⟨ρ',by rw[e];simp[z]⟩
  |false =>
   rw[wT 07];obtain⟨ρ',e⟩:=qal R hn ds a ρ1 00 c λd' hd=>H d' (wM _ hd)
   exact⟨ρ',by rw[e];simp[z]⟩
theorem qaI{F:Fs}{fr:List Nat}{nt:Nat}{elt:CE}{tg:CT}{it:CI}{ifs:CBs}{ρ:En}{S S1:Sr}{ds:04}(xs:List α)(b:α->Bool)(v:α->D)(R:En->Prop)(a:evI F it ρ S=.ok ds S1)(hd:ds=xs.map g)(c:R (frE ρ fr nt))(hl:xs.length<=PySem.sizeLine)(H:∀d∈xs,∀(ρ:En) (m:04),R ρ->∃ρ1,asg F tg (g d) ρ (S1++[.l m])=.ok ρ1 (S1++[.l m])/\R ρ1/\tsts F ifs ρ1 (S1++[.l m])=.ok (b d) (S1++[.l m])/\(b d=true->ev F elt ρ1 (S1++[.l m])=.ok (v d) (S1++[.l m])/\refsLt 0 (v d)=true)):
  ev F (.lc false fr nt elt tg it ifs) ρ S=.ok (.l ((xs.filter b).map v)) S1:=by
 obtain⟨ρ',e⟩:=qal (n:=S1.length) (bind:=λd ρ S=>asg F tg d ρ S) (test:=λρ S=>tsts F ifs ρ S) (elt:=λρ S=>ev F elt ρ S) R rfl xs [] _ (by simpa using hl) c H;simp only[ev,a,Res.bind,hd,e,lcEnd];simp
theorem qeB{bind:024}{test:022}{elt:007}{p:α->Bool}(R:En->Prop){S:Sr}:∀(ds:List α) (ρ:En),R ρ ->
  (∀d∈ds,∀ρ:En,R ρ->∃ρ1,bind (g d) ρ S=.ok ρ1 S/\R ρ1/\test ρ1 S=.ok true S/\elt ρ1 S=.ok (.bl (p d)) S) ->
  genLoop bind test elt (stepG .all) (finG .all) (ds.map g) ρ .non S=.ok (.bl (ds.all p)) S
 |[],ρ,_,_=>by simp[genLoop,finG]
 |d::ds,ρ,hR,H=>by
  obtain⟨ρ1,e1,a,e2,c⟩:=H d wR ρ hR;rw[wj];unfold genLoop;rw[e1,Res.bind_ok,e2,Res.bind_ok,wN rfl,c,Res.bind_ok];cases z:p d with
  |true=>simp only[stepG];rw[qeB R ds ρ1 a λd' hd=>H d' (wM _ hd)];simp[z]
  |false=>simp[stepG,z]
theorem yr{F:Fs}{fr:List Nat}{nt:Nat}{elt:CE}{tg:CT}{it:CI}{ρ:En}{S S1:Sr}{ds:04}(xs:List α)(p:α->Bool)(R:En->Prop)(f:evI F it ρ S=.ok ds S1)(hd:ds=xs.map g)(h:R (frE ρ fr nt))(H:∀d∈xs,∀ρ:En,R ρ->∃ρ1,asg F tg (g d) ρ S1=.ok ρ1 S1/\R ρ1/\ev F elt ρ1 S1=.ok (.bl (p d)) S1):
  ev F (.gen .all fr nt elt tg it .nil) ρ S=.ok (.bl (xs.all p)) S1:=by
 simp only[ev,f,Res.bind,hd,startG];exact qeB R xs _ h λd hd ρ i=>let ⟨ρ1,a,b,c⟩:=H d hd ρ i;⟨ρ1,a,b,rfl,c⟩
end
noncomputable abbrev Tie:=List Int×Int
noncomputable def tieD(t:Tie):D:=.t [tupI t.1,.int t.2]
structure Wb where
 costs:List Int
 ties:List Tie
noncomputable def webD(w:Wb):D:=.t [tupI w.costs,.t (w.ties.map tieD)]
structure PlOk (n:Nat) (p:008):Prop where
 ne:p≠[]
 rng:∀x∈p,0<=x/\x<n
 up:p.Pairwise (· < ·)
structure WbOk (w:Wb):Prop where
 c1:1<=w.costs.length
 c2:w.costs.length<=12
 c3:∀c∈w.costs,1<=c/\c<=100
 t1:w.ties.length<=30
 t2:∀t∈w.ties,PlOk w.costs.length t.1/\t.1.length<=4/\1<=t.2/\t.2<=1000000
 t3:(w.ties.map (·.1)).Pairwise λa b=>HT.lexLt a b=true
def zm:∀l:List Int,intsOf (l.map .int)=some l
 |[]=>rfl
 |a::r=>by simp[intsOf,zm r]
def qhn:∀{l:008},l.Pairwise (· < ·)->(l.zip (l.drop 1)).all (λp=>decide (p.1<p.2))=true
 |[],_=>rfl
 |[a],_=>rfl
 |a::b::r,h=>by
  have c:=ws.mp h;have:=qhn c.2;simp only[xG,ug,uZ,vz,wS,vH]at this ⊢;exact⟨c.1 b wR,this⟩
def qeC:∀{l:List (List Int)},l.Pairwise (λa b=>HT.lexLt a b=true)->(l.zip (l.drop 1)).all (λp=>HT.lexLt p.1 p.2)=true
 |[],_=>rfl
 |[a],_=>rfl
 |a::b::r,h=>by
  have c:=ws.mp h;have:=qeC c.2;simp only[xG,ug,uZ,vz,wS]at this ⊢;exact⟨c.1 b wR,this⟩
def cut1(l:04):cutD l (some 1) none=l.drop 1:=by
 unfold cutD HT.sIx;cases l with
 |nil=>rfl
 |cons a r =>
  have:min (1:Int).toNat (a::r).length=1:=by simp
  simp only[this];rw[wT 00];simp
section
variable{F:Fs}{N:Nat}{ρ ρ1:En}{S S1 S2:Sr}{r a b:CSs}{e e1 e2:CE}{t:CT}{c:CB}{X:Res Fl}{d d1 d2:D}
theorem qA(h:ev F e ρ S=.ok d S1):exs F N (.c (.ret e) r) ρ S=.ok (.rt d) S1:=by simp[exs,ex,h,Res.bind]
theorem zK:exs F N .nil ρ S=.ok (.nx ρ) S:=by simp[exs]
theorem qG(h:ev F e ρ S=.ok d S1)(f:asg F t d ρ S1=.ok ρ1 S2)(i:exs F N r ρ1 S2=X):exs F N (.c (.set t e) r) ρ S=X:=by simp[exs,ex,h,f,i,Res.bind]
theorem x_expr(h:ev F e ρ S=.ok d S1)(f:exs F N r ρ S1=X):exs F N (.c (.expr e) r) ρ S=X:=by simp[exs,ex,h,f,Res.bind]
theorem x_no(h:tst F c ρ S=.ok false S1)(f:exs F N r ρ S1=X):exs F N (.c (.ifs c a .nil) r) ρ S=X:=by simp[exs,ex,h,f,Res.bind]
theorem zf(h:tst F c ρ S=.ok true S1)(f:exs F N a ρ S1=.ok (.rt d) S2):exs F N (.c (.ifs c a b) r) ρ S=.ok (.rt d) S2:=by simp[exs,ex,h,f,Res.bind]
theorem qdC(h:tst F c ρ S=.ok true S1)(f:exs F N a ρ S1=.ok (.nx ρ1) S2)(i:exs F N r ρ1 S2=X):exs F N (.c (.ifs c a b) r) ρ S=X:=by simp[exs,ex,h,f,i,Res.bind]
theorem jI{it:CI}{ds:04}(h:evI F it ρ S=.ok ds S1)(f:forLoop (λd ρ S=>(asg F t d ρ S).bind λρ1 S1=>exs F N a ρ1 S1) ds ρ S1=.ok (.nx ρ1) S2)(i:exs F N r ρ1 S2=X):exs F N (.c (.forS t it a) r) ρ S=X:=by
 simp only[exs,ex,h,Res.bind]at f ⊢;rw[f];exact i
theorem qr{f:CF}{l:04}(hl:l.length=f.np)(h:exs F N f.body (l.map some++List.replicate (f.nn-f.np) none) S=.ok (.rt d) S):callC F N f l S=.ok d S:=by
 simp only[callC,hl,wN,h,Res.bind,leave];cases f.keeps <;> simp
theorem qeD{f:CF}{l:04}(hl:l.length=f.np)(h:exs F N f.body (l.map some++List.replicate (f.nn-f.np) none) S=.ok (.nx ρ) S):callC F N f l S=.ok .non S:=by
 simp only[callC,hl,wN,h,Res.bind,leave];cases f.keeps <;> simp
theorem qcS{f:CF}{l:04}(hl:l.length=f.np)(i:f.keeps=false)(h:exs F N f.body (l.map some++List.replicate (f.nn-f.np) none) S=.ok (.rt d) (S1++S2))(hs:S1.length=S.length)(j:refsLt S.length d=true):callC F N f l S=.ok d S1:=by
 simp only[callC,hl,wN,h,Res.bind,leave,i];rw[wT 07];split
 .rename_i z
  have:S2=[]:=by
   rw[wP,hs]at z;exact wp.mp 00
  rw[this,vu]
 .rw [<-hs];simp
theorem qly{f:CF}{l:04}(hl:l.length=f.np)(i:f.keeps=true)(h:exs F N f.body (l.map some++List.replicate (f.nn-f.np) none) S=.ok (.rt d) S1):callC F N f l S=.ok d S1:=by
 simp only[callC,hl,wN,h,Res.bind,leave,i]
theorem jm{x y:Bool}(h:ev F e1 ρ S=.ok (.bl x) S)(f:ev F e2 ρ S=.ok (.bl y) S):ev F (.and e1 e2) ρ S=.ok (.bl (x&&y)) S:=by
 cases x <;> simp[ev,h,f,Res.bind]
theorem qh{i:Nat}{es:CEs}{l:04}(h:evs F es ρ S=.ok l S1)(f:F i l S1=.ok d S2):ev F (.call i es) ρ S=.ok d S2:=by simp[ev,h,f,Res.bind]
theorem qF{i:Blt}{es:CEs}{l:04}(h:evs F es ρ S=.ok l S1)(f:bltD i l S1=.ok d S2):ev F (.blt i es) ρ S=.ok d S2:=by simp[ev,h,f,Res.bind]
theorem qe{es:CEs}{l:04}(h:ev F e ρ S=.ok d S1)(f:evs F es ρ S1=.ok l S2):evs F (.cons e es) ρ S=.ok (d::l) S2:=by simp[evs,h,f,Res.bind]
theorem qm{o:BOp}(h:ev F e1 ρ S=.ok d1 S1)(f:ev F e2 ρ S1=.ok d2 S2)(i:binD o d1 d2 S2=some d):ev F (.bin o e1 e2) ρ S=.ok d S2:=by simp[ev,h,f,i,Res.bind]
theorem qH{o:COp}{x:Bool}(h:ev F e1 ρ S=.ok d1 S1)(f:ev F e2 ρ S1=.ok d2 S2)(i:cmpD o d1 d2 S2=some x):ev F (.cmp o e1 e2) ρ S=.ok (.bl x) S2:=by simp[ev,h,f,i,Res.bind]
theorem qw(h:ev F e1 ρ S=.ok d1 S1)(f:ev F e2 ρ S1=.ok d2 S2)(i:idxD S2 d1 d2=some d):ev F (.idx e1 e2) ρ S=.ok d S2:=by simp[ev,h,f,i,Res.bind]
theorem qZ{es:CEs}{l:04}(h:evs F es ρ S=.ok l S1)(hl:l.length<=PySem.sizeLine):ev F (.t es) ρ S=.ok (.t l) S1:=by simp[ev,h,hl,Res.bind]
theorem t_of{x:Bool}(h:ev F e ρ S=.ok (.bl x) S1):tst F (.val e) ρ S=.ok x S1:=by simp[tst,h,Res.bind,truD]
theorem t_no{x:Bool}(h:tst F c ρ S=.ok x S1):tst F (.not c) ρ S=.ok (!x) S1:=by simp[tst,h,Res.bind]
end
def zE{a:Type}(l:List a):l.filter (λ_=>true)=l:=List.filter_eq_self.mpr λ_ _=>rfl
def qho{a:Type}(f:a->D)(p:List a):((p.map f).zip ((p.drop 1).map f)).map (λq=>D.t [q.1,q.2])=(p.zip (p.drop 1)).map λq=>.t [f q.1,f q.2]:=by
 rw[xM,wo];rfl
def refsI(k:Nat):∀l:List Int,refsLts k (l.map .int)=true
 |[]=>rfl
 |a::r=>by rw[wj,refsLts,refsI k r];rfl
def qU(k:Nat)(l:008):refsLt k (tupI l)=true:=refsI k l
def yZ(k:Nat)(t:Tie):refsLt k (tieD t)=true:=by
 show(refsLt k (tupI t.1)&&(refsLt k (.int t.2)&&true))=true;rw[qU];rfl
def qbs(k:Nat):∀l:List Tie,refsLts k (l.map tieD)=true
 |[]=>rfl
 |a::r=>by rw[wj,refsLts,qbs k r,yZ];rfl
def qhp(k:Nat)(w:Wb):refsLt k 012=true:=by
 show(refsLt k (tupI w.costs)&&(refsLts k (w.ties.map tieD)&&true))=true;rw[qU,qbs];rfl
def ym(l:008)(S:Sr):bltD .len [tupI l] S=.ok (.int l.length) S:=by simp[bltD,one,bLen,lenD,tupI]
def yt{a:Int}{n:Nat}(h:a.natAbs<2^n):PySem.Builtin.Int.intBits a<=n:=by
 unfold PySem.Builtin.Int.intBits;split
 .lia
 .rename_i z
  have c:a.natAbs≠0:=by
   intro e;apply z;simp;lia
  have:=(Nat.log2_lt c).mpr h;lia
def jJ{a b:Int}(h:a.natAbs<2^64):mulOk a b=true:=by
 have:=yt h;unfold mulOk PySem.shortFactorBits;have e:decide (PySem.Builtin.Int.intBits a>64)=false:=by simp;lia
 rw[e];rfl
def jK{a b:Int}(h:b.natAbs<2^64):mulOk a b=true:=by
 have:=yt h;unfold mulOk PySem.shortFactorBits;have e:decide (PySem.Builtin.Int.intBits b>64)=false:=by simp;lia
 rw[e,vE];rfl
def qeE{a b:Int}(h:a.natAbs<2^250)(c:b.natAbs<2^250):mulOk a b=true:=by
 have d:=yt h;have c:=yt c;unfold mulOk PySem.Builtin.Int.intTooBig PySem.bitsLine;have e:decide (((PySem.Builtin.Int.intBits a:Int)+(PySem.Builtin.Int.intBits b:Int))>((2^27:Nat):Int))=false:=by
  rw[vS];norm_cast;lia
 rw[e,vE];rfl
def qja{a b:Int}(d:0<b)(h:b.natAbs<2^64):divOk a b=true:=by
 have hb:=yt h;unfold divOk PySem.Builtin.divisionGoesByPylong;unfold PySem.Builtin.Int.intBits at hb;have c:(b == 0)=false:=by rw[wv];lia
 rw[c]at hb;simp only[c,vf,ui]at hb ⊢;have e:decide (b.natAbs.log2 / 30+1>300)=false:=by rw[vS];lia
 simp only[e,vP];rfl
def bmul{a b:Int}{S:Sr}(h:mulOk a b=true):binD .mul (.int a) (.int b) S=some (.int (a*b)):=by
 simp only[binD,binI];rw[wN h];rfl
def badd{a b:Int}{S:Sr}:binD .add (.int a) (.int b) S=some (.int (a+b)):=rfl
noncomputable def pk(S:Sr)(n:Nat)(v:Int):Sr:=S.set n (.l [.int v])
def qv(S:Sr)(n:Nat)(v:Int):(pk S n v).length=S.length:=by simp[pk]
def qj6{S:Sr}{n:Nat}(h:n<S.length)(v:Int):(pk S n v)[n]?=some (.l [.int v]):=by simp[pk,h]
def zZ{S T:Sr}{n:Nat}(h:n<S.length)(v:Int):pk S n v++T=pk (S++T) n v:=by simp[pk,List.set_append_left _ _ h]
def qjb{S:Sr}{n:Nat}{v:Int}(h:S[n]?=some (.l [.int v])):pk S n v=S:=by
 unfold pk;apply List.ext_getElem?;intro i;rw[List.getElem?_set];split
 .rename_i e;subst e
  obtain⟨hl,_⟩:=wG.mp h;rw[wN hl,h]
 .rfl
def zg{F:Fs}{ρ:En}{S S1:Sr}{es:CEs}{l:04}(h:evs F es ρ S=.ok l S1)(hl:l.length<=1000):ev F (.l false es) ρ S=.ok (.l l) S1:=by
 have:l.length<=PySem.sizeLine:=by unfold PySem.sizeLine;lia
 simp[ev,h,this,Res.bind,newL]
def qbW{F:Fs}{ρ:En}{S S1:Sr}{es:CEs}{l:04}(h:evs F es ρ S=.ok l S1)(hl:l.length<=1000)(a:refsLts 0 l=true):ev F (.l true es) ρ S=.ok (.ref S1.length) (S1++[.l l]):=by
 have:l.length<=PySem.sizeLine:=by unfold PySem.sizeLine;lia
 simp[ev,h,this,Res.bind,newL,a]
def qaJ{body:D->En->Sr->Res Fl}{d:D}{r:04}{ρ ρ1:En}{S S1:Sr}(h:body d ρ S=.ok (.nx ρ1) S1):forLoop body (d::r) ρ S=forLoop body r ρ1 S1:=by
 simp only[forLoop,h,Res.bind]
def zS{c:Type}{g:c->D}{body:D->En->Sr->Res Fl}(P:List c->En->Sr->Prop)(xs:List c){ρ:En}{S:Sr}(i:P [] ρ S)(H:∀(pre:List c) (x:c) (a:List c) (ρ:En) (S:Sr),xs=pre++x::a->P pre ρ S->∃ρ1 S1,body (g x) ρ S=.ok (.nx ρ1) S1/\P (pre++[x]) ρ1 S1):
  ∃ρ' d,forLoop body (xs.map g) ρ S=.ok (.nx ρ') d/\P xs ρ' d:=by
 have f:∀(a pre:List c) (ρ:En) (S:Sr),xs=pre++a->P pre ρ S->∃ρ' d,forLoop body (a.map g) ρ S=.ok (.nx ρ') d/\P xs ρ' d:=by
  intro a;induction a with
  |nil=>intro pre ρ S e h;rw[vu]at e;subst e;exact⟨ρ,S,rfl,h⟩
  |cons x r j =>
   intro pre ρ S e h;obtain⟨ρ1,S1,e1,l⟩:=H pre x r ρ S e h;obtain⟨ρ',d,e2,m⟩:=j (pre++[x]) ρ1 S1 (by rw[e];simp) l;exact⟨ρ',d,by rw[wj,qaJ e1,e2],m⟩
 exact f xs [] ρ S rfl i
def qdD{x:Type}{g:x->D}{n:Nat}{bind:024}{test:022}{elt:007}(R:En->Prop)(I:List D->Sr->Prop)(i:∀ρ S,test ρ S=.ok true S):∀(ds:List x) (f:04) (ρ:En) (S:Sr),f.length+ds.length<=1000->R ρ->I f S->S.length=n ->
  (∀d∈ds,∀(ρ:En) (m:04) (S:Sr),R ρ->I m S->S.length=n->m.length<f.length+ds.length->∃ρ1 v j,bind (g d) ρ (S++[.l m])=.ok ρ1 (S++[.l m])/\R ρ1/\elt ρ1 (S++[.l m])=.ok v (j++[.l m])/\j.length=n/\refsLt 0 v=true/\I (m++[v]) j) ->
  ∃ρ' h j,lcLoop n bind test elt (ds.map g) ρ (S++[.l f])=.ok ρ' (j++[.l h])/\I h j/\j.length=n/\h.length=f.length+ds.length
 |[],f,ρ,S,_,_,hI,hn,_=>⟨ρ,f,S,by simp[lcLoop],hI,hn,by simp⟩
 |d::ds,f,ρ,S,hl,hR,hI,hn,H=>by
  obtain⟨ρ1,v,j,e1,o,y,l,A,p⟩:=H d wR ρ f S hR hI hn 07;simp only[wY]at hl;rw[wj];unfold lcLoop;have B:appD (j++[.l f]) (.ref n) v=.ok .non (j++[.l (f++[v])]):=by
   subst l;have q:f.length<PySem.sizeLine:=by unfold PySem.sizeLine;lia
   simp[appD,A,q]
  rw[e1,Res.bind_ok,i,Res.bind_ok,wN rfl,y,Res.bind_ok,B,Res.bind_ok];obtain⟨ρ',h,S2,e,r,s,u⟩:=qdD R I i ds (f++[v]) ρ1 j 030 o p l λd' hd ρ m S a b c w=>H d' (wM _ hd) ρ m S a b c (by simp at w ⊢;lia)
  exact⟨ρ',h,S2,e,r,s,by rw[u];simp;lia⟩
def qdE{h:Type}{g:h->D}{F:Fs}{fr:List Nat}{nt:Nat}{elt:CE}{tg:CT}{it:CI}{ρ:En}{S S1:Sr}{ds:04}(xs:List h)(R:En->Prop)(I:List D->Sr->Prop)(j:evI F it ρ S=.ok ds S1)(hd:ds=xs.map g)(l:R (frE ρ fr nt))(hl:xs.length<=1000)(hi:I [] S1)(H:∀d∈xs,∀(ρ:En) (m:04) (S:Sr),R ρ->I m S->S.length=S1.length->m.length<xs.length->∃ρ1 v c,asg F tg (g d) ρ (S++[.l m])=.ok ρ1 (S++[.l m])/\R ρ1/\ev F elt ρ1 (S++[.l m])=.ok v (c++[.l m])/\c.length=S1.length/\refsLt 0 v=true/\I (m++[v]) c):
  ∃a c,ev F (.lc false fr nt elt tg it .nil) ρ S=.ok (.l a) c/\I a c/\c.length=S1.length/\a.length=xs.length:=by
 obtain⟨ρ',f,c,e,o,i,p⟩:=qdD (n:=S1.length) (bind:=λd ρ S=>asg F tg d ρ S) (test:=λρ S=>tsts F .nil ρ S) (elt:=λρ S=>ev F elt ρ S) R I (λ_ _=>by simp[tsts]) xs [] _ S1 (by simpa using hl) l hi rfl (by simpa using H);refine⟨f,c,?_,o,i,by simpa using p⟩;simp only[ev,j,Res.bind,hd,e,lcEnd];rw[<-i];simp
noncomputable def rI(n:Nat):List Int:=(List.range n).map λ(k:Nat)=>(k:Int)
def yn(n:Nat):(rI n).length=n:=by simp[rI]
def qlz{n:Nat}{x:Int}:x∈rI n ↔ 0<=x/\x<n:=by
 unfold rI;rw[w8];constructor
 .rintro ⟨k,a,rfl⟩;have:=uB.mp a;lia
 .rintro ⟨c,d⟩;exact⟨x.toNat,uB.mpr 00,by lia⟩
def qhq(n:Nat):(rI n).Nodup:=by
 unfold rI;exact List.Pairwise.map _ (λa b h e=>h 00) List.nodup_range
def qjc(n:Nat):rngL 0 n 1=(rI n).map .int:=by
 unfold rngL rI;have:(((n:Int)-0+1-1) / 1).toNat=n:=by lia
 rw[this,wo];apply vK;intro k _;simp
def qhr{n:Nat}(h:n<=1000):rngD [.int n]=some ((rI n).map .int):=by
 have a:-(2^62)<=(n:Int):=by lia
 have c:(n:Int)<2^62:=by lia
 simp only[rngD,a,c,and_self,uO,qjc]
def qni{n:Nat}(h:n<=1000):((rI n).map D.int).length<=1000000:=by
 rw[wF,yn];exact vF h 01
def qhs{c d:Type}(f:c->d):∀(l:List c) (i:Nat),(l.map f).eraseIdx i=(l.eraseIdx i).map f
 |[],_=>by simp
 |a::r,0=>by simp
 |a::r,i+1=>by simp[qhs f r i]
def qeF{c:Type}:∀{l:List c} {i:Nat} {x:c},l[i]?=some x->(x::l.eraseIdx i).Perm l
 |[],i,x,h=>by simp at h
 |a::r,0,x,h=>by simp at h;subst h;simp
 |a::r,i+1,x,h=>by
  simp at h;have:=qeF h;simp only[List.eraseIdx_cons_succ];exact(List.Perm.swap a x _).trans (this.cons a)
def qht{l:008}(h:l.Nodup):(sortI l).Pairwise (· < ·):=by
 have c:=qaF l;have d:(sortI l).Nodup:=(zQ l).nodup_iff.mpr h;exact(c.and d).imp λ⟨a,b⟩=>by lia
def qfD{l:008}(h:l.length<64):sortL (l.map .int)=some ((sortI l).map .int):=by
 unfold sortL;rw[wN (by simpa using h),zm]
def fm{v m:Int}(h:0<m):0<=v.fmod m/\v.fmod m<m:=⟨vX v h,ut v h⟩
def qlA{F:Fs}{ρ:En}{S S1:Sr}{es:CEs}{l:04}{k:Option Bool}(h:evs F es ρ S=.ok l S1){ds:04}(a:rngD l=some ds)(c:ds.length<=1000000):ev F (.rng k es) ρ S=match k with|some m=>newL m ds S1|none=>.ok (.t ds) S1:=by
 cases k <;> simp only[ev,h,Res.bind,a,c,uO]
def qlB{F:Fs}{ρ:En}{S S1:Sr}{es:CEs}{n:Nat}(h:evs F es ρ S=.ok [.int n] S1)(hn:n<=1000):ev F (.rng (some true) es) ρ S=.ok (.ref S1.length) (S1++[.l ((rI n).map .int)]):=by
 rw[qlA h (qhr hn) (qni hn)];simp only[newL,refsI,uO]
def i_rng{F:Fs}{ρ:En}{S S1:Sr}{es:CEs}{n:Nat}(h:evs F es ρ S=.ok [.int n] S1)(hn:n<=1000):evI F (.rng es) ρ S=.ok ((rI n).map .int) S1:=by
 simp only[evI,h,Res.bind,qhr hn];rfl
def qnj{F:Fs}{ρ:En}{S S1 S2 a:Sr}{o i:CE}{x y d:D}(h:ev F o ρ S=.ok x S1)(hi:isLst S1 x=true)(c:ev F i ρ S1=.ok y S2)(f:popD S2 x y=.ok d a):ev F (.popAt o i) ρ S=.ok d a:=by
 simp only[ev,h,Res.bind,hi,uO,c,f]
def qj7{F:Fs}{ρ:En}{S S1 S2 a:Sr}{o i:CE}{x y d:D}(h:ev F o ρ S=.ok x S1)(hi:isLst S1 x=true)(c:ev F i ρ S1=.ok y S2)(f:appD S2 x y=.ok d a):ev F (.app o i) ρ S=.ok d a:=by
 simp only[ev,h,Res.bind,hi,uO,c,f]
noncomputable def ent(t:Tie):List Int×D:=(t.1,.int t.2)
noncomputable def dicD(ts:List Tie):SO:=.dic (ts.map ent)
structure KnOk (many:Nat) (ts:List Tie):Prop where
 nd:(ts.map (·.1)).Nodup
 ok:∀t∈ts,PlOk many t.1/\t.1.length<=4/\1<=t.2/\t.2<=1000000
noncomputable def putTie(k:008)(w:Int)(ts:List Tie):List Tie :=
 if ts.any (λt=>decide (t.1=k))then ts.map (λt=>if t.1=k then(t.1,w)else t)else ts++[(k,w)]
def qhu(k:008)(w:Int)(ts:List Tie):putT k (.int w) (ts.map ent)=(putTie k w ts).map ent:=by
 unfold putT putTie;have e:(ts.map ent).any (λp=>decide (p.1=k))=ts.any (λt=>decide (t.1=k)):=by rw[List.any_map];rfl
 rw[e];split
 .rw [wo,wo]
  apply vK;intro t _;show(if t.1=k then(t.1,D.int w)else ent t)=ent (if t.1=k then(t.1,w)else t);split <;> rfl
 .simp [ent]
def KnOk.put{many:Nat}{ts:List Tie}(h:KnOk many ts){k:008}{w:Int}(i:PlOk many k)(hl:k.length<=4)(d:1<=w)(f:w<=1000000):KnOk many (putTie k w ts)/\(putTie k w ts).length<=ts.length+1:=by
 unfold putTie;split
 .refine ⟨⟨?_,?_⟩,by simp⟩
  .rw [wo]
   have:ts.map ((·.1)∘λt=>if t.1=k then(t.1,w)else t)=ts.map (·.1):=by
    apply vK;intro t _;show(if t.1=k then(t.1,w)else t).1=t.1;split <;> rfl
   rw[this];exact h.nd
  .intro t c
   obtain⟨s,hs,rfl⟩:=w8.mp c;split
   .rename_i e;exact⟨(h.ok s hs).1,(h.ok s hs).2.1,d,f⟩
   .exact h.ok s hs
 .rename_i hn
  refine⟨⟨?_,?_⟩,by simp⟩
  .rw [vL,vo]
   refine⟨h.nd,by simp,λa ha b hb e=>?_⟩;simp at hb;obtain⟨s,hs,rfl⟩:=w8.mp ha;apply hn;rw[List.any_eq_true];exact⟨s,hs,by rw[vH,e,hb]⟩
  .intro t c
   rcases wa.mp c with z|z
   .exact h.ok t z
   .simp at z;subst z;exact⟨i,hl,d,f⟩
noncomputable def look(ts:List Tie)(k:008):Int:=match ts with
 |[]=>0
 |t::r=>if t.1=k then t.2 else look r k
def qam:∀{ts:List Tie} {k:008},k∈ts.map (·.1)->lookT k (ts.map ent)=some (.int (look ts k))/\∃t∈ts,t.1=k/\t.2=look ts k
 |[],k,h=>by simp at h
 |t::r,k,h=>by
  rw[wj];show(if t.1=k then some (D.int t.2)else lookT k (r.map ent))=some (.int (if t.1=k then t.2 else look r k))/\∃s∈t::r,s.1=k/\s.2=(if t.1=k then t.2 else look r k);by_cases e:t.1=k
  .rw [wN e,wN e];exact⟨rfl,t,wR,e,rfl⟩
  .rw [wT e,wT e]
   have h':k∈r.map (·.1):=by
    rw[wj]at h;rcases wW.mp h with z|z
    .exact absurd z.symm e
    .exact z
   obtain⟨a,s,hs,b⟩:=qam h';exact⟨a,s,wM _ hs,b⟩
noncomputable def srt(ts:List Tie):List Tie:=(sortT (ts.map (·.1))).map λk=>(k,look ts k)
def qhv(ts:List Tie):(srt ts).map (·.1)=sortT (ts.map (·.1)):=by
 unfold srt;rw[wo];have:((λt:Tie=>t.1)∘λk=>(k,look ts k))=id:=rfl;rw[this,List.map_id]
def qeG(ts:List Tie):(srt ts).length=ts.length:=by
 unfold srt;rw[wF,(zk _).length_eq,wF]
def qlC{many:Nat}{ts:List Tie}(h:KnOk many ts):(∀t∈srt ts,PlOk many t.1/\t.1.length<=4/\1<=t.2/\t.2<=1000000)/\((srt ts).map (·.1)).Pairwise λa b=>HT.lexLt a b=true:=by
 refine⟨λt c=>?_,by rw[qhv];exact jX h.nd⟩;unfold srt at c;obtain⟨k,d,rfl⟩:=w8.mp c;obtain⟨_,s,hs,e1,e2⟩:=qam ((zk _).mem_iff.mp d);have:=h.ok s hs;rw[e1,e2]at this;exact this
def qaK:∀l:List (List Int),tupsOf (l.map tupI)=some l
 |[]=>rfl
 |a::r=>by simp[tupsOf,tupI,zm];exact qaK r
def qfE{l:List (List Int)}(h:l.length<64)(nd:l.Nodup)(ne:∀t∈l,t≠[]):sortL (l.map tupI)=some ((sortT l).map tupI):=by
 unfold sortL;rw[wN (by simpa using h)];cases l with
 |nil=>rfl
 |cons a r =>
  have:intsOf ((a::r).map tupI)=none:=rfl;rw[this];show(tupsOf ((a::r).map tupI)).bind _=_;rw[qaK,wX,wN ⟨nd,ne⟩]
def qlD{F:Fs}{ρ:En}{T:Sr}{kx j many:Nat}{ts:List Tie}(a:ρ[kx]?=some (some (.ref j)))(c:T[j]?=some (dicD ts))(h:KnOk many ts)(hl:ts.length<64):
  ev F (.blt .tuple (.c (.lc false [kx] 1 (.t (.c 06 (.c (.idx 02 06) .n))) 06 (.seq (.blt (.sorted false) (.c (.v kx) .n))) .n) .n)) ρ T=.ok (.t ((srt ts).map tieD)) T:=by
 have f:ev F (.v kx) ρ T=.ok (.ref j) T:=by simp only[ev,varE,a]
 have hw:walkD T (.ref j)=some ((ts.map (·.1)).map tupI):=by
  simp only[walkD,c,dicD,wo];rfl
 have hs:bltD (.sorted false) [.ref j] T=.ok (.l ((sortT (ts.map (·.1))).map tupI)) T:=by
  simp only[bltD,one,bSorted,hw,wX];rw[qfE (by simpa using hl) h.nd (λt i=>by obtain⟨s,hs,rfl⟩:=w8.mp i;exact(h.ok s hs).1.ne)];rfl
 have d:ev F (.blt (.sorted false) (.c (.v kx) .n)) ρ T=.ok (.l ((sortT (ts.map (·.1))).map tupI)) T:=qF (qe f rfl) hs;have e:=qaI (g:=tupI) (F:=F) (fr:=[kx]) (nt:=1) (elt:=.t (.c 06 (.c (.idx 02 06) .n))) (tg:=.v 1) (it:=.seq (.blt (.sorted false) (.c (.v kx) .n))) (ifs:=.nil) (ρ:=ρ) (S:=T) (S1:=T) (ds:=(sortT (ts.map (·.1))).map tupI) (sortT (ts.map (·.1))) (λ_=>true) (λk=>tieD (k,look ts k)) (λρ=>∃x,ρ=[some (.ref j),x])
  (by simp only[evI,d,Res.bind]) rfl ⟨none,by simp[frE,a]⟩ (by rw[(zk _).length_eq,wF];unfold PySem.sizeLine;lia) (by
   rintro k n ρ m ⟨x,rfl⟩;refine⟨_,rfl,⟨_,rfl⟩,rfl,λ_=>⟨qZ (l:=[tupI k,.int (look ts k)]) (qe rfl (qe (qw (d1:=.ref j) (d2:=tupI k) rfl rfl ?_) rfl)) 036,yZ _ _⟩⟩;have o:j<T.length:=(wG.mp c).1;have:(T++[SO.l m])[j]?=some (dicD ts):=by rw[wL o,c]
   simp only[idxD,tupI,this,dicD,zm,wX];exact(qam ((zk _).mem_iff.mp n)).1)
 rw[zE]at e;refine qF (qe e rfl) ?_;simp only[bltD,one,bTuple,seqOf,lstOf,wn,ofO];unfold srt;rw[wo];rfl
def qhw{p:008}(h:p.Pairwise (· < ·)):p.Nodup:=h.imp λa=>by lia
noncomputable def eu:Nat->Int->Int->Int
 |0,a,_=>a
 |n+1,a,b=>if b=0 then a else eu n b (a.fmod b)
def half{a b:Int}(h:0<b)(c:0<a.fmod b):2*b.fmod (a.fmod b)<b:=by
 have d:=ut a h;have f:=ut b c;have i:=vX b c;have j:=Int.mul_fdiv_add_fmod b (a.fmod b);have l:0<b.fdiv (a.fmod b):=by
  rcases Int.lt_or_le 0 (b.fdiv (a.fmod b))with z|z
  .exact z
  .exfalso
   have:a.fmod b*b.fdiv (a.fmod b)<=0:=by
    have:=wz z (Int.le_of_lt c);simpa using this
   omega
 have m:a.fmod b<=a.fmod b*b.fdiv (a.fmod b):=by
  have:=wz (show(1:Int)<=b.fdiv (a.fmod b) by omega) (Int.le_of_lt c);simpa using this
 omega
def wl{test:022}{body:En->Sr->Res Fl}{E:Int->Int->En}{S:Sr}(l:∀a b,test (E a b) S=.ok (!(b == 0)) S)(hb:∀a b,0<b->body (E a b) S=.ok (.nx (E b (a.fmod b))) S):∀(k n:Nat) (a b:Int),0<=a->0<=b->b<2^k->2*k+1<=n->whileLoop test body n (E a b) S=.ok (.nx (E (eu n a b) 0)) S:=by
 have stop:∀(n:Nat) (a:Int),0<n->whileLoop test body n (E a 0) S=.ok (.nx (E (eu n a 0) 0)) S:=by
  intro n a h;cases n with
  |zero=>omega
  |succ n =>
   unfold whileLoop eu;rw[l,wN rfl];rfl
 have go:∀(n:Nat) (a b:Int),0<b->whileLoop test body (n+1) (E a b) S=whileLoop test body n (E b (a.fmod b)) S:=by
  intro n a b h;rw[whileLoop,l,Res.bind_ok];have:(!(b == 0))=true:=by simp;omega
  rw[wN this,hb a b h,Res.bind_ok]
 have d:∀(n:Nat) (a b:Int),0<b->eu (n+1) a b=eu n b (a.fmod b):=λn a b h=>by rw[eu,wT (by omega)]
 intro k;induction k with
 |zero =>
  intro n a b ha j f hn;have:b=0:=by simp at f;omega
  subst this;exact stop n a (by omega)
 |succ k o =>
  intro n a b ha j f hn;by_cases z:b=0
  .subst z;exact stop n a (by omega)
  .have c:0<b:=by omega
   obtain⟨m,rfl⟩:∃m,n=m+2:=⟨n-2,by omega⟩;have p:=vX a c;rw[go _ _ _ c,d _ _ _ c];by_cases q:a.fmod b=0
   .rw [q];exact stop _ _ (by omega)
   .have i:0<a.fmod b:=by omega
    rw[go _ _ _ i,d _ _ _ i];have r:=half c i;have e:(2:Int)^(k+1)=2*2^k:=by rw[Int.pow_succ];omega
    exact o m _ _ p (vX b i) (by omega) (by omega)
def qeH{F:Fs}{N:Nat}{ρ ρ1:En}{S S1:Sr}{r a:CSs}{c:CB}{X:Res Fl}(h:whileLoop (λρ S=>tst F c ρ S) (λρ S=>exs F N a ρ S) N ρ S=.ok (.nx ρ1) S1)(d:exs F N r ρ1 S1=X):exs F N (.c (.whileS c a) r) ρ S=X:=by
 simp only[exs,ex,h,Res.bind];exact d
def bmod{a b:Int}{S:Sr}(h:b≠0):binD .mod (.int a) (.int b) S=some (.int (a.fmod b)):=by
 simp only[binD,binI];rw[wT h];rfl
def qnk{a:Int}{S:Sr}(h:0<=a):bltD .abs [.int a] S=.ok (.int a) S:=by
 simp only[bltD,one,bAbs];rw[wT (by omega)]
def qhx:∀{l:008},(∀x∈l,0<=x)->0<=l.sum
 |[],_=>by simp
 |a::r,h=>by
  have:=qhx (l:=r) λx c=>h x (wM _ c)
  have:=h a wR;simp only[uK];omega
noncomputable def isIntB:D->Bool
 | .int _=>true
 |_=>false
noncomputable def wholeB(a b:Int):D->Bool
 | .int i=>decide (a<=i)&&decide (i<=b)
 |_=>false
noncomputable def upB(ns:008):Bool:=(ns.zip (ns.drop 1)).all λp=>decide (p.1<p.2)
noncomputable def upT(ks:List (List Int)):Bool:=(ks.zip (ks.drop 1)).all λp=>HT.lexLt p.1 p.2
noncomputable def placesB(many:Int):D->Bool
 | .t l=>match intsOf l with
  |some ns=>!ns.isEmpty&&ns.all (λi=>decide (0<=i)&&decide (i<=many-1))&&upB ns
  |none=>false
 |_=>false
noncomputable def lenT:D->Nat
 | .t l=>l.length
 |_=>0
noncomputable def tieB(many:Int):D->Bool
 | .t [p,h]=>placesB many p&&decide (lenT p<=4)&&wholeB 1 1000000 h
 |_=>false
noncomputable def keyT:D->List Int
 | .t [.t l,_]=>(intsOf l).getD []
 |_=>[]
noncomputable def costsB:D->Bool
 | .t l=>decide (1<=l.length)&&decide (l.length<=12)&&l.all (wholeB 1 100)
 |_=>false
noncomputable def tiesB(many:Int):D->Bool
 | .t l=>decide (l.length<=30)&&l.all (tieB many)&&upT (l.map keyT)
 |_=>false
noncomputable def isWebB:D->Bool
 | .t [c,t]=>costsB c&&tiesB (lenT c) t
 |_=>false
def qbt(a b:Int):∀l:List D,l.all (wholeB a b)=match intsOf l with
  |some ns=>ns.all (λi=>decide (a<=i)&&decide (i<=b))
  |none=>false
 |[]=>rfl
 |x::r=>by
  have c:=qbt a b r;cases x with
  |int i =>
   simp only[vz,wholeB,intsOf];cases z:intsOf r with
   |none=>rw[z]at c;simp only[Option.map_none];rw[c];simp
   |some ns=>rw[z]at c;simp only[wn,vz];rw[c]
  |_=>simp[wholeB,intsOf]
def qeI{l:04}{ns:008}(h:intsOf l=some ns):l=ns.map .int:=intsOf_eq h
def qlE{many:Int}{x:D}(h:tieB many x=true):∃t:Tie,x=tieD t/\t.1≠[]/\keyT x=t.1:=by
 unfold tieB at h;split at h
 .rename_i p w
  simp only[wS]at h;obtain⟨⟨a,c⟩,d⟩:=h;clear c;unfold placesB at a;split at a
  .rename_i l
   cases z:intsOf l with
   |none=>rw[z]at a;cases a
   |some ns =>
    rw[z]at a;simp only[wS]at a;cases w with
    |int i =>
     refine⟨(ns,i),?_,?_,?_⟩
     .rw [qeI z];rfl
     .intro e;rw[show(ns,i).1=ns from rfl]at e;rw[e]at a;simp at a
     .simp only[keyT,z,Option.getD_some]
    |_=>simp[wholeB]at d
  .cases a
 .cases h
def qeJ{many:Int}:∀{l:04},l.all (tieB many)=true->∃ts:List Tie,l=ts.map tieD/\l.map keyT=ts.map (·.1)
 |[],_=>⟨[],rfl,rfl⟩
 |x::r,h=>by
  simp only[vz,wS]at h;obtain⟨t,e1,_,e2⟩:=qlE h.1;obtain⟨ts,a,c⟩:=qeJ h.2;exact⟨t::ts,by rw[e1,a];rfl,by rw[wj,wj,e2,c]⟩
section
variable{F:Fs}{N:Nat}{ρ ρ1:En}{S S1 S2:Sr}{e1 e2:CE}{c c2:CB}
theorem yB(h:tst F c ρ S=.ok true S1):tst F (.or c c2) ρ S=.ok true S1:=by simp[tst,h,Res.bind]
theorem qX{y:Bool}(h:tst F c ρ S=.ok false S)(a:tst F c2 ρ S=.ok y S):tst F (.or c c2) ρ S=.ok y S:=by simp[tst,h,a,Res.bind]
theorem jt(h:ev F e1 ρ S=.ok (.bl false) S1):ev F (.and e1 e2) ρ S=.ok (.bl false) S1:=by simp[ev,h,Res.bind]
end
def qS(l:04)(S:Sr):bltD .len [.t l] S=.ok (.int l.length) S:=rfl
def pow6(F:Fs)(ρ:En)(T:Sr):ev F (.bin .pow (.k (.int 10)) (.k (.int 6))) ρ T=.ok (.int 1000000) T:=by
 simp[ev,Res.bind,binD,binI]
mutual
noncomputable def gd:D->Bool
 | .ref _=>false
 | .t l=>decide (l.length<=900)&&gds l
 | .l l=>gds l
 | .non=>true
 | .bl _=>true
 | .int _=>true
 | .str _=>true
 | .emp=>true
 | .exc _=>false
noncomputable def gds:List D->Bool
 |[]=>true
 |x::r=>gd x&&gds r
end
mutual
noncomputable def tr:D->Bool
 | .int i=>decide (i.natAbs<=10000000)
 | .t l=>decide (l.length<=60)&&trs l
 |_=>false
noncomputable def trs:List D->Bool
 |[]=>true
 |x::r=>tr x&&trs r
end
def jL(l:04)(a b:Option Int):(∀x∈cutD l a b,x∈l)/\(cutD l a b).length<=l.length:=by
 unfold cutD;exact⟨λx c=>List.mem_of_mem_drop (vh c),by simp;lia⟩
def bcatT{a b:04}{S:Sr}(h:a.length+b.length<=1000):binD .add (.t a) (.t b) S=some (.t (a++b)):=by
 have:catOk a b=true:=by unfold catOk PySem.sizeLine;rw[vH];lia
 simp[binD,this]
def qaf{F:Fs}{ρ:En}{S:Sr}{e:CE}{lo hi:CO}{l:04}{a b:Option Int}(h:ev F e ρ S=.ok (.t l) S)(c:evO F lo ρ S=.ok a S)(d:evO F hi ρ S=.ok b S):ev F (.slc e lo hi) ρ S=.ok (.t (cutD l a b)) S:=by
 simp only[ev,h,c,d,Res.bind,slcD,ofO]
noncomputable def tl:CSs->CSs
 | .cons _ r=>r
 | .nil=>.nil
@[irreducible] noncomputable def Ok{α:Type}(r:Res α)(Q:α->Sr->Prop):Prop:=∃a S,r=.ok a S/\Q a S
def Ok.ex{c:Type}{r:Res c}{Q:c->Sr->Prop}(h:Ok r Q):∃a S,r=.ok a S/\Q a S:=by unfold Ok at h;exact h
def Ok.mk{c:Type}{r:Res c}{Q:c->Sr->Prop}(h:∃a S,r=.ok a S/\Q a S):Ok r Q:=by unfold Ok;exact h
def Ok.mono{c:Type}{r:Res c}{Q Q':c->Sr->Prop}(h:Ok r Q)(k:∀a S,Q a S->Q' a S):Ok r Q':=by
 obtain⟨a,S,e,q⟩:=h.ex;exact .mk ⟨a,S,e,k a S q⟩
def qaL{c:Type}{a:c}{S:Sr}{Q:c->Sr->Prop}(h:Q a S):Ok (.ok a S) Q:=.mk ⟨a,S,rfl,h⟩
def Ok.of{c:Type}{r:Res c}{a:c}{S:Sr}{Q:c->Sr->Prop}(e:r=.ok a S)(h:Q a S):Ok r Q:=.mk ⟨a,S,e,h⟩
section
variable{F:Fs}{N:Nat}{ρ:En}{S:Sr}{r a b:CSs}{e e1 e2:CE}{t:CT}{c:CB}{Q:Fl->Sr->Prop}{s:CS}
theorem zX(h:Q (.nx ρ) S):Ok (exs F N .nil ρ S) Q:=by rw[zK];exact qaL h
theorem qaM(h:Ok (ev F e ρ S) λd S1=>Q (.rt d) S1):Ok (exs F N (.c (.ret e) r) ρ S) Q:=by
 obtain⟨d,S1,e1,f⟩:=h.ex;rw[qA e1];exact qaL f
theorem qO(h:Ok (ev F e ρ S) λd S1=>Ok (asg F t d ρ S1) λρ1 S2=>Ok (exs F N r ρ1 S2) Q):Ok (exs F N (.c (.set t e) r) ρ S) Q:=by
 obtain⟨d,S1,e1,f⟩:=h.ex;obtain⟨ρ1,S2,e2,i⟩:=f.ex;rw[qG e1 e2 rfl];exact i
theorem qdF(h:Ok (ev F e ρ S) λ_ S1=>Ok (exs F N r ρ S1) Q):Ok (exs F N (.c (.expr e) r) ρ S) Q:=by
 obtain⟨d,S1,e1,f⟩:=h.ex;rw[x_expr e1 rfl];exact f
theorem o_if(h:Ok (tst F c ρ S) λx S1=>Ok (exs F N (if x then a else b) ρ S1) λf S2=>match f with|.nx ρ1=>Ok (exs F N r ρ1 S2) Q|f=>Q f S2):Ok (exs F N (.c (.ifs c a b) r) ρ S) Q:=by
 obtain⟨x,S1,e1,i⟩:=h.ex;obtain⟨f,S2,e2,d⟩:=i.ex;have:exs F N (.c (.ifs c a b) r) ρ S=(exs F N (if x then a else b) ρ S1).bind λf S1=>match f with|.nx ρ1=>exs F N r ρ1 S1|f=>.ok f S1:=by
  cases x <;> simp only[exs,ex,e1,Res.bind] <;> rfl
 rw[this,e2,Res.bind_ok];cases f <;> first|exact d|exact qaL d
theorem o_no(h:Ok (tst F c ρ S) λx S1=>x=false/\Ok (exs F N r ρ S1) Q):Ok (exs F N (.c (.ifs c a .nil) r) ρ S) Q:=by
 obtain⟨x,S1,e1,rfl,d⟩:=h.ex;rw[x_no e1 rfl];exact d
theorem qbu{l:Type}{g:l->D}{it:CI}(P:List l->En->Sr->Prop)(xs:List l)(h:Ok (evI F it ρ S) λds S1=>ds=xs.map g/\P [] ρ S1)(H:∀(pre:List l) (x:l) (i:List l) (ρ:En) (S:Sr),xs=pre++x::i->P pre ρ S->Ok (asg F t (g x) ρ S) λρ1 S1=>Ok (exs F N a ρ1 S1) λf S2=>match f with|.nx j=>P (pre++[x]) j S2|_=>False)(K:∀ρ' m,P xs ρ' m->Ok (exs F N r ρ' m) Q):Ok (exs F N (.c (.forS t it a) r) ρ S) Q:=by
 obtain⟨ds,S1,e1,rfl,o⟩:=h.ex;obtain⟨ρ',m,e2,p⟩:=zS (g:=g) (body:=λd ρ S=>(asg F t d ρ S).bind λρ1 S1=>exs F N a ρ1 S1) P xs o (by
  intro pre x i ρ S q u;obtain⟨ρ1,S2,v,w⟩:=(H pre x i ρ S q u).ex;obtain⟨f,y,A,n⟩:=w.ex;cases f with
  |nx j=>exact⟨j,y,by rw[v,Res.bind_ok,A],n⟩
  |_=>exact n.elim)
 rw[jI e1 e2 rfl];exact K ρ' m p
theorem yG{f:CF}{l:04}{Q:D->Sr->Prop}(hl:l.length=f.np)(j:f.keeps=false)(h:Ok (exs F N f.body (l.map some++List.replicate (f.nn-f.np) none) S) λx S1=>match x with
  | .rt d=>S.length<=S1.length/\refsLt S.length d=true/\Q d (S1.take S.length)
  |_=>False):Ok (callC F N f l S) Q:=by
 obtain⟨x,S1,e1,i⟩:=h.ex;cases x with
 |rt d =>
  obtain⟨o,m,n⟩:=i;have:callC F N f l S=.ok d (S1.take S.length):=by
   simp only[callC,hl,wN,e1,Res.bind,leave,j];rw[wT 07];split
   .rename_i z;rw[<-z,uj]
   .first|rfl|rw[wN m]
  rw[this];exact qaL n
 |_=>exact i.elim
theorem o_or{c2:CB}{Q:Bool->Sr->Prop}(h:Ok (tst F c ρ S) λb S1=>if b then Q true S1 else Ok (tst F c2 ρ S1) Q):Ok (tst F (.or c c2) ρ S) Q:=by
 obtain⟨b,S1,e1,d⟩:=h.ex;simp only[tst,e1,Res.bind];cases b with
 |true=>exact qaL d
 |false=>exact d
theorem qhy{c2:CB}{Q:Bool->Sr->Prop}(h:Ok (tst F c ρ S) λb S1=>if b then Ok (tst F c2 ρ S1) Q else Q false S1):Ok (tst F (.and c c2) ρ S) Q:=by
 obtain⟨b,S1,e1,d⟩:=h.ex;simp only[tst,e1,Res.bind];cases b with
 |true=>exact d
 |false=>exact qaL d
theorem qhz{e e2:CE}{Q:D->Sr->Prop}(h:Ok (ev F e ρ S) λx S1=>∃n l,x=.ref n/\S1[n]?=some (.l l)/\Ok (ev F e2 ρ S1) λy S2=>S2[n]?=some (.l l)/\l.length<=1000/\refsLt 0 y=true/\Q .non (S2.set n (.l (l++[y])))):Ok (ev F (.app e e2) ρ S) Q:=by
 obtain⟨x,S1,e1,n,l,rfl,d,f⟩:=h.ex;obtain⟨y,S2,e2,i,o,j,m⟩:=f.ex;have ha:appD S2 (.ref n) y=.ok .non (S2.set n (.l (l++[y]))):=by
  have:l.length<PySem.sizeLine:=by unfold PySem.sizeLine;lia
  simp[appD,i,j,this]
 rw[qj7 e1 (by simp[isLst,d]) e2 ha];exact qaL m
theorem qhA{S1:Sr}{l:04}(h:ev F e ρ S=.ok (.l l) S1):evI F (.seq e) ρ S=.ok l S1:=by
 simp only[evI,h,Res.bind]
end
def qcT(a b:Int)(hb:0<b):Int.gcd b (a.fmod b)=Int.gcd a b:=by
 have e:a=a.fmod b+b*a.fdiv b:=by have:=Int.mul_fdiv_add_fmod a b;lia
 have c:Int.gcd a b=Int.gcd (a.fmod b+b*a.fdiv b) b:=by rw[<-e]
 rw[c,Int.gcd_comm b];simp
def qhB:∀(k n:Nat) (a b:Int),0<=a->0<=b->b<2^k->2*k+1<=n->eu n a b=(Int.gcd a b:Int):=by
 have stop:∀(n:Nat) (a:Int),0<=a->0<n->eu n a 0=(Int.gcd a 0:Int):=by
  intro n a ha h;cases n with
  |zero=>lia
  |succ n=>unfold eu;rw[wN rfl,Int.gcd_zero_right];lia
 have d:∀(n:Nat) (a b:Int),0<b->eu (n+1) a b=eu n b (a.fmod b):=λn a b h=>by rw[eu,wT 00]
 intro k;induction k with
 |zero =>
  intro n a b ha j f hn;have:b=0:=by simp at f;lia
  subst this;exact stop n a ha 00
 |succ k l =>
  intro n a b ha j f hn;by_cases z:b=0
  .subst z;exact stop n a ha 00
  .have c:0<b:=by lia
   obtain⟨m,rfl⟩:∃m,n=m+2:=⟨n-2,by lia⟩;have p:=vX a c;rw[d _ _ _ c,<-qcT a b c];by_cases o:a.fmod b=0
   .rw [o];exact stop _ _ 00 00
   .have i:0<a.fmod b:=by lia
    rw[d _ _ _ i,<-qcT b _ i];have q:=half c i;have e:(2:Int)^(k+1)=2*2^k:=by rw[Int.pow_succ];lia
    exact l m _ _ 00 (vX b i) 00 00
noncomputable def lw(t b:Int):Int×Int:=(t.fdiv (Int.gcd t b:Int),b.fdiv (Int.gcd t b:Int))
structure Lw (p:Int×Int):Prop where
 pos:1<=p.2
 one:Int.gcd p.1 p.2=1
def zT{t b:Int}(hb:1<=b):0<Int.gcd t b:=Int.gcd_pos_of_ne_zero_right t 00
def qcU{t g:Int}(a:0<g)(h:g∣t):t.fdiv g*g=t:=by
 rw[uc _ 00];exact Int.ediv_mul_cancel h
def ju{t b:Int}(hb:1<=b):(lw t b).1*(Int.gcd t b:Int)=t/\(lw t b).2*(Int.gcd t b:Int)=b :=
 ⟨qcU (by have:=zT (t:=t) hb;lia) (Int.gcd_dvd_left t b),qcU (by have:=zT (t:=t) hb;lia) (Int.gcd_dvd_right t b)⟩
def zL{t b:Int}(hb:1<=b):(lw t b).1*b=t*(lw t b).2:=by
 obtain⟨a,c⟩:=ju (t:=t) hb
 calc (lw t b).1*b=(lw t b).1*((lw t b).2*(Int.gcd t b:Int)):=by rw[c]
  _=((lw t b).1*(Int.gcd t b:Int))*(lw t b).2:=by rw[Int.mul_assoc,Int.mul_comm (lw t b).2]
  _=t*(lw t b).2:=by rw[a]
def zt{t b:Int}(hb:1<=b):Lw (lw t b):=by
 have a:=zT (t:=t) hb;obtain⟨f,c⟩:=ju (t:=t) hb;have d:0<(Int.gcd t b:Int):=by lia
 refine⟨?_,?_⟩
 .rcases Int.lt_or_le 0 (lw t b).2 with z|z
  .exact z
  .exfalso
   have:=wm z (show 0<=(Int.gcd t b:Int) by lia);rw[c]at this;lia
 .have e1:(lw t b).1=t / (Int.gcd t b:Int):=uc _ 00
  have e2:(lw t b).2=b / (Int.gcd t b:Int):=uc _ 00;rw[e1,e2];exact Int.gcd_ediv_gcd_ediv_gcd a
def qeK{p a b:Int}(h:p∣a*b)(g:Int.gcd p a=1):p∣b:=by
 rw[<-Int.natAbs_dvd_natAbs]at h ⊢;rw[xu]at h;exact Nat.Coprime.dvd_of_dvd_mul_left (show Nat.Coprime _ _ from g) h
def yh{p q:Int×Int}(c:Lw p)(d:Lw q)(h:p.1*q.2=q.1*p.2):p=q:=by
 have d1:p.2∣q.2:=by
  have:p.2∣p.1*q.2:=by rw[h];exact Int.dvd_mul_left _ _
  exact qeK this (by rw[Int.gcd_comm];exact c.one)
 have d2:q.2∣p.2:=by
  have:q.2∣q.1*p.2:=by rw[<-h];exact Int.dvd_mul_left _ _
  exact qeK this (by rw[Int.gcd_comm];exact d.one)
 have f:=c.pos;have i:=d.pos;have e2:p.2=q.2:=by
  have a:=Int.le_of_dvd 00 d1;have b:=Int.le_of_dvd 00 d2;lia
 have e1:p.1=q.1:=by
  rw[e2]at h;exact wh 00 h
 exact Prod.ext e1 e2
noncomputable def nth(o:008)(x:Int):Int:=o.getD x.toNat 0
noncomputable def cal(o p:008):List Int:=sortI (p.map (nth o))
end RP
namespace RP
open R PySem
noncomputable def tx(p:Int×Int):Str:=if p.2=1 then Str.ofString (toString p.1)else Str.ofString (toString p.1)++Str.ofString "/"++Str.ofString (toString p.2)
end RP
namespace RP
open R
noncomputable abbrev NW:Nat:=18100
@[irreducible] noncomputable def G(d:Nat):Fs:=run prg NW d
def qhC(d:Nat):G d=run prg NW d:=by unfold G;rfl
def G_at{d i:Nat}{c:CF}(h:prg[i]?=some c)(l:04)(S:Sr):G (d+1) i l S=callC (G d) NW c l S:=by
 rw[qhC,qhC];show(match prg[i]? with|some c=>callC (run prg NW d) NW c l S|none=>.no)=_;rw[h]
def qdG{d:Nat}{i:Int}{S:Sr}:G (d+1) 0 [.int i] S=.ok (.bl true) S:=by
 rw[G_at (c:=c_0) rfl];simp[callC,c_0,Res.bind,exs,ex,ev,varE,isiD,leave]
def jM{d:Nat}{i a b:Int}{S:Sr}:G (d+2) 1 [.int i,.int a,.int b] S=.ok (.bl (decide (a<=i)&&decide (i<=b))) S:=by
 rw[G_at (c:=c_1) rfl];by_cases h:a<=i <;> simp[callC,c_1,exs,ex,ev,evs,varE,Res.bind,qdG,cmpD,h,leave]
def zY{d:Nat}{x:D}{S:Sr}(a:refsLt 0 x=true):G (d+1) 0 [x] S=.ok (.bl (isIntB x)) S:=by
 rw[G_at (c:=c_0) rfl];cases x with
 |ref n=>simp[refsLt]at a
 |exc n=>simp[refsLt]at a
 |_=>exact qr rfl (qA rfl)
def j6{d:Nat}{x:D}{a b:Int}{S:Sr}(f:refsLt 0 x=true):G (d+2) 1 [x,.int a,.int b] S=.ok (.bl (wholeB a b x)) S:=by
 cases x with
 |int i=>exact jM
 |ref n=>simp[refsLt]at f
 |exc n=>simp[refsLt]at f
 |_ =>
  rw[G_at (c:=c_1) rfl];exact qr rfl (qA (jt (qh rfl (zY f))))
def qbX{d:Nat}{p:008}{S:Sr}:G (d+1) 17 [tupI p] S=.ok (.bl (upB p)) S:=by
 rw[G_at (c:=c_17) rfl];have e:evI (G d) (.zip 02 (.slc 02 (.some 05) .none)) [some (tupI p)] S=.ok ((p.zip (p.drop 1)).map λq=>.t [.int q.1,.int q.2]) S:=by
  have:slcD S (tupI p) (some 1) none=some (tupI (p.drop 1)):=by
   unfold slcD tupI;simp only[cut1];simp
  simp[Res.bind,callC,exs,ex,ev,evs,evO,evI,asg,asgs,tst,tsts,varE,frE,bltD,one,two,leave,ofO,truD,this];simp only[tupI,walkF,List.zip_map',xM,wo];simp
 exact qr rfl (qA (yr (p.zip (p.drop 1)) (λq=>decide (q.1<q.2)) (λρ=>∃x y,ρ=[x,y]) e rfl ⟨_,_,rfl⟩ (by
  rintro q _ ρ ⟨x,y,rfl⟩;exact⟨_,rfl,⟨_,_,rfl⟩,by simp[Res.bind,callC,exs,ex,ev,evs,evO,evI,asg,asgs,tst,tsts,varE,frE,bltD,one,two,leave,ofO,truD,cmpD]⟩)))
def qa5{d:Nat}{p:List (List Int)}{S:Sr}:G (d+1) 17 [.l (p.map tupI)] S=.ok (.bl (upT p)) S:=by
 rw[G_at (c:=c_17) rfl];have e:evI (G d) (.zip 02 (.slc 02 (.some 05) .none)) [some (.l (p.map tupI))] S=.ok ((p.zip (p.drop 1)).map λq=>.t [tupI q.1,tupI q.2]) S:=by
  have:slcD S (.l (p.map tupI)) (some 1) none=some (.l ((p.drop 1).map tupI)):=by
   unfold slcD lstOf;simp[cut1]
  rw[<-qho];simp only[evI,ev,evO,varE,Res.bind,uS,this,ofO,walkF]
 exact qr rfl (qA (yr (p.zip (p.drop 1)) (λq=>HT.lexLt q.1 q.2) (λρ=>∃x y,ρ=[x,y]) e rfl ⟨_,_,rfl⟩ (by
  rintro q _ ρ ⟨x,y,rfl⟩;exact⟨_,rfl,⟨_,_,rfl⟩,by simp[Res.bind,callC,exs,ex,ev,evs,evO,evI,asg,asgs,tst,tsts,varE,frE,bltD,one,two,leave,ofO,truD,cmpD,tupI,zm]⟩)))
def qa6{d:Nat}{many:Int}{x:D}{S:Sr}(f:refsLt 0 x=true):G (d+3) 16 [x,.int many] S=.ok (.bl (placesB many x)) S:=by
 rw[G_at (c:=c_16) rfl];cases x with
 |ref n=>simp[refsLt]at f
 |exc n=>simp[refsLt]at f
 |t l =>
  cases l with
  |nil=>exact qr rfl (zf (S1:=S) (qX (t_no (x:=true) (t_of rfl)) rfl) (qA rfl))
  |cons a r =>
   refine qr rfl (x_no (S1:=S) (qX (t_no (x:=true) (t_of rfl)) rfl) (qA ?_));have e:=yr (g:=λy:D=>y) (F:=G (d+2)) (fr:=[1]) (nt:=1) (elt:=.call 1 (.c 06 (.c 003 (.c (.bin .sub 02 05) .n)))) (tg:=.v 1) (it:=.seq 02) (ρ:=[some (.t (a::r)),some (.int many)]) (S:=S) (S1:=S) (ds:=a::r) (a::r) (wholeB 0 (many-1)) (λρ=>∃y,ρ=[some (.int many),y]) rfl 07 ⟨_,rfl⟩ (by
    rintro q i ρ ⟨y,rfl⟩;exact⟨_,rfl,⟨_,rfl⟩,qh rfl (j6 (qB f i))⟩)
   have hw:=qbt 0 (many-1) (a::r);cases z:intsOf (a::r)with
   |none =>
    rw[z]at hw;rw[hw]at e;simp only[placesB,z];exact jt e
   |some ns =>
    rw[z]at hw;rw[hw]at e;have hl:=qeI z;have h:ns.isEmpty=false:=by
     cases ns with
     |nil=>simp at hl
     |cons b t=>rfl
    simp only[placesB,z,h,Bool.not_false,vU];rw[hl]at e ⊢;exact jm e (qh rfl qbX)
 |_=>exact qr rfl (zf (S1:=S) (yB rfl) (qA rfl))
def ne2(n:Nat)(S:Sr):cmpD .ne (.int n) (.int 2) S=some (!decide (n=2)):=by
 show some (!((n:Int) == 2))=_;congr 2;rw[uH];simp;omega
def gtN(n:Nat)(k:Int)(S:Sr):cmpD .gt (.int n) (.int k) S=some (decide (k<n)):=rfl
def leN(n:Nat)(k:Int)(S:Sr):cmpD .le (.int n) (.int k) S=some (decide ((n:Int)<=k)):=rfl
def qcV{d:Nat}{many:Int}{x:D}{S:Sr}(f:refsLt 0 x=true):G (d+4) 15 [x,.int many] S=.ok (.bl (placesB many x&&decide (lenT x<=4))) S:=by
 rw[G_at (c:=c_15) rfl];have a:=qa6 (d:=d) (many:=many) (S:=S) f;cases zp:placesB many x with
 |false =>
  rw[zp]at a;exact qr rfl (qA (jt (qh rfl a)))
 |true =>
  rw[zp]at a;cases x with
  |t q =>
   refine qr rfl (qA (jm (x:=true) (qh rfl a) (qH (qF rfl (qS _ _)) rfl ?_)));rw[leN];congr 1;rw[decide_eq_decide];show _ ↔ q.length<=4;omega
  |_=>simp[placesB]at zp
def qfF{d:Nat}{many:Int}{x:D}{S:Sr}(f:refsLt 0 x=true):G (d+5) 14 [x,.int many] S=.ok (.bl (tieB many x)) S:=by
 rw[G_at (c:=c_14) rfl];cases x with
 |ref n=>simp[refsLt]at f
 |exc n=>simp[refsLt]at f
 |t l =>
  by_cases i:l.length=2
  .match l,i with
   |[p,h],_ =>
    have j:refsLt 0 p=true:=qB f 07;have m:refsLt 0 h=true:=qB f 07;have o:=qcV (d:=d) (many:=many) (S:=S) j;have q:=j6 (d:=d+2) (a:=1) (b:=1000000) (S:=S) m;refine qr rfl (x_no (S1:=S) (qX (t_no (x:=true) (t_of rfl)) (t_of (qH (qF rfl (qS _ _)) rfl (ne2 _ _)))) (qG (d:=.t [p,h]) (S1:=S) rfl (ρ1:=[some (.t [p,h]),some (.int many),some p,some h]) rfl (qA ?_)));exact jm (qh rfl o) (qh rfl q)
  .have:tieB many (.t l)=false:=by
    unfold tieB;split
    .rename_i e;cases e;simp at i
    .rfl
   rw[this];have e:cmpD .ne (.int l.length) (.int 2) S=some true:=by rw[ne2,wU i];rfl
   exact qr rfl (zf (S1:=S) (qX (t_no (x:=true) (t_of rfl)) (t_of (qH (qF rfl (qS _ _)) rfl e))) (qA rfl))
 |_=>exact qr rfl (zf (S1:=S) (yB rfl) (qA rfl))
def qcW{d:Nat}{many:Int}{x:D}{S:Sr}(f:refsLt 0 x=true):G (d+6) 13 [x,.int many] S=.ok (.bl (tiesB many x)) S:=by
 rw[G_at (c:=c_13) rfl];cases x with
 |ref n=>simp[refsLt]at f
 |exc n=>simp[refsLt]at f
 |t l =>
  have e2:tst (G (d+5)) (.val (.cmp .gt 039 (.k (.int 30)))) [some (.t l),some (.int many)] S=.ok (decide ((30:Int)<l.length)) S:=t_of (qH (qF rfl (qS _ _)) rfl (gtN _ _ _));by_cases a:l.length<=30
  .rw [wU (by omega)]at e2
   have e:=yr (g:=λy:D=>y) (F:=G (d+5)) (fr:=[1]) (nt:=1) (elt:=.call 14 (.c 06 (.c 02 .n))) (tg:=.v 1) (it:=.seq 02) (ρ:=[some (.t l),some (.int many)]) (S:=S) (S1:=S) (ds:=l) l (tieB many) (λρ=>∃y,ρ=[some (.int many),y]) rfl 07 ⟨_,rfl⟩ (by
    rintro q o ρ ⟨y,rfl⟩;exact⟨_,rfl,⟨_,rfl⟩,qh rfl (qfF (qB f o))⟩)
   refine qr rfl (x_no (S1:=S) (qX (t_no (x:=true) (t_of rfl)) e2) ?_);cases za:l.all (tieB many)with
   |false =>
    rw[za]at e;have:tiesB many (.t l)=false:=by simp only[tiesB,za,vE,vP]
    rw[this];exact zf (t_no (x:=false) (t_of e)) (qA rfl)
   |true =>
    rw[za]at e;obtain⟨ts,h,r⟩:=qeJ za;have:tiesB many (.t l)=upT (ts.map (·.1)):=by simp only[tiesB,za,wQ a,vU,r]
    rw[this];have i:=qaI (g:=tieD) (F:=G (d+5)) (fr:=[]) (nt:=2) (elt:=.v 0) (tg:=.t 035) (it:=.seq 02) (ifs:=.nil) (ρ:=[some (.t l),some (.int many)]) (S:=S) (S1:=S) (ds:=l) ts (λ_=>true) (λt=>tupI t.1) (λρ=>∃x y,ρ=[x,y]) rfl h ⟨_,_,rfl⟩ (by have:=congrArg List.length h;rw[wF]at this;unfold PySem.sizeLine;omega) (by
     rintro t s ρ m ⟨x,y,rfl⟩;exact⟨_,rfl,⟨_,_,rfl⟩,rfl,λ_=>⟨rfl,qU _ t.1⟩⟩)
    rw[zE]at i;have j:=qa5 (d:=d+4) (p:=ts.map (·.1)) (S:=S);rw[wo]at j;exact x_no (t_no (x:=true) (t_of e)) (qA (qh (qe i rfl) j))
  .have:tiesB many (.t l)=false:=by simp only[tiesB,wU a,vP]
   rw[this];rw[wQ (by omega)]at e2;exact qr rfl (zf (S1:=S) (qX (t_no (x:=true) (t_of rfl)) e2) (qA rfl))
 |_=>exact qr rfl (zf (S1:=S) (yB rfl) (qA rfl))
def chainN(a b:Int)(n:Nat){F:Fs}{ρ:En}{S:Sr}{e:CE}(h:ev F e ρ S=.ok (.int n) S):ev F (.chain .le .le (.k (.int a)) e (.k (.int b))) ρ S=.ok (.bl (decide (a<=n)&&decide ((n:Int)<=b))) S:=by
 by_cases z:a<=(n:Int) <;> simp[ev,h,Res.bind,cmpD,z]
def qbY{d:Nat}{x:D}{S:Sr}(a:refsLt 0 x=true):G (d+3) 12 [x] S=.ok (.bl (costsB x)) S:=by
 rw[G_at (c:=c_12) rfl];cases x with
 |ref n=>simp[refsLt]at a
 |exc n=>simp[refsLt]at a
 |t l =>
  have e2:tst (G (d+2)) (.not (.val (.chain .le .le 05 039 (.k (.int 12))))) [some (.t l)] S=.ok (!(decide ((1:Int)<=l.length)&&decide ((l.length:Int)<=12))) S:=t_no (t_of (chainN _ _ _ (qF rfl (qS _ _))));by_cases hl:1<=l.length/\l.length<=12
  .have e:=yr (g:=λy:D=>y) (F:=G (d+2)) (fr:=[]) (nt:=1) (elt:=.call 1 (.c 02 (.c 05 (.c (.k (.int 100)) .n)))) (tg:=.v 0) (it:=.seq 02) (ρ:=[some (.t l)]) (S:=S) (S1:=S) (ds:=l) l (wholeB 1 100) (λρ=>∃y,ρ=[y]) rfl 07 ⟨_,rfl⟩ (by
    rintro q f ρ ⟨y,rfl⟩;exact⟨_,rfl,⟨_,rfl⟩,qh rfl (j6 (qB a f))⟩)
   have:costsB (.t l)=l.all (wholeB 1 100):=by simp only[costsB,wQ hl.1,wQ hl.2,vU]
   rw[this];rw[wQ (show(1:Int)<=l.length by omega),wQ (show(l.length:Int)<=12 by omega)]at e2;exact qr rfl (x_no (S1:=S) (qX (t_no (x:=true) (t_of rfl)) e2) (qA e))
  .have hd:(decide ((1:Int)<=l.length)&&decide ((l.length:Int)<=12))=false:=by
    rw[xp,vS,vS];omega
   have:costsB (.t l)=false:=by
    have:(decide (1<=l.length)&&decide (l.length<=12))=false:=by
     rw[xp,vS,vS];omega
    simp only[costsB,this,vP]
   rw[this];rw[hd]at e2;exact qr rfl (zf (S1:=S) (qX (t_no (x:=true) (t_of rfl)) e2) (qA rfl))
 |_=>exact qr rfl (zf (S1:=S) (yB rfl) (qA rfl))
def qfG{d:Nat}{x:D}{S:Sr}(a:refsLt 0 x=true):G (d+7) 11 [x] S=.ok (.bl (isWebB x)) S:=by
 rw[G_at (c:=c_11) rfl];cases x with
 |ref n=>simp[refsLt]at a
 |exc n=>simp[refsLt]at a
 |t l =>
  by_cases h:l.length=2
  .match l,h with
   |[c,t],_ =>
    have hc:refsLt 0 c=true:=qB a 07;have i:refsLt 0 t=true:=qB a 07;have f:=qbY (d:=d+3) (S:=S) hc;refine qr rfl (x_no (S1:=S) (qX (t_no (x:=true) (t_of rfl)) (t_of (qH (qF rfl (qS _ _)) rfl (ne2 _ _)))) (qG (d:=.t [c,t]) (S1:=S) rfl (ρ1:=[some (.t [c,t]),some c,some t]) rfl (qA ?_)));cases zc:costsB c with
    |false =>
     rw[zc]at f;have:isWebB (.t [c,t])=false:=by simp only[isWebB,zc,vP]
     rw[this];exact jt (qh rfl f)
    |true =>
     rw[zc]at f;cases c with
     |t q =>
      have j:=qcW (d:=d) (many:=(q.length:Int)) (S:=S) i;have:isWebB (.t [.t q,t])=(true&&tiesB (q.length:Int) t):=by simp only[isWebB,zc,lenT]
      rw[this];exact jm (qh rfl f) (qh (qe rfl (qe (qF rfl (qS _ _)) rfl)) j)
     |_=>simp[costsB]at zc
  .have:isWebB (.t l)=false:=by
    unfold isWebB;split
    .rename_i e;cases e;simp at h
    .rfl
   rw[this];have e:cmpD .ne (.int l.length) (.int 2) S=some true:=by rw[ne2,wU h];rfl
   exact qr rfl (zf (S1:=S) (qX (t_no (x:=true) (t_of rfl)) (t_of (qH (qF rfl (qS _ _)) rfl e))) (qA rfl))
 |_=>exact qr rfl (zf (S1:=S) (yB rfl) (qA rfl))
section
variable{F:Fs}{N:Nat}{ρ:En}{S S1 S2:Sr}{e:CE}{s:CS}{r a b:CSs}{c:CB}{y:D}
theorem tc{x:Bool}(h:tst F c ρ S=.ok x S1):tst F (.cal c) ρ S=.ok x S1:=by simp[tst,h]
theorem qdH{X:Res Fl}(h:exs F N (.cons s r) ρ S=X)(d:noE (ex F N s ρ S)=ex F N s ρ S):exs F N (.c (.cal s) r) ρ S=X:=by
 rw[<-h];simp only[exs,ex,d]
theorem qbZ{d:D}(h:ev F e ρ S=.ok d S1):exs F N (.c (.cal (.ret e)) r) ρ S=.ok (.rt d) S1:=qdH (qA h) (by simp[ex,h,Res.bind])
theorem ja(h:ex F N s ρ S=.err y S1):exs F N (.cons s r) ρ S=.err y S1:=by simp[exs,h,Res.bind]
theorem qdI(h:tst F c ρ S=.ok true S1)(d:exs F N a ρ S1=.err y S2):ex F N (.ifs c a b) ρ S=.err y S2:=by simp[ex,h,d,Res.bind]
theorem qdJ(h:ev F e ρ S=.err y S1):ex F N (.expr e) ρ S=.err y S1:=by simp[ex,h,Res.bind]
theorem jN{i:Nat}{es:CEs}{l:04}(h:evs F es ρ S=.ok l S1)(d:F i l S1=.err y S2):ev F (.call i es) ρ S=.err y S2:=by simp[ev,h,d,Res.bind]
theorem qaN{f:CF}{l:04}(hl:l.length=f.np)(h:exs F N f.body (l.map some++List.replicate (f.nn-f.np) none) S=.err y S1):callC F N f l S=.err y S1:=by simp[callC,hl,h,Res.bind]
end
def qag{d:Nat}{x:D}{S:Sr}(a:refsLt 0 x=true):G (d+8) 18 [x] S=if isWebB x=true then .ok .non S else .err (.exc 37) S:=by
 rw[G_at (c:=c_18) rfl];have e:=qfG (d:=d) (S:=S) a;cases z:isWebB x with
 |true=>rw[z]at e;rw[wN rfl];exact qeD rfl (x_no (S1:=S) (tc (t_no (x:=true) (t_of (qh rfl e)))) zK)
 |false=>rw[z]at e;rw[wT 01];exact qaN rfl (ja (qdI (S1:=S) (tc (t_no (x:=false) (t_of (qh rfl e)))) (ja rfl)))
def qb0{a:Int}{S:Sr}:bltD .abs [.int a] S=.ok (.int (a.natAbs:Int)) S:=by
 simp only[bltD,one,bAbs];congr 2;split <;> lia
def qjd{a b:Int}(d:0<b)(h:b<2^9000):divOk a b=true:=by
 have f:(((2:Nat)^9000:Nat):Int)=(2:Int)^9000:=by norm_cast
 have hb:=yt (a:=b) (n:=9000) 00;unfold divOk PySem.Builtin.divisionGoesByPylong;unfold PySem.Builtin.Int.intBits at hb;have c:(b == 0)=false:=by rw[wv];lia
 rw[c]at hb;simp only[c,vf,ui]at hb ⊢;have e:decide (b.natAbs.log2 / 30+1>300)=false:=by rw[vS];lia
 simp only[e,vP];rfl
def bdivB{a b:Int}{S:Sr}(h:0<b)(c:b<2^9000):binD .fdiv (.int a) (.int b) S=some (.int (a.fdiv b)):=by
 simp only[binD,binI];rw[wN (qjd h c)];rfl
def qan(t b:Int):Int.gcd (t.natAbs:Int) b=Int.gcd t b:=by simp[Int.gcd]
def qdK{d:Nat}{a b:Int}{S:Sr}(ha:0<=a)(hb:0<=b)(f:b<2^9000):G (d+1) 2 [.int a,.int b] S=.ok (.int (Int.gcd a b:Int)) S:=by
 rw[G_at (c:=c_2) rfl];have h:=wl (S:=S) (test:=λρ S=>tst (G d) (.val 06) ρ S) (body:=λρ S=>exs (G d) NW (.c (.set (.t 035) (.t (.c 06 (.c (.bin .mod 02 06) .n)))) .n) ρ S) (E:=λa b=>[some (.int a),some (.int b)]) (λa b=>rfl) (λa b h=>qG (qZ (qe rfl (qe (qm rfl rfl (bmod 00)) rfl)) 036) rfl zK) 9000 NW a b ha hb f 01;rw[qhB 9000 NW a b ha hb f 01]at h;exact qr rfl (qeH h (qA rfl))
noncomputable def nmD(p:Int×Int):D:=.t [.int p.1,.int p.2]
def qhD{t b:Int}(hb:1<=b):(Int.gcd t b:Int)<=b:=Int.le_of_dvd 00 (Int.gcd_dvd_right t b)
def yC{d:Nat}{t b:Int}{S:Sr}(hb:1<=b)(f:b<2^9000):G (d+2) 3 [.int t,.int b] S=.ok (nmD (lw t b)) S:=by
 rw[G_at (c:=c_3) rfl];have h:=zT (t:=t) hb;have hl:=qhD (t:=t) hb;refine qr rfl (qG (d:=.int (Int.gcd t b:Int)) (S1:=S) (qh (qe (qF rfl qb0) rfl) (by have:=qdK (d:=d) (a:=(t.natAbs:Int)) (b:=b) (S:=S) 00 00 f;rw[qan]at this;exact this)) (ρ1:=[some (.int t),some (.int b),some (.int (Int.gcd t b:Int))]) rfl (qA (qZ (qe (qm rfl rfl (bdivB 00 00)) (qe (qm rfl rfl (bdivB 00 00)) rfl)) 036)))
noncomputable def numB:D->Bool
 | .t [.int t,.int b]=>decide (1<=b)&&decide (Int.gcd t b=1)
 |_=>false
noncomputable def nsm:D->Bool
 | .t [.int t,.int b]=>decide (t.natAbs<2^45)&&decide (b<2^30)
 | .t [_,.int b]=>decide (b<2^30)
 |_=>true
noncomputable def topD:D->Int
 | .t (.int t::_)=>t
 |_=>0
def qdL{x:D}(h:numB x=true):∃t b:Int,x=nmD (t,b)/\1<=b/\Int.gcd t b=1:=by
 unfold numB at h;split at h
 .simp only[wS,vH]at h
  exact⟨_,_,rfl,h.1,h.2⟩
 .cases h
def qb1{d:Nat}{x:D}{S:Sr}(h:refsLt 0 x=true)(hs:nsm x=true):G (d+2) 4 [x] S=.ok (.bl (numB x)) S:=by
 rw[G_at (c:=c_4) rfl];cases x with
 |ref n=>simp[refsLt]at h
 |exc n=>simp[refsLt]at h
 |t l =>
  by_cases i:l.length=2
  .match l,i with
   |[a,b],_ =>
    have ha:refsLt 0 a=true:=qB h 07;have hb:refsLt 0 b=true:=qB h 07;have o:=zY (d:=d) (S:=S) ha;have p:=zY (d:=d) (S:=S) hb;refine qr rfl (x_no (S1:=S) (qX (t_no (x:=true) (t_of rfl)) (t_of (qH (qF rfl (qS _ _)) rfl (ne2 _ _)))) (qG (d:=.t [a,b]) (S1:=S) rfl (ρ1:=[some (.t [a,b]),some a,some b]) rfl ?_));have t1:tst (G (d+1)) (.not (.val (.call 0 027))) [some (.t [a,b]),some a,some b] S=.ok (!isIntB a) S:=t_no (t_of (qh rfl o));have t2:tst (G (d+1)) (.not (.val (.call 0 032))) [some (.t [a,b]),some a,some b] S=.ok (!isIntB b) S:=t_no (t_of (qh rfl p));cases a with
    |int t =>
     cases b with
     |int b =>
      have f:b<2^9000:=by
       simp only[nsm,wS,vH]at hs;have:=hs.2;lia
      have t3:tst (G (d+1)) (.val (.cmp .lt 002 05)) [some (.t [.int t,.int b]),some (.int t),some (.int b)] S=.ok (decide (b<1)) S:=t_of (qH rfl rfl rfl);rw[show numB (.t [.int t,.int b])=(decide (1<=b)&&decide (Int.gcd t b=1))from rfl];by_cases j:1<=b
      .rw [wU (show ¬b<1 by lia)]at t3
       rw[wQ j,vU];have m:=qdK (d:=d) (a:=(t.natAbs:Int)) (b:=b) (S:=S) 00 00 f;rw[qan]at m;exact x_no (qX t1 (qX t2 t3)) (qA (qH (qh (qe (qF rfl qb0) (qe rfl rfl)) m) rfl (by
        show some ((Int.gcd t b:Int) == 1)=_;congr 1;rw[uH];simp;lia)))
      .rw [wQ (show b<1 by lia)]at t3
       rw[wU j,vP];exact zf (qX t1 (qX t2 t3)) (qA rfl)
     |_=>exact zf (qX t1 (yB t2)) (qA rfl)
    |_=>exact zf (yB t1) (qA rfl)
  .have e2:numB (.t l)=false:=by
    unfold numB;split
    .rename_i z;injection z with z;subst z;simp at i
    .rfl
   rw[e2];exact qr rfl (zf (S1:=S) (qX (t_no (x:=true) (t_of rfl)) (t_of (x:=true) (qH (qF rfl (qS _ _)) rfl (by rw[ne2,wU i];rfl)))) (qA rfl))
 |_=>exact qr rfl (zf (S1:=S) (yB rfl) (qA rfl))
noncomputable def amB(x:D):Bool:=numB x&&decide (0<=topD x)
def yH{d:Nat}{x:D}{S:Sr}(a:refsLt 0 x=true)(hs:nsm x=true):G (d+3) 5 [x] S=.ok (.bl (amB x)) S:=by
 rw[G_at (c:=c_5) rfl];have e:=qb1 (d:=d) (S:=S) a hs;unfold amB;cases z:numB x with
 |false=>rw[z]at e;exact qr rfl (qA (jt (qh rfl e)))
 |true =>
  rw[z]at e;obtain⟨t,b,rfl,_⟩:=qdL z;exact qr rfl (qA (jm (qh rfl e) (qH 023 rfl rfl)))
noncomputable def adn(p q:Int×Int):Int×Int:=lw (p.1*q.2+q.1*p.2) (p.2*q.2)
noncomputable def totN(ps:List (Int×Int)):Int×Int:=ps.foldl adn (0,1)
structure NB (p:Int×Int):Prop where
 t:p.1.natAbs<2^45
 b1:1<=p.2
 b2:p.2<2^30
def qah{t b:Int}(hb:1<=b):(lw t b).2<=b:=by
 obtain⟨c,a⟩:=ju (t:=t) hb;have d:=zT (t:=t) hb;have f:=(zt (t:=t) hb).pos;have:=wz (show(1:Int)<=(Int.gcd t b:Int) by lia) (show 0<=(lw t b).2 by lia);rw[a]at this;lia
def zr(ps:List (Int×Int))(q:Int×Int):totN (ps++[q])=adn (totN ps) q:=by simp[totN]
def p250{m:Nat}(h:m<=240):(2:Int)^m<2^9000:=by
 have a:(2:Nat)^m<=2^240:=Nat.pow_le_pow_right 01 h;have c:(((2:Nat)^m:Nat):Int)=(2:Int)^m:=by norm_cast
 have d:(((2:Nat)^240:Nat):Int)=(2:Int)^240:=by norm_cast
 have f:(2:Int)^240<2^9000:=by decide
 lia
structure NBe (e:Nat) (p:Int×Int):Prop where
 t:p.1.natAbs<2^45
 b1:1<=p.2
 b2:p.2<=2^e
def jv{e k:Nat}(h:e<=k):(2:Int)^e<=2^k:=by
 have a:(2:Nat)^e<=2^k:=Nat.pow_le_pow_right 01 h;have c:(((2:Nat)^e:Nat):Int)=(2:Int)^e:=by norm_cast
 have d:(((2:Nat)^k:Nat):Int)=(2:Int)^k:=by norm_cast
 lia
def qdM{e k:Nat}{B b:Int}(a:1<=B)(c:B<=2^(e*k))(d:1<=b)(f:b<=2^e):1<=B*b/\B*b<=2^(e*(k+1)):=by
 have e':(2:Int)^(e*(k+1))=2^(e*k)*2^e:=by rw[Nat.mul_succ,Int.pow_add]
 refine⟨?_,?_⟩
 .have:=uX a d 01 00
  simpa using this
 .rw [e']
  exact uX c f 00 (Int.le_of_lt (Int.pow_pos 01))
def qeL{e:Nat}:∀(n:Nat) {ps:List (Int×Int)},ps.length=n->(∀p∈ps,NBe e p)->1<=(totN ps).2/\(totN ps).2<=2^(e*ps.length):=by
 intro n;induction n with
 |zero =>
  intro ps hl _;have:ps=[]:=wp.mp hl;subst this;exact⟨by decide,by simp[totN]⟩
 |succ n d =>
  intro ps hl h;rcases vM ps with rfl|⟨ps,q,rfl⟩
  .simp at hl
  .rw [vN]at hl h ⊢
   rw[wP,vr]at hl;obtain⟨f,i⟩:=d (ps:=ps) 00 λp j=>h p (wu _ j)
   have a:=h q 07;obtain⟨c,l⟩:=qdM f i a.b1 a.b2;rw[zr];refine⟨(zt c).pos,?_⟩;rw[wP,vr];exact vD (qah c) l
def qhE{F:Fs}{N:Nat}{ρ ρ1:En}{S S1 S2:Sr}{r a:CSs}{t:CT}{e:CE}{x:D}{ds:04}{gd:Sr->Prop}{Y:Res Fl}(h:ev F e ρ S=.ok x S1)(c:refX x S1=some (ds,gd))(f:forLoop (λd ρ S=>(grd gd S (asg F t d ρ S)).bind λρ1 S1=>exs F N a ρ1 S1) ds ρ S1=.ok (.nx ρ1) S2)(i:gd S2)(j:exs F N r ρ1 S2=Y):exs F N (.c (.forX t e a) r) ρ S=Y:=by
 simp only[exs,ex,h,Res.bind,c,f,endG,zv i];exact j
def qcX{d e:Nat}{xx:D}{gd:Sr->Prop}{ps:List (Int×Int)}{S:Sr}(n:refX xx S=some (ps.map nmD,gd))(l:gd S)(h:∀p∈ps,NBe e p)(hl:e*ps.length<=240)(o:e<=30):G (d+3) 7 [xx] S=.ok (nmD (totN ps)) S:=by
 rw[G_at (c:=c_7) rfl];obtain⟨ρ',m,r,x,rfl,rfl⟩:=zS (g:=nmD) (body:=λdd ρ S=>(grd gd S (asg (G (d+2)) 000 dd ρ S)).bind λρ1 S1=>exs (G (d+2)) NW (.c (.set (.t 034) (.call 3 (.c (.bin .add (.bin .mul 06 (.idx 000 05)) (.bin .mul (.idx 000 003) 002)) (.c (.bin .mul 002 (.idx 000 05)) .n)))) .n) ρ1 S1)
  (λpre ρ T=>∃x,ρ=[some xx,some (.int (totN pre).1),some (.int (totN pre).2),x]/\T=S) ps (ρ:=[some xx,some (.int 0),some (.int 1),none]) (S:=S) ⟨_,rfl,rfl⟩ (by
   rintro pre q s ρ T a ⟨x,rfl,rfl⟩;have j:∀p∈pre,NBe e p:=λp j=>h p (by rw[a];simp[j])
   have f:NBe e q:=h q (by rw[a];simp);have i:=congrArg List.length a;rw[wP,wY]at i;obtain⟨u,v⟩:=qeL _ rfl j;obtain⟨w,y⟩:=qdM u v f.b1 f.b2;have A:(totN pre).2*q.2<2^9000:=by
    refine u3 y (p250 (vF (xF e ?_) hl));lia
   have hb:=f.b2;have B:=f.b1;have F:=f.t;have C:=jv o;refine⟨[some xx,some (.int (totN (pre++[q])).1),some (.int (totN (pre++[q])).2),some (nmD q)],T,?_,_,rfl,rfl⟩;rw[zv l,show asg (G (d+2)) 000 (nmD q) [some xx,some (.int (totN pre).1),some (.int (totN pre).2),x] T=.ok [some xx,some (.int (totN pre).1),some (.int (totN pre).2),some (nmD q)] T from rfl,Res.bind_ok];have E:=yC (d:=d) (t:=(totN pre).1*q.2+q.1*(totN pre).2) (b:=(totN pre).2*q.2) (S:=T) w A;rw[zr];exact qG (qh (qe (qm (S1:=T) (qm (S1:=T) rfl (qw (S1:=T) rfl rfl rfl) (bmul (jK 00))) (qm (S1:=T) (qw (S1:=T) rfl rfl rfl) rfl (bmul (jJ 00))) badd) (qe (qm (S1:=T) rfl (qw (S1:=T) rfl rfl rfl) (bmul (jK 00))) rfl)) E) rfl zK)
 exact qr rfl (qG (d:=.t [.int 0,.int 1]) (S1:=m) (qZ rfl 036) (ρ1:=[some xx,some (.int 0),some (.int 1),none]) rfl (qhE (ds:=ps.map nmD) (S1:=m) rfl n r l (qA (qZ rfl 036))))
def NB.e{p:Int×Int}(h:NB p):NBe 30 p:=⟨h.t,h.b1,by have:=h.b2;lia⟩
def qje{d:Nat}{ps:List (Int×Int)}{S:Sr}(h:∀p∈ps,NB p)(hl:ps.length<=8):G (d+3) 7 [.t 029] S=.ok (nmD (totN ps)) S :=
 qcX (e:=30) (gd:=λ_=>True) rfl trivial (λp a=>(h p a).e) 00 01
def qeM:∀{l:04},l.all amB=true->(∀x∈l,nsm x=true)->∃ps:List (Int×Int),l=ps.map nmD/\∀p∈ps,NB p
 |[],_,_=>⟨[],rfl,by simp⟩
 |x::r,h,hs=>by
  simp only[vz,wS]at h;obtain⟨t,b,rfl,c,i⟩:=qdL (show numB x=true by have:=h.1;unfold amB at this;simp only[wS]at this;exact this.1);obtain⟨ps,e,d⟩:=qeM h.2 λx f=>hs x (wM _ f)
  have hn:=hs _ wR;simp only[nsm,nmD,wS,vH]at hn;refine⟨(t,b)::ps,by rw[e];rfl,λp a=>?_⟩;rcases wW.mp a with rfl|z
  .exact ⟨hn.1,c,hn.2⟩
  .exact d p z
noncomputable def toP:D->Int×Int
 | .t [.int t,.int b]=>(t,b)
 |_=>(0,0)
def qb2(ps:List (Int×Int)):(ps.map nmD).map toP=ps:=by
 rw[wo]
 conv=>rhs;rw[<-List.map_id ps]
 apply vK;intro p _;rfl
noncomputable def ltB(t:Tie):D->Bool
 | .t q=>decide (q.length=t.1.length)&&(q.all amB&&decide (totN (q.map toP)=(t.2,1)))
 |_=>false
noncomputable def tsm:D->Bool
 | .t q=>q.all nsm
 |_=>true
def neN(n k:Nat)(S:Sr):cmpD .ne (.int n) (.int k) S=some (!decide (n=k)):=by
 show some (!((n:Int) == k))=_;congr 2;rw[uH];simp;lia
def qj8(p q:Int×Int)(S:Sr):cmpD .eq (nmD p) (nmD q) S=some (decide (p=q)):=by
 show some ((p.1 == q.1)&&((p.2 == q.2)&&true))=_;congr 1;rw[uH];simp[Prod.ext_iff]
def qcY{d:Nat}{t:Tie}{x:D}{S:Sr}(j:t.1.length<=4)(f:refsLt 0 x=true)(hs:tsm x=true):G (d+4) 20 [tieD t,x] S=.ok (.bl (ltB t x)) S:=by
 rw[G_at (c:=c_20) rfl];cases x with
 |ref n=>simp[refsLt]at f
 |exc n=>simp[refsLt]at f
 |t q =>
  have t1:tst (G (d+3)) (.or (.not (.val (.isi .tuple 06))) (.val (.cmp .ne (.blt .len 027) (.blt .len 032)))) [some (tieD t),some (.t q),some (tupI t.1),some (.int t.2)] S=.ok (!decide (q.length=t.1.length)) S:=qX (t_no (x:=true) (t_of rfl)) (t_of (qH (qF rfl (qS _ _)) (qF rfl (ym _ _)) (neN _ _ _)));refine qr rfl (qG (d:=tieD t) (S1:=S) rfl (ρ1:=[some (tieD t),some (.t q),some (tupI t.1),some (.int t.2)]) rfl ?_);rw[show ltB t (.t q)=(decide (q.length=t.1.length)&&(q.all amB&&decide (totN (q.map toP)=(t.2,1))))from rfl];by_cases hl:q.length=t.1.length
  .rw [wQ hl]at t1 ⊢
   rw[vU];have a:=yr (g:=λy:D=>y) (F:=G (d+3)) (fr:=[]) (nt:=1) (elt:=.call 5 (.c 02 .n)) (tg:=.v 0) (it:=.seq 06) (ρ:=[some (tieD t),some (.t q),some (tupI t.1),some (.int t.2)]) (S:=S) (S1:=S) (ds:=q) q amB (λρ=>∃y,ρ=[y]) rfl 07 ⟨_,rfl⟩ (by
    rintro y h ρ ⟨z,rfl⟩;exact⟨_,rfl,⟨_,rfl⟩,qh rfl (yH (qB f h) (wb.mp hs y h))⟩)
   refine x_no t1 (qA ?_);cases za:q.all amB with
   |false=>rw[za]at a;exact jt a
   |true =>
    rw[za]at a;obtain⟨ps,rfl,i⟩:=qeM za (wb.mp hs);rw[qb2];rw[wF]at hl;exact jm a (qH (qh rfl (qje i 00)) (qZ (l:=[.int t.2,.int 1]) rfl 036) (qj8 (totN ps) (t.2,1) S))
  .rw [wU hl]at t1 ⊢
   exact zf t1 (qA rfl)
 |_=>exact qr rfl (qG (d:=tieD t) (S1:=S) rfl rfl (zf (S1:=S) (yB (t_no (x:=false) (t_of rfl))) (qA rfl)))
noncomputable def layB(w:Wb):D->Bool
 | .t l=>decide (l.length=w.ties.length)&&(w.ties.zip l).all λp=>ltB p.1 p.2
 |_=>false
noncomputable def lsm:D->Bool
 | .t l=>l.all tsm
 |_=>true
def qjf{c d:Type}{a:List c}{b:List d}{p:c×d}(h:p∈a.zip b):p.1∈a/\p.2∈b:=vB h
def qcZ{w:Wb}:refsLt 0 012=true:=by
 unfold webD;simp[refsLt,refsLts,qU];have:refsLts 0 (w.ties.map tieD)=true:=qJ (by intro y a;obtain⟨z,_,rfl⟩:=w8.mp a;exact yZ 0 z);simpa[refsLts,refsLt]using this
def qjg(t:Tie):keyT (tieD t)=t.1:=by
 show(intsOf (t.1.map .int)).getD []=t.1;rw[zm];rfl
def qfH{n:Nat}{p:008}(h:PlOk n p):placesB n (tupI p)=true:=by
 show(match intsOf (p.map .int)with|some ns=>!ns.isEmpty&&ns.all (λi=>decide (0<=i)&&decide (i<=(n:Int)-1))&&upB ns|none=>false)=true;rw[zm];have c:p.isEmpty=false:=by
  cases p with
  |nil=>exact absurd rfl h.ne
  |cons a r=>rfl
 have d:p.all (λi=>decide (0<=i)&&decide (i<=(n:Int)-1))=true:=by
  rw[wb];intro i hi;have:=h.rng i hi;simp;lia
 have f:upB p=true:=qhn h.up;simp only[c,d,f];rfl
def qlF{w:Wb}(h:WbOk w):isWebB 012=true:=by
 have c1:=h.c1;have c2:=h.c2;have t1:=h.t1;have e1:costsB (tupI w.costs)=true:=by
  show(decide (1<=(w.costs.map D.int).length)&&decide ((w.costs.map D.int).length<=12)&&(w.costs.map D.int).all (wholeB 1 100))=true;rw[wF,wQ c1,wQ c2,xB,vU,vU,wb];intro x d;have:=h.c3 x d;show(decide (1<=x)&&decide (x<=100))=true;simp;lia
 have e2:tiesB w.costs.length (.t (w.ties.map tieD))=true:=by
  show(decide ((w.ties.map tieD).length<=30)&&(w.ties.map tieD).all (tieB w.costs.length)&&upT ((w.ties.map tieD).map keyT))=true;have f:(w.ties.map tieD).map keyT=w.ties.map (·.1):=by rw[wo];exact vK λt _=>qjg t
  have i:upT (w.ties.map (·.1))=true:=qeC h.t3;rw[f,i,wF,wQ t1,xB,vU,Bool.and_true,wb];intro t j;obtain⟨a,b,c⟩:=h.t2 t j;show(placesB w.costs.length (tupI t.1)&&decide ((t.1.map D.int).length<=4)&&(decide (1<=t.2)&&decide (t.2<=1000000)))=true;rw[qfH a,wF,wQ b,wQ c.1,wQ c.2];rfl
 show(costsB (tupI w.costs)&&tiesB ((w.costs.map D.int).length:Nat) (.t (w.ties.map tieD)))=true;rw[e1,wF,e2];rfl
def yu{d:Nat}{w:Wb}{S:Sr}(h:WbOk w):G (d+8) 18 [webD w] S=.ok .non S:=by
 rw[qag qcZ,qlF h,wN rfl]
def qc0{d:Nat}{y:D}{S:Sr}(a:refsLt 0 y=true)(h:isWebB y=false):G (d+8) 18 [y] S=.err (.exc 37) S:=by
 rw[qag a,h,wT 01]
section
variable{F:Fs}{N:Nat}{ρ:En}{S S1 S2:Sr}{e:CE}{es:CEs}{a b r:CSs}{c:CB}{y:D}
theorem qhF{d:D}{i:Nat}{X:Res R.Fl}(h:ev F e ρ S=.ok d S1)(f:exs F N r (ρ.set i (some d)) S1=X):exs F N (.c (.cal (.set (.v i) e)) r) ρ S=X:=qdH (qG h rfl f) (by simp[ex,h,Res.bind,asg])
theorem qeN{s:CS}(h:ev F e ρ S=.err y S1):ex F N (.grd e s) ρ S=.err y S1:=by simp[ex,h]
end
def jO{d:Nat}{w:Wb}{x:D}{S:Sr}(h:WbOk w)(a:refsLt 0 x=true)(hs:lsm x=true):G (d+9) 19 [webD w,x] S=.ok (.bl (layB w x)) S:=by
 rw[G_at (c:=c_19) rfl];refine qr rfl (x_expr (S1:=S) (qh rfl (yu h)) (qhF (d:=.t (w.ties.map tieD)) (S1:=S) 023 ?_));show exs _ _ _ [some 012,some x,some (.t (w.ties.map tieD))] S=_;cases x with
 |ref n=>simp[refsLt]at a
 |exc n=>simp[refsLt]at a
 |t l =>
  have t1:tst (G (d+8)) (.or (.not (.val (.isi .tuple 06))) (.val (.cmp .ne (.blt .len 027) (.blt .len 032)))) [some 012,some (.t l),some (.t (w.ties.map tieD))] S=.ok (!decide (l.length=w.ties.length)) S:=qX (t_no (x:=true) (t_of rfl)) (t_of (qH (qF rfl (qS _ _)) (qF rfl (qS _ _)) (by rw[wF];exact neN _ _ _)));rw[show layB w (.t l)=(decide (l.length=w.ties.length)&&(w.ties.zip l).all λp=>ltB p.1 p.2)from rfl];by_cases hl:l.length=w.ties.length
  .rw [wQ hl]at t1 ⊢
   rw[vU];have i:=yr (g:=λp:Tie×D=>.t [tieD p.1,p.2]) (F:=G (d+8)) (fr:=[]) (nt:=2) (elt:=.call 20 035) (tg:=.t 035) (it:=.zip 002 06) (ρ:=[some 012,some (.t l),some (.t (w.ties.map tieD))]) (S:=S) (S1:=S) (ds:=((w.ties.map tieD).zip l).map λq=>.t [q.1,q.2]) (w.ties.zip l) (λp=>ltB p.1 p.2) (λρ=>∃y z,ρ=[y,z]) rfl (by rw[List.zip_map_left,wo];rfl) ⟨_,_,rfl⟩ (by
    rintro p j ρ ⟨y,z,rfl⟩;obtain⟨m,f⟩:=qjf j;exact⟨_,rfl,⟨_,_,rfl⟩,qh rfl (qcY (d:=d+4) (h.t2 p.1 m).2.1 (qB a f) (wb.mp hs p.2 f))⟩)
   exact x_no (tc t1) (qbZ i)
  .rw [wU hl]at t1 ⊢
   exact zf (tc t1) (qbZ rfl)
 |_=>exact zf (S1:=S) (tc (yB (t_no (x:=false) (t_of rfl)))) (qbZ rfl)
def qc1{d:Nat}{w:Wb}{x:D}{S:Sr}(h:WbOk w)(a:refsLt 0 x=true)(hs:lsm x=true)(hl:layB w x=false):G (d+10) 21 [webD w,x] S=.err (.exc 61) S:=by
 have e:=jO (d:=d) (S:=S) h a hs;rw[hl]at e;rw[G_at (c:=c_21) rfl];exact qaN rfl (ja (qdI (S1:=S) (t_no (x:=false) (t_of (qh rfl e))) (ja rfl)))
section
variable{d:Nat}{y x:D}{S:Sr}{C:PySem.Addr}(h:∀S,G (d+10) 21 [y,x] S=.err (.exc C) S)
include h
theorem qhG:G (d+11) 22 [y,x] S=.err (.exc C) S:=by
 rw[G_at (c:=c_22) rfl];exact qaN rfl (ja (qdJ (jN rfl (h S))))
theorem qdN:G (d+12) 23 [y,x] S=.err (.exc C) S:=by
 rw[G_at (c:=c_23) rfl];exact qaN rfl (ja (qeN (jN rfl (qhG (S:=S) h))))
end
def qjh{d:Nat}{c:Int}{S:Sr}:∃m:Int,0<=m/\m<10^60/\G (d+1) 29 [.int c] S=.ok (.int m) S:=by
 have p0:(0:Int)<10^60:=by decide
 have a:=vX c p0;have f:=ut c p0;refine⟨(c.fmod (10^60)*845098040014256830712216258592636193483572396323965406503637).fmod (10^60),vX _ p0,ut _ p0,?_⟩;rw[G_at (c:=c_29) rfl];refine qr rfl (qA (qm (d1:=.int (c.fmod (10^60)*845098040014256830712216258592636193483572396323965406503637)) (d2:=.int (10^60)) (S1:=S) (qm (d1:=.int (c.fmod (10^60))) (S1:=S) (qm (d1:=.int c) (d2:=.int (10^60)) (S1:=S) rfl rfl rfl) rfl ?_) rfl rfl));exact bmul (qeE (by
  have e:(10:Int)^60<2^250:=by decide
  have:(((2:Nat)^250:Nat):Int)=(2:Int)^250:=by norm_cast
  lia) (by decide))
def zx{d n:Nat}{v m:Int}{S:Sr}(hn:n<S.length)(a:0<m)(hm:m.natAbs<2^64):G (d+1) 31 [.ref n,.int m] (pk S n v)=.ok (.int (v.fmod m)) (pk S n (v.fdiv m)):=by
 rw[G_at (c:=c_31) rfl];have e:=qj6 hn v;have f:exs (G d) NW c_31.body [some (.ref n),some (.int m),none] (pk S n v)=.ok (.rt (.int (v.fmod m))) (pk S n (v.fdiv m)):=by
  refine qG (d:=.t [.int (v.fdiv m),.int (v.fmod m)]) (S1:=pk S n v) (qF (qe (qw (d:=.int v) rfl rfl ?_) (qe rfl rfl)) ?_) (ρ1:=[some (.ref n),some (.int m),some (.int (v.fmod m))]) (S2:=pk S n (v.fdiv m)) ?_ (qA rfl)
  .simp [idxD,seqOf,lstOf,e,L2.atI,L2.ixN]
  .simp [bltD,two,bDivmod,qja a hm]
  .have:putE (pk S n v) (.ref n) (.int 0) (.int (v.fdiv m))=some (pk S n (v.fdiv m)):=by
    simp[putE,putN,e,L2.ixN,refsLt];unfold pk;simp
   simp only[asg,asgs,ev,varE,Res.bind,uS,this];rfl
 exact qcS (S2:=[]) rfl rfl (by rw[vu];exact f) (by simp[qv]) rfl
def qc2(l:008)(x:Int)(S:Sr):∃c:Int,idxD S (.l (l.map .int++[.int x])) (.int 0)=some (.int c):=by
 cases l with
 |nil=>exact⟨x,rfl⟩
 |cons a r=>exact⟨a,by simp[idxD,seqOf,lstOf,L2.atI,L2.ixN]⟩
def qji(l:008)(a b:Option Int):∃m:List Int,cutD (l.map .int) a b=m.map .int/\m.length<=l.length:=by
 unfold cutD;rw[wF,<-List.map_drop,<-List.map_take];exact⟨_,rfl,by simp;lia⟩
def bcat{a b:04}{S:Sr}(h:a.length+b.length<=1000):binD .add (.l a) (.l b) S=some (.l (a++b)):=by
 have:catOk a b=true:=by unfold catOk PySem.sizeLine;rw[vH];lia
 simp[binD,lstOf,this]
def qbv{d:Nat}{ns:008}(n:ns.length<=63){k f a:Int}{x y:Option D}{S:Sr}(p:0<=f)(r:f<10^60)(ha:0<=a)(q:a<100):∃m c:Int,0<=m/\m<10^60 /\
  (asg (G (d+1)) 000 (.int a) [some (.l (ns.map .int)),some (.int k),some (.int f),x,y] S).bind (λρ1 S1=>exs (G (d+1)) NW (.c (.set (.v 4) (.idx (.bin .add (.slc 02 (.some 000) (.some (.bin .add 000 05))) (.l false (.c (.bin .add (.bin .add (.bin .mul (.k (.int 5701)) 000) (.k (.int 43))) (.bin .mul (.k (.int 7)) (.idx (.bin .add 02 (.l false (.c 003 .n))) 003))) .n))) 003)) (.c (.set 002 (.bin .add (.bin .mul 002 (.bin .pow (.k (.int 10)) (.k (.int 60)))) (.call 29 (.c (.v 4) .n)))) .n)) ρ1 S1)
   = .ok (.nx [some (.l (ns.map .int)),some (.int k),some (.int (f*10^60+m)),some (.int a),some (.int c)]) S:=by
 obtain⟨x0,h⟩:=qc2 ns 0 S;obtain⟨ms,i,hl⟩:=qji ns (some a) (some (a+1));obtain⟨c,hc⟩:=qc2 ms (5701*a+43+7*x0) S;obtain⟨m,j,l,hm⟩:=qjh (d:=d) (c:=c) (S:=S);refine⟨m,c,j,l,?_⟩;rw[show asg (G (d+1)) 000 (.int a) [some (.l (ns.map .int)),some (.int k),some (.int f),x,y] S=.ok [some (.l (ns.map .int)),some (.int k),some (.int f),some (.int a),y] S from rfl,Res.bind_ok];refine qG (d:=.int c) (S1:=S) (qw (d1:=.l (ms.map .int++[.int (5701*a+43+7*x0)])) (S1:=S) (qm (d1:=.l (ms.map .int)) (d2:=.l [.int (5701*a+43+7*x0)]) (S1:=S) ?_ ?_ (bcat 030)) rfl hc) rfl (qG (d:=.int (f*10^60+m)) (S1:=S) (qm (d1:=.int (f*10^60)) (S1:=S) (qm (d2:=.int (10^60)) (S1:=S) rfl rfl (bmul (qeE ?_ 01))) (qh rfl hm) badd) rfl zK)
 .simp only[ev,evO,varE,Res.bind,uS,List.getElem?_cons_succ,badd,ofO,slcD,lstOf]
  simp only[wn,i]
 .have e1:ev (G (d+1)) (.bin .mul (.k (.int 7)) (.idx (.bin .add 02 (.l false (.c 003 .n))) 003)) [some (.l (ns.map .int)),some (.int k),some (.int f),some (.int a),y] S=.ok (.int (7*x0)) S :=
   qm (S1:=S) rfl (qw (d1:=.l (ns.map .int++[.int 0])) (S1:=S) (qm (d2:=.l [.int 0]) (S1:=S) rfl rfl (bcat 030)) rfl h) (bmul (jJ 01))
  have e2:=qm (F:=G (d+1)) (o:=.add) (S:=S) (S1:=S) (e1:=.bin .add (.bin .mul (.k (.int 5701)) 000) (.k (.int 43))) (d1:=.int (5701*a+43)) (qm (S1:=S) (qm (S1:=S) rfl rfl (bmul (jJ 01))) rfl badd) e1 badd;exact zg (qe e2 rfl) 07
 .have e:(10:Int)^60<2^250:=by decide
  have:(((2:Nat)^250:Nat):Int)=(2:Int)^250:=by norm_cast
  lia
def qlG{d:Nat}{ns:008}(h:ns.length<=63){k:Int}{S:Sr}(p:0<=k)(l:k<90):∃v:Int,0<=v/\G (d+2) 30 [.l (ns.map .int),.int k] S=.ok 037 (S++[.l [.int v]]):=by
 obtain⟨m,c,n,o,e1⟩:=qbv (d:=d) h (k:=k) (f:=0) (a:=k+1) (x:=none) (y:=none) (S:=S) (Int.le_refl 0) 01 00 00;obtain⟨m2,c2,i,j,e2⟩:=qbv (d:=d) h (k:=k) (f:=0*10^60+m) (a:=k) (x:=some (.int (k+1))) (y:=some (.int c)) (S:=S) 00 00 00 00;refine⟨(0*10^60+m)*10^60+m2,by lia,?_⟩;rw[G_at (c:=c_30) rfl];refine qly rfl rfl (qG (d:=.int 0) (S1:=S) rfl (ρ1:=[some (.l (ns.map .int)),some (.int k),some (.int 0),none,none]) rfl (jI (ds:=[.int (k+1),.int k]) (S1:=S) ?_ (ρ1:=[some (.l (ns.map .int)),some (.int k),some (.int ((0*10^60+m)*10^60+m2)),some (.int k),some (.int c2)]) (S2:=S) ?_ (qA (qbW rfl 07 rfl))))
 .have:ev (G (d+1)) (.l false (.c (.bin .add 06 05) 027)) [some (.l (ns.map .int)),some (.int k),some (.int 0),none,none] S=.ok (.l [.int (k+1),.int k]) S:=zg (qe (qm (S1:=S) rfl rfl badd) (qe rfl rfl)) 07
  simp only[evI,this,Res.bind]
 .rw [qaJ e1,qaJ e2];rfl
def qjj{r:Int}(h:0<=r/\r<8)(S:Sr):∃s:Nat,1<=s/\s<=4/\idxD S (.l [.int 2,.int 2,.int 2,.int 3,.int 3,.int 1,.int 4,.int 2]) (.int r)=some (.int s):=by
 have:r=0\/r=1\/r=2\/r=3\/r=4\/r=5\/r=6\/r=7:=by lia
 rcases this with rfl|rfl|rfl|rfl|rfl|rfl|rfl|rfl
 .exact ⟨2,by decide,by decide,rfl⟩
 .exact ⟨2,by decide,by decide,rfl⟩
 .exact ⟨2,by decide,by decide,rfl⟩
 .exact ⟨3,by decide,by decide,rfl⟩
 .exact ⟨3,by decide,by decide,rfl⟩
 .exact ⟨1,by decide,by decide,rfl⟩
 .exact ⟨4,by decide,by decide,rfl⟩
 .exact ⟨2,by decide,by decide,rfl⟩
def qhH{d n many:Nat}{v:Int}{S:Sr}(hn:n<S.length)(K:0<=v)(Q:1<=many)(U:many<=60):∃(p:008) (u:Int),PlOk many p/\p.length<=4/\0<=u/\G (d+2) 36 [.ref n,.int many] (pk S n v)=.ok (tupI p) (pk S n u):=by
 obtain⟨s,L,M,hs⟩:=qjj (fm (v:=v) (m:=8) 01) (pk S n (v.fdiv 8));have r:0<=v.fdiv 8:=wc K 01;have N:(pk S n (v.fdiv 8)).length=S.length:=qv ..;have i:(if(many:Int)<(s:Int)then(many:Int)else(s:Int))=((min s many:Nat):Int):=by split <;> lia
 obtain⟨a,W,e,⟨ms,ls,u,rfl,rfl,w,j⟩,H,A⟩:=qdE (g:=.int) (F:=G (d+1)) (fr:=[3,0]) (nt:=1) (elt:=.popAt 02 (.call 31 (.c 06 (.c 039 .n)))) (tg:=.v 2) (it:=.rng (.c (.blt .min2 (.c 002 027)) .n))
  (ρ:=[some (.ref n),some (.int many),some (.int s),some 037,none]) (S:=pk S n (v.fdiv 8)++[.l ((rI many).map .int)]) (S1:=pk S n (v.fdiv 8)++[.l ((rI many).map .int)]) (rI (min s many)) (λρ=>∃x,ρ=[some 037,some (.ref n),x])
  (λa T=>∃ms ls u,a=ms.map .int/\T=pk S n u++[.l (ls.map .int)]/\0<=u/\(ms++ls).Perm (rI many))
  (i_rng (n:=min s many) (qe (qF (qe rfl (qe rfl rfl)) (by simp only[bltD,two,bMin,i])) rfl) 00) rfl ⟨_,rfl⟩ (by rw[yn];lia) ⟨[],rI many,_,rfl,rfl,r,.refl _⟩ (by
   rintro q X ρ m T ⟨x,rfl⟩ ⟨ms,ls,u,rfl,rfl,w,j⟩ Y hm;have B:=j.length_eq;rw[wP,yn]at B;rw[wF,yn]at hm;have O:0<ls.length:=by lia
   have f:=fm (v:=u) (m:=(ls.length:Int)) 00;have I:=zx (d:=d) (n:=n) (v:=u) (m:=ls.length) (S:=(S++[.l (ls.map .int)])++[.l (ms.map .int)]) 030 00 00;rw[<-zZ 030,<-zZ hn,<-zZ 030,<-zZ hn]at I;obtain⟨y,J⟩:∃y,ls[(u.fmod ls.length).toNat]?=some y:=⟨_,wC 00⟩;refine⟨[some 037,some (.ref n),some (.int q)],.int y,pk S n (u.fdiv ls.length)++[.l ((ls.eraseIdx (u.fmod ls.length).toNat).map .int)],rfl,⟨_,rfl⟩,?_,by simp[qv],rfl,ms++[y],ls.eraseIdx (u.fmod ls.length).toNat,u.fdiv ls.length,by simp,rfl,wc w 00,?_⟩
   .have h:∀u,(pk S n u++[.l (ls.map .int)]++[.l (ms.map .int)])[S.length]?=some (.l (ls.map .int)):=by
     intro u;rw[wy,wK (by rw[qv];lia),qv];simp
    have hl:bltD .len [.ref S.length] (pk S n u++[.l (ls.map .int)]++[.l (ms.map .int)])=.ok (.int ls.length) (pk S n u++[.l (ls.map .int)]++[.l (ms.map .int)]):=by
     simp only[bltD,one,bLen,lenD,h,wn,wF,ofO];rfl
    have hc:ev (G (d+1)) (.call 31 (.c 06 (.c 039 .n))) [some 037,some (.ref n),some (.int q)] (pk S n u++[.l (ls.map .int)]++[.l (ms.map .int)])=.ok (.int (u.fmod ls.length)) (pk S n (u.fdiv ls.length)++[.l (ls.map .int)]++[.l (ms.map .int)]) :=
     qh (qe rfl (qe (qF rfl hl) rfl)) I
    have l:popD (pk S n (u.fdiv ls.length)++[.l (ls.map .int)]++[.l (ms.map .int)]) 037 (.int (u.fmod ls.length))=.ok (.int y) (pk S n (u.fdiv ls.length)++[.l ((ls.eraseIdx (u.fmod ls.length).toNat).map .int)]++[.l (ms.map .int)]):=by
     unfold popD;simp only[h];rw[wN ⟨f.1,by lia⟩,wk,J];simp only[wn];rw[qhs,wy,va _ _ (by rw[qv];lia),qv];simp
    have hi:isLst (pk S n u++[.l (ls.map .int)]++[.l (ms.map .int)]) 037=true:=by simp only[isLst,h]
    exact qnj rfl hi hc l
   .rw [wy]
    exact((qeF J).append_left ms).trans j)
 have C:ms.Nodup:=(vo.mp (j.nodup_iff.mpr (qhq many))).1;have o:∀x∈ms,0<=x/\x<many:=λx E=>qlz.mp (j.mem_iff.mp (wu _ E))
 rw[wF,yn]at A;refine⟨sortI ms,u,⟨?_,?_,qht C⟩,?_,w,?_⟩
 .intro P
  have:=(zQ ms).length_eq;rw[P]at this;simp at this;lia
 .exact λx E=>o x ((zQ ms).mem_iff.mp E)
 .rw [(zQ ms).length_eq];lia
 .rw [G_at (c:=c_36) rfl]
  refine qcS (S2:=[.l (ls.map .int)]) rfl rfl (qG (d:=.int s) (S1:=pk S n (v.fdiv 8)) (qw (S1:=pk S n v) (d2:=.int (v.fmod 8)) rfl (qh rfl (zx hn 01 01)) hs) (ρ1:=[some (.ref n),some (.int many),some (.int s),none,none]) rfl (qG (qlB (n:=many) rfl 00) (ρ1:=[some (.ref n),some (.int many),some (.int s),some 037,none]) (by rw[N];rfl) (qG e rfl (qA (qF (qe (qF (d:=.l ((sortI ms).map .int)) (S2:=pk S n u++[.l (ls.map .int)]) rfl ?_) rfl) ?_))))) (by rw[qv,qv]) (qU _ _)
  .simp only[bltD,one,bSorted,walkD,wX]
   rw[qfD 00];rfl
  .rfl
def eq0(r:Int)(S:Sr):cmpD .eq (.int r) (.int 0) S=some (r == 0):=rfl
def qlH{S:Sr}{j:Nat}{ts:List Tie}{k:008}{w:Int}(h:S[j]?=some (dicD ts))(hl:ts.length<1000):putE S (.ref j) (tupI k) (.int w)=some (S.set j (dicD (putTie k w ts))):=by
 unfold putE;rw[wN (show refsLt 0 (D.int w)=true from rfl)];simp only[putN,h,dicD,tupI,zm,wX,wF,hl,uO,qhu]
def qbw{F:Fs}{ρ:En}{S S1 S2 a:Sr}{o i:CE}{x y v:D}(h:ev F o ρ S=.ok x S1)(c:ev F i ρ S1=.ok y S2)(d:putE S2 x y v=some a):asg F (.sub o i) v ρ S=.ok ρ a:=by
 simp only[asg,h,c,d,Res.bind]
def Sm(w:Wb):Prop:=(∀c∈w.costs,c<=5)/\∀t∈w.ties,t.2<=9
def qlI{ts:List Tie}{m:Int}(h:∀t∈ts,t.2<=m){k:008}{w:Int}(hw:w<=m):∀t∈putTie k w ts,t.2<=m:=by
 unfold putTie;split
 .intro t a
  obtain⟨s,hs,rfl⟩:=w8.mp a;split
  .exact hw
  .exact h s hs
 .intro t a
  rcases wa.mp a with z|z
  .exact h t z
  .simp at z;subst z;exact hw
def qlJ{ts:List Tie}{m:Int}(h:∀t∈ts,t.2<=m):∀t∈srt ts,t.2<=m:=by
 intro t a;unfold srt at a;obtain⟨k,c,rfl⟩:=w8.mp a;obtain⟨_,s,hs,e1,e2⟩:=qam ((zk _).mem_iff.mp c);show look ts k<=m;rw[<-e2];exact h s hs
def qc3{d n many:Nat}{v tn:Int}{S:Sr}{cs:008}{x0:Option D}(hn:n<S.length)(O:0<=v)(P:1<=many)(Z:many<=12)(Q:0<=tn)(ht:tn<=30)(l:cs.length=many)(B:∀c∈cs,1<=c/\c<=100)(C:∀c∈cs,c<=5):∃(w:Wb) (u:Int) (T:Sr),WbOk w/\w.costs.length=many/\Sm w/\(w.ties.length:Int)<=tn/\0<=u /\
  exs (G (d+2)) NW (tl (tl (tl c_37.body))) [some (.ref n),x0,some (.int tn),some (.int many),some (.l (cs.map .int)),none,none,none] (pk S n v)=.ok (.rt 012) (pk S n u++T):=by
 have hm:0<tn+1:=by lia
 have fr:=fm (v:=v) hm;obtain⟨c,hc⟩:∃c:Nat,v.fmod (tn+1)=c:=⟨(v.fmod (tn+1)).toNat,by lia⟩;have L:=zx (d:=d+1) (n:=n) (v:=v) (m:=tn+1) (S:=S++[dicD []]) 030 hm 00;rw[<-zZ hn,<-zZ hn,hc]at L;obtain⟨ρ',S',U,x,y,ts,u,rfl,rfl,E,A,o,a⟩:=zS (g:=.int) (body:=λdd ρ S=>(asg (G (d+2)) (.v 6) dd ρ S).bind λρ1 S1=>exs (G (d+2)) NW (.c (.set (.v 7) (.call 36 (.c 02 (.c 000 .n)))) (.c (.set (.sub (.v 5) (.v 7)) (.bin .add 05 (.call 31 (.c 02 (.c (.k (.int 9)) .n))))) .n)) ρ1 S1)
  (λ(pre:List Int) ρ T=>∃x y ts u,ρ=[some (.ref n),x0,some (.int tn),some (.int many),some (.l (cs.map .int)),some 037,x,y]/\T=pk S n u++[dicD ts]/\0<=u/\KnOk many ts/\ts.length<=pre.length/\∀t∈ts,t.2<=9) (rI c)
  (ρ:=[some (.ref n),x0,some (.int tn),some (.int many),some (.l (cs.map .int)),some 037,none,none]) (S:=pk S n (v.fdiv (tn+1))++[dicD []])
  ⟨_,_,[],_,rfl,rfl,wc O 00,⟨List.nodup_nil,λt h=>by simp at h⟩,by simp,by simp⟩ (by
   rintro pre q W ρ T r ⟨x,y,ts,u,rfl,rfl,E,A,o,a⟩;have s:=congrArg List.length r;rw[yn,wP,wY]at s;obtain⟨p,i,X,F,H,M⟩:=qhH (d:=d) (n:=n) (many:=many) (v:=u) (S:=S++[dicD ts]) 030 E P 00;have N:=zx (d:=d+1) (n:=n) (v:=i) (m:=9) (S:=S++[dicD ts]) 030 01 01;rw[<-zZ hn,<-zZ hn]at M N;have f9:=fm (v:=i) (m:=9) 01;have f:(pk S n (i.fdiv 9)++[dicD ts])[S.length]?=some (dicD ts):=by
    rw[wK (by rw[qv];lia),qv];simp
   obtain⟨I,Y⟩:=A.put (k:=p) (w:=1+i.fmod 9) X F 00 00;refine⟨[some (.ref n),x0,some (.int tn),some (.int many),some (.l (cs.map .int)),some 037,some (.int q),some (tupI p)],pk S n (i.fdiv 9)++[dicD (putTie p (1+i.fmod 9) ts)],?_,_,_,_,_,rfl,rfl,wc H 01,I,by simp;lia,qlI a 00⟩;rw[show asg (G (d+2)) (.v 6) (.int q) [some (.ref n),x0,some (.int tn),some (.int many),some (.l (cs.map .int)),some 037,x,y] (pk S n u++[dicD ts])=.ok [some (.ref n),x0,some (.int tn),some (.int many),some (.l (cs.map .int)),some 037,some (.int q),y] (pk S n u++[dicD ts])from rfl,Res.bind_ok];refine qG (qh rfl M) (ρ1:=[some (.ref n),x0,some (.int tn),some (.int many),some (.l (cs.map .int)),some 037,some (.int q),some (tupI p)]) rfl (qG (qm rfl (qh rfl N) badd) (qbw rfl rfl (qlH f 00)) ?_);rw[va _ _ (by rw[qv];lia),qv];simp[exs])
 obtain⟨J,K⟩:=qlC A;rw[yn]at o;refine⟨⟨cs,srt ts⟩,u,[dicD ts],⟨by show 1<=cs.length;lia,by show cs.length<=12;lia,B,by show(srt ts).length<=30;rw[qeG];lia,by show ∀t∈srt ts,PlOk cs.length t.1/\_;rw[l];exact J,K⟩,l,⟨C,qlJ a⟩,by show((srt ts).length:Int)<=tn;rw[qeG];lia,E,?_⟩;have f:(pk S n u++[dicD ts])[S.length]?=some (dicD ts):=by
  rw[wK (by rw[qv];lia),qv];simp
 refine qG (d:=.ref S.length) (S1:=pk S n v++[dicD []]) ?_ (ρ1:=[some (.ref n),x0,some (.int tn),some (.int many),some (.l (cs.map .int)),some 037,none,none]) rfl (jI (i_rng (n:=c) (qe (qh (qe rfl (qe (qm rfl rfl badd) rfl)) L) rfl) 00) U (qA (qZ (qe (qF (d:=tupI cs) (S2:=pk S n u++[dicD ts]) rfl rfl) (qe (qlD (kx:=5) (j:=S.length) rfl f A 00) rfl)) 036)));have:(pk S n v).length=S.length:=qv ..;simp only[ev,uO,this];rfl
def rep1(m:Nat):rep [D.int 1] (m:Int)=(List.replicate m (1:Int)).map .int:=by
 unfold rep;have:((m:Int)).toNat=m:=by lia
 rw[this,uL];induction m with
 |zero=>rfl
 |succ k a =>
  rw[ww,uD,a 00,ww];rfl
def qnl{d n:Nat}{v mo tn:Int}{S:Sr}(hn:n<S.length)(M:0<=v)(N:1<=mo)(O:mo<=12)(y:0<=tn)(K:tn<=30):∃(w:Wb) (u:Int),WbOk w/\(w.costs.length:Int)<=mo/\Sm w/\(w.ties.length:Int)<=tn/\0<=u/\G (d+3) 37 [.ref n,.int mo,.int tn] (pk S n v)=.ok 012 (pk S n u):=by
 have f:=fm (v:=v) (m:=mo) 00;obtain⟨many,j⟩:∃c:Nat,1+v.fmod mo=c:=⟨(1+v.fmod mo).toNat,by lia⟩;have E:0<=v.fdiv mo:=wc M 00;have A:0<=(v.fdiv mo).fdiv 3:=wc E 01;have a:∀{w:Wb} {u:Int} {T:Sr} {cs:008} {v3:Int},exs (G (d+2)) NW (tl (tl c_37.body)) [some (.ref n),some (.int mo),some (.int tn),some (.int many),some (.l ((List.replicate many (1:Int)).map .int)),none,none,none] (pk S n (v.fdiv mo))=.ok (.rt 012) (pk S n u++T)->G (d+3) 37 [.ref n,.int mo,.int tn] (pk S n v)=.ok 012 (pk S n u):=by
  intro w u T cs v3 h;rw[G_at (c:=c_37) rfl];refine qcS (S2:=T) rfl rfl (qG (d:=.int many) (S1:=pk S n (v.fdiv mo)) (qm (d2:=.int (v.fmod mo)) (S1:=pk S n v) rfl (qh rfl (zx hn 00 00)) (by rw[badd,j])) (ρ1:=[some (.ref n),some (.int mo),some (.int tn),some (.int many),none,none,none,none]) rfl (qG (d:=.l ((List.replicate many (1:Int)).map .int)) (S1:=pk S n (v.fdiv mo)) (qm (S1:=pk S n (v.fdiv mo)) (zg rfl 07) rfl ?_) (ρ1:=[some (.ref n),some (.int mo),some (.int tn),some (.int many),some (.l ((List.replicate many (1:Int)).map .int)),none,none,none]) rfl h)) (by rw[qv,qv]) (qhp _ _);have:repOk [D.int 1] (many:Int)=true:=by
   unfold repOk PySem.sizeLine;rw[vH];refine⟨by lia,by lia,?_⟩;simp;lia
  simp only[binD,lstOf];rw[wN this,rep1]
 have l:=zx (d:=d+1) (n:=n) (v:=v.fdiv mo) (m:=3) hn 01 01;by_cases z:((v.fdiv mo).fmod 3)=0
 .rw [z]at l
  obtain⟨i,Q,e,⟨cs,P,rfl,rfl,H,o,p⟩,_,B⟩:=qdE (g:=.int) (F:=G (d+2)) (fr:=[0]) (nt:=1) (elt:=.bin .add 05 (.call 31 (.c 02 (.c (.k (.int 5)) .n)))) (tg:=.v 1) (it:=.rng (.c 000 .n))
   (ρ:=[some (.ref n),some (.int mo),some (.int tn),some (.int many),some (.l ((List.replicate many (1:Int)).map .int)),none,none,none]) (S:=pk S n ((v.fdiv mo).fdiv 3)) (S1:=pk S n ((v.fdiv mo).fdiv 3)) (rI many) (λρ=>∃x,ρ=[some (.ref n),x])
   (λi T=>∃cs u,i=cs.map .int/\T=pk S n u/\0<=u/\(∀c∈cs,(1:Int)<=c/\c<=100)/\∀c∈cs,c<=(5:Int)) (i_rng rfl 00) rfl ⟨_,rfl⟩ (by rw[yn];lia) ⟨[],_,rfl,rfl,A,by simp,by simp⟩ (by
    rintro q U ρ m T ⟨x,rfl⟩ ⟨cs,u,rfl,rfl,C,o,p⟩ _ _;have L:=zx (d:=d+1) (n:=n) (v:=u) (m:=5) (S:=S++[.l (cs.map .int)]) 030 01 01;rw[<-zZ hn,<-zZ hn]at L;have W:=fm (v:=u) (m:=5) 01;refine⟨_,.int (1+u.fmod 5),pk S n (u.fdiv 5),rfl,⟨_,rfl⟩,qm rfl (qh rfl L) badd,by rw[qv,qv],rfl,cs++[1+u.fmod 5],_,by simp,rfl,wc C 01,?_,?_⟩
    .intro c hc
     rcases wa.mp hc with z|z
     .exact o c z
     .simp at z;lia
    .intro c hc
     rcases wa.mp hc with z|z
     .exact p c z
     .simp at z;lia)
  rw[wF,yn]at B;obtain⟨w,u,T,hw,I,r,s,C,J⟩:=qc3 (d:=d) (tn:=tn) (x0:=some (.int mo)) hn H 00 00 y K B o p;refine⟨w,u,hw,by lia,r,s,C,a (cs:=cs) (v3:=P) (qdC (t_of (qH (qh rfl l) rfl (eq0 _ _))) (qG e rfl zK) J)⟩
 .obtain ⟨w,u,T,hw,I,r,s,C,J⟩:=qc3 (d:=d) (many:=many) (tn:=tn) (x0:=some (.int mo)) (cs:=List.replicate many 1) hn A 00 00 y K 07 (by intro c hc;rw[vV]at hc;lia) (by intro c hc;rw[vV]at hc;lia)
  refine⟨w,u,hw,by lia,r,s,C,a (cs:=[]) (v3:=0) (x_no (t_of (qH (qh rfl l) rfl ?_)) J)⟩;rw[eq0,wv.mpr z]
def zw{d n:Nat}{v m:Int}{S T:Sr}(hn:n<S.length)(a:0<m)(hm:m.natAbs<2^64):G (d+1) 31 [.ref n,.int m] (pk S n v++T)=.ok (.int (v.fmod m)) (pk S n (v.fdiv m)++T):=by
 rw[zZ hn,zZ hn];exact zx (by rw[wP];lia) a hm
def z9{d:Nat}{t b:Int}{S:Sr}(hb:1<=b)(a:b<2^9000):G (d+1) 32 [.int t,.int b] S=.ok (nmD (lw t b)) S:=by
 have j:=zT (t:=t) hb;have hl:=qhD (t:=t) hb;have h:=wl (S:=S) (test:=λρ S=>tst (G d) (.val (.cmp .ne 000 003)) ρ S) (body:=λρ S=>exs (G d) NW (.c (.set (.t (.c 002 (.c 000 .n))) (.t (.c 000 (.c (.bin .mod 002 000) .n)))) .n) ρ S) (E:=λx y=>[some (.int t),some (.int b),some (.int x),some (.int y)]) (λx y=>rfl) (λx y h=>qG (qZ (qe rfl (qe (qm rfl rfl (bmod 00)) rfl)) 036) rfl zK) 9000 NW (t.natAbs:Int) b 00 00 a 01;rw[qhB 9000 NW (t.natAbs:Int) b 00 00 a 01,qan]at h;have f:cmpD .lt (.int b) (.int 0) S=some false:=by simp only[cmpD];rw[wU 00]
 have i:bltD .abs [.int b] S=.ok (.int b) S:=qnk 00;rw[G_at (c:=c_32) rfl];exact qr rfl (qG (qZ (qe (qF rfl qb0) (qe (qF rfl i) rfl)) 036) (ρ1:=[some (.int t),some (.int b),some (.int (t.natAbs:Int)),some (.int b)]) rfl (qeH h (x_no (t_of (qH rfl rfl f)) (qA (qZ (qe (qm rfl rfl (bdivB 00 00)) (qe (qm rfl rfl (bdivB 00 00)) rfl)) 036)))))
structure NS (p:Int×Int):Prop where
 t:p.1.natAbs<2^64
 b1:1<=p.2
 b2:p.2<2^64
def qI{a b:Int}(ha:1<=a)(hb:1<=b):1<=a*b:=by
 have:=uX ha hb 01 00;simpa using this
def qlK{d:Nat}{p q:Int×Int}{S:Sr}(f:1<=p.2)(a:NS q)(hb:p.2*q.2<2^9000):G (d+2) 33 [nmD p,nmD q] S=.ok (nmD (adn p q)) S:=by
 rw[G_at (c:=c_33) rfl];have i:=a.t;have h:=a.b1;have j:=a.b2;exact qr rfl (qA (qh (qe (qm (S1:=S) (qm (S1:=S) 023 023 (bmul (jK 00))) (qm (S1:=S) 023 023 (bmul (jJ 00))) badd) (qe (qm (S1:=S) 023 023 (bmul (jK 00))) rfl)) (z9 (qI f h) hb)))
def qlL{a b s:Int}(hs:1<=s):adn (lw a s) (lw b s)=lw (a+b) s:=by
 have d:=zt (t:=a) hs;have f:=zt (t:=b) hs;have e1:=zL (t:=a) hs;have e2:=zL (t:=b) hs;have i:=zL (t:=a+b) hs;unfold adn;have c:1<=(lw a s).2*(lw b s).2:=qI d.pos f.pos;refine yh (zt c) (zt hs) ?_;have j:=zL (t:=(lw a s).1*(lw b s).2+(lw b s).1*(lw a s).2) c;generalize lw ((lw a s).1*(lw b s).2+(lw b s).1*(lw a s).2) ((lw a s).2*(lw b s).2)=A at *;generalize lw (a+b) s=B at *;have h:0<(lw a s).2*(lw b s).2*s:=Int.mul_pos 00 00;generalize lw a s=P at *;generalize lw b s=Q at *;have:(A.1*B.2)*(P.2*Q.2*s)=(B.1*A.2)*(P.2*Q.2*s):=by grind
 exact wh 00 this
def j7{s:Int}(hs:1<=s):lw 0 s=(0,1):=by
 refine yh (zt hs) ⟨by decide,by decide⟩ ?_;have:=zL (t:=0) hs;have e:(lw 0 s).1=0:=by
  rw[Int.zero_mul]at this;rcases Int.mul_eq_zero.mp this with z|z
  .exact z
  .lia
 rw[e];simp
def qc4{m s:Int}(hs:1<=s):lw (m*s) s=(m,1):=by
 refine yh (zt hs) ⟨by simp,by simp⟩ ?_;have:=zL (t:=m*s) hs;have a:((lw (m*s) s).1*1)*s=(m*(lw (m*s) s).2)*s:=by grind
 exact wh 00 a
def qhI{s:Int}(hs:1<=s):∀(n:Nat) (xs:008),xs.length=n->totN (xs.map (lw · s))=lw xs.sum s:=by
 intro n;induction n with
 |zero =>
  intro xs h;have:xs=[]:=wp.mp h;subst this;exact(j7 hs).symm
 |succ n a =>
  intro xs h;rcases vM xs with rfl|⟨ys,y,rfl⟩
  .simp at h
  .rw [vN]at h ⊢
   rw[vL,List.map_singleton,zr,a ys (by simpa using h),qlL hs];simp
structure AmOk (B:Int) (t:Tie) (ps:List (Int×Int)):Prop where
 ex:∃(xs:008) (s:Int),1<=s/\s<=B/\xs.length=t.1.length/\xs.sum=t.2*s/\(∀x∈xs,0<=x/\x<=1000000*s)/\ps=xs.map (lw · s)
def qhJ{t b:Int}(hb:1<=b):(lw t b).1.natAbs<=t.natAbs:=by
 obtain⟨a,_⟩:=ju (t:=t) hb;have c:=zT (t:=t) hb;have:((lw t b).1*(Int.gcd t b:Int)).natAbs=t.natAbs:=by rw[a]
 rw[xu]at this;rw[<-this];exact Nat.le_mul_of_pos_right _ 00
def qj9{t b:Int}(a:0<=t)(hb:1<=b):0<=(lw t b).1:=by
 obtain⟨c,_⟩:=ju (t:=t) hb;have d:=zT (t:=t) hb;rcases Int.lt_or_le (lw t b).1 0 with z|z
 .have:=Int.mul_neg_of_neg_of_pos z (show(0:Int)<(Int.gcd t b:Int) by lia)
  lia
 .exact z
def zM:∀ps:List (Int×Int),refsLts 0 029=true
 |[]=>rfl
 |a::r=>by rw[wj,refsLts,zM r];rfl
def qaO{p:Int×Int}(h:NB p):nsm (nmD p)=true:=by
 show(decide (p.1.natAbs<2^45)&&decide (p.2<2^30))=true;rw[wQ h.t,wQ h.b2];rfl
def qhK{B:Int}(l:B<=1000000){t:Tie}{ps:List (Int×Int)}(h:AmOk B t ps):∀p∈ps,NB p:=by
 obtain⟨xs,s,c,m,_,_,d,rfl⟩:=h.ex;intro p f;obtain⟨x,i,rfl⟩:=w8.mp f;have j:=d x i;have a:=qhJ (t:=x) c;have b:=qah (t:=x) c;refine⟨?_,(zt c).pos,by lia⟩;have:x.natAbs<2^45:=by lia
 lia
def qjk{B:Int}{t:Tie}{ps:List (Int×Int)}(h:AmOk B t ps):ltB t (.t 029)=true:=by
 obtain⟨xs,s,a,j,c,d,f,rfl⟩:=h.ex;show(decide (((xs.map (lw · s)).map nmD).length=t.1.length)&&(((xs.map (lw · s)).map nmD).all amB&&decide (totN (((xs.map (lw · s)).map nmD).map toP)=(t.2,1))))=true;rw[qb2,qhI a _ xs rfl,d,qc4 a];have e1:decide (((xs.map (lw · s)).map nmD).length=t.1.length)=true:=wQ (by simpa using c);have e2:((xs.map (lw · s)).map nmD).all amB=true:=by
  rw[xB,xB,wb];intro x i;have hl:=zt (t:=x) a;show((decide (1<=(lw x s).2)&&decide (Int.gcd (lw x s).1 (lw x s).2=1))&&decide (0<=(lw x s).1))=true;rw[wQ hl.pos,wQ hl.one,wQ (qj9 (f x i).1 a)];rfl
 rw[e1,e2];simp
noncomputable def lyD(l:List (List (Int×Int))):List D:=l.map λps=>.t 029
def LyOk(B:Int)(ts:List Tie)(l:List (List (Int×Int))):Prop:=l.length=ts.length/\∀p∈ts.zip l,AmOk B p.1 p.2
def yI(l:List (List (Int×Int))):refsLts 0 013=true:=qJ λd hd=>by
 obtain⟨ps,_,rfl⟩:=w8.mp hd;exact zM ps
def qlM{B:Int}{ts:List Tie}{l:List (List (Int×Int))}(h:LyOk B ts l){ps:List (Int×Int)}(c:ps∈l):∃t∈ts,AmOk B t ps:=by
 obtain⟨i,hi,e⟩:=uG c;have a:i<ts.length:=by rw[<-h.1];exact hi
 have:(ts[i],l[i])∈ts.zip l:=by
  apply wq (i:=i);rw[uf];exact⟨wC a,wC hi⟩
 have:=h.2 _ this;rw[e]at this;exact⟨_,List.getElem_mem a,this⟩
def qb3{B:Int}(c:B<=1000000){ts:List Tie}{l:List (List (Int×Int))}(h:LyOk B ts l):∀x∈lyD l,tsm x=true:=by
 intro x d;obtain⟨ps,a,rfl⟩:=w8.mp d;obtain⟨t,_,ha⟩:=qlM h a;show(ps.map nmD).all nsm=true;rw[xB,wb];exact λp a=>qaO (qhK c ha p a)
def qjl{B:Int}{w:Wb}{l:List (List (Int×Int))}(h:LyOk B w.ties l):layB w (.t 013)=true:=by
 show(decide ((lyD l).length=w.ties.length)&&(w.ties.zip 013).all λp=>ltB p.1 p.2)=true;have e1:decide ((lyD l).length=w.ties.length)=true:=wQ (by unfold lyD;rw[wF];exact h.1);rw[e1,vU,wb];unfold lyD;rw[List.zip_map_right];intro p a;obtain⟨q,c,rfl⟩:=w8.mp a;exact qjk (h.2 q c)
def qeO{B:Int}{pre:List Tie}{l:List (List (Int×Int))}(h:LyOk B pre l){t:Tie}{ps:List (Int×Int)}(ha:AmOk B t ps):LyOk B (pre++[t]) (l++[ps]):=by
 refine⟨by simp[h.1],?_⟩;rw[List.zip_append h.1.symm];intro p a;rcases wa.mp a with z|z
 .exact h.2 p z
 .simp at z;subst z;exact ha
def qlN{f:Type}{g:f->D}{F:Fs}{fr:List Nat}{nt:Nat}{elt:CE}{tg:CT}{e:CE}{ifs:CBs}{ρ:En}{S S1:Sr}{n:Nat}(xs:List f)(b:f->Bool)(v:f->D)(R:En->Prop)(i:ev F e ρ S=.ok (.ref n) S1)(hn:S1[n]?=some (.l (xs.map g)))(j:R (frE ρ fr nt))(hl:xs.length<=PySem.sizeLine)(H:∀d∈xs,∀(ρ:En) (m:04),R ρ->∃ρ1,asg F tg (g d) ρ (S1++[.l m])=.ok ρ1 (S1++[.l m])/\R ρ1/\tsts F ifs ρ1 (S1++[.l m])=.ok (b d) (S1++[.l m])/\(b d=true->ev F elt ρ1 (S1++[.l m])=.ok (v d) (S1++[.l m])/\refsLt 0 (v d)=true)):
  ev F (.lcR false fr nt elt tg e ifs) ρ S=.ok (.l ((xs.filter b).map v)) S1:=by
 have h:n<S1.length:=(wG.mp hn).1;have c:∀X:Sr,own n (xs.map g) (S1++X):=λX=>by unfold own;rw[wL h];exact hn
 obtain⟨ρ',e1⟩:=qal (n:=S1.length) (bind:=λd ρ S=>grd (own n (xs.map g)) S (asg F tg d ρ S)) (test:=λρ S=>tsts F ifs ρ S) (elt:=λρ S=>ev F elt ρ S) R rfl xs [] _ (by simpa using hl) j (λd hd ρ m l=>by
  obtain⟨ρ1,a,b⟩:=H d hd ρ m l;exact⟨ρ1,by rw[zv (c _)];exact a,b⟩)
 have o:refL (.ref n) S1=some (n,xs.map g):=by simp only[refL,hn]
 simp only[ev,i,Res.bind,o,e1,zv (c _),lcEnd];simp
def jP{S:Sr}{j:Nat}{l:04}{i:Int}{k:Nat}{v:D}(h:S[j]?=some (.l l))(hi:L2.ixN l.length i=some k)(a:refsLt 0 v=true):putE S (.ref j) (.int i) v=some (S.set j (.l (l.set k v))):=by
 unfold putE;rw[wN a];simp only[putN,h,hi,wn]
def qdO{F:Fs}{ρ:En}{S S1 S2:Sr}{o:BOp}{e1 e2:CE}{d1 d2:D}{r:Res D}(h:ev F e1 ρ S=.ok d1 S1)(a:ev F e2 ρ S1=.ok d2 S2)(c:R.binM o d1 d2 S2=r):ev F (.binM o e1 e2) ρ S=r:=by
 simp only[ev,h,a,Res.bind,c]
def repD(x:D)(m:Nat):rep [x] (m:Int)=List.replicate m x:=by
 unfold rep;have:((m:Int)).toNat=m:=by lia
 rw[this];induction m with
 |zero=>rfl
 |succ k a=>rw[ww,uD,a 00,ww];rfl
def qaP{x:D}{m:Nat}{S:Sr}(a:refsLt 0 x=true)(hm:m<=100):R.binM .mul (.l [x]) (.int m) S=.ok 037 (S++[.l (List.replicate m x)]):=by
 have c:repOk [x] (m:Int)=true:=by
  unfold repOk PySem.sizeLine;rw[vH];refine⟨by lia,by lia,?_⟩;simp;lia
 have f:refsLts 0 (List.replicate m x)=true:=qJ λd hd=>by rw[vV]at hd;rw[hd.2];exact a
 simp only[R.binM,lstOf];rw[wN c,repD];simp only[newL,f,uO]
def qc5{F:Fs}{N:Nat}{ρ:En}{S S1:Sr}{r a b:CSs}{c:CB}{Q:Fl->Sr->Prop}(h:tst F c ρ S=.ok true S1)(d:Ok (exs F N a ρ S1) λf S2=>match f with|.nx ρ1=>Ok (exs F N r ρ1 S2) Q|f=>Q f S2):Ok (exs F N (.c (.ifs c a b) r) ρ S) Q:=o_if (Ok.of h d)
def qb4{F:Fs}{N:Nat}{ρ:En}{S S1:Sr}{r a:CSs}{c:CB}{Q:Fl->Sr->Prop}(h:tst F c ρ S=.ok false S1)(d:Ok (exs F N r ρ S1) Q):Ok (exs F N (.c (.ifs c a .nil) r) ρ S) Q:=o_no (Ok.of h ⟨rfl,d⟩)
def qjm{h:Type}{g:h->D}{F:Fs}{fr:List Nat}{nt:Nat}{elt:CE}{tg:CT}{it:CI}{ρ:En}{S S1:Sr}{ds:04}(xs:List h)(R:En->Prop)(I:List D->Sr->Prop)(i:evI F it ρ S=.ok ds S1)(hd:ds=xs.map g)(j:R (frE ρ fr nt))(hl:xs.length<=1000)(hi:I [] S1)(H:∀d∈xs,∀(ρ:En) (m:04) (S:Sr),R ρ->I m S->S.length=S1.length->m.length<xs.length->∃ρ1 v c,asg F tg (g d) ρ (S++[.l m])=.ok ρ1 (S++[.l m])/\R ρ1/\ev F elt ρ1 (S++[.l m])=.ok v (c++[.l m])/\c.length=S1.length/\refsLt 0 v=true/\I (m++[v]) c):
  ∃a c,ev F (.lc true fr nt elt tg it .nil) ρ S=.ok (.ref S1.length) (c++[.l a])/\I a c/\c.length=S1.length/\a.length=xs.length:=by
 obtain⟨ρ',f,c,e,l,o,p⟩:=qdD (n:=S1.length) (bind:=λd ρ S=>asg F tg d ρ S) (test:=λρ S=>tsts F .nil ρ S) (elt:=λρ S=>ev F elt ρ S) R I (λ_ _=>by simp[tsts]) xs [] _ S1 (by simpa using hl) j hi rfl (by simpa using H);refine⟨f,c,?_,l,o,by simpa using p⟩;simp only[ev,i,Res.bind,hd,e,lcEnd,uO]
def qb5:∀{l:008},(∀x∈l,0<=x)->∀{y:Int},y∈l->y<=l.sum
 |[],_,_,h=>by simp at h
 |a::r,h,y,hy=>by
  have d:=qhx λx c=>h x (wM _ c)
  have f:=h a wR;rw[uK];rcases wW.mp hy with z|z
  .subst z;lia
  .have:=qb5 (λx c=>h x (wM _ c)) z;lia
def qeP:∀{l:008},(∀x∈l,x<=3)->l.sum<=3*(l.length:Int)
 |[],_=>by simp
 |a::r,h=>by
  have d:=qeP λx c=>h x (wM _ c)
  have f:=h a wR;rw[uK,wY];lia
def qc6(k:Int):∀l:List Int,(l.map (k*·)).sum=k*l.sum
 |[]=>by simp
 |a::r=>by rw[wj,uK,uK,qc6 k r,Int.mul_add]
structure ShOk (n:Nat) (ss:008):Prop where
 len:ss.length=n
 rng:∀s∈ss,0<=s/\s<=3
 pos:∃s∈ss,1<=s
def qnm{t:Tie}{ss:008}(h:ShOk t.1.length ss)(j:t.1.length<=4)(l:1<=t.2)(f:t.2<=1000000):1<=ss.sum/\ss.sum<=12/\AmOk 12 t (ss.map λs=>lw (t.2*s) ss.sum):=by
 obtain⟨m,c,i⟩:=h.pos;have n:=qb5 (λx a=>(h.rng x a).1) c;have o:=qeP (λx a=>(h.rng x a).2);have hl:=h.len;have d:ss.sum<=12:=by lia
 refine⟨by lia,d,⟨ss.map (t.2*·),ss.sum,by lia,d,by rw[wF];exact hl,qc6 _ _,?_,by rw[wo];rfl⟩⟩;intro x a;obtain⟨s,hs,rfl⟩:=w8.mp a;have b1:=h.rng s hs;have b2:=qb5 (λx a=>(h.rng x a).1) hs;refine⟨Int.mul_nonneg 00 b1.1,?_⟩;exact uX f b2 b1.1 00
section
variable{S:Sr}{n:Nat}
theorem jb(u:Int)(Y:Sr)(o:SO):(pk S n u++(Y++[o]))[S.length+Y.length]?=some o:=by
 rw[wK (by rw[qv];lia),qv];simp
theorem qao(u:Int)(Y:Sr)(o o':SO):(pk S n u++(Y++[o])).set (S.length+Y.length) o'=pk S n u++(Y++[o']):=by
 rw[va _ _ (by rw[qv];lia),qv];simp
theorem jj(u:Int)(Y:Sr):(pk S n u++Y)[S.length]?=Y[0]?:=by
 rw[wK (by rw[qv];lia),qv];simp
theorem yJ(u:Int)(Y:Sr):(pk S n u++Y).length=S.length+Y.length:=by rw[wP,qv]
end
noncomputable abbrev yE(n:Nat)(w:Wb)(k:Nat)(a b c e:Option D):En:=[some (.ref n),some 012,some (.ref k),a,b,c,e]
def qjn{T:Sr}{j:Nat}{l:008}{i:Int}{k:Nat}{x:Int}(h:T[j]?=some (.l (l.map .int)))(hi:L2.ixN l.length i=some k)(a:l[k]?=some x):idxD T (.ref j) (.int i)=some (.int x):=by
 simp only[idxD,seqOf,lstOf,h,wX,L2.atI,wF,hi];rw[wk,a];rfl
def qeQ{n:Nat}(h:1<=n):L2.ixN n (-1)=some (n-1):=by
 unfold L2.ixN;rw[wT 01];have e:(-1+(n:Int))=((n-1:Nat):Int):=by lia
 simp only[e];rw[wN 00];simp
def qfI{d n:Nat}{v:Int}{S:Sr}{w:Wb}(hw:WbOk w)(hn:n<S.length)(hv:0<=v):Ok (G (d+2) 38 [.ref n,webD w] (pk S n v)) λy T=>∃l u,LyOk 12 w.ties l/\0<=u/\y=.t 013/\T=pk S n u:=by
 rw[G_at (c:=c_38) rfl];refine yG (f:=c_38) rfl rfl ?_;refine qO (Ok.of (a:=.ref S.length) (S:=pk S n v++[.l []]) (by have:=qbW (F:=G (d+1)) (ρ:=[some (.ref n),some 012,none,none,none,none,none]) (S:=pk S n v) (S1:=pk S n v) (es:=.nil) (l:=[]) rfl 01 rfl;rw[qv]at this;exact this) (Ok.of (a:=yE n w S.length none none none none) rfl ?_));refine qbu (g:=tieD) (λpre ρ T=>∃a b c e l u X,ρ=yE n w S.length a b c e/\LyOk 12 pre l/\0<=u/\T=pk S n u++(.l 013::X)) w.ties (Ok.of (a:=w.ties.map tieD) (S:=pk S n v++[.l []]) rfl ⟨rfl,_,_,_,_,[],v,[],rfl,⟨rfl,by simp⟩,hv,rfl⟩) ?_ ?_
 .rintro pre t aa ρ T H ⟨a0,b0,c0,W,l,u,X,rfl,hl,M,rfl⟩
  have N:=hw.t2 t (by rw[H];simp);have Z:1<=t.1.length:=by
   cases hc:t.1 with
   |nil=>exact absurd hc N.1.ne
   |cons a r=>simp
  have ab:l.length<=100:=by
   have:=congrArg List.length H;have:=hw.t1;have:=hl.1;rw[wP,wY]at *;lia
  refine Ok.of (a:=yE n w S.length (some (tupI t.1)) (some (.int t.2)) c0 W) rfl ?_;generalize hY:(SO.l 013::X)=Y;have a1:Y[0]?=some (.l 013):=by rw[<-hY];rfl
  have fin:∀(p:Int) (A:Sr) (j:Nat) (ss:008) (c1:Option D),0<=p->A[0]?=some (.l 013)->(pk S n p++A)[j]?=some (.l (ss.map .int))->ShOk t.1.length ss ->
    Ok (exs (G (d+1)) NW (.c (.expr (.app 002 (.blt .tuple (.c (.lcR false [4,6] 1 (.call 32 (.c (.bin .mul 02 002) (.c (.blt .sum 027) .n))) 002 (.v 6) .n) .n)))) .n) (yE n w S.length (some (tupI t.1)) (some (.int t.2)) c1 (some (.ref j))) (pk S n p++A)) λf S2=>match f with
     | .nx a2=>∃a b c e l u X,a2=yE n w S.length a b c e/\LyOk 12 (pre++[t]) l/\0<=u/\S2=pk S n u++(.l 013::X)
     |_=>False:=by
   intro p A j ss c1 a3 J hj i;obtain⟨b1,b2,hA⟩:=qnm i N.2.1 N.2.2.1 N.2.2.2;have el:=qlN (g:=.int) (F:=G (d+1)) (fr:=[4,6]) (nt:=1) (elt:=.call 32 (.c (.bin .mul 02 002) (.c (.blt .sum 027) .n))) (tg:=.v 2) (e:=.v 6) (ifs:=.nil) (ρ:=yE n w S.length (some (tupI t.1)) (some (.int t.2)) c1 (some (.ref j))) (S:=pk S n p++A) (S1:=pk S n p++A) (n:=j) ss (λ_=>true) (λs=>nmD (lw (t.2*s) ss.sum)) (λρ=>∃y,ρ=[some (.int t.2),some (.ref j),y]) rfl hj ⟨_,rfl⟩ (by rw[i.len];unfold PySem.sizeLine;lia) (by
    rintro s hs ρ m ⟨y,rfl⟩;have a4:j<(pk S n p++A).length:=(wG.mp hj).1;have a5:(pk S n p++A++[SO.l m])[j]?=some (.l (ss.map .int)):=by rw[wL a4];exact hj
    have O:bltD .sum [.ref j] (pk S n p++A++[SO.l m])=.ok (.int ss.sum) (pk S n p++A++[SO.l m]):=by
     simp only[bltD,one,bSum,seqOf,lstOf,a5,wX,zm,wn,ofO]
    exact⟨_,rfl,⟨_,rfl⟩,rfl,λ_=>⟨qh (qe (qm rfl rfl (bmul (jJ (by have:=N.2.2;lia)))) (qe (qF rfl O) rfl)) (z9 b1 00),rfl⟩⟩)
   rw[zE]at el;refine qdF (qhz (Ok.of (a:=.ref S.length) (S:=pk S n p++A) rfl ⟨S.length,lyD l,rfl,by rw[jj];exact J,Ok.of (a:=.t ((ss.map λs=>lw (t.2*s) ss.sum).map nmD)) (S:=pk S n p++A) (qF (qe el rfl) (by rw[wo];rfl)) ⟨by rw[jj];exact J,by unfold lyD;rw[wF];lia,(show refsLt 0 (.t ((ss.map λs=>lw (t.2*s) ss.sum).map nmD))=true from zM _),?_⟩⟩));cases A with
   |nil=>simp at J
   |cons y0 Y1 =>
    refine zX ⟨_,_,_,_,l++[ss.map λs=>lw (t.2*s) ss.sum],p,Y1,rfl,qeO hl hA,a3,?_⟩;rw[va _ _ (by rw[qv];lia),qv];simp[lyD]
  have f3:=fm (v:=u) (m:=3) 01;have et:=zw (d:=d) (n:=n) (v:=u) (m:=3) (S:=S) (T:=Y) hn 01 01;have E:0<=u.fdiv 3:=wc M 01;refine qO (Ok.of (qh rfl et) (Ok.of (a:=yE n w S.length (some (tupI t.1)) (some (.int t.2)) (some (.int (u.fmod 3))) W) rfl ?_));have eb:∀(x:Int) (u:Int) (Y:Sr) (c e:Option D),ev (G (d+1)) (.binM .mul (.l false (.c (.k (.int x)) .n)) (.blt .len (.c 000 .n))) (yE n w S.length (some (tupI t.1)) (some (.int t.2)) c e) (pk S n u++Y)=.ok (.ref (S.length+Y.length)) (pk S n u++(Y++[.l ((List.replicate t.1.length x).map .int)])):=by
   intro x u Y c e;refine qdO (d1:=.l [.int x]) (S1:=pk S n u++Y) (zg rfl 07) (qF rfl (ym _ _)) ?_;rw[qaP rfl 00,yJ,uL,wy]
  refine qO (Ok.of (eb 1 _ Y _ _) (Ok.of (a:=yE n w S.length (some (tupI t.1)) (some (.int t.2)) (some (.int (u.fmod 3))) (some (.ref (S.length+Y.length)))) rfl ?_));have K:∀(Y:Sr) (o:SO),Y[0]?=some (.l 013)->(Y++[o])[0]?=some (.l 013):=λY o h=>by
   rw[wL (wG.mp h).1];exact h
  have B:∀(r k:Int) (T:Sr),cmpD .eq (.int r) (.int k) T=some (r == k):=λ_ _ _=>rfl
  have C:=K Y (.l ((List.replicate t.1.length (1:Int)).map .int)) a1;by_cases z0:u.fmod 3=0
  .
   rw[z0];refine qc5 (t_of (qH rfl rfl (B 0 0 _))) ?_;refine qO (Ok.of (eb 0 _ _ _ _) (Ok.of (a:=yE n w S.length (some (tupI t.1)) (some (.int t.2)) (some (.int 0)) (some (.ref (S.length+(Y++[SO.l ((List.replicate t.1.length (1:Int)).map .int)]).length)))) rfl ?_));generalize Y++[SO.l ((List.replicate t.1.length (1:Int)).map .int)]=Y2 at C ⊢;have fl:=fm (v:=u.fdiv 3) (m:=t.1.length) 00;have P:=zw (d:=d) (n:=n) (v:=u.fdiv 3) (m:=t.1.length) (S:=S) (T:=Y2++[.l ((List.replicate t.1.length (0:Int)).map .int)]) hn 00 00;obtain⟨r,hr⟩:∃r:Nat,(u.fdiv 3).fmod t.1.length=r:=⟨((u.fdiv 3).fmod t.1.length).toNat,by lia⟩;rw[hr]at P;have a6:L2.ixN ((List.replicate t.1.length (0:Int)).map D.int).length (r:Int)=some r:=by
    unfold L2.ixN;rw[wN 00,wF,vb,wN 00];rfl
   refine qO (Ok.of (a:=.int 1) (S:=pk S n (u.fdiv 3)++(Y2++[.l ((List.replicate t.1.length (0:Int)).map .int)])) rfl (Ok.of (qbw rfl (qh (qe rfl (qe (qF rfl (ym _ _)) rfl)) P) (jP (jb _ _ _) a6 rfl)) ?_));rw[qao,<-ul];refine zX ?_;refine qb4 (t_of (qH rfl rfl (B 0 2 _))) ?_;refine fin _ _ _ _ _ (wc E 00) (K _ _ C) (jb _ _ _) ⟨by simp,?_,?_⟩
   .intro s hs
    rcases uP hs with z|z
    .rw [vV]at z;lia
    .lia
   .exact ⟨1,List.mem_set 030 1,by decide⟩
  .have a7:(u.fmod 3 == 0)=false:=wv.mpr z0
   refine qb4 (S1:=pk S n (u.fdiv 3)++(Y++[.l ((List.replicate t.1.length (1:Int)).map .int)])) (t_of (qH rfl rfl (by rw[B,a7]))) ?_;by_cases z2:u.fmod 3=2
   .
    rw[z2];refine qc5 (t_of (qH rfl rfl (B 2 2 _))) ?_;generalize Y++[SO.l ((List.replicate t.1.length (1:Int)).map .int)]=Y2 at C ⊢;generalize u.fdiv 3=u1 at E ⊢;obtain⟨I,S',e,⟨ss,u2,rfl,rfl,a8,i⟩,_,L⟩:=qjm (g:=.int) (F:=G (d+1)) (fr:=[0]) (nt:=1) (elt:=.call 31 (.c 02 (.c (.k (.int 3)) .n))) (tg:=.v 1) (it:=.seq 000) (ρ:=yE n w S.length (some (tupI t.1)) (some (.int t.2)) (some (.int 2)) (some (.ref (S.length+Y.length)))) (S:=pk S n u1++Y2) (S1:=pk S n u1++Y2) (ds:=t.1.map .int) t.1 (λρ=>∃y,ρ=[some (.ref n),y])
     (λI T=>∃ss u,I=ss.map .int/\T=pk S n u++Y2/\0<=u/\∀s∈ss,(0:Int)<=s/\s<=2) rfl rfl ⟨_,rfl⟩ 00 ⟨[],u1,rfl,rfl,E,by simp⟩ (by
      rintro q hq ρ m T ⟨y,rfl⟩ ⟨ss,u,rfl,rfl,M,i⟩ _ _;have ek:=zw (d:=d) (n:=n) (v:=u) (m:=3) (S:=S) (T:=Y2++[.l (ss.map .int)]) hn 01 01;rw[<-wy,<-wy]at ek;have f:=fm (v:=u) (m:=3) 01;refine⟨_,.int (u.fmod 3),pk S n (u.fdiv 3)++Y2,rfl,⟨_,rfl⟩,qh rfl ek,by rw[yJ,yJ],rfl,ss++[u.fmod 3],_,by simp,rfl,wc M 01,?_⟩;intro s hs;rcases wa.mp hs with z|z
      .exact i s z
      .simp at z;lia)
    rw[wF]at L;rw[yJ,wy]at e;refine qO (Ok.of e (Ok.of (a:=yE n w S.length (some (tupI t.1)) (some (.int t.2)) (some (.int 2)) (some (.ref (S.length+Y2.length)))) rfl ?_));obtain⟨x,hx⟩:∃x,ss[t.1.length-1]?=some x:=⟨_,wC 00⟩;have ac:=i x (wq hx);have Q:L2.ixN ss.length (-1)=some (t.1.length-1):=by rw[L];exact qeQ Z
    have U:=jb (S:=S) (n:=n) u2 Y2 (.l (ss.map .int));refine qO (Ok.of (a:=.int (1+x)) (S:=pk S n u2++(Y2++[.l (ss.map .int)])) (qm rfl (qw rfl rfl (qjn U Q hx)) badd) (Ok.of (qbw rfl rfl (jP U (by rw[wF];exact Q) rfl)) ?_));rw[qao,<-ul];refine zX (fin _ _ _ _ _ a8 (K _ _ C) (jb _ _ _) ⟨by simpa using L,?_,?_⟩)
    .intro s hs
     rcases uP hs with z|z
     .have:=i s z;lia
     .lia
    .exact ⟨1+x,List.mem_set 00 _,by lia⟩
   .have a9:(u.fmod 3 == 2)=false:=wv.mpr z2
    refine qb4 (S1:=pk S n (u.fdiv 3)++(Y++[.l ((List.replicate t.1.length (1:Int)).map .int)])) (t_of (qH rfl rfl (by rw[B,a9]))) ?_;refine fin _ _ _ _ _ E C (jb _ _ _) ⟨by simp,?_,?_⟩
    .intro s hs
     rw[vV]at hs;lia
    .exact ⟨1,by rw[vV];lia,by decide⟩
 .rintro ρ T ⟨a0,b0,c0,W,l,u,X,rfl,hl,M,rfl⟩
  refine qaM (Ok.of (a:=.t 013) (S:=pk S n u++(.l 013::X)) (qF rfl ?_) ⟨by rw[qv,yJ];lia,(show refsLt _ (.t 013)=true from q8 _ (yI l)),l,u,hl,M,rfl,?_⟩)
  .have:(pk S n u++(SO.l 013::X))[S.length]?=some (.l 013):=by rw[jj];rfl
   simp only[bltD,one,bTuple,seqOf,lstOf,this,wn,ofO]
  .have:(pk S n v).length=(pk S n u).length:=by rw[qv,qv]
   rw[this,List.take_left'];rfl
noncomputable abbrev Am:=Int×Int
noncomputable def addP(ls:020)(q:Int×Am):List (List Am):=ls.set q.1.toNat (ls.getD q.1.toNat []++[q.2])
noncomputable def addT(ls:020)(x:Tie×List Am):List (List Am):=(x.1.1.zip x.2).foldl addP ls
noncomputable def layP(m:Nat)(a:List (Tie×List Am)):List (List Am):=a.foldl addT (List.replicate m [])
def qaQ(ls:020)(q:Int×Am):(addP ls q).length=ls.length:=by simp[addP]
def j8:∀(qs:List (Int×Am)) (ls:020),(qs.foldl addP ls).length=ls.length
 |[],_=>rfl
 |q::r,ls=>by rw[vt,j8 r,qaQ]
def qbx:∀(a:List (Tie×List Am)) (ls:020),(a.foldl addT ls).length=ls.length
 |[],_=>rfl
 |z::r,ls=>by rw[vt,qbx r];exact j8 _ _
def qhL{ls:020}{q:Int×Am}{i:Nat}(h:i<ls.length):(addP ls q).getD i []=ls.getD i []++if q.1.toNat=i then[q.2]else[]:=by
 unfold addP;rw[we,List.getElem?_set];by_cases e:q.1.toNat=i
 .subst e;rw[wN rfl,wN h,wN rfl];rfl
 .rw [wT e,wT e,vu,we]
def j9{i:Nat}:∀(qs:List (Int×Am)) (ls:020),i<ls.length->(qs.foldl addP ls).getD i []=ls.getD i []++(qs.filter λq=>decide (q.1.toNat=i)).map (·.2)
 |[],_,_=>by simp
 |q::r,ls,h=>by
  rw[vt,j9 r _ (by rw[qaQ];exact h),qhL h,wy];congr 1;by_cases e:q.1.toNat=i
  .rw [List.filter_cons_of_pos (by simpa using e),wN e];rfl
  .rw [List.filter_cons_of_neg (by simpa using e),wT e];rfl
def filt1{i:Nat}:∀{qs:List (Int×Am)},(qs.map (·.1)).Nodup->(∀q∈qs,0<=q.1)->(qs.filter λq=>decide (q.1.toNat=i)).length<=1
 |[],_,_=>by simp
 |q::r,nd,h=>by
  rw[wj,u6]at nd;by_cases e:q.1.toNat=i
  .have:(r.filter λq=>decide (q.1.toNat=i))=[]:=by
    rw[List.filter_eq_nil_iff];intro p a z;have c:p.1.toNat=i:=by simpa using z
    have d:=h q wR;have f:=h p (wM _ a);exact nd.1 (w8.mpr ⟨p,a,by lia⟩)
   rw[List.filter_cons_of_pos (by simpa using e),this];simp
  .rw [List.filter_cons_of_neg (by simpa using e)]
   exact filt1 nd.2 λp a=>h p (wM _ a)
structure Good (e k m:Nat) (ls:020):Prop where
 len:ls.length=m
 at':∀i,i<m->(ls.getD i []).length<=k/\∀a∈ls.getD i [],NBe e a
def good0(e m:Nat):Good e 0 m (List.replicate m []):=⟨by simp,λi hi=>by
 have:(List.replicate m ([]:List Am)).getD i []=[]:=by rw[we,vC];split <;> rfl
 rw[this];simp⟩
def qaR{e k m:Nat}{ls:020}(g:Good e k m ls){qs:List (Int×Am)}(nd:(qs.map (·.1)).Nodup)(h:∀q∈qs,0<=q.1/\NBe e q.2):Good e (k+1) m (qs.foldl addP ls):=by
 refine⟨by rw[j8];exact g.len,λi hi=>?_⟩;rw[j9 _ _ (by rw[g.len];exact hi)];obtain⟨g1,g2⟩:=g.at' i hi;have d:=filt1 (i:=i) nd λq c=>(h q c).1
 refine⟨by rw[wP,wF];lia,λa ha=>?_⟩;rcases wa.mp ha with z|z
 .exact g2 a z
 .obtain ⟨q,c,rfl⟩:=w8.mp z
  exact(h q (List.mem_filter.mp c).1).2
structure ZOk (e m:Nat) (z:Tie×List Am):Prop where
 pl:PlOk m z.1.1
 nb:∀a∈z.2,NBe e a
 len:z.2.length=z.1.1.length
def zq{e m:Nat}{z:Tie×List Am}(h:ZOk e m z):((z.1.1.zip z.2).map (·.1)).Nodup/\∀q∈z.1.1.zip z.2,0<=q.1/\q.1<m/\NBe e q.2:=by
 refine⟨?_,λq c=>?_⟩
 .rw [List.map_fst_zip (by rw[h.len];exact wH _)]
  exact qhw h.pl.up
 .obtain ⟨a,d⟩:=vB c
  exact⟨(h.pl.rng _ a).1,(h.pl.rng _ a).2,h.nb _ d⟩
def qlO{e k m:Nat}{ls:020}(g:Good e k m ls){z:Tie×List Am}(h:ZOk e m z):Good e (k+1) m (addT ls z):=qaR g (zq h).1 λq a=>⟨((zq h).2 q a).1,((zq h).2 q a).2.2⟩
def qby{e m:Nat}:∀(a:List (Tie×List Am)) (k:Nat) (ls:020),Good e k m ls->(∀z∈a,ZOk e m z)->Good e (k+a.length) m (a.foldl addT ls)
 |[],_,_,g,_=>g
 |z::r,k,ls,g,h=>by
  have:=qby r (k+1) _ (qlO g (h z wR)) λy c=>h y (wM _ c)
  rw[vt,wY,show k+(r.length+1)=k+1+r.length by lia];exact this
def jc{e m:Nat}{a:List (Tie×List Am)}(h:∀z∈a,ZOk e m z):Good e a.length m (layP m a):=by
 have:=qby a 0 _ (good0 e m) h;rw[Nat.zero_add]at this;exact this
def qhM{e k m:Nat}{ls:020}(g:Good e k m ls){i:Nat}(hi:i<m):1<=(totN (ls.getD i [])).2/\(totN (ls.getD i [])).2<=2^(e*k):=by
 obtain⟨g1,g2⟩:=g.at' i hi;obtain⟨a,b⟩:=qeL _ rfl g2;exact⟨a,vD b (jv (xF e g1))⟩
noncomputable def lsS(ls:020):Sr:=ls.map λxs=>.l (xs.map nmD)
noncomputable def stP(S:Sr)(ls:020):Sr:=S++lsS ls++[.l ((List.range ls.length).map λi=>.ref (S.length+i))]
def qdP{S:Sr}{ls:020}{i:Nat}(h:i<ls.length):(stP S ls)[S.length+i]?=some (.l ((ls.getD i []).map nmD)):=by
 unfold stP lsS;rw[wL 030,wK 00,wk,show S.length+i-S.length=i by lia,we,wC h];rfl
def qeR(S:Sr)(ls:020):(stP S ls)[S.length+ls.length]?=some (.l ((List.range ls.length).map λi=>.ref (S.length+i))):=by
 unfold stP lsS;rw[wK 07];simp
def qjo{S:Sr}{ls:020}{q:Int×Am}(h:q.1.toNat<ls.length):(stP S ls).set (S.length+q.1.toNat) (.l ((ls.getD q.1.toNat []).map nmD++[nmD q.2]))=stP S (addP ls q):=by
 unfold stP lsS;rw[List.set_append_left _ _ 030,va _ _ 00,show S.length+q.1.toNat-S.length=q.1.toNat by lia,qaQ];congr 2;unfold addP;rw[ul];simp
def qka{n:Nat}{p:Int}(a:0<=p)(c:p<n):L2.ixN n p=some p.toNat:=by unfold L2.ixN;rw[wN a,wN c]
def qlP{F:Fs}{ρ:En}{S:Sr}{ls:020}{q:Int×Am}(c:ρ[2]?=some (some (.ref (S.length+ls.length))))(d:ρ[6]?=some (some (.int q.1)))(h7:ρ[7]?=some (some (nmD q.2)))(f:0<=q.1)(h:q.1<ls.length)(hl:(ls.getD q.1.toNat []).length<=1000):
  ev F (.app (.idx 002 (.v 6)) (.v 7)) ρ (stP S ls)=.ok .non (stP S (addP ls q)):=by
 have hi:q.1.toNat<ls.length:=by lia
 have e2:ev F 002 ρ (stP S ls)=.ok (.ref (S.length+ls.length)) (stP S ls):=by simp only[ev,varE,c]
 have j:ev F (.v 6) ρ (stP S ls)=.ok (.int q.1) (stP S ls):=by simp only[ev,varE,d]
 have l:ev F (.v 7) ρ (stP S ls)=.ok (nmD q.2) (stP S ls):=by simp only[ev,varE,h7]
 have a:idxD (stP S ls) (.ref (S.length+ls.length)) (.int q.1)=some (.ref (S.length+q.1.toNat)):=by
  have m:L2.ixN ((List.range ls.length).map λi=>D.ref (S.length+i)).length q.1=some q.1.toNat:=by rw[wF,List.length_range];exact qka f h
  simp only[idxD,seqOf,lstOf,qeR,wX,L2.atI,m];rw[wk,List.getElem?_range hi];rfl
 have n:appD (stP S ls) (.ref (S.length+q.1.toNat)) (nmD q.2)=.ok .non (stP S (addP ls q)):=by
  have o:(ls.getD q.1.toNat []).length<PySem.sizeLine:=by unfold PySem.sizeLine;lia
  simp only[appD,qdP hi];rw[wN ⟨by rw[wF];exact o,rfl⟩,qjo hi]
 exact qj7 (qw e2 j a) (by simp only[isLst,qdP hi]) l n
def qhN{F:Fs}{ρ:En}{T:Sr}{i j:Nat}{p:008}{ps:List Am}(hi:ρ[i]?=some (some (tupI p)))(a:ρ[j]?=some (some (.t 029))):evI F (.zip (.v i) (.v j)) ρ T=.ok ((p.zip ps).map λq=>.t [.int q.1,nmD q.2]) T:=by
 have e1:ev F (.v i) ρ T=.ok (tupI p) T:=by simp only[ev,varE,hi]
 have e2:ev F (.v j) ρ T=.ok (.t 029) T:=by simp only[ev,varE,a]
 simp only[evI,e1,e2,Res.bind,tupI,walkF];rw[xM,wo];rfl
def qeS{F:Fs}{ρ:En}{T:Sr}{w:Wb}{l:020}(hi:ρ[0]?=some (some 012))(a:ρ[1]?=some (some (.t 013))):evI F (.zip (.idx 02 05) 06) ρ T=.ok ((w.ties.zip l).map λz=>.t [tieD z.1,.t (z.2.map nmD)]) T:=by
 have c:ev F 02 ρ T=.ok 012 T:=by simp only[ev,varE,hi]
 have e1:ev F (.idx 02 05) ρ T=.ok (.t (w.ties.map tieD)) T:=qw (S1:=T) c rfl rfl;have e2:ev F 06 ρ T=.ok (.t 013) T:=by simp only[ev,varE,a]
 simp only[evI,e1,e2,Res.bind,lyD,walkF];rw[xM,wo];rfl
def qaS{i:Type}{g v:i->D}{gd:Sr->Prop}{bind:024}{test:022}{elt:007}(R:En->Prop){S:Sr}(c:gd S):∀(ds:List i) (a:04) (ρ:En),a.length+ds.length<=1000->R ρ ->
  (∀d∈ds,∀ρ,R ρ->∃ρ1,bind (g d) ρ S=.ok ρ1 S/\R ρ1/\test ρ1 S=.ok true S/\elt ρ1 S=.ok (v d) S)->genLoopG gd bind test elt (stepG .tuple) (finG .tuple) (ds.map g) ρ (.t a) S=.ok (.t (a++ds.map v)) S
 |[],a,ρ,_,_,_=>by rw[xN,xN,vu];exact zv c _
 |d::r,a,ρ,hl,hR,H=>by
  obtain⟨ρ1,e1,f,e2,j⟩:=H d wR ρ hR;rw[wY]at hl;have h:a.length<PySem.sizeLine:=by unfold PySem.sizeLine;lia
  rw[wj];unfold genLoopG;rw[zv c,e1,Res.bind_ok,e2,Res.bind_ok,wN rfl,j,Res.bind_ok];simp only[stepG,wN h];have l:=qaS R c r (a++[v d]) ρ1 (by rw[wP,vr];lia) f λy m=>H y (wM _ m)
  rw[l];simp
def qjp{a:Type}{g v:a->D}{bind:024}{test:022}{elt:007}(R:En->Prop){S:Sr}(ds:List a)(ρ:En)(hl:ds.length<=1000)(c:R ρ)(H:∀d∈ds,∀ρ,R ρ->∃ρ1,bind (g d) ρ S=.ok ρ1 S/\R ρ1/\test ρ1 S=.ok true S/\elt ρ1 S=.ok (v d) S):genLoop bind test elt (stepG .tuple) (finG .tuple) (ds.map g) ρ (.t []) S=.ok (.t (ds.map v)) S:=by
 rw[<-yp];exact qaS (gd:=λ_=>True) R trivial ds [] ρ (by simpa using hl) c H
noncomputable def ldD(ls:020):D:=.t (ls.map λxs=>nmD (totN xs))
def qnn{F:Fs}{ρ:En}{S S1:Sr}{e:CE}{l:04}(h:ev F e ρ S=.ok (.t l) S1)(hl:l.length<=1000):ev F (.lls e) ρ S=.ok (.ref (S1.length+l.length)) (S1++List.replicate l.length (.l [])++[.l ((List.range l.length).map λi=>.ref (S1.length+i))]):=by
 have hs:l.length<=PySem.sizeLine:=by unfold PySem.sizeLine;lia
 simp only[ev,h,Res.bind,newLls];rw[wN hs]
def qlQ{F:Fs}{ρ:En}{S S1:Sr}{w:GW}{fr:List Nat}{nt:Nat}{a e:CE}{t:CT}{c:CBs}{x:D}{ds:04}{gd:Sr->Prop}{r:Res D}(h:ev F e ρ S=.ok x S1)(f:refX x S1=some (ds,gd))(i:genLoopG gd (λd ρ S=>asg F t d ρ S) (λρ S=>tsts F c ρ S) (λρ S=>ev F a ρ S) (stepG w) (finG w) ds (frE ρ fr nt) (startG w) S1=r):ev F (.genX w fr nt a t e c) ρ S=r:=by
 simp only[ev,h,Res.bind,f];exact i
noncomputable abbrev eE(w:Wb)(l:020)(j:Nat)(a b c d e:Option D):En:=[some 012,some (.t 013),some (.ref j),a,b,c,d,e]
def qlR{F:Fs}{N:Nat}{ρ ρ1:En}{S S1 S2:Sr}{r a:CSs}{t:CT}{it:CI}{ds:04}{Y:Res R.Fl}(h:evI F it ρ S=.ok ds S1)(c:forLoop (λd ρ S=>(asg F t d ρ S).bind λρ1 S1=>exs F N a ρ1 S1) ds ρ S1=.ok (.nx ρ1) S2)(f:exs F N r ρ1 S2=Y):exs F N (.c (.cal (.forS t it a)) r) ρ S=Y:=qdH (jI h c f) (by simp[ex,h,c,Res.bind])
structure LyG (w:Wb) (l:020):Prop where
 ex:∃(B:Int) (e:Nat),LyOk B w.ties l/\B<=1000000/\B<=2^e/\e*w.ties.length<=240/\e<=20/\1<=B
def qhO{B:Int}{e:Nat}(c:B<=1000000)(f:B<=2^e){t:Tie}{ps:List Am}(h:AmOk B t ps):∀p∈ps,NBe e p:=by
 intro p a;have hn:=qhK c h p a;obtain⟨xs,s,d,i,_,_,j,rfl⟩:=h.ex;obtain⟨x,l,rfl⟩:=w8.mp a;have b:=qah (t:=x) d;exact⟨hn.t,hn.b1,by lia⟩
def LyG.z{w:Wb}(hw:WbOk w){l:020}(h:LyG w l):∃e:Nat,e*w.ties.length<=240/\e<=20/\(w.ties.zip l).length=w.ties.length/\∀z∈w.ties.zip l,ZOk e w.costs.length z:=by
 obtain⟨B,e,a,d,f,i,j,_⟩:=h.ex;refine⟨e,i,j,by rw[vq,a.1];lia,λz c=>?_⟩;have ha:=a.2 z c;refine⟨(hw.t2 _ (vB c).1).1,qhO d f ha,?_⟩;obtain⟨xs,s,_,_,q,_,_,e⟩:=ha.ex;rw[e,wF];exact q
noncomputable def lyl(w:Wb)(l:020):List (List Am):=layP w.costs.length (w.ties.zip l)
def qap(w:Wb)(l:020):(lyl w l).length=w.costs.length:=by unfold lyl layP;rw[qbx,vb]
def qa7{d:Nat}{w:Wb}{l:020}{S:Sr}(hw:WbOk w)(h:LyG w l):G (d+10) 21 [webD w,.t 013] S=.ok .non S:=by
 obtain⟨B,e,a,f,_⟩:=h.ex;have e1:=jO (d:=d) (S:=S) hw (x:=.t 013) (yI l) (wb.mpr λy i=>qb3 f a y i);rw[qjl a]at e1;rw[G_at (c:=c_21) rfl];exact qeD rfl (x_no (S1:=S) (t_no (x:=true) (t_of (qh rfl e1))) zK)
def stP0(S:Sr)(m:Nat):S++List.replicate m (.l [])++[.l ((List.range m).map λi=>.ref (S.length+i))]=stP S (List.replicate m []):=by
 unfold stP lsS;rw[uL,vb];rfl
def qjq{d:Nat}{w:Wb}{l:020}{S:Sr}(hw:WbOk w)(h:LyG w l):G (d+11) 22 [webD w,.t 013] S=.ok (ldD (lyl w l)) S:=by
 obtain⟨e,he,a0,A,L⟩:=h.z hw;have ht:=hw.t1;have hm:=hw.c2;rw[G_at (c:=c_22) rfl];have en:=qa7 (d:=d) (S:=S) hw h;obtain⟨ρ',S',K,o,r,s,a,j,rfl,rfl⟩:=zS (g:=λz:Tie×List Am=>.t [tieD z.1,.t (z.2.map nmD)]) (body:=λdd ρ T=>(asg (G (d+10)) (.t (.c (.t (.c 000 (.c (.v 4) .n))) (.c (.v 5) .n))) dd ρ T).bind λρ1 M=>exs (G (d+10)) NW (.c (.forS (.t (.c (.v 6) (.c (.v 7) .n))) (.zip 000 (.v 5)) (.c (.expr (.app (.idx 002 (.v 6)) (.v 7))) .n)) .n) ρ1 M)
  (λpre ρ T=>∃o r s a j,ρ=(eE w l 045 o r s a j)/\T=stP S 046) (w.ties.zip l) (ρ:=(eE w l 045 none none none none none)) (S:=stP S (List.replicate w.costs.length [])) ⟨_,_,_,_,_,rfl,rfl⟩ (by
   rintro pre z a1 ρ T m ⟨o,r,s,a,j,rfl,rfl⟩;have B:=congrArg List.length m;rw[wP,wY,A]at B;have N:∀y∈pre,ZOk e w.costs.length y:=λy O=>L y (by rw[m];simp[O])
   have P:ZOk e w.costs.length z:=L z (by rw[m];simp);have g0:=jc N;rw[show asg (G (d+10)) (.t (.c (.t (.c 000 (.c (.v 4) .n))) (.c (.v 5) .n))) (.t [tieD z.1,.t (z.2.map nmD)]) (eE w l 045 o r s a j) (stP S 046)=.ok (eE w l 045 (some (tupI z.1.1)) (some (.int z.1.2)) (some (.t (z.2.map nmD))) a j) (stP S 046)from rfl,Res.bind_ok];obtain⟨ρ',S',K,a,j,rfl,rfl⟩:=zS (g:=λq:Int×Am=>.t [.int q.1,nmD q.2]) (body:=λdd ρ T=>(asg (G (d+10)) (.t (.c (.v 6) (.c (.v 7) .n))) dd ρ T).bind λρ1 M=>exs (G (d+10)) NW (.c (.expr (.app (.idx 002 (.v 6)) (.v 7))) .n) ρ1 M)
    (λx ρ T=>∃a j,ρ=(eE w l 045 (some (tupI z.1.1)) (some (.int z.1.2)) (some (.t (z.2.map nmD))) a j)/\T=stP S (x.foldl addP 046)) (z.1.1.zip z.2) (ρ:=(eE w l 045 (some (tupI z.1.1)) (some (.int z.1.2)) (some (.t (z.2.map nmD))) a j)) (S:=stP S 046) ⟨_,_,rfl,rfl⟩ (by
     rintro x q su ρ T n ⟨a,j,rfl,rfl⟩;obtain⟨nd,Q⟩:=zq P;have C:=Q q (by rw[n];simp);have g1:=qaR g0 (qs:=x) (by rw[n,vL]at nd;exact(vo.mp nd).1) λp Z=>⟨(Q p (by rw[n];simp[Z])).1,(Q p (by rw[n];simp[Z])).2.2⟩
     have E:=g1.len;refine⟨(eE w l 045 (some (tupI z.1.1)) (some (.int z.1.2)) (some (.t (z.2.map nmD))) (some (.int q.1)) (some (nmD q.2))),stP S ((x++[q]).foldl addP 046),?_,_,_,rfl,rfl⟩;rw[show asg (G (d+10)) (.t (.c (.v 6) (.c (.v 7) .n))) (.t [.int q.1,nmD q.2]) (eE w l 045 (some (tupI z.1.1)) (some (.int z.1.2)) (some (.t (z.2.map nmD))) a j) (stP S (x.foldl addP 046))=.ok (eE w l 045 (some (tupI z.1.1)) (some (.int z.1.2)) (some (.t (z.2.map nmD))) (some (.int q.1)) (some (nmD q.2))) (stP S (x.foldl addP 046))from rfl,Res.bind_ok,uQ];have hb:=(g1.at' q.1.toNat 00).1;exact x_expr (qlP (by rw[E];rfl) rfl rfl C.1 (by rw[E];exact C.2.1) 00) zK)
   refine⟨_,_,jI (qhN rfl rfl) K zK,_,_,_,_,_,rfl,?_⟩;unfold layP;rw[uQ];rfl)
 have g:=jc L;have H:=g.len;have U:layP w.costs.length (w.ties.zip l)=lyl w l:=rfl;rw[U]at g H K;rw[A]at g;have W:stP S (List.replicate w.costs.length [])=S++List.replicate w.costs.length (.l [])++[.l ((List.range w.costs.length).map λi=>.ref (S.length+i))]:=(stP0 S _).symm;have I:ev (G (d+10)) (.lls (.idx 02 003)) [some 012,some (.t 013),none,none,none,none,none,none] S=.ok (.ref 045) (stP S (List.replicate w.costs.length [])):=by
  rw[W];have:=qnn (F:=G (d+10)) (e:=.idx 02 003) (ρ:=[some 012,some (.t 013),none,none,none,none,none,none]) (S:=S) (S1:=S) (l:=w.costs.map .int) 023 (by rw[wF];lia);rw[wF]at this;exact this
 have eg:ev (G (d+10)) (.genX .tuple [] 1 (.call 7 (.c 02 .n)) 02 002 .n) (eE w l 045 o r s a j) (stP S (lyl w l))=.ok (ldD (lyl w l)) (stP S (lyl w l)):=by
  have J:=qeR S (lyl w l);have hr:refX (.ref 045) (stP S (lyl w l))=some ((List.range (lyl w l).length).map λi=>.ref (S.length+i),own (S.length+(lyl w l).length) ((List.range (lyl w l).length).map λi=>.ref (S.length+i))):=by
   rw[<-H];simp only[refX,J]
  have hg:own (S.length+(lyl w l).length) ((List.range (lyl w l).length).map λi=>D.ref (S.length+i)) (stP S (lyl w l)):=J;have e2:ev (G (d+10)) 002 (eE w l 045 o r s a j) (stP S (lyl w l))=.ok (.ref 045) (stP S (lyl w l)):=rfl;refine qlQ e2 hr ?_;have:=qaS (g:=λi:Nat=>D.ref (S.length+i)) (v:=λi=>nmD (totN ((lyl w l).getD i []))) (bind:=λX ρ T=>asg (G (d+10)) 02 X ρ T) (test:=λρ T=>tsts (G (d+10)) .nil ρ T) (elt:=λρ T=>ev (G (d+10)) (.call 7 (.c 02 .n)) ρ T) (λρ=>∃y,ρ=[y]) hg (List.range (lyl w l).length) [] (frE (eE w l 045 o r s a j) [] 1) 030 ⟨_,rfl⟩ (by
   rintro i hi ρ ⟨y,rfl⟩;have Y:=uB.mp hi;refine⟨_,rfl,⟨_,rfl⟩,rfl,qh rfl ?_⟩;obtain⟨g1,g2⟩:=g.at' i 00;have u:=qdP (S:=S) Y;exact qcX (d:=d+7) (e:=e) (gd:=own (S.length+i) (((lyl w l).getD i []).map nmD)) (by simp only[refX,u]) u g2 (vF (xF e g1) he) 00)
  rw[show startG .tuple=D.t []from rfl,show frE (eE w l 045 o r s a j) [] 1=[none]from rfl]at *;have e3:(List.range (lyl w l).length).map (λi=>nmD (totN ((lyl w l).getD i [])))=(lyl w l).map λxs=>nmD (totN xs):=by
   apply List.ext_getElem
   .simp
   .intro i h1 h2
    simp at h1;rw[xa,xa,List.getElem_range,we,wC h1];rfl
  rw[List.nil_append,e3]at this;exact this
 refine qcS (f:=c_22) (S1:=S) (S2:=lsS (lyl w l)++[.l ((List.range (lyl w l).length).map λi=>.ref (S.length+i))]) rfl rfl ?_ rfl (qJ λy O=>by
  obtain⟨xs,_,rfl⟩:=w8.mp O;rfl)
 rw[<-wy];exact x_expr (S1:=S) (qh rfl en) (qhF I (qlR (qeS rfl rfl) K (qbZ eg)))
def qaT{t b t' c:Int}(hb:1<=b)(a:1<=c)(h:t*c=t'*b):lw t b=lw t' c:=by
 refine yh (zt hb) (zt a) ?_;have e1:=zL (t:=t) hb;have e2:=zL (t:=t') a;have d:=qI hb a;generalize lw t b=A at *;generalize lw t' c=B at *;have:(A.1*B.2)*(b*c)=(B.1*A.2)*(b*c):=by grind
 exact wh 00 this
def qeT{p:Am}(h:Lw p):lw p.1 p.2=p:=yh (zt h.pos) h (zL h.pos)
noncomputable def lsn(p q:Int×Int):Int×Int:=lw (p.1*q.2-q.1*p.2) (p.2*q.2)
noncomputable def byn(p q:Int×Int):Int×Int:=lw (p.1*q.1) (p.2*q.2)
section
variable{p q r:Am}(hp:1<=p.2)(hq:1<=q.2)
include hp hq
theorem jw:Lw (adn p q):=zt (qI hp hq)
theorem qaa:Lw (byn p q):=zt (qI hp hq)
theorem qhP:Lw (lsn p q):=zt (qI hp hq)
theorem qlS(c:1<=r.2):adn (adn p q) r=adn p (adn q r):=by
 have d:=qI hp hq;have f:=qI hq c;have e1:=zL (t:=p.1*q.2+q.1*p.2) d;have e2:=zL (t:=q.1*r.2+r.1*q.2) f;have h:=(jw hp hq).pos;have i:=(jw hq c).pos;unfold adn at h i ⊢;refine qaT (qI h c) (qI hp i) ?_;have j:=qI d f;generalize lw (p.1*q.2+q.1*p.2) (p.2*q.2)=A at *;generalize lw (q.1*r.2+r.1*q.2) (q.2*r.2)=B at *;refine wh (a:=(p.2*q.2)*(q.2*r.2)) 00 ?_
 grind
theorem qjr(c:1<=r.2):byn r (adn p q)=adn (byn r p) (byn r q):=by
 have d:=qI hp hq;have f:=qI c hp;have h:=qI c hq;have m:=zL (t:=p.1*q.2+q.1*p.2) d;have e1:=zL (t:=r.1*p.1) f;have e2:=zL (t:=r.1*q.1) h;have i:=(jw hp hq).pos;have j:=(qaa c hp).pos;have l:=(qaa c hq).pos;unfold adn at i;unfold byn at j l;unfold byn adn;refine qaT (qI c i) (qI j l) ?_;have n:=qI d (qI f h);generalize lw (p.1*q.2+q.1*p.2) (p.2*q.2)=A at *;generalize lw (r.1*p.1) (r.2*p.2)=B at *;generalize lw (r.1*q.1) (r.2*q.2)=C at *;refine wh (a:=(p.2*q.2)*((r.2*p.2)*(r.2*q.2))) 00 ?_
 grind
end
def qdQ{p:Am}(h:Lw p):adn p (0,1)=p:=by
 unfold adn;rw[show p.1*(0,1).2+(0,1).1*p.2=p.1 by show p.1*1+0*p.2=p.1;lia,show p.2*(0,1).2=p.2 from Int.mul_one _];exact qeT h
def qhQ{p:Am}(h:1<=p.2):byn p (0,1)=(0,1):=by
 unfold byn;rw[show p.1*(0,1).1=0 from Int.mul_zero _,show p.2*(0,1).2=p.2 from Int.mul_one _];exact j7 h
def qdR{ps:List Am}(h:∀p∈ps,1<=p.2):Lw (totN ps):=by
 rcases vM ps with rfl|⟨qs,q,rfl⟩
 .exact ⟨by decide,by decide⟩
 .rw [vN]at h ⊢
  rw[zr];have:∀(n:Nat) (qs:List Am),qs.length=n->(∀p∈qs,1<=p.2)->1<=(totN qs).2:=by
   intro n;induction n with
   |zero=>intro qs e _;rw[wp.mp e];decide
   |succ n c =>
    intro qs e h;rcases vM qs with rfl|⟨ys,y,rfl⟩
    .decide
    .rw [vN]at h e ⊢
     rw[zr];exact(jw (c ys (by simpa using e) λp a=>h p (wu _ a)) (h y 07)).pos
  exact jw (this _ qs rfl λp a=>h p (wu _ a)) (h q 07)
def qjs{c:Am}(hc:1<=c.2){f:Am->Am->Am}(o:∀x m,f x m=if 0<m.1 then adn x (byn c m)else x):∀(n:Nat) (ms:List Am) (x:Am),ms.length=n->Lw x->(∀m∈ms,1<=m.2)->ms.foldl f x=adn x (byn c (totN (ms.map λm=>if 0<m.1 then m else(0,1)))):=by
 intro n;induction n with
 |zero =>
  intro ms x e d _;rw[wp.mp e];show x=adn x (byn c (0,1));rw[qhQ hc,qdQ d]
 |succ n p =>
  intro ms x e d h;rcases vM ms with rfl|⟨ys,y,rfl⟩
  .show x=adn x (byn c (0,1))
   rw[qhQ hc,qdQ d]
  .rw [vN]at h e ⊢
   have l:=h y 07;have i:∀m∈ys,1<=m.2:=λm hm=>h m (wu _ hm)
   have q:∀m∈ys.map (λm:Am=>if 0<m.1 then m else(0,1)),1<=m.2:=by
    intro m hm;obtain⟨a,ha,rfl⟩:=w8.mp hm;split
    .exact i a ha
    .decide
   have j:=qdR q;rw[uQ,vt,List.foldl_nil,o,p ys x (by simpa using e) d i,vL,List.map_singleton,zr];split
   .rw [qjr j.pos l hc,<-qlS d.pos (qaa hc j.pos).pos (qaa hc l).pos]
   .rw [qdQ j]
structure Nx (V:Int) (f:Nat) (p:Am):Prop where
 b1:1<=p.2
 b2:p.2<=2^f
 t:(p.1.natAbs:Int)<=V*p.2
def qeU{V:Int}{f:Nat}{t b:Int}(hb:1<=b)(a:b<=2^f)(c:(t.natAbs:Int)<=V*b):Nx V f (lw t b):=by
 refine⟨(zt hb).pos,vD (qah hb) a,?_⟩;obtain⟨d,h⟩:=ju (t:=t) hb;have j:=zT (t:=t) hb;generalize lw t b=A at *;generalize (Int.gcd t b)=g at *;have i:((A.1.natAbs:Int))*g<=(V*A.2)*g:=by
  have:(t.natAbs:Int)=(A.1.natAbs:Int)*g:=by rw[<-d,xu];simp
  rw[<-this,Int.mul_assoc,h];exact c
 exact Int.le_of_mul_le_mul_right i 00
def qb6{f g:Nat}{a b:Int}(ha:1<=a)(c:a<=2^f)(hb:1<=b)(d:b<=2^g):a*b<=2^(f+g):=by
 rw[Int.pow_add];exact uX c d 00 00
def qdS(a b:Int):((a*b).natAbs:Int)=(a.natAbs:Int)*(b.natAbs:Int):=by rw[xu];simp
section
variable{V W:Int}{f g:Nat}{p q:Am}(hp:Nx V f p)(hq:Nx W g q)
include hp hq
theorem qhR{s:Int}(hs:(s.natAbs:Int)<=((p.1*q.2).natAbs:Int)+((q.1*p.2).natAbs:Int)):Nx (V+W) (f+g) (lw s (p.2*q.2)):=by
 refine qeU (qI hp.b1 hq.b1) (qb6 hp.b1 hp.b2 hq.b1 hq.b2) (vD hs ?_);rw[qdS,qdS];have a:=wm hp.t (show 0<=q.2 by have:=hq.b1;lia);have c:=wm hq.t (show 0<=p.2 by have:=hp.b1;lia);have e1:(q.2.natAbs:Int)=q.2:=by have:=hq.b1;lia
 have e2:(p.2.natAbs:Int)=p.2:=by have:=hp.b1;lia
 rw[e1,e2]
 grind
theorem qhS:Nx (V+W) (f+g) (adn p q):=qhR hp hq 00
theorem qhT:Nx (V+W) (f+g) (lsn p q):=qhR hp hq 00
theorem qb7(a:0<=V):Nx (V*W) (f+g) (byn p q):=by
 refine qeU (qI hp.b1 hq.b1) (qb6 hp.b1 hp.b2 hq.b1 hq.b2) ?_;rw[qdS];have c:=uX hp.t hq.t 00 (Int.mul_nonneg a (by have:=hp.b1;lia))
 grind
end
def Nx.mono{V W:Int}{f g:Nat}{p:Am}(h:Nx V f p)(a:V<=W)(c:f<=g):Nx W g p:=⟨h.b1,vD h.b2 (jv c),vD h.t (wm a (by have:=h.b1;lia))⟩
def nx0:Nx 0 0 (0,1):=⟨by decide,by decide,by decide⟩
def qaU{V:Int}{f:Nat}:∀(n:Nat) (ps:List Am),ps.length=n->(∀p∈ps,Nx V f p)->Nx (n*V) (n*f) (totN ps):=by
 intro n;induction n with
 |zero=>intro ps e _;rw[wp.mp e];exact⟨by decide,by simp[totN],by simp[totN]⟩
 |succ n a =>
  intro ps e h;rcases vM ps with rfl|⟨ys,y,rfl⟩
  .simp at e
  .rw [vN]at h e ⊢
   rw[zr];have:=qhS (a ys (by simpa using e) λp c=>h p (wu _ c)) (h y 07);rw[show((n+1:Nat):Int)*V=n*V+V by rw[Int.natCast_add,Int.add_mul];simp,xJ];exact this
structure Fit (p:Am):Prop where
 t:p.1.natAbs<2^20000
 b1:1<=p.2
 b2:p.2<2^9000
def Nx.fit{V:Int}{f:Nat}{p:Am}(h:Nx V f p)(c:V<=2^9000)(d:f<9000):Fit p:=by
 have a:p.2<2^9000:=u3 h.b2 (ue 01 d);refine⟨?_,h.b1,a⟩;have i:=uX c (Int.le_of_lt a) (by have:=h.b1;lia) 00;have j:(2:Int)^9000*2^9000<2^20000:=by rw[<-Int.pow_add];exact ue 01 01
 have l:=u3 (vD h.t i) j;have m:(((2:Nat)^20000:Nat):Int)=(2:Int)^20000:=by norm_cast
 lia
def ze{a b:Int}(h:a.natAbs<2^20000)(c:b.natAbs<2^20000):mulOk a b=true:=by
 have d:=yt h;have c:=yt c;unfold mulOk PySem.Builtin.Int.intTooBig PySem.bitsLine;have e:decide (((PySem.Builtin.Int.intBits a:Int)+(PySem.Builtin.Int.intBits b:Int))>((2^27:Nat):Int))=false:=by
  rw[vS];norm_cast;lia
 rw[e,vE];rfl
def Fit.b{p:Am}(h:Fit p):p.2.natAbs<2^20000:=by
 have a:=h.b1;have c:=h.b2;have d:(2:Int)^9000<2^20000:=ue 01 01;have f:(((2:Nat)^20000:Nat):Int)=(2:Int)^20000:=by norm_cast
 lia
section
variable{d:Nat}{p q:Am}{S:Sr}(hp:Fit p)(hq:Fit q)(hb:p.2*q.2<2^9000)
include hp hq hb
theorem qhU:G (d+3) 9 [nmD p,nmD q] S=.ok (nmD (lsn p q)) S:=by
 rw[G_at (c:=c_9) rfl];exact qr rfl (qA (qh (qe (qm (S1:=S) (qm (S1:=S) 023 023 (bmul (ze hp.t hq.b))) (qm (S1:=S) 023 023 (bmul (ze hq.t hp.b))) rfl) (qe (qm (S1:=S) 023 023 (bmul (ze hp.b hq.b))) rfl)) (yC (qI hp.b1 hq.b1) hb)))
theorem qeV:G (d+3) 10 [nmD p,nmD q] S=.ok (nmD (byn p q)) S:=by
 rw[G_at (c:=c_10) rfl];exact qr rfl (qA (qh (qe (qm (S1:=S) 023 023 (bmul (ze hp.t hq.t))) (qe (qm (S1:=S) 023 023 (bmul (ze hp.b hq.b))) rfl)) (yC (qI hp.b1 hq.b1) hb)))
theorem qjt:G (d+2) 33 [nmD p,nmD q] S=.ok (nmD (adn p q)) S:=by
 rw[G_at (c:=c_33) rfl];exact qr rfl (qA (qh (qe (qm (S1:=S) (qm (S1:=S) 023 023 (bmul (ze hp.t hq.b))) (qm (S1:=S) 023 023 (bmul (ze hq.t hp.b))) badd) (qe (qm (S1:=S) 023 023 (bmul (ze hp.b hq.b))) rfl)) (z9 (qI hp.b1 hq.b1) hb)))
theorem qb8:G (d+2) 34 [nmD p,nmD q] S=.ok (nmD (lsn p q)) S:=by
 rw[G_at (c:=c_34) rfl];exact qr rfl (qA (qh (qe (qm (S1:=S) (qm (S1:=S) 023 023 (bmul (ze hp.t hq.b))) (qm (S1:=S) 023 023 (bmul (ze hq.t hp.b))) rfl) (qe (qm (S1:=S) 023 023 (bmul (ze hp.b hq.b))) rfl)) (z9 (qI hp.b1 hq.b1) hb)))
theorem qhV:G (d+2) 35 [nmD p,nmD q] S=.ok (nmD (byn p q)) S:=by
 rw[G_at (c:=c_35) rfl];exact qr rfl (qA (qh (qe (qm (S1:=S) 023 023 (bmul (ze hp.t hq.t))) (qe (qm (S1:=S) 023 023 (bmul (ze hp.b hq.b))) rfl)) (z9 (qI hp.b1 hq.b1) hb)))
end
noncomputable def ldS(S:Sr)(ls:020):Sr:=S++[.l (ls.map λxs=>nmD (totN xs))]
def qdT(S:Sr)(ls:020):(ldS S ls)[S.length]?=some (.l (ls.map λxs=>nmD (totN xs))):=by unfold ldS;simp
def qju{S:Sr}{ls:020}{q:Int×Am}:(ldS S ls).set S.length (.l ((ls.map λxs=>nmD (totN xs)).set q.1.toNat (nmD (adn (totN (ls.getD q.1.toNat [])) q.2))))=ldS S (addP ls q):=by
 unfold ldS addP;rw[va _ _ (wH _),Nat.sub_self,ul,zr];rfl
def qlT{e:Nat}(a:e<=20){p:Am}(h:NBe e p):NS p:=⟨by have:=h.t;lia,h.b1,by have:=h.b2;have:=jv a;lia⟩
def qc7{d:Nat}{w:Wb}{l:020}{S:Sr}(hw:WbOk w)(h:LyG w l):G (d+3) 39 [webD w,.t 013] S=.ok (ldD (lyl w l)) S:=by
 obtain⟨e,W,E,F,Q⟩:=h.z hw;have ht:=hw.t1;have hm:=hw.c2;rw[G_at (c:=c_39) rfl];obtain⟨ρ',X,H,x,A,B,j,m,rfl,rfl⟩:=zS (g:=λz:Tie×List Am=>.t [tieD z.1,.t (z.2.map nmD)]) (body:=λdd ρ T=>(asg (G (d+2)) (.t (.c (.t (.c 000 (.c (.v 4) .n))) (.c (.v 5) .n))) dd ρ T).bind λρ1 I=>exs (G (d+2)) NW (.c (.forS (.t (.c (.v 6) (.c (.v 7) .n))) (.zip 000 (.v 5)) (.c (.set (.sub 002 (.v 6)) (.call 33 (.c (.idx 002 (.v 6)) (.c (.v 7) .n)))) .n)) .n) ρ1 I)
  (λpre ρ T=>∃x A B j m,ρ=(eE w l S.length x A B j m)/\T=ldS S 046) (w.ties.zip l) (ρ:=(eE w l S.length none none none none none)) (S:=ldS S (List.replicate w.costs.length [])) ⟨_,_,_,_,_,rfl,rfl⟩ (by
   rintro pre z Y ρ T n ⟨x,A,B,j,m,rfl,rfl⟩;have r:=congrArg List.length n;rw[wP,wY,F]at r;have J:∀y∈pre,ZOk e w.costs.length y:=λy K=>Q y (by rw[n];simp[K])
   have M:ZOk e w.costs.length z:=Q z (by rw[n];simp);have N:=jc J;rw[show asg (G (d+2)) (.t (.c (.t (.c 000 (.c (.v 4) .n))) (.c (.v 5) .n))) (.t [tieD z.1,.t (z.2.map nmD)]) (eE w l S.length x A B j m) (ldS S 046)=.ok (eE w l S.length (some (tupI z.1.1)) (some (.int z.1.2)) (some (.t (z.2.map nmD))) j m) (ldS S 046)from rfl,Res.bind_ok];obtain⟨ρ',X,H,j,m,rfl,rfl⟩:=zS (g:=λq:Int×Am=>.t [.int q.1,nmD q.2]) (body:=λdd ρ T=>(asg (G (d+2)) (.t (.c (.v 6) (.c (.v 7) .n))) dd ρ T).bind λρ1 I=>exs (G (d+2)) NW (.c (.set (.sub 002 (.v 6)) (.call 33 (.c (.idx 002 (.v 6)) (.c (.v 7) .n)))) .n) ρ1 I)
    (λo ρ T=>∃j m,ρ=(eE w l S.length (some (tupI z.1.1)) (some (.int z.1.2)) (some (.t (z.2.map nmD))) j m)/\T=ldS S (o.foldl addP 046)) (z.1.1.zip z.2) (ρ:=(eE w l S.length (some (tupI z.1.1)) (some (.int z.1.2)) (some (.t (z.2.map nmD))) j m)) (S:=ldS S 046) ⟨_,_,rfl,rfl⟩ (by
     rintro o q su ρ T i ⟨j,m,rfl,rfl⟩;obtain⟨nd,C⟩:=zq M;have a:=C q (by rw[i];simp);have g1:=qaR N (qs:=o) (by rw[i,vL]at nd;exact(vo.mp nd).1) λp s=>⟨(C p (by rw[i];simp[s])).1,(C p (by rw[i];simp[s])).2.2⟩
     have u:=g1.len;have Z:=a.1;have a0:=a.2.1;have hi:q.1.toNat<w.costs.length:=by lia
     have O:(o.foldl addP 046).getD q.1.toNat []=(layP w.costs.length pre).getD q.1.toNat []:=by
      rw[j9 _ _ (by rw[N.len];exact hi)];have:(o.filter λp=>decide (p.1.toNat=q.1.toNat))=[]:=by
       rw[List.filter_eq_nil_iff];intro p s z;have z':p.1.toNat=q.1.toNat:=by simpa using z
       have h1:=(C p (by rw[i];simp[s])).1;rw[i,vL,vo]at nd;exact nd.2.2 p.1 (List.mem_map_of_mem s) q.1 07 00
      rw[this];simp
     obtain⟨t1,t2⟩:=qhM N hi;rw[<-O]at t1 t2;generalize hL:o.foldl addP 046=L at *;refine⟨(eE w l S.length (some (tupI z.1.1)) (some (.int z.1.2)) (some (.t (z.2.map nmD))) (some (.int q.1)) (some (nmD q.2))),ldS S (addP L q),?_,_,_,rfl,by rw[uQ,hL];rfl⟩;rw[show asg (G (d+2)) (.t (.c (.v 6) (.c (.v 7) .n))) (.t [.int q.1,nmD q.2]) (eE w l S.length (some (tupI z.1.1)) (some (.int z.1.2)) (some (.t (z.2.map nmD))) j m) (ldS S L)=.ok (eE w l S.length (some (tupI z.1.1)) (some (.int z.1.2)) (some (.t (z.2.map nmD))) (some (.int q.1)) (some (nmD q.2))) (ldS S L)from rfl,Res.bind_ok];have U:L2.ixN (L.map λxs=>nmD (totN xs)).length q.1=some q.1.toNat:=by rw[wF];exact qka a.1 (by rw[u];exact a.2.1)
     have P:idxD (ldS S L) 037 (.int q.1)=some (nmD (totN (L.getD q.1.toNat []))):=by
      simp only[idxD,seqOf,lstOf,qdT,wX,L2.atI,U];rw[wk,we,wC (by rw[u];exact hi)];rfl
     have hb:(totN (L.getD q.1.toNat [])).2*q.2.2<2^9000:=by
      obtain⟨m1,m2⟩:=qdM t1 t2 a.2.2.b1 a.2.2.b2;exact u3 m2 (p250 (vF (xF e 00) W))
     have em:=qlK (d:=d) (p:=totN (L.getD q.1.toNat [])) (q:=q.2) (S:=ldS S L) t1 (qlT E a.2.2) hb;exact qG (qh (qe (qw rfl rfl P) (qe rfl rfl)) em) (qbw rfl rfl (by rw[<-qju];exact jP (qdT _ _) U rfl)) zK)
   refine⟨_,_,jI (qhN rfl rfl) H zK,_,_,_,_,_,rfl,?_⟩;unfold layP;rw[uQ];rfl)
 have v:ev (G (d+2)) (.binM .mul (.l false (.c 049 .n)) (.blt .len (.c (.idx 02 003) .n))) [some 012,some (.t 013),none,none,none,none,none,none] S=.ok 037 (ldS S (List.replicate w.costs.length [])):=by
  refine qdO (d1:=.l [nmD (0,1)]) (S1:=S) (zg (qe (qZ (qe rfl (qe rfl rfl)) 036) rfl) 07) (qF (qe 023 rfl) (ym _ _)) ?_;rw[qaP rfl 00];unfold ldS;rw[uL];rfl
 refine qcS (f:=c_39) (S1:=S) (S2:=[.l ((lyl w l).map λxs=>nmD (totN xs))]) rfl rfl ?_ rfl (qJ λy K=>by
  obtain⟨xs,_,rfl⟩:=w8.mp K;rfl)
 refine qG v (ρ1:=(eE w l S.length none none none none none)) rfl (jI (qeS rfl rfl) H (qA (qF (qe rfl rfl) ?_)));show bltD .tuple [.ref S.length] (ldS S (lyl w l))=_;simp only[bltD,one,bTuple,seqOf,lstOf,qdT,wn,ofO];rfl
def qhW{F:Fs}{N:Nat}{ρ:En}{S S1 S2:Sr}{e e2:CE}{r:CSs}{d d2:D}(a:ev F e ρ S=.ok d S2)(h:ev F e2 ρ S=.ok d2 S1):exs F N (.c (.grd e (.ret e2)) r) ρ S=.ok (.rt d2) S1:=by
 simp[exs,ex,a,h,Res.bind]
noncomputable def hgt(w:Wb)(l:020):List Am:=((lyl w l).zip w.costs).map λp=>lw (totN p.1).1 ((totN p.1).2*p.2)
structure LyE (E:Nat) (w:Wb) (l:020):Prop where
 ex:∃(B:Int) (e:Nat),LyOk B w.ties l/\B<=1000000/\B<=2^e/\e*w.ties.length<=E/\e<=20/\1<=B
def LyE.g{E:Nat}{w:Wb}{l:020}(h:LyE E w l)(hE:E<=240):LyG w l:=by
 obtain⟨B,e,a,c,d,f,i,j⟩:=h.ex;exact⟨B,e,a,c,d,vF f hE,i,j⟩
def LyG.e{w:Wb}{l:020}(h:LyG w l):LyE 240 w l:=⟨h.ex⟩
def qhX{e:Nat}{p:Am}(h:NBe e p):Nx (2^45) e p:=⟨h.b1,h.b2,by
 have a:=h.t;have c:=wz h.b1 (show(0:Int)<=2^45 by decide);lia⟩
def qeW{E:Nat}{w:Wb}(hw:WbOk w){l:020}(h:LyE E w l){p:List Am×Int}(m:p∈(lyl w l).zip w.costs):Nx (2^50) E (totN p.1):=by
 obtain⟨B,e,j,n,o,r,y,_⟩:=h.ex;have c:∀z∈w.ties.zip l,ZOk e w.costs.length z:=λz c=>by
  have ha:=j.2 z c;refine⟨(hw.t2 _ (vB c).1).1,qhO n o ha,?_⟩;obtain⟨xs,s,_,_,q,_,_,e⟩:=ha.ex;rw[e,wF];exact q
 obtain⟨m1,m2⟩:=vB m;have g:=jc c;rw[show(w.ties.zip l).length=w.ties.length by rw[vq,j.1];lia]at g;obtain⟨i,hi,u⟩:=uG m1;have d:i<w.costs.length:=by rw[<-qap w l];exact hi
 obtain⟨g1,g2⟩:=g.at' i d;have v:(lyl w l).getD i []=p.1:=by rw[we,wC hi,u];rfl
 have f:(layP w.costs.length (w.ties.zip l)).getD i []=p.1:=v;rw[f]at g1 g2;have A:=hw.t1;refine(qaU _ p.1 rfl λa ha=>qhX (g2 a ha)).mono ?_ ?_
 .have x:(p.1.length:Int)*2^45<=30*2^45:=wm 00 01
  exact vD x 01
 .exact vF (vg e g1) (by rw[Nat.mul_comm];exact r)
def qjv{w:Wb}(hw:WbOk w){l:020}(h:LyG w l){p:List Am×Int}(a:p∈(lyl w l).zip w.costs):Fit (totN p.1):=(qeW hw h.e a).fit (by
 have:(2:Int)^50<=2^9000:=jv 01;exact this) (by decide)
def qeX{F:Fs}{ρ:En}{T:Sr}{f:Nat}{w:Wb}{l:020}{ls:020}(c:ρ[0]?=some (some 012))(d:ρ[1]?=some (some (.t 013)))(e:F f [webD w,.t 013] T=.ok (ldD ls) T):
  evI F (.zip (.call f 035) (.idx 02 003)) ρ T=.ok ((ls.zip w.costs).map λp=>.t [nmD (totN p.1),.int p.2]) T:=by
 have a:ev F 02 ρ T=.ok 012 T:=by simp only[ev,varE,c]
 have e1:ev F 06 ρ T=.ok (.t 013) T:=by simp only[ev,varE,d]
 have e2:ev F (.call f 035) ρ T=.ok (ldD ls) T:=qh (qe a (qe e1 rfl)) e;have h:ev F (.idx 02 003) ρ T=.ok (tupI w.costs) T:=qw (S1:=T) a rfl rfl;simp only[evI,e2,h,Res.bind,ldD,tupI,walkF];rw[xM,wo];rfl
def hb{w:Wb}(hw:WbOk w){l:020}(h:LyG w l){p:List Am×Int}(f:p∈(lyl w l).zip w.costs):1<=(totN p.1).2/\1<=p.2/\p.2<=100/\1<=(totN p.1).2*p.2/\(totN p.1).2*p.2<2^9000:=by
 obtain⟨e,j,m,a,n⟩:=h.z hw;obtain⟨o,q⟩:=vB f;have g:=jc n;rw[a]at g;obtain⟨i,hi,r⟩:=uG o;have c:i<w.costs.length:=by rw[<-qap w l];exact hi
 obtain⟨t1,t2⟩:=qhM g c;have s:(lyl w l).getD i []=p.1:=by rw[we,wC hi,r];rfl
 have d:(layP w.costs.length (w.ties.zip l)).getD i []=p.1:=s;rw[d]at t1 t2;obtain⟨c1,c2⟩:=hw.c3 _ q;have t3:(totN p.1).2<=2^240:=vD t2 (jv j);refine⟨t1,c1,c2,qI t1 c1,?_⟩;have u:(totN p.1).2*p.2<=2^240*100:=uX t3 c2 00 01;have v:(2:Int)^240*100<2^9000:=by decide
 lia
def qhY{d:Nat}{p:Am}{c:Int}{S:Sr}(a:1<=p.2*c)(f:p.2*c<2^9000)(hc:c.natAbs<2^64):G (d+3) 8 [nmD p,.int c] S=.ok (nmD (lw p.1 (p.2*c))) S:=by
 rw[G_at (c:=c_8) rfl];exact qr rfl (qA (qh (qe 023 (qe (qm (S1:=S) 023 rfl (bmul (jK hc))) rfl)) (yC a f)))
def qfJ{d:Nat}{w:Wb}{l:020}{S:Sr}(hw:WbOk w)(h:LyG w l):G (d+12) 23 [webD w,.t 013] S=.ok (.t ((hgt w l).map nmD)) S:=by
 rw[G_at (c:=c_23) rfl];have hm:=hw.c2;have j:=qjq (d:=d) (S:=S) hw h;refine qr rfl (qhW (qh rfl j) ?_);simp only[ev];rw[qeX rfl rfl j,Res.bind_ok];have:=qjp (g:=λp:List Am×Int=>.t [nmD (totN p.1),.int p.2]) (v:=λp=>nmD (lw (totN p.1).1 ((totN p.1).2*p.2))) (bind:=λi ρ T=>asg (G (d+11)) (.t 035) i ρ T) (test:=λρ T=>tsts (G (d+11)) .nil ρ T) (elt:=λρ T=>ev (G (d+11)) (.call 8 035) ρ T) (S:=S) (λρ=>∃y z,ρ=[y,z]) ((lyl w l).zip w.costs) [none,none] (by rw[vq,qap];lia) ⟨_,_,rfl⟩ (by
  rintro p m ρ ⟨y,z,rfl⟩;obtain⟨a,b,c,f,g⟩:=hb hw h m;exact⟨_,rfl,⟨_,_,rfl⟩,rfl,qh rfl (qhY (d:=d+8) f g 00)⟩)
 unfold hgt;rw[wo];exact this
def qjw(p:Am)(c:Int):byn p (1,c)=lw p.1 (p.2*c):=by unfold byn;rw[show p.1*(1,c).1=p.1 from Int.mul_one _]
def qa8{d:Nat}{w:Wb}{l:020}{S:Sr}(hw:WbOk w)(h:LyG w l):G (d+4) 40 [webD w,.t 013] S=.ok (.t ((hgt w l).map nmD)) S:=by
 rw[G_at (c:=c_40) rfl];have hm:=hw.c2;have n:=qc7 (d:=d) (S:=S) hw h;have:=qaI (g:=λp:List Am×Int=>.t [nmD (totN p.1),.int p.2]) (F:=G (d+3)) (fr:=[]) (nt:=2) (elt:=.call 35 (.c 02 (.c (.t (.c 05 027)) .n))) (tg:=.t 035) (it:=.zip (.call 39 035) (.idx 02 003)) (ifs:=.nil) (ρ:=[some 012,some (.t 013)]) (S:=S) (S1:=S) ((lyl w l).zip w.costs) (λ_=>true) (λp=>nmD (lw (totN p.1).1 ((totN p.1).2*p.2))) (λρ=>∃y z,ρ=[y,z]) (qeX rfl rfl n) rfl ⟨_,_,rfl⟩ (by rw[vq,qap];unfold PySem.sizeLine;lia) (by
  rintro p i ρ m ⟨y,z,rfl⟩;obtain⟨a,b,c,f,g⟩:=hb hw h i;refine⟨[some (nmD (totN p.1)),some (.int p.2)],rfl,⟨_,_,rfl⟩,rfl,λ_=>⟨?_,rfl⟩⟩;have j:=qhV (d:=d+1) (p:=totN p.1) (q:=(1,p.2)) (S:=S++[.l m]) (qjv hw h i) ⟨by show(1:Int).natAbs<2^20000;rw[show(1:Int).natAbs=1 from rfl];exact Nat.one_lt_two_pow 01,b,by show p.2<2^9000;lia⟩ g;rw[qjw]at j;exact qh (qe rfl (qe (qZ (l:=[.int 1,.int p.2]) (qe rfl (qe rfl rfl)) 036) rfl)) j)
 rw[zE]at this;refine qr rfl (qA (qF (qe this rfl) ?_));unfold hgt;rw[wo];simp only[bltD,one,bTuple,seqOf,lstOf,wn,ofO];rfl
def qhZ{E cb:Nat}{w:Wb}(hw:WbOk w){l:020}(h:LyE E w l)(hE:E<=240)(hc:∀c∈w.costs,c<=2^cb):∀a∈hgt w l,Nx (2^50) (E+cb) a:=by
 intro a ha;unfold hgt at ha;obtain⟨p,d,rfl⟩:=w8.mp ha;obtain⟨j,f,m,i,o⟩:=hb hw (h.g hE) d;have n:=qeW hw h d;refine qeU i (qb6 n.b1 n.b2 f (hc _ (vB d).2)) ?_;have t:=n.t;have k1:(2:Int)^50*(totN p.1).2<=2^50*((totN p.1).2*p.2):=wz (by
  have:=wz f (show 0<=(totN p.1).2 by lia);lia) (by decide)
 lia
def qh0{F:Fs}{ρ:En}{S S1 S2:Sr}{c:CB}{a b:CE}{x:Bool}{d:D}(h:tst F c ρ S=.ok x S1)(f:(if x then ev F a ρ S1 else ev F b ρ S1)=.ok d S2):ev F (.ife c a b) ρ S=.ok d S2:=by
 simp only[ev];rw[h,Res.bind_ok];exact f
noncomputable abbrev Pt:=Bool×Am×Am
noncomputable def sdS(b:Bool):PySem.Str:=if b then PySem.Str.ofString "above" else PySem.Str.ofString "below"
noncomputable def ptD(p:Pt):D:=.t [.str (sdS p.1),nmD p.2.1,nmD p.2.2]
noncomputable def msD(ms:List Pt):D:=.t (ms.map ptD)
noncomputable def ovr(h:Am)(p:Pt):Am:=if p.1 then lsn h p.2.1 else lsn p.2.1 h
noncomputable def prt(h:Am)(p:Pt):Am:=if 0<(ovr h p).1 then byn p.2.2 (ovr h p)else(0,1)
noncomputable def plc(ms:List Pt)(c:Int)(h:Am):Am:=byn (c,1) (totN (ms.map (prt h)))
noncomputable def wth(ms:List Pt)(cs:008)(hs:List Am):Am:=totN ((cs.zip hs).map λq=>plc ms q.1 q.2)
structure PtOk (g:Nat) (p:Pt):Prop where
 pt:NB p.2.1
 ms:NB p.2.2
 e:∃g1 g2,p.2.1.2<=2^g1/\p.2.2.2<=2^g2/\g1+g2<=g
 lp:Lw p.2.1
 lm:Lw p.2.2
 p0:0<=p.2.1.1
 m0:0<p.2.2.1
def qaV{f:Nat}{p:Am}(h:NB p)(a:p.2<=2^f):Nx (2^45) f p:=qhX ⟨h.t,h.b1,a⟩
noncomputable abbrev VV:Int:=2^96
def qaW{f g1:Nat}{h:Am}{p:Pt}(a:Nx (2^50) f h)(c:NB p.2.1)(d:p.2.1.2<=2^g1):Nx (2^51) (f+g1) (ovr h p)/\Lw (ovr h p):=by
 have n:=qaV c d;unfold ovr;split
 .exact ⟨(qhT a n).mono 01 (wH _),qhP a.b1 c.b1⟩
 .exact ⟨(qhT n a).mono 01 00,qhP c.b1 a.b1⟩
def qh1{f g:Nat}{h:Am}{p:Pt}(c:Nx (2^50) f h)(a:PtOk g p):Nx VV (f+g) (prt h p):=by
 obtain⟨g1,g2,e1,e2,d⟩:=a.e;have n:=(qaW c a.pt e1).1;unfold prt;split
 .exact (qb7 (qaV a.ms e2) n 01).mono 01 00
 .exact nx0.mono 01 (wr _)
def qc8{f g:Nat}{h:Am}{ms:List Pt}(a:Nx (2^50) f h)(hm:∀p∈ms,PtOk g p)(hl:ms.length<=6):Nx (6*VV) (6*(f+g)) (totN (ms.map (prt h))):=by
 have:=qaU (V:=VV) (f:=f+g) _ (ms.map (prt h)) (wF _) (λx c=>by
  obtain⟨p,d,rfl⟩:=w8.mp c;exact qh1 a (hm p d))
 exact this.mono (wm 00 01) (vg _ hl)
def qb9{f g:Nat}{h:Am}{ms:List Pt}{c:Int}(a:Nx (2^50) f h)(hm:∀p∈ms,PtOk g p)(hl:ms.length<=6)(d:1<=c)(i:c<=100):Nx (100*(6*VV)) (6*(f+g)) (plc ms c h):=by
 have n:Nx 100 0 ((c,1):Am):=⟨by show(1:Int)<=1;decide,by show(1:Int)<=2^0;decide,by show(c.natAbs:Int)<=100*1;lia⟩;have:=qb7 n (qc8 a hm hl) 01;rw[Nat.zero_add]at this;exact this
def v9{k:Nat}(h:k<=9000):(2:Int)^k<=2^9000:=jv h
def jd{V W:Int}{f g:Nat}{p q:Am}(a:Nx V f p)(c:Nx W g q)(h:f+g<9000):p.2*q.2<2^9000:=u3 (qb6 a.b1 a.b2 c.b1 c.b2) (ue 01 h)
def qca{d:Nat}{p:Am}{S:Sr}(h:Lw p)(hb:p.2<2^9000):G (d+2) 4 [nmD p] S=.ok (.bl true) S:=by
 rw[G_at (c:=c_4) rfl];have i:=h.pos;have e1:=zY (d:=d) (x:=.int p.1) (S:=S) rfl;have e2:=zY (d:=d) (x:=.int p.2) (S:=S) rfl;have f:=qdK (d:=d) (a:=(p.1.natAbs:Int)) (b:=p.2) (S:=S) 00 00 hb;rw[qan,h.one]at f;have t3:tst (G (d+1)) (.val (.cmp .lt 002 05)) [some (nmD p),some (.int p.1),some (.int p.2)] S=.ok (decide (p.2<1)) S:=t_of (qH rfl rfl rfl);rw[wU (show ¬p.2<1 by lia)]at t3;exact qr rfl (x_no (S1:=S) (qX (t_no (x:=true) (t_of rfl)) (t_of (qH (qF rfl (qS _ _)) rfl (ne2 _ _)))) (qG (d:=nmD p) (S1:=S) rfl (ρ1:=[some (nmD p),some (.int p.1),some (.int p.2)]) rfl (x_no (qX (t_no (x:=true) (t_of (qh rfl e1))) (qX (t_no (x:=true) (t_of (qh rfl e2))) t3)) (qA (qH (qh (qe (qF rfl qb0) (qe rfl rfl)) f) rfl rfl)))))
def qh2{d:Nat}{p:Am}{S:Sr}(h:Lw p)(hb:p.2<2^9000):G (d+4) 6 [nmD p] S=.ok (.bl (decide (0<p.1))) S:=by
 rw[G_at (c:=c_6) rfl];have f:G (d+3) 5 [nmD p] S=.ok (.bl (true&&decide (0<=p.1))) S:=by
  rw[G_at (c:=c_5) rfl];exact qr rfl (qA (jm (qh rfl (qca h hb)) (qH 023 rfl rfl)))
 have e2:ev (G (d+3)) (.cmp .gt (.idx 02 003) 003) [some (nmD p)] S=.ok (.bl (decide (0<p.1))) S:=qH 023 rfl rfl;have a:=jm (F:=G (d+3)) (qh (i:=5) (es:=.c 02 .n) (ρ:=[some (nmD p)]) rfl f) e2;rw[show(true&&decide (0<=p.1)&&decide (0<p.1))=decide (0<p.1)from by
  by_cases q:0<p.1
  .rw [wQ q,wQ (show 0<=p.1 by lia)];rfl
  .rw [wU q,vE]]at a
 exact qr rfl (qA a)
def qc9{d f:Nat}{V:Int}{xx:D}{gd:Sr->Prop}{ps:List Am}{S:Sr}(r:refX xx S=some (ps.map nmD,gd))(n:gd S)(h:∀p∈ps,Nx V f p)(hl:ps.length*f<9000)(s:ps.length<=12)(j:0<=V)(C:12*V<=2^9000):G (d+3) 7 [xx] S=.ok (nmD (totN ps)) S:=by
 rw[G_at (c:=c_7) rfl];obtain⟨ρ',o,u,x,rfl,rfl⟩:=zS (g:=nmD) (body:=λdd ρ S=>(grd gd S (asg (G (d+2)) 000 dd ρ S)).bind λρ1 S1=>exs (G (d+2)) NW (.c (.set (.t 034) (.call 3 (.c (.bin .add (.bin .mul 06 (.idx 000 05)) (.bin .mul (.idx 000 003) 002)) (.c (.bin .mul 002 (.idx 000 05)) .n)))) .n) ρ1 S1)
  (λpre ρ T=>∃x,ρ=[some xx,some (.int (totN pre).1),some (.int (totN pre).2),x]/\T=S) ps (ρ:=[some xx,some (.int 0),some (.int 1),none]) (S:=S) ⟨_,rfl,rfl⟩ (by
   rintro pre q v ρ T a ⟨x,rfl,rfl⟩;have i:=congrArg List.length a;rw[wP,wY]at i;have np:=qaU (V:=V) (f:=f) _ pre rfl λp w=>h p (by rw[a];simp[w])
   have l:=h q (by rw[a];simp);have E:pre.length*f+f<=ps.length*f:=by
    rw[<-xJ];exact vg f 00
   have y:(pre.length:Int)*V<=12*V:=wm 00 j;have fp:=np.fit 00 00;have m:=l.fit 00 00;have A:=jd np l 00;refine⟨[some xx,some (.int (totN (pre++[q])).1),some (.int (totN (pre++[q])).2),some (nmD q)],T,?_,_,rfl,rfl⟩;rw[zv n,show asg (G (d+2)) 000 (nmD q) [some xx,some (.int (totN pre).1),some (.int (totN pre).2),x] T=.ok [some xx,some (.int (totN pre).1),some (.int (totN pre).2),some (nmD q)] T from rfl,Res.bind_ok];have B:=yC (d:=d) (t:=(totN pre).1*q.2+q.1*(totN pre).2) (b:=(totN pre).2*q.2) (S:=T) (qI np.b1 l.b1) A;rw[zr];exact qG (qh (qe (qm (S1:=T) (qm (S1:=T) rfl (qw (S1:=T) rfl rfl rfl) (bmul (ze fp.t m.b))) (qm (S1:=T) (qw (S1:=T) rfl rfl rfl) rfl (bmul (ze m.t fp.b))) badd) (qe (qm (S1:=T) rfl (qw (S1:=T) rfl rfl rfl) (bmul (ze fp.b m.b))) rfl)) B) rfl zK)
 exact qr rfl (qG (d:=.t [.int 0,.int 1]) (S1:=o) (qZ rfl 036) (ρ1:=[some xx,some (.int 0),some (.int 1),none]) rfl (qhE (ds:=ps.map nmD) (S1:=o) rfl r u n (qA (qZ rfl 036))))
def qjx(b:Bool)(S:Sr):cmpD .eq (.str (sdS b)) (.str 047) S=some b:=by cases b <;> rfl
def qh3(b:Bool)(S:Sr):cmpD .eq (.str (sdS b)) (.str (PySem.Str.ofString "below")) S=some (!b):=by cases b <;> rfl
section
variable{d f g:Nat}{h:Am}{S:Sr}(hh:Nx (2^50) f h)(hfg:6*(f+g)<9000)
include hh hfg
theorem qcb{p:Pt}(a:PtOk g p):G (d+5) 28 [ptD p,nmD h] S=.ok (nmD (prt h p)) S:=by
 obtain⟨g1,g2,e1,e2,s⟩:=a.e;have i:=qaV a.pt e1;have j:=qaV a.ms e2;obtain⟨no,lo⟩:=qaW hh a.pt e1;have l:=hh.fit (v9 01) 00;have m:=i.fit (v9 01) 00;have o:=j.fit (v9 01) 00;have n:=no.fit (v9 01) 00;rw[G_at (c:=c_28) rfl];have r:ev (G (d+4)) (.ife (.val (.cmp .eq 002 (.k (.str 047)))) (.call 9 (.c 06 (.c 000 .n))) (.call 9 (.c 000 027))) [some (ptD p),some (nmD h),some (.str (sdS p.1)),some (nmD p.2.1),some (nmD p.2.2),none] S=.ok (nmD (ovr h p)) S:=by
  refine qh0 (t_of (qH rfl rfl (qjx _ _))) ?_;unfold ovr;split
  .exact qh rfl (qhU (d:=d+1) l m (jd hh i 00))
  .exact qh rfl (qhU (d:=d+1) m l (jd i hh 00))
 refine qr rfl (qG (S1:=S) (d:=ptD p) rfl (ρ1:=[some (ptD p),some (nmD h),some (.str (sdS p.1)),some (nmD p.2.1),some (nmD p.2.2),none]) rfl (qG r (ρ1:=[some (ptD p),some (nmD h),some (.str (sdS p.1)),some (nmD p.2.1),some (nmD p.2.2),some (nmD (ovr h p))]) rfl (qA (qh0 (t_of (qh rfl (qh2 lo n.b2))) ?_))));unfold prt;by_cases q:0<(ovr h p).1
 .rw [wQ q,wN rfl,wN q]
  exact qh rfl (qeV (d:=d+1) o n (jd j no 00))
 .rw [wU q,wT 01,wT q]
  exact qZ (qe rfl (qe rfl rfl)) 036
theorem qa9{ms:List Pt}{c:Int}(hm:∀p∈ms,PtOk g p)(hl:ms.length<=6)(q:1<=c)(r:c<=100):G (d+6) 27 [msD ms,.int c,nmD h] S=.ok (nmD (plc ms c h)) S:=by
 rw[G_at (c:=c_27) rfl];have e:=qaI (g:=ptD) (F:=G (d+5)) (fr:=[2]) (nt:=1) (elt:=.call 28 (.c 06 (.c 02 .n))) (tg:=.v 1) (it:=.seq 02) (ifs:=.nil) (ρ:=[some (msD ms),some (.int c),some (nmD h)]) (S:=S) (S1:=S) (ds:=ms.map ptD) ms (λ_=>true) (λp=>nmD (prt h p)) (λρ=>∃y,ρ=[some (nmD h),y]) rfl rfl ⟨_,rfl⟩ (by unfold PySem.sizeLine;lia) (by
  rintro p a ρ m ⟨y,rfl⟩;exact⟨_,rfl,⟨_,rfl⟩,rfl,λ_=>⟨qh rfl (qcb hh hfg (hm p a)),rfl⟩⟩)
 rw[zE]at e;have nt:=qc8 hh hm hl;have s:ms.length*(f+g)<=6*(f+g):=vg _ hl;have j:=qc9 (d:=d+2) (f:=f+g) (V:=VV) (xx:=.l (ms.map λp=>nmD (prt h p))) (gd:=λ_=>True) (ps:=ms.map (prt h)) (S:=S) (by rw[wo];rfl) trivial (λx l=>by
  obtain⟨p,a,rfl⟩:=w8.mp l;exact qh1 hh (hm p a)) (by rw[wF];lia) (by rw[wF];lia) (by decide) (vD (show(12:Int)*VV<=2^100 by decide) (v9 (by decide)))
 have i:Nx 100 0 ((c,1):Am):=⟨by show(1:Int)<=1;decide,by show(1:Int)<=2^0;decide,by show(c.natAbs:Int)<=100*1;lia⟩;have n:=i.fit (vD (show(100:Int)<=2^7 by decide) (v9 01)) 01;have o:=nt.fit (vD (show(6:Int)*VV<=2^100 by decide) (v9 01)) hfg;exact qr rfl (qA (qh (qe (qZ (qe rfl (qe rfl rfl)) 036) (qe (qh (qe e rfl) j) rfl)) (qeV (d:=d+2) n o (jd i nt 00))))
end
noncomputable def wts(ms:List Pt)(h:Am):List Am:=ms.map λp=>byn p.2.2 (ovr h p)
def qlU(ms:List Pt)(c:Int)(h:Am){f g:Nat}(u:Nx (2^50) f h)(hm:∀p∈ms,PtOk g p){x:Am}(l:Lw x):ms.foldl (λx p=>if 0<(ovr h p).1 then adn x (byn (c,1) (byn p.2.2 (ovr h p)))else x) x=adn x (plc ms c h):=by
 have a:∀p∈ms,(0<(byn p.2.2 (ovr h p)).1 ↔ 0<(ovr h p).1)/\1<=(byn p.2.2 (ovr h p)).2:=by
  intro p i;have d:=hm p i;obtain⟨g1,g2,e1,e2,C⟩:=d.e;have lo:=(qaW u d.pt e1).2;have hb:=qI d.lm.pos lo.pos;have e:=zL (t:=p.2.2.1*(ovr h p).1) hb;have o:=qaa d.lm.pos lo.pos;refine⟨?_,o.pos⟩;have v:=d.m0;have w:=o.pos;unfold byn at w ⊢;generalize lw (p.2.2.1*(ovr h p).1) (p.2.2.2*(ovr h p).2)=A at *;constructor
  .intro q
   have z:0<A.1*(p.2.2.2*(ovr h p).2):=Int.mul_pos q 00;rw[e]at z;have B:=xW z 00;exact Int.pos_of_mul_pos_right B 00
  .intro q
   have z:0<p.2.2.1*(ovr h p).1*A.2:=Int.mul_pos (Int.mul_pos v q) 00;rw[<-e]at z;exact xW z 00
 have j:=qjs (c:=(c,1)) (f:=λx m=>if 0<m.1 then adn x (byn (c,1) m)else x) (by show(1:Int)<=1;decide) (λ_ _=>rfl) _ (wts ms h) x rfl l (λm n=>by
  obtain⟨p,i,rfl⟩:=w8.mp n;exact(a p i).2)
 unfold wts at j;rw[List.foldl_map,wo]at j;have e1:ms.foldl (λx p=>if 0<(ovr h p).1 then adn x (byn (c,1) (byn p.2.2 (ovr h p)))else x) x=ms.foldl (λx p=>if 0<(byn p.2.2 (ovr h p)).1 then adn x (byn (c,1) (byn p.2.2 (ovr h p)))else x) x:=by
  clear j;induction ms generalizing x with
  |nil=>rfl
  |cons p r s =>
   rw[vt,vt];have i:=a p wR;have d:=hm p wR;by_cases z:0<(ovr h p).1
   .rw [wN z,wN (i.1.mpr z)]
    exact s (λq d=>hm q (wM _ d)) (jw l.pos (qaa (by show(1:Int)<=1;decide) i.2).pos) λq d=>a q (wM _ d)
   .rw [wT z,wT λy=>z (i.1.mp y)]
    exact s (λq d=>hm q (wM _ d)) l λq d=>a q (wM _ d)
 rw[e1,j];unfold plc;congr 3;apply vK;intro p i;show(if 0<(byn p.2.2 (ovr h p)).1 then byn p.2.2 (ovr h p)else(0,1))=prt h p;unfold prt;by_cases z:0<(ovr h p).1
 .rw [wN z,wN ((a p i).1.mpr z)]
 .rw [wT z,wT λy=>z ((a p i).1.mp y)]
noncomputable def stW(c:Int)(h:Am)(x:Am)(p:Pt):Am:=if 0<(ovr h p).1 then adn x (byn (c,1) (byn p.2.2 (ovr h p)))else x
def qeY{f g:Nat}{h:Am}{p:Pt}{c:Int}(d:Nx (2^50) f h)(a:PtOk g p)(j:1<=c)(l:c<=100):Nx VV (f+g) (byn p.2.2 (ovr h p))/\Nx (100*VV) (f+g) (byn (c,1) (byn p.2.2 (ovr h p))):=by
 obtain⟨g1,g2,e1,e2,m⟩:=a.e;have n:=(qaW d a.pt e1).1;have nb:=(qb7 (qaV a.ms e2) n 01).mono (show(2:Int)^45*2^51<=VV by decide) (show g2+(f+g1)<=f+g by lia);have i:Nx 100 0 ((c,1):Am):=⟨by show(1:Int)<=1;decide,by show(1:Int)<=2^0;decide,by show(c.natAbs:Int)<=100*1;lia⟩;have:=qb7 i nb 01;rw[Nat.zero_add]at this;exact⟨nb,this⟩
def qjy{f g a:Nat}{d:Int}{h:Am}{c:Int}(o:Nx (2^50) f h)(r:1<=c)(s:c<=100):∀(n:Nat) (ps:List Pt) (x:Am),ps.length=n->Nx d a x->Lw x->(∀p∈ps,PtOk g p)->Nx (d+n*(100*VV)) (a+n*(f+g)) (ps.foldl (stW c h) x)/\Lw (ps.foldl (stW c h) x):=by
 intro n;induction n with
 |zero =>
  intro ps x e i j _;rw[wp.mp e];exact⟨i.mono 07 00,j⟩
 |succ n u =>
  intro ps x e i j l;rcases vM ps with rfl|⟨ys,y,rfl⟩
  .simp at e
  .rw [vN]at l e ⊢
   obtain⟨m,l1⟩:=u ys x (by simpa using e) i j λp q=>l p (wu _ q)
   have t:=(qeY o (l y 07) r s).2;rw[uQ,vt,List.foldl_nil];have k1:d+((n+1:Nat):Int)*(100*VV)=d+(n:Int)*(100*VV)+100*VV:=by rw[Int.natCast_add,Int.add_mul];simp;lia
   have k2:a+(n+1)*(f+g)=a+n*(f+g)+(f+g):=by rw[xJ];lia
   rw[k1,k2];unfold stW;split
   .exact ⟨qhS m t,jw m.b1 t.b1⟩
   .exact ⟨m.mono 00 00,l1⟩
noncomputable abbrev wE(ms:List Pt)(cs:008)(hs:List Am)(x:Am)(a4 a5 a6 a7 a8 a9:Option D):En:=[some (msD ms),some (tupI cs),some (.t (hs.map nmD)),some (nmD x),a4,a5,a6,a7,a8,a9]
noncomputable def wIn:CSs:=match c_42.body with|.cons _ (.c (.forS _ _ (.c (.forS _ _ b) _)) _)=>b|_=>.nil
def qjz{d f g B:Nat}{C:Int}{ms:List Pt}{cs:008}{hs:List Am}{h x:Am}{c:Int}{S:Sr}(o:Nx (2^50) f h)(hm:∀p∈ms,PtOk g p)(hl:ms.length<=6)(E:1<=c)(F:c<=100)(U:Nx C B x)(W:Lw x)(hb:B+6*(f+g)<9000)(hV:C+6*(100*VV)<=2^9000)(H I J K:Option D):
  ∃j l m i,forLoop (λdd ρ S=>(asg (G (d+4)) (.t (.c (.v 6) (.c (.v 7) (.c (.v 8) .n)))) dd ρ S).bind λρ1 S1=>exs (G (d+4)) NW wIn ρ1 S1) (ms.map ptD) (wE ms cs hs x (some (.int c)) (some (nmD h)) H I J K) S=.ok (.nx (wE ms cs hs (ms.foldl (stW c h) x) (some (.int c)) (some (nmD h)) j l m i)) S:=by
 obtain⟨ρ',S',X,j,l,m,i,rfl,rfl⟩:=zS (g:=ptD) (body:=λdd ρ S=>(asg (G (d+4)) (.t (.c (.v 6) (.c (.v 7) (.c (.v 8) .n)))) dd ρ S).bind λρ1 S1=>exs (G (d+4)) NW wIn ρ1 S1)
  (λpre ρ T=>∃j l m i,ρ=wE ms cs hs (pre.foldl (stW c h) x) (some (.int c)) (some (nmD h)) j l m i/\T=S) ms (ρ:=wE ms cs hs x (some (.int c)) (some (nmD h)) H I J K) (S:=S) ⟨_,_,_,_,rfl,rfl⟩ (by
   rintro pre p Y ρ T a ⟨j,l,m,i,rfl,rfl⟩;have r:=hm p (by rw[a];simp);have s:=congrArg List.length a;rw[wP,wY]at s;obtain⟨g1,g2,e1,e2,e3⟩:=r.e;have w:=qaV r.pt e1;have L:=qaV r.ms e2;obtain⟨no,lo⟩:=qaW o r.pt e1;obtain⟨nt,M⟩:=qeY o r E F;obtain⟨A,lf⟩:=qjy o E F _ pre x rfl U W λq Z=>hm q (by rw[a];simp[Z])
   have k1:(pre.length+1)*(f+g)<=6*(f+g):=vg _ 00;rw[xJ]at k1;have k2:(pre.length:Int)*(100*VV)<=6*(100*VV):=wm 00 01;have N:=o.fit (v9 01) 00;have O:=w.fit (v9 01) 00;have f2:=L.fit (v9 01) 00;have fo:=no.fit (v9 01) 00;have ft:=nt.fit (v9 01) 00;have n:Nx 100 0 ((c,1):Am):=⟨by show(1:Int)<=1;decide,by show(1:Int)<=2^0;decide,by show(c.natAbs:Int)<=100*1;lia⟩;have u:=n.fit (vD (show(100:Int)<=2^7 by decide) (v9 01)) 01;have fc:=M.fit (vD (show(100:Int)*VV<=2^200 by decide) (v9 01)) 00;have P:=A.fit 00 00;rw[uQ,vt,List.foldl_nil];generalize pre.foldl (stW c h) x=y at A P;rw[show asg (G (d+4)) (.t (.c (.v 6) (.c (.v 7) (.c (.v 8) .n)))) (ptD p) (wE ms cs hs y (some (.int c)) (some (nmD h)) j l m i) T=.ok (wE ms cs hs y (some (.int c)) (some (nmD h)) (some (.str (sdS p.1))) (some (nmD p.2.1)) (some (nmD p.2.2)) i) T from rfl,Res.bind_ok];have r1:ev (G (d+4)) (.call 34 (.c (.v 5) (.c (.v 7) .n))) (wE ms cs hs y (some (.int c)) (some (nmD h)) (some (.str (sdS p.1))) (some (nmD p.2.1)) (some (nmD p.2.2)) i) T=.ok (nmD (lsn h p.2.1)) T:=qh rfl (qb8 (d:=d+2) N O (jd o w 00));have Q:ev (G (d+4)) (.call 34 (.c (.v 7) (.c (.v 5) .n))) (wE ms cs hs y (some (.int c)) (some (nmD h)) (some (.str (sdS p.1))) (some (nmD p.2.1)) (some (nmD p.2.2)) (some (nmD (lsn h p.2.1)))) T=.ok (nmD (lsn p.2.1 h)) T:=qh rfl (qb8 (d:=d+2) O N (jd w o 00));have fin:∃ρ1 S1,exs (G (d+4)) NW (.c (.ifs (.val (.cmp .gt (.idx (.v 9) 003) 003)) (.c (.set 000 (.call 33 (.c 000 (.c (.call 35 (.c (.t (.c (.v 4) (.c 05 .n))) (.c (.call 35 (.c (.v 8) (.c (.v 9) .n))) .n))) .n)))) .n) .n) .n) (wE ms cs hs y (some (.int c)) (some (nmD h)) (some (.str (sdS p.1))) (some (nmD p.2.1)) (some (nmD p.2.2)) (some (nmD (ovr h p)))) T=.ok (.nx ρ1) S1/\∃j l m i,ρ1=wE ms cs hs (stW c h y p) (some (.int c)) (some (nmD h)) j l m i/\S1=T:=by
    have tg:tst (G (d+4)) (.val (.cmp .gt (.idx (.v 9) 003) 003)) (wE ms cs hs y (some (.int c)) (some (nmD h)) (some (.str (sdS p.1))) (some (nmD p.2.1)) (some (nmD p.2.2)) (some (nmD (ovr h p)))) T=.ok (decide (0<(ovr h p).1)) T:=t_of (qH (qw (S1:=T) rfl rfl rfl) rfl rfl);unfold stW;by_cases q:0<(ovr h p).1
    .rw [wQ q]at tg
     rw[wN q];have r3:=qhV (d:=d+2) (S:=T) f2 fo (jd L no 00);have r4:=qhV (d:=d+2) (S:=T) u ft (jd n nt 00);have r5:=qjt (d:=d+2) (S:=T) P fc (jd A M 00);exact⟨_,_,qdC tg (qG (qh (qe rfl (qe (qh (qe (qZ (qe rfl (qe rfl rfl)) 036) (qe (qh rfl r3) rfl)) r4) rfl)) r5) rfl zK) zK,_,_,_,_,rfl,rfl⟩
    .rw [wU q]at tg
     rw[wT q];exact⟨_,_,x_no tg zK,_,_,_,_,rfl,rfl⟩
   obtain⟨ρ1,S1,v,hr⟩:=fin;have t2:tst (G (d+4)) (.val (.cmp .eq (.v 6) (.k (.str (PySem.Str.ofString "below"))))) (wE ms cs hs y (some (.int c)) (some (nmD h)) (some (.str (sdS p.1))) (some (nmD p.2.1)) (some (nmD p.2.2)) (some (nmD (lsn h p.2.1)))) T=.ok (!p.1) T:=t_of (qH rfl rfl (qh3 _ _));refine⟨ρ1,S1,?_,hr⟩;simp only[wIn,c_42];refine qG r1 (ρ1:=wE ms cs hs y (some (.int c)) (some (nmD h)) (some (.str (sdS p.1))) (some (nmD p.2.1)) (some (nmD p.2.2)) (some (nmD (lsn h p.2.1)))) rfl ?_;unfold ovr at v;cases hs':p.1 with
   |true =>
    rw[hs',wN rfl]at v;rw[hs']at t2;exact x_no t2 v
   |false =>
    rw[hs',wT 01]at v;rw[hs']at t2 Q;exact qdC t2 (qG Q rfl zK) v)
 exact⟨_,_,_,_,X⟩
def zipW{cs:008}{hs:List Am}:(cs.map D.int).zip (hs.map nmD)=(cs.zip hs).map λq=>(D.int q.1,nmD q.2):=by rw[xM];rfl
def qda{d f g:Nat}{ms:List Pt}{cs:008}{hs:List Am}{S:Sr}(hm:∀p∈ms,PtOk g p)(hl:ms.length<=6)(hc:∀c∈cs,1<=c/\c<=100)(v:∀a∈hs,Nx (2^50) f a)(hn:cs.length<=7)(hb:42*(f+g)<9000):G (d+5) 42 [msD ms,tupI cs,.t (hs.map nmD)] S=.ok (nmD (wth ms cs hs)) S:=by
 rw[G_at (c:=c_42) rfl];obtain⟨ρ',x,B,s,u,j,l,m,n,rfl,rfl⟩:=zS (g:=λq:Int×Am=>D.t [.int q.1,nmD q.2]) (body:=λdd ρ S=>(asg (G (d+4)) (.t (.c (.v 4) (.c (.v 5) .n))) dd ρ S).bind λρ1 S1=>exs (G (d+4)) NW (.c (.forS (.t (.c (.v 6) (.c (.v 7) (.c (.v 8) .n)))) (.seq 02) wIn) .n) ρ1 S1)
  (λpre ρ T=>∃s u j l m n,ρ=wE ms cs hs (totN (pre.map λq=>plc ms q.1 q.2)) s u j l m n/\T=S) (cs.zip hs) (ρ:=wE ms cs hs (0,1) none none none none none none) (S:=S) ⟨_,_,_,_,_,_,rfl,rfl⟩ (by
   rintro pre q C ρ T h ⟨s,u,j,l,m,n,rfl,rfl⟩;have E:q∈cs.zip hs:=by rw[h];simp
   obtain⟨q1,q2⟩:=vB E;have o:=congrArg List.length h;rw[wP,wY,vq]at o;have i:∀z∈pre.map (λq=>plc ms q.1 q.2),Nx (100*(6*VV)) (6*(f+g)) z:=by
    intro z w;obtain⟨r,F,rfl⟩:=w8.mp w;obtain⟨y,H⟩:=vB (show r∈cs.zip hs by rw[h];simp[F]);exact qb9 (v _ H) hm hl (hc _ y).1 (hc _ y).2
   have nx:=qaU _ _ rfl i;have A:=qdR λz w=>(i z w).b1
   rw[wF]at nx;have k1:(pre.length+1)*(6*(f+g))<=7*(6*(f+g)):=vg _ 00;rw[xJ]at k1;have k2:(pre.length:Int)*(100*(6*VV))<=7*(100*(6*VV)):=wm 00 01;obtain⟨I,J,K,L,M⟩:=qjz (d:=d) (cs:=cs) (hs:=hs) (S:=T) (v _ q2) hm hl (hc _ q1).1 (hc _ q1).2 nx A 00 (vD (show _<=(2:Int)^200 by
    have:(7:Int)*(100*(6*VV))+6*(100*VV)<=2^200:=by decide
    lia) (v9 (by decide))) j l m n
   refine⟨wE ms cs hs (totN ((pre++[q]).map λq=>plc ms q.1 q.2)) (some (.int q.1)) (some (nmD q.2)) I J K L,T,?_,_,_,_,_,_,_,rfl,rfl⟩;rw[vL,List.map_singleton,zr,<-qlU ms q.1 q.2 (v _ q2) hm A];rw[show asg (G (d+4)) (.t (.c (.v 4) (.c (.v 5) .n))) (.t [.int q.1,nmD q.2]) (wE ms cs hs (totN (pre.map λq=>plc ms q.1 q.2)) s u j l m n) T=.ok (wE ms cs hs (totN (pre.map λq=>plc ms q.1 q.2)) (some (.int q.1)) (some (nmD q.2)) j l m n) T from rfl,Res.bind_ok];exact jI (ds:=ms.map ptD) (S1:=T) rfl M zK)
 refine qr rfl (qG (d:=nmD (0,1)) (S1:=x) (qZ (qe rfl (qe rfl rfl)) 036) (ρ1:=wE ms cs hs (0,1) none none none none none none) rfl (jI (ds:=(cs.zip hs).map λq:Int×Am=>D.t [.int q.1,nmD q.2]) (S1:=x) ?_ B (qA rfl)));simp only[evI,ev,varE,List.getElem?_cons_succ,uS,Res.bind,tupI,walkF];rw[zipW,wo];rfl
def ne3(n:Nat)(S:Sr):cmpD .ne (.int n) (.int 3) S=some (!decide (n=3)):=by
 show some (!((n:Int) == 3))=_;congr 2;rw[uH];simp;lia
def qh4{d:Nat}{x:D}{S:Sr}(f:refsLt 0 x=true)(hs:nsm x=true):G (d+4) 6 [x] S=.ok (.bl (numB x&&decide (0<topD x))) S:=by
 rw[G_at (c:=c_6) rfl];have e:=yH (d:=d) (S:=S) f hs;unfold amB at e;cases z:numB x with
 |false=>rw[z]at e;exact qr rfl (qA (jt (qh rfl e)))
 |true =>
  rw[z]at e;obtain⟨t,b,rfl,_⟩:=qdL z;have e2:ev (G (d+3)) (.cmp .gt (.idx 02 003) 003) [some (nmD (t,b))] S=.ok (.bl (decide (0<t))) S:=qH 023 rfl rfl;have a:=jm (F:=G (d+3)) (qh (i:=5) (es:=.c 02 .n) (ρ:=[some (nmD (t,b))]) rfl e) e2;rw[show(true&&decide (0<=topD (nmD (t,b)))&&decide (0<t))=(true&&decide (0<topD (nmD (t,b))))from by
   rw[vU,vU];show(decide (0<=t)&&decide (0<t))=decide (0<t);by_cases h:0<t
   .rw [wQ h,wQ (show 0<=t by lia)];rfl
   .rw [wU h,vE]]at a
  exact qr rfl (qA a)
noncomputable def sideB:D->Bool
 | .str s=>[D.str 047,D.str (PySem.Str.ofString "below")].any λy=>eqF y (.str s)
 |_=>false
noncomputable def mpB:D->Bool
 | .t [s,p,h]=>sideB s&&amB p&&(numB h&&decide (0<topD h))
 |_=>false
noncomputable def psm:D->Bool
 | .t l=>l.all nsm
 |_=>true
noncomputable def measB:D->Bool
 | .t l=>decide (1<=l.length)&&decide (l.length<=6)&&l.all mpB
 |_=>false
noncomputable def msm:D->Bool
 | .t l=>l.all psm
 |_=>true
def qjA{d:Nat}{x:D}{S:Sr}(a:refsLt 0 x=true)(hs:psm x=true):G (d+5) 25 [x] S=.ok (.bl (mpB x)) S:=by
 rw[G_at (c:=c_25) rfl];cases x with
 |ref n=>simp[refsLt]at a
 |exc n=>simp[refsLt]at a
 |t l =>
  by_cases f:l.length=3
  .match l,f with
   |[s,p,h],_ =>
    have i:refsLt 0 p=true:=qB a 07;have j:refsLt 0 h=true:=qB a 07;have ss:nsm p=true/\nsm h=true:=by
     simp only[psm,vz,wS]at hs;exact⟨hs.2.1,hs.2.2.1⟩
    have m:=yH (d:=d+1) (S:=S) i ss.1;have o:=qh4 (d:=d) (S:=S) j ss.2;have q:exs (G (d+4)) NW (.c (.ret (.and (.call 5 032) (.call 6 (.c 000 .n)))) .n) [some (.t [s,p,h]),some s,some p,some h] S=.ok (.rt (.bl (amB p&&(numB h&&decide (0<topD h))))) S:=qA (jm (qh rfl m) (qh rfl o));refine qr rfl (x_no (S1:=S) (qX (t_no (x:=true) (t_of rfl)) (t_of (qH (qF rfl (qS _ _)) rfl (ne3 _ _)))) (qG (d:=.t [s,p,h]) (S1:=S) rfl (ρ1:=[some (.t [s,p,h]),some s,some p,some h]) rfl ?_));rw[show mpB (.t [s,p,h])=(sideB s&&amB p&&(numB h&&decide (0<topD h)))from rfl];cases s with
    |str s =>
     have t2:tst (G (d+4)) (.val (.cmp .nin 06 (.t (.c (.k (.str 047)) (.c (.k (.str (PySem.Str.ofString "below"))) .n))))) [some (.t [.str s,p,h]),some (.str s),some p,some h] S=.ok (!sideB (.str s)) S:=t_of (qH rfl (qZ rfl 036) rfl);cases z:sideB (.str s)with
     |false=>rw[z]at t2;exact zf (qX (t_no (x:=true) (t_of rfl)) t2) (qA rfl)
     |true =>
      rw[z]at t2;rw[vU];exact x_no (qX (t_no (x:=true) (t_of rfl)) t2) q
    |ref n=>simp[refsLt,refsLts]at a
    |exc n=>simp[refsLt,refsLts]at a
    |_=>exact zf (yB (t_no (x:=false) (t_of rfl))) (qA rfl)
  .have e2:mpB (.t l)=false:=by
    unfold mpB;split
    .rename_i z;injection z with z;subst z;simp at f
    .rfl
   rw[e2];exact qr rfl (zf (S1:=S) (qX (t_no (x:=true) (t_of rfl)) (t_of (x:=true) (qH (qF rfl (qS _ _)) rfl (by rw[ne3,wU f];rfl)))) (qA rfl))
 |_=>exact qr rfl (zf (S1:=S) (yB rfl) (qA rfl))
def qeZ{d:Nat}{x:D}{S:Sr}(a:refsLt 0 x=true)(hs:msm x=true):G (d+6) 24 [x] S=.ok (.bl (measB x)) S:=by
 rw[G_at (c:=c_24) rfl];cases x with
 |ref n=>simp[refsLt]at a
 |exc n=>simp[refsLt]at a
 |t l =>
  have tl:tst (G (d+5)) (.not (.val (.chain .le .le 05 039 (.k (.int 6))))) [some (.t l)] S=.ok (!(decide ((1:Int)<=l.length)&&decide ((l.length:Int)<=6))) S:=t_no (t_of (chainN _ _ _ (qF rfl (qS _ _))));have h:=yr (g:=λy:D=>y) (F:=G (d+5)) (fr:=[]) (nt:=1) (elt:=.call 25 (.c 02 .n)) (tg:=.v 0) (it:=.seq 02) (ρ:=[some (.t l)]) (S:=S) (S1:=S) (ds:=l) l mpB (λρ=>∃y,ρ=[y]) rfl 07 ⟨_,rfl⟩ (by
   rintro q f ρ ⟨y,rfl⟩;exact⟨_,rfl,⟨_,rfl⟩,qh rfl (qjA (qB a f) (wb.mp hs q f))⟩)
  rw[show measB (.t l)=(decide (1<=l.length)&&decide (l.length<=6)&&l.all mpB)from rfl];have k1:decide ((1:Int)<=l.length)=decide (1<=l.length):=by rw[decide_eq_decide];lia
  have k2:decide ((l.length:Int)<=6)=decide (l.length<=6):=by rw[decide_eq_decide];lia
  rw[k1,k2]at tl;cases z:(decide (1<=l.length)&&decide (l.length<=6))with
  |false=>rw[z]at tl;exact qr rfl (zf (qX (t_no (x:=true) (t_of rfl)) tl) (qA rfl))
  |true=>rw[z]at tl;exact qr rfl (x_no (qX (t_no (x:=true) (t_of rfl)) tl) (qA h))
 |_=>exact qr rfl (zf (S1:=S) (yB rfl) (qA rfl))
structure MsOk (g:Nat) (ms:List Pt):Prop where
 l1:1<=ms.length
 l2:ms.length<=6
 ok:∀p∈ms,PtOk g p
def qlV{g:Nat}{p:Pt}(h:PtOk g p):psm (ptD p)=true:=by
 show(true&&(nsm (nmD p.2.1)&&(nsm (nmD p.2.2)&&true)))=true;rw[qaO h.pt,qaO h.ms];rfl
def qno{g:Nat}{p:Pt}(h:PtOk g p):mpB (ptD p)=true:=by
 have e1:sideB (.str (sdS p.1))=true:=by
  cases p.1 <;> decide
 have e2:∀{q:Am},Lw q->numB (nmD q)=true:=λ{q} hq=>by
  show(decide (1<=q.2)&&decide (Int.gcd q.1 q.2=1))=true;rw[wQ hq.pos,wQ hq.one];rfl
 show(sideB (.str (sdS p.1))&&(numB (nmD p.2.1)&&decide (0<=p.2.1.1))&&(numB (nmD p.2.2)&&decide (0<p.2.2.1)))=true;rw[e1,e2 h.lp,e2 h.lm,wQ h.p0,wQ h.m0];rfl
def qcc(ms:List Pt):refsLts 0 (ms.map ptD)=true:=qJ λx a=>by
 obtain⟨p,_,rfl⟩:=w8.mp a;rfl
def MsOk.sm{g:Nat}{ms:List Pt}(h:MsOk g ms):∀x∈ms.map ptD,psm x=true:=λx a=>by
 obtain⟨p,c,rfl⟩:=w8.mp a;exact qlV (h.ok p c)
def qh5{d g:Nat}{ms:List Pt}{S:Sr}(h:MsOk g ms):G (d+6) 24 [msD ms] S=.ok (.bl true) S:=by
 have e:=qeZ (d:=d) (x:=msD ms) (S:=S) (qcc ms) (wb.mpr h.sm);have:measB (msD ms)=true:=by
  show(decide (1<=(ms.map ptD).length)&&decide ((ms.map ptD).length<=6)&&(ms.map ptD).all mpB)=true;rw[wF,wQ h.l1,wQ h.l2,vU,vU,wb];intro x a;obtain⟨p,c,rfl⟩:=w8.mp a;exact qno (h.ok p c)
 rw[this]at e;exact e
structure NoMs (y:D):Prop where
 r:refsLt 0 y=true
 s:msm y=true
 n:measB y=false
def qnp{t b:Int}(a:0<t)(hb:1<=b):0<(lw t b).1:=by
 obtain⟨c,_⟩:=ju (t:=t) hb;have d:=zT (t:=t) hb;rw[<-c]at a;exact xW a 00
def qh6{t b:Int}(c:t.natAbs<2^45)(hb:1<=b)(a:b<2^30):NB (lw t b):=⟨by have:=qhJ (t:=t) hb;lia,(zt hb).pos,by have:=qah (t:=t) hb;lia⟩
def qkb{s:Bool}{t b t' a:Int}{g1 g2 g:Nat}(d:0<=t)(f:t.natAbs<2^45)(c:1<=b)(h:b<2^30)(i:b<=2^g1)(k0:0<t')(k1:t'.natAbs<2^45)(k2:1<=a)(k3:a<2^30)(j:a<=2^g2)(l:g1+g2<=g):PtOk g (s,lw t b,lw t' a) where
 pt:=qh6 f c h
 ms:=qh6 k1 k2 k3
 e:=⟨g1,g2,vD (qah c) i,vD (qah k2) j,l⟩
 lp:=zt c
 lm:=zt k2
 p0:=qj9 d c
 m0:=qnp k0 k2
def sides{r:Int}(h:r=0\/r=1):∃b:Bool,∀U,idxD U (.l [.str 047,.str (PySem.Str.ofString "below")]) (.int r)=some (.str (sdS b)):=by
 rcases h with rfl|rfl
 .exact ⟨true,λ_=>rfl⟩
 .exact ⟨false,λ_=>rfl⟩
def qfK{d n:Nat}{v:Int}{S:Sr}(hn:n<S.length)(hv:0<=v):Ok (G (d+2) 41 [.ref n,.int 6] (pk S n v)) λy S'=>∃ps u,MsOk 4 ps/\y=msD ps/\0<=u/\S'=pk S n u:=by
 rw[G_at (c:=c_41) rfl];refine yG rfl rfl ?_;refine qO (Ok.of (a:=.ref S.length) (S:=pk S n v++[.l []]) (by have:=qbW (F:=G (d+1)) (ρ:=[some (.ref n),some (.int 6),none,none,none,none]) (S:=pk S n v) (S1:=pk S n v) (es:=.nil) (l:=[]) rfl 01 rfl;rw[qv]at this;exact this) (Ok.of (a:=[some (.ref n),some (.int 6),some 037,none,none,none]) rfl ?_));have f6:=fm (v:=v) (m:=6) 01;have N:=zw (d:=d) (n:=n) (v:=v) (m:=6) (S:=S) (T:=[.l []]) hn 01 01;have O:0<=v.fdiv 6:=wc hv 01;generalize v.fdiv 6=v1 at O N;obtain⟨c,hc⟩:∃c:Nat,(c:Int)=1+v.fmod 6:=⟨(1+v.fmod 6).toNat,by omega⟩;have h:∀u (L:04),(pk S n u++[.l L])[S.length]?=some (.l L):=by
  intro u L;rw[wK (by rw[qv];omega),qv];simp
 have o:∀u (L q:04),(pk S n u++[SO.l L]).set S.length (SO.l q)=pk S n u++[SO.l q]:=by
  intro u L q;rw[va _ _ (by rw[qv];omega),qv];simp
 refine qbu (g:=.int) (λpre ρ U=>∃x y z u ps,ρ=[some (.ref n),some (.int 6),some 037,x,y,z]/\U=pk S n u++[.l (ps.map ptD)]/\0<=u/\ps.length=pre.length/\∀p∈ps,PtOk 4 p) (rI c) (Ok.of (i_rng (n:=c) (qe (qm rfl (qh rfl N) (by rw[hc];rfl)) rfl) (by omega)) ⟨rfl,none,none,none,v1,[],rfl,rfl,O,rfl,by simp⟩) ?_ ?_
 .rintro pre x a0 ρ U j ⟨x0,y0,P,u,ps,rfl,rfl,s,f,hok⟩
  have hl:=congrArg List.length j;rw[yn,wP,wY]at hl;refine Ok.of (a:=[some (.ref n),some (.int 6),some 037,some (.int x),y0,P]) rfl ?_;have fa:=fm (v:=u) (m:=2) 01;have w:=zw (d:=d) (n:=n) (v:=u) (m:=2) (S:=S) (T:=[.l (ps.map ptD)]) hn 01 01;have Q:0<=u.fdiv 2:=wc s 01;generalize u.fdiv 2=w1 at Q w;generalize u.fmod 2=ka at fa w;obtain⟨i,hs⟩:=sides (r:=ka) (by omega);refine qO (Ok.of (a:=.str (sdS i)) (S:=pk S n w1++[.l (ps.map ptD)]) (qw (zg rfl 07) (qh rfl w) (hs _)) (Ok.of (a:=[some (.ref n),some (.int 6),some 037,some (.int x),some (.str (sdS i)),P]) rfl ?_));have fb:=fm (v:=w1) (m:=13) 01;have A:=zw (d:=d) (n:=n) (v:=w1) (m:=13) (S:=S) (T:=[.l (ps.map ptD)]) hn 01 01;have W:0<=w1.fdiv 13:=wc Q 01;generalize w1.fdiv 13=w2 at W A;generalize w1.fmod 13=kb at fb A;have fc:=fm (v:=w2) (m:=4) 01;have B:=zw (d:=d) (n:=n) (v:=w2) (m:=4) (S:=S) (T:=[.l (ps.map ptD)]) hn 01 01;have X:0<=w2.fdiv 4:=wc W 01;generalize w2.fdiv 4=w3 at X B;generalize w2.fmod 4=kc at fc B;obtain⟨b,C,a1,hb⟩:∃b:Int,1<=b/\b<=3/\∀U,idxD U (.l [.int 1,.int 1,.int 2,.int 3]) (.int kc)=some (.int b):=by
   have:kc=0\/kc=1\/kc=2\/kc=3:=by omega
   rcases this with rfl|rfl|rfl|rfl
   .exact ⟨1,by decide,by decide,λ_=>rfl⟩
   .exact ⟨1,by decide,by decide,λ_=>rfl⟩
   .exact ⟨2,by decide,by decide,λ_=>rfl⟩
   .exact ⟨3,by decide,by decide,λ_=>rfl⟩
  have E:=z9 (d:=d) (t:=kb) (b:=b) (S:=pk S n w3++[.l (ps.map ptD)]) C 00;refine qO (Ok.of (a:=nmD (lw kb b)) (S:=pk S n w3++[.l (ps.map ptD)]) (qh (qe (qh rfl A) (qe (qw (zg rfl 07) (qh rfl B) (hb _)) rfl)) E) (Ok.of (a:=[some (.ref n),some (.int 6),some 037,some (.int x),some (.str (sdS i)),some (nmD (lw kb b))]) rfl ?_));have fd:=fm (v:=w3) (m:=9) 01;have H:=zw (d:=d) (n:=n) (v:=w3) (m:=9) (S:=S) (T:=[.l (ps.map ptD)]) hn 01 01;have Y:0<=w3.fdiv 9:=wc X 01;generalize w3.fdiv 9=w4 at Y H;generalize w3.fmod 9=kd at fd H;have fe:=fm (v:=w4) (m:=4) 01;have I:=zw (d:=d) (n:=n) (v:=w4) (m:=4) (S:=S) (T:=[.l (ps.map ptD)]) hn 01 01;have Z:0<=w4.fdiv 4:=wc Y 01;generalize w4.fdiv 4=w5 at Z I;generalize w4.fmod 4=ke at fe I;have J:=z9 (d:=d) (t:=1+kd) (b:=1+ke) (S:=pk S n w5++[.l (ps.map ptD)]) 00 00;have K:PtOk 4 (i,lw kb b,lw (1+kd) (1+ke)):=qkb (g1:=2) (g2:=2) 00 00 00 00 00 00 00 00 00 00 00;have M:(ps.map ptD).length<=1000:=by rw[wF];omega
  refine qdF (qhz (Ok.of rfl ⟨_,_,rfl,h _ _,Ok.of (a:=ptD (i,lw kb b,lw (1+kd) (1+ke))) (S:=pk S n w5++[.l (ps.map ptD)]) (qZ (qe rfl (qe rfl (qe (qh (qe (qm rfl (qh rfl H) rfl) (qe (qm rfl (qh rfl I) rfl) rfl)) J) rfl))) 036) ⟨h _ _,M,rfl,?_⟩⟩));rw[o];refine zX ⟨_,_,_,w5,ps++[(i,lw kb b,lw (1+kd) (1+ke))],rfl,by rw[vL];rfl,Z,by rw[wP,wP,f];rfl,λp hp=>?_⟩;rcases wa.mp hp with z|z
  .exact hok p z
  .rw [wV.mp z];exact K
 .rintro ρ U ⟨x,y,z,u,ps,rfl,rfl,s,f,hok⟩
  rw[yn]at f;refine qaM (Ok.of (a:=.t (ps.map ptD)) (S:=pk S n u++[.l (ps.map ptD)]) (qF (qe rfl rfl) (by simp only[bltD,one,bTuple,seqOf,lstOf,h,wn,ofO])) ?_);refine⟨by rw[wP,qv,qv];omega,zU _ (qcc ps),ps,u,⟨by omega,by omega,hok⟩,rfl,s,?_⟩;rw[qv,<-qv S n u,List.take_left]
def pow9(F:Fs)(ρ:En)(T:Sr):ev F (.bin .pow (.k (.int 10)) (.k (.int 9))) ρ T=.ok (.int 1000000000) T:=by
 simp[ev,Res.bind,binD,binI]
def qcd{d n:Nat}{v:Int}{S:Sr}(hn:n<S.length)(A:0<=v):Ok (G (d+2) 51 [.ref n] (pk S n v)) λy T=>∃p u,PtOk 40 p/\y=ptD p/\0<=u/\T=pk S n u:=by
 rw[G_at (c:=c_51) rfl];refine yG (f:=c_51) rfl rfl ?_;have B:=fm (v:=v) (m:=1000000001) 01;have e1:=zx (d:=d) (n:=n) (v:=v) (m:=1000000001) (S:=S) hn 01 01;have l:0<=v.fdiv 1000000001:=wc A 01;generalize v.fdiv 1000000001=v1 at l e1;generalize v.fmod 1000000001=t1 at B e1;have C:=fm (v:=v1) (m:=1000000) 01;have e2:=zx (d:=d) (n:=n) (v:=v1) (m:=1000000) (S:=S) hn 01 01;have o:0<=v1.fdiv 1000000:=wc l 01;generalize v1.fdiv 1000000=v2 at o e2;generalize v1.fmod 1000000=b1 at C e2;have E:=fm (v:=v2) (m:=1000000000) 01;have h:=zx (d:=d) (n:=n) (v:=v2) (m:=1000000000) (S:=S) hn 01 01;have q:0<=v2.fdiv 1000000000:=wc o 01;generalize v2.fdiv 1000000000=v3 at q h;generalize v2.fmod 1000000000=t2 at E h;have F:=fm (v:=v3) (m:=1000000) 01;have i:=zx (d:=d) (n:=n) (v:=v3) (m:=1000000) (S:=S) hn 01 01;have s:0<=v3.fdiv 1000000:=wc q 01;generalize v3.fdiv 1000000=v4 at s i;generalize v3.fmod 1000000=b2 at F i;have H:=fm (v:=v4) (m:=2) 01;have j:=zx (d:=d) (n:=n) (v:=v4) (m:=2) (S:=S) hn 01 01;have w:0<=v4.fdiv 2:=wc s 01;generalize v4.fdiv 2=v5 at w j;generalize v4.fmod 2=r at H j;obtain⟨x,hs⟩:=sides (r:=r) 00;have l1:=z9 (d:=d) (t:=t1) (b:=1+b1) (S:=pk S n v2) 00 00;have l2:=z9 (d:=d) (t:=1+t2) (b:=1+b2) (S:=pk S n v4) 00 00;have I:PtOk 40 (x,lw t1 (1+b1),lw (1+t2) (1+b2)):=qkb (g1:=20) (g2:=20) 00 00 00 00 00 00 00 00 00 00 00;refine qO (Ok.of (qh (qe (qh (qe rfl (qe (qm (pow9 _ _ _) rfl badd) rfl)) e1) (qe (qm rfl (qh (qe rfl (qe (pow6 _ _ _) rfl)) e2) badd) rfl)) l1) (Ok.of (a:=[some (.ref n),some (nmD (lw t1 (1+b1))),none]) rfl ?_));refine qO (Ok.of (qh (qe (qm rfl (qh (qe rfl (qe (pow9 _ _ _) rfl)) h) badd) (qe (qm rfl (qh (qe rfl (qe (pow6 _ _ _) rfl)) i) badd) rfl)) l2) (Ok.of (a:=[some (.ref n),some (nmD (lw t1 (1+b1))),some (nmD (lw (1+t2) (1+b2)))]) rfl ?_));refine qaM (Ok.of (a:=ptD (x,lw t1 (1+b1),lw (1+t2) (1+b2))) (S:=pk S n v5) (qZ (qe (qw (zg rfl 07) (qh rfl j) (hs _)) (qe rfl (qe rfl rfl))) 036) ?_);exact⟨by rw[qv,qv];exact wH _,rfl,_,v5,I,rfl,w,by rw[qv,<-qv S n v5,uj]⟩
def qe0{j:Type}{g:j->D}{n:Nat}{bind:024}{test:022}{elt:007}{xs:List j}(R:En->Prop)(I:List j->List D->Sr->Prop)(c:∀ρ S,test ρ S=.ok true S)(H:∀(pre:List j) (d:j) (f:List j) (ρ:En) (m:04) (S:Sr),xs=pre++d::f->R ρ->I pre m S->S.length=n->∃ρ1 v h,bind (g d) ρ (S++[.l m])=.ok ρ1 (S++[.l m])/\R ρ1/\elt ρ1 (S++[.l m])=.ok v (h++[.l m])/\h.length=n/\refsLt 0 v=true/\I (pre++[d]) (m++[v]) h):
  ∀(f pre:List j) (a:04) (ρ:En) (S:Sr),xs=pre++f->a.length+f.length<=1000->R ρ->I pre a S->S.length=n ->
  ∃ρ' i h,lcLoop n bind test elt (f.map g) ρ (S++[.l a])=.ok ρ' (h++[.l i])/\I xs i h/\h.length=n
 |[],pre,a,ρ,S,he,_,_,hI,hn=>⟨ρ,a,S,by simp[lcLoop],by rw[he,vu];exact hI,hn⟩
 |d::ds,pre,a,ρ,S,he,hl,hR,hI,hn=>by
  obtain⟨ρ1,v,h,e1,o,r,l,s,p⟩:=H pre d ds ρ a S he hR hI hn;simp only[wY]at hl;rw[wj];unfold lcLoop;have u:appD (h++[.l a]) (.ref n) v=.ok .non (h++[.l (a++[v])]):=by
   subst l;have q:a.length<PySem.sizeLine:=by unfold PySem.sizeLine;lia
   simp[appD,s,q]
  rw[e1,Res.bind_ok,c,Res.bind_ok,wN rfl,r,Res.bind_ok,u,Res.bind_ok];exact qe0 R I c H ds (pre++[d]) (a++[v]) ρ1 h (by rw[he];simp) 030 o p l
def qlW{h:Type}{g:h->D}{F:Fs}{fr:List Nat}{nt:Nat}{elt:CE}{tg:CT}{it:CI}{ρ:En}{S S1:Sr}{ds:04}(xs:List h)(R:En->Prop)(I:List h->List D->Sr->Prop)(l:evI F it ρ S=.ok ds S1)(hd:ds=xs.map g)(o:R (frE ρ fr nt))(hl:xs.length<=1000)(hi:I [] [] S1)(H:∀(pre:List h) (d:h) (i:List h) (ρ:En) (m:04) (S:Sr),xs=pre++d::i->R ρ->I pre m S->S.length=S1.length->∃ρ1 v a,asg F tg (g d) ρ (S++[.l m])=.ok ρ1 (S++[.l m])/\R ρ1/\ev F elt ρ1 (S++[.l m])=.ok v (a++[.l m])/\a.length=S1.length/\refsLt 0 v=true/\I (pre++[d]) (m++[v]) a):
  ∃c a,ev F (.lc false fr nt elt tg it .nil) ρ S=.ok (.l c) a/\I xs c a/\a.length=S1.length:=by
 obtain⟨ρ',f,a,e,p,j⟩:=qe0 (n:=S1.length) (bind:=λd ρ S=>asg F tg d ρ S) (test:=λρ S=>tsts F .nil ρ S) (elt:=λρ S=>ev F elt ρ S) R I (λ_ _=>by simp[tsts]) H xs [] [] _ S1 rfl (by simpa using hl) o hi rfl;refine⟨f,a,?_,p,j⟩;simp only[ev,l,Res.bind,hd,e,lcEnd];rw[<-j];simp
def qjB{d n:Nat}{v:Int}{w:Wb}{S:Sr}(hw:WbOk w)(hn:n<S.length)(N:0<=v):Ok (G (d+2) 49 [.ref n,webD w] (pk S n v)) λy T=>∃(r:Wb) (u:Int),WbOk r/\r.costs.length=w.costs.length/\r.ties.length=w.ties.length/\y=webD r/\0<=u/\T=pk S n u:=by
 have A:=hw.c2;have B:=hw.t1;rw[G_at (c:=c_49) rfl];refine yG (f:=c_49) rfl rfl ?_;obtain⟨p,O,P,⟨cs,q,rfl,rfl,C,l⟩,_,h⟩:=qdE (g:=.int) (F:=G (d+1)) (fr:=[0]) (nt:=1) (elt:=.bin .add 05 (.call 31 (.c 02 (.c (.k (.int 100)) .n)))) (tg:=.v 1) (it:=.seq (.idx 06 003)) (ρ:=[some (.ref n),some 012,none]) (S:=pk S n v) (S1:=pk S n v) (ds:=w.costs.map .int) w.costs (λρ=>∃x,ρ=[some (.ref n),x])
  (λm U=>∃(cs:008) (u:Int),m=cs.map .int/\U=pk S n u/\0<=u/\∀c∈cs,1<=c/\c<=100) rfl rfl ⟨_,rfl⟩ 00 ⟨[],v,rfl,rfl,N,by simp⟩ (by
   rintro c hc ρ m U ⟨x,rfl⟩ ⟨cs,u,rfl,rfl,E,l⟩ Q W;have f:=fm (v:=u) (m:=100) 01;have e:=zw (d:=d) (n:=n) (v:=u) (m:=100) (S:=S) (T:=[.l (cs.map .int)]) hn 01 01;refine⟨_,.int (1+u.fmod 100),pk S n (u.fdiv 100),rfl,⟨_,rfl⟩,qm rfl (qh rfl e) badd,by rw[qv,qv],rfl,cs++[1+u.fmod 100],u.fdiv 100,by simp,rfl,wc E 01,λc hc=>?_⟩;rcases wa.mp hc with z|z
   .exact l c z
   .rw [wV.mp z];lia)
 rw[wF]at h;refine qO (Ok.of (qF (qe P rfl) (show bltD .tuple [.l (cs.map .int)] (pk S n q)=.ok (tupI cs) (pk S n q)from rfl)) (Ok.of (a:=[some (.ref n),some 012,some (tupI cs)]) rfl ?_));obtain⟨p,O,H,⟨ts,I,rfl,rfl,J,o,i⟩,_⟩:=qlW (g:=tieD) (F:=G (d+1)) (fr:=[0]) (nt:=2) (elt:=.t (.c 06 (.c (.bin .add 05 (.call 31 (.c 02 (.c (.bin .pow (.k (.int 10)) (.k (.int 6))) .n)))) .n))) (tg:=.t 034) (it:=.seq (.idx 06 05)) (ρ:=[some (.ref n),some 012,some (tupI cs)]) (S:=pk S n q) (S1:=pk S n q) (ds:=w.ties.map tieD) w.ties (λρ=>∃x y,ρ=[some (.ref n),x,y])
  (λpre m U=>∃(ts:List Tie) (u:Int),m=ts.map tieD/\U=pk S n u/\0<=u/\(∀t∈ts,1<=t.2/\t.2<=1000000)/\ts.map (·.1)=pre.map (·.1)) rfl rfl ⟨_,_,rfl⟩ 00 ⟨[],q,rfl,rfl,C,by simp,rfl⟩ (by
   rintro pre t X ρ m U L ⟨x,y,rfl⟩ ⟨ts,u,rfl,rfl,E,o,i⟩ Q;have f:=fm (v:=u) (m:=1000000) 01;have e:=zw (d:=d) (n:=n) (v:=u) (m:=1000000) (S:=S) (T:=[.l (ts.map tieD)]) hn 01 01;refine⟨_,tieD (t.1,1+u.fmod 1000000),pk S n (u.fdiv 1000000),rfl,⟨_,_,rfl⟩,qZ (qe rfl (qe (qm rfl (qh (qe rfl (qe (pow6 _ _ _) rfl)) e) badd) rfl)) 036,by rw[qv,qv],yZ 0 _,ts++[(t.1,1+u.fmod 1000000)],u.fdiv 1000000,by simp,rfl,wc E 01,λs hs=>?_,by rw[vL,vL,i];rfl⟩;rcases wa.mp hs with z|z
   .exact o s z
   .rw [wV.mp z];exact⟨by show 1<=1+u.fmod 1000000;lia,by show 1+u.fmod 1000000<=1000000;lia⟩)
 have j:ts.length=w.ties.length:=by have:=congrArg List.length i;rwa [wF,wF]at this
 have K:WbOk ⟨cs,ts⟩:=by
  refine⟨by show 1<=cs.length;rw[h];exact hw.c1,by show cs.length<=12;rw[h];exact A,l,by show ts.length<=30;rw[j];exact B,λt M=>?_,by show(ts.map (·.1)).Pairwise _;rw[i];exact hw.t3⟩;have hm:t.1∈w.ties.map (·.1):=by rw[<-i];exact List.mem_map_of_mem M
  obtain⟨s,hs,es⟩:=w8.mp hm;obtain⟨q1,q2,_⟩:=hw.t2 s hs;rw[es]at q1 q2;exact⟨by show PlOk cs.length t.1;rw[h];exact q1,q2,o t M⟩
 refine qaM (Ok.of (a:=webD ⟨cs,ts⟩) (S:=pk S n I) (qZ (qe rfl (qe (qF (qe H rfl) rfl) rfl)) 036) ?_);exact⟨by rw[qv,qv];exact wH _,zU _ qcZ,⟨cs,ts⟩,I,K,h,j,rfl,J,by rw[qv,<-qv S n I,uj]⟩
def qlX{m x s:Int}(hs:1<=s):lsn (m,1) (lw x s)=lw (m*s-x) s:=by
 have a:=zt (t:=x) hs;have e1:=zL (t:=x) hs;have h:=zL (t:=m*s-x) hs;unfold lsn;have c:1<=1*(lw x s).2:=by have:=a.pos;lia
 refine yh (zt c) (zt hs) ?_;have d:=zL (t:=m*(lw x s).2-(lw x s).1*1) c;dsimp only at d ⊢;generalize lw (m*(lw x s).2-(lw x s).1*1) (1*(lw x s).2)=A at *;generalize lw (m*s-x) s=B at *;have f:0<(lw x s).2*s:=Int.mul_pos (by have:=a.pos;lia) 00;generalize lw x s=P at *;have:(A.1*B.2)*(P.2*s)=(B.1*A.2)*(P.2*s):=by grind
 exact wh 00 this
def qh7(n:Nat):(List.replicate n (0:Int)).sum=0:=by
 induction n with
 |zero=>rfl
 |succ k a=>rw[ww,uK,a];rfl
def qce:∀{l:008} {i:Nat} {x v:Int},l[i]?=some x->(l.set i v).sum=l.sum-x+v
 |[],i,x,v,h=>by simp at h
 |a::r,0,x,v,h=>by simp at h;subst h;simp;lia
 |a::r,i+1,x,v,h=>by
  simp at h;rw[List.set_cons_succ,uK,uK,qce h];lia
noncomputable abbrev fE(n:Nat)(w:Wb)(k:Nat)(a b c e:Option D):En:=[some (.ref n),some 012,some (.ref k),a,b,c,e]
def qnq{x s:Int}(a:1<=s)(c:s<=1000000)(d:x.natAbs<2^60):Nx (2^60) 20 (lw x s):=qeU a (vD c 01) (by
 have:=wz a (show(0:Int)<=2^60 by decide);lia)
def qjC{d n:Nat}{v:Int}{S:Sr}{w:Wb}(hw:WbOk w)(hn:n<S.length)(hv:0<=v):Ok (G (d+3) 50 [.ref n,webD w] (pk S n v)) λy T=>∃l u,LyOk 1000000 w.ties l/\0<=u/\y=.t 013/\T=pk S n u:=by
 rw[G_at (c:=c_50) rfl];refine yG (f:=c_50) rfl rfl ?_;refine qO (Ok.of (a:=.ref S.length) (S:=pk S n v++[.l []]) (by have:=qbW (F:=G (d+2)) (ρ:=[some (.ref n),some 012,none,none,none,none,none]) (S:=pk S n v) (S1:=pk S n v) (es:=.nil) (l:=[]) rfl 01 rfl;rw[qv]at this;exact this) (Ok.of (a:=fE n w S.length none none none none) rfl ?_));refine qbu (g:=tieD) (λpre ρ T=>∃a b c e l u X,ρ=fE n w S.length a b c e/\LyOk 1000000 pre l/\0<=u/\T=pk S n u++(.l 013::X)) w.ties (Ok.of (a:=w.ties.map tieD) (S:=pk S n v++[.l []]) rfl ⟨rfl,_,_,_,_,[],v,[],rfl,⟨rfl,by simp⟩,hv,rfl⟩) ?_ ?_
 .rintro pre t a5 ρ T B ⟨a0,b0,c0,H,l,u,X,rfl,hl,W,rfl⟩
  have ht:=hw.t2 t (by rw[B];simp);have I:=ht.2.2;have a1:1<=t.1.length:=by
   cases hc:t.1 with
   |nil=>exact absurd hc ht.1.ne
   |cons a r=>simp
  have a6:l.length<=100:=by
   have:=congrArg List.length B;have:=hw.t1;have:=hl.1;rw[wP,wY]at *;lia
  refine Ok.of (a:=fE n w S.length (some (tupI t.1)) (some (.int t.2)) c0 H) rfl ?_;generalize hY:(SO.l 013::X)=Y;have J:Y[0]?=some (.l 013):=by rw[<-hY];rfl
  have z2:PySem.sizeLine>=2:=by simp[PySem.sizeLine]
  have eb:ev (G (d+2)) (.binM .mul (.l false (.c 049 .n)) (.blt .len (.c 000 .n))) (fE n w S.length (some (tupI t.1)) (some (.int t.2)) c0 H) (pk S n u++Y)=.ok (.ref (S.length+Y.length)) (pk S n u++(Y++[.l (List.replicate t.1.length (nmD (0,1)))])):=by
   refine qdO (d1:=.l [nmD (0,1)]) (S1:=pk S n u++Y) (zg (qe (qZ (qe rfl (qe rfl rfl)) z2) rfl) 07) (qF rfl (ym _ _)) ?_;rw[qaP rfl 00,yJ,wy]
  refine qO (Ok.of eb (Ok.of (a:=fE n w S.length (some (tupI t.1)) (some (.int t.2)) (some (.ref (S.length+Y.length))) H) rfl ?_));have C:∀(i x j:Int) (e6:Option D),1<=i->i<=1000000->0<=x->x<=i->(t.1.length=1->x=0)->0<=j ->
    Ok (exs (G (d+2)) NW (.c (.set (.sub (.v 5) (.neg 05)) (.call 34 (.c (.t (.c (.v 4) (.c 05 .n))) (.c (.idx (.v 5) 003) .n)))) (.c (.expr (.app 002 (.blt .tuple (.c (.v 5) .n)))) .n)) (fE n w S.length (some (tupI t.1)) (some (.int t.2)) (some (.ref (S.length+Y.length))) e6) (pk S n j++(Y++[.l ((List.replicate t.1.length (nmD (0,1))).set 0 (nmD (lw x i)))]))) λf S2=>match f with
     | .nx a2=>∃a b c e l u X,a2=fE n w S.length a b c e/\LyOk 1000000 (pre++[t]) l/\0<=u/\S2=pk S n u++(.l 013::X)
     |_=>False:=by
   intro i x j e6 o K a7 a8 Z s;have a9:i<=t.2*i:=by
    have:=wm I.1 (show 0<=i by lia);lia
   have aa:t.2*i<=1000000*i:=wm I.2 00;have nx:=qnq o K (show x.natAbs<2^60 by lia);have nm:Nx (2^60) 0 ((t.2,1):Am):=⟨by show(1:Int)<=1;decide,by show(1:Int)<=2^0;decide,by show(t.2.natAbs:Int)<=2^60*1;lia⟩;have er:=qb8 (d:=d) (p:=(t.2,1)) (q:=lw x i) (S:=pk S n j++(Y++[.l ((List.replicate t.1.length (nmD (0,1))).set 0 (nmD (lw x i)))])) (nm.fit (v9 01) 01) (nx.fit (v9 01) 01) (jd nm nx 01);rw[qlX o]at er;have A:=jb (S:=S) (n:=n) j Y (.l ((List.replicate t.1.length (nmD (0,1))).set 0 (nmD (lw x i))));have a3:idxD (pk S n j++(Y++[.l ((List.replicate t.1.length (nmD (0,1))).set 0 (nmD (lw x i)))])) (.ref (S.length+Y.length)) (.int 0)=some (nmD (lw x i)):=by
    have L:L2.ixN ((List.replicate t.1.length (nmD (0,1))).set 0 (nmD (lw x i))).length (0:Int)=some 0:=by
     unfold L2.ixN;rw[wN 01,xh,vb,wN 00];rfl
    simp only[idxD,seqOf,lstOf,A,wX,L2.atI,L];rw[vW (by rw[vb];lia)]
   have hk:L2.ixN ((List.replicate t.1.length (nmD (0,1))).set 0 (nmD (lw x i))).length (-1)=some (t.1.length-1):=by
    rw[xh,vb];exact qeQ a1
   refine qO (Ok.of (qh (qe (qZ (qe rfl (qe rfl rfl)) z2) (qe (qw rfl rfl a3) rfl)) er) (Ok.of (qbw rfl rfl (jP A hk rfl)) ?_));rw[qao];have M:((List.replicate t.1.length (nmD (0,1))).set 0 (nmD (lw x i))).set (t.1.length-1) (nmD (lw (t.2*i-x) i))=((((List.replicate t.1.length (0:Int)).set 0 x).set (t.1.length-1) (t.2*i-x)).map (lw · i)).map nmD:=by
    rw[ul,ul,ul,ul,uL,uL,j7 o]
   rw[M];have N:(((List.replicate t.1.length (0:Int)).set 0 x).set (t.1.length-1) (t.2*i-x)).sum=t.2*i:=by
    have g1:(List.replicate t.1.length (0:Int))[0]?=some 0:=by rw[vC,wN 00]
    by_cases h2:t.1.length=1
    .have L:=Z h2
     subst L;rw[h2];simp
    .have g2:((List.replicate t.1.length (0:Int)).set 0 x)[t.1.length-1]?=some 0:=by rw[vi 00,vC,wN 00]
     rw[qce g2,qce g1,qh7];lia
   have hA:AmOk 1000000 t ((((List.replicate t.1.length (0:Int)).set 0 x).set (t.1.length-1) (t.2*i-x)).map (lw · i)):=by
    refine⟨_,i,o,K,by simp,N,?_,rfl⟩;intro z hz;rcases uP hz with q|q
    .rcases uP q with q|q
     .rw [vV]at q;lia
     .lia
    .lia
   generalize (((List.replicate t.1.length (0:Int)).set 0 x).set (t.1.length-1) (t.2*i-x)).map (lw · i)=ps at hA;have A:=jb (S:=S) (n:=n) j Y (.l 029);have O:(Y++[SO.l 029])[0]?=some (.l 013):=by rw[wL (wG.mp J).1];exact J
   have P:bltD .tuple [.ref (S.length+Y.length)] (pk S n j++(Y++[.l 029]))=.ok (.t 029) (pk S n j++(Y++[.l 029])):=by
    simp only[bltD,one,bTuple,seqOf,lstOf,A,wn,ofO]
   refine qdF (qhz (Ok.of (a:=.ref S.length) (S:=pk S n j++(Y++[.l 029])) rfl ⟨S.length,lyD l,rfl,by rw[jj];exact O,Ok.of (a:=.t 029) (S:=pk S n j++(Y++[.l 029])) (qF rfl P) ⟨by rw[jj];exact O,by unfold lyD;rw[wF];lia,(show refsLt 0 (.t 029)=true from zM _),?_⟩⟩));refine zX ⟨_,_,_,_,l++[ps],j,X++[.l 029],rfl,qeO hl hA,s,?_⟩;rw[<-hY,va _ _ (by rw[qv];lia),qv];simp[lyD]
  have tg:tst (G (d+2)) (.val (.cmp .gt (.blt .len (.c 000 .n)) 05)) (fE n w S.length (some (tupI t.1)) (some (.int t.2)) (some (.ref (S.length+Y.length))) H) (pk S n u++(Y++[.l (List.replicate t.1.length (nmD (0,1)))]))=.ok (decide ((1:Int)<t.1.length)) (pk S n u++(Y++[.l (List.replicate t.1.length (nmD (0,1)))])):=t_of (qH (qF rfl (ym _ _)) rfl rfl);by_cases Z:t.1.length=1
  .rw [wU 00]at tg
   refine qb4 tg ?_;have:=C 1 0 u H 01 01 01 01 (λ_=>rfl) W;have e:(List.replicate t.1.length (nmD (0,1))).set 0 (nmD (lw 0 1))=List.replicate t.1.length (nmD (0,1)):=by rw[Z];rfl
   rw[e]at this;exact this
  .rw [wQ 00]at tg
   refine qc5 tg ?_;have f6:=fm (v:=u) (m:=1000000) 01;have Q:=zw (d:=d+1) (n:=n) (v:=u) (m:=1000000) (S:=S) (T:=Y++[.l (List.replicate t.1.length (nmD (0,1)))]) hn 01 01;have U:0<=u.fdiv 1000000:=wc W 01;generalize u.fdiv 1000000=u2 at Q U;obtain⟨i,a4⟩:∃i:Int,1+u.fmod 1000000=i:=⟨_,rfl⟩;refine qO (Ok.of (a:=.int i) (S:=pk S n u2++(Y++[.l (List.replicate t.1.length (nmD (0,1)))])) (qm rfl (qh (qe rfl (qe (pow6 _ _ _) rfl)) Q) (by rw[badd,a4])) (Ok.of (a:=fE n w S.length (some (tupI t.1)) (some (.int t.2)) (some (.ref (S.length+Y.length))) (some (.int i))) rfl ?_));have fx:=fm (v:=u2) (m:=i+1) 00;have E:=zw (d:=d+1) (n:=n) (v:=u2) (m:=i+1) (S:=S) (T:=Y++[.l (List.replicate t.1.length (nmD (0,1)))]) hn 00 00;have s:0<=u2.fdiv (i+1):=wc U 00;generalize u2.fdiv (i+1)=j at E s;obtain⟨x,L⟩:∃x:Int,u2.fmod (i+1)=x:=⟨_,rfl⟩;rw[L]at E fx;have hk:L2.ixN (List.replicate t.1.length (nmD (0,1))).length (0:Int)=some 0:=by
    unfold L2.ixN;rw[wN 01,vb,wN 00];rfl
   refine qO (Ok.of (a:=nmD (lw x i)) (S:=pk S n j++(Y++[.l (List.replicate t.1.length (nmD (0,1)))])) (qh (qe (qh (qe rfl (qe (qm rfl rfl badd) rfl)) E) (qe rfl rfl)) (z9 00 00)) (Ok.of (qbw rfl rfl (jP (jb _ _ _) hk rfl)) ?_));rw[qao];exact zX (C i x j _ 00 00 00 00 (λh=>absurd h Z) s)
 .rintro ρ T ⟨a0,b0,c0,H,l,u,X,rfl,hl,W,rfl⟩
  refine qaM (Ok.of (a:=.t 013) (S:=pk S n u++(.l 013::X)) (qF rfl ?_) ⟨by rw[qv,yJ];lia,(show refsLt _ (.t 013)=true from q8 _ (yI l)),l,u,hl,W,rfl,?_⟩)
  .have:(pk S n u++(SO.l 013::X))[S.length]?=some (.l 013):=by rw[jj];rfl
   simp only[bltD,one,bTuple,seqOf,lstOf,this,wn,ofO]
  .have:(pk S n v).length=(pk S n u).length:=by rw[qv,qv]
   rw[this,List.take_left'];rfl
structure WkOk (E cb g:Nat) (ms:List Pt) (w:Wb) (l:020):Prop where
 hw:WbOk w
 hm:MsOk g ms
 hl:LyE E w l
 hE:E<=240
 hc:∀c∈w.costs,c<=2^cb
 h7:w.costs.length<=7
 hb:42*(E+cb+g)<9000
def qjD{d E cb g:Nat}{ms:List Pt}{w:Wb}{l:020}{S:Sr}(h:WkOk E cb g ms w l):G (d+13) 26 [msD ms,webD w,.t 013] S=.ok (nmD (wth ms w.costs (hgt w l))) S:=by
 have hw:=h.hw;have h7:=h.h7;have hb:=h.hb;have i:=qhZ hw h.hl h.hE h.hc;have j:=qfJ (d:=d) (S:=S) hw (h.hl.g h.hE);rw[G_at (c:=c_26) rfl];have n:ev (G (d+12)) (.idx 06 003) [some (msD ms),some 012,some (.t 013)] S=.ok (tupI w.costs) S:=qw (S1:=S) rfl rfl rfl;have p:ev (G (d+12)) (.ife (.val (.isi .tuple (.idx 06 003))) (.call 23 034) (.call 23 034)) [some (msD ms),some 012,some (.t 013)] S=.ok (.t ((hgt w l).map nmD)) S:=qh0 (x:=true) (t_of (by simp only[ev,n,Res.bind];rfl)) (by rw[wN rfl];exact qh rfl j);have o:=qaI (g:=λq:Int×Am=>D.t [.int q.1,nmD q.2]) (F:=G (d+12)) (fr:=[0]) (nt:=2) (elt:=.call 27 (.c 02 034)) (tg:=.t 034) (it:=.zip (.idx 06 003) (.call 23 034)) (ifs:=.nil) (ρ:=[some (msD ms),some 012,some (.t 013)]) (S:=S) (S1:=S) (ds:=(w.costs.zip (hgt w l)).map λq:Int×Am=>D.t [.int q.1,nmD q.2]) (w.costs.zip (hgt w l)) (λ_=>true) (λq=>nmD (plc ms q.1 q.2)) (λρ=>∃y z,ρ=[some (msD ms),y,z]) (by
  have e1:ev (G (d+12)) (.call 23 034) [some (msD ms),some 012,some (.t 013)] S=.ok (.t ((hgt w l).map nmD)) S:=qh rfl j;simp only[evI,n,e1,Res.bind,tupI,walkF];rw[zipW,wo];rfl) rfl ⟨_,_,rfl⟩ (by rw[vq];unfold PySem.sizeLine;lia) (by
  rintro q a ρ m ⟨y,z,rfl⟩;obtain⟨q1,q2⟩:=vB a;have hc:=hw.c3 _ q1;exact⟨_,rfl,⟨_,_,rfl⟩,rfl,λ_=>⟨qh rfl (qa9 (d:=d+6) (i _ q2) 00 h.hm.ok h.hm.l2 hc.1 hc.2),rfl⟩⟩)
 rw[zE]at o;have r:=qc9 (d:=d+9) (f:=6*(E+cb+g)) (V:=100*(6*VV)) (xx:=.l ((w.costs.zip (hgt w l)).map λq=>nmD (plc ms q.1 q.2))) (gd:=λ_=>True) (ps:=(w.costs.zip (hgt w l)).map λq=>plc ms q.1 q.2) (S:=S) (by rw[wo];rfl) trivial (λx s=>by
  obtain⟨q,a,rfl⟩:=w8.mp s;obtain⟨q1,q2⟩:=vB a;have hc:=hw.c3 _ q1;exact qb9 (i _ q2) h.hm.ok h.hm.l2 hc.1 hc.2) (by
  rw[wF,vq];have:min w.costs.length (hgt w l).length*(6*(E+cb+g))<=7*(6*(E+cb+g)):=vg _ 00;lia) (by rw[wF,vq];lia) (by decide) (vD (show(12:Int)*(100*(6*VV))<=2^200 by decide) (v9 (by decide)))
 exact qr rfl (x_expr (S1:=S) (qh rfl (yu (d:=d+4) hw)) (x_no (S1:=S) (tc (t_no (x:=true) (t_of (qh rfl (qh5 (d:=d+6) h.hm))))) (qhW p (qh (qe o rfl) r))))
def NoWb(y:D):Prop:=refsLt 0 y=true/\isWebB y=false
structure NoLy (w:Wb) (y:D):Prop where
 r:refsLt 0 y=true
 s:lsm y=true
 n:layB w y=false
def qh8{d:Nat}{m y x:D}{S:Sr}(h:NoWb y):G (d+13) 26 [m,y,x] S=.err (.exc 37) S:=by
 rw[G_at (c:=c_26) rfl];exact qaN rfl (ja (qdJ (jN rfl (qc0 (d:=d+4) h.1 h.2))))
def qh9{d:Nat}{w:Wb}{m x:D}{S:Sr}(hw:WbOk w)(h:NoMs m):G (d+13) 26 [m,webD w,x] S=.err (.exc 73) S:=by
 rw[G_at (c:=c_26) rfl];have e:=qeZ (d:=d+6) (S:=S) h.r h.s;rw[h.n]at e;exact qaN rfl (x_expr (S1:=S) (qh rfl (yu (d:=d+4) hw)) (ja (qdI (S1:=S) (tc (t_no (x:=false) (t_of (qh rfl e)))) (ja rfl))))
def qia{d g:Nat}{w:Wb}{ms:List Pt}{x:D}{S:Sr}(hw:WbOk w)(hm:MsOk g ms)(h:NoLy w x):G (d+13) 26 [msD ms,webD w,x] S=.err (.exc 61) S:=by
 rw[G_at (c:=c_26) rfl];have a:ev (G (d+12)) (.idx 06 003) [some (msD ms),some 012,some x] S=.ok (tupI w.costs) S:=qw (S1:=S) rfl rfl rfl;have f:tst (G (d+12)) (.val (.isi .tuple (.idx 06 003))) [some (msD ms),some 012,some x] S=.ok true S:=t_of (by simp only[ev,a,Res.bind];rfl);have i:ev (G (d+12)) (.call 23 034) [some (msD ms),some 012,some x] S=.err (.exc 61) S:=jN rfl (qdN (d:=d) λS=>qc1 hw h.r h.s h.n);have j:ev (G (d+12)) (.ife (.val (.isi .tuple (.idx 06 003))) (.call 23 034) (.call 23 034)) [some (msD ms),some 012,some x] S=.err (.exc 61) S:=by
  simp only[ev];rw[f,Res.bind_ok,wN rfl];simpa only[ev]using i
 exact qaN rfl (x_expr (S1:=S) (qh rfl (yu (d:=d+4) hw)) (x_no (S1:=S) (tc (t_no (x:=true) (t_of (qh rfl (qh5 (d:=d+6) hm))))) (ja (qeN j))))
def qlY{F:Fs}{N:Nat}{ρ ρ':En}{S S1 S2:Sr}{t:List (PySem.Addr×Bool)}{i:Nat}{b s r:CSs}{C:PySem.Addr}{X:Res R.Fl}(h:exs F N b ρ S=.err (.exc C) S1)(a:lookA C t=some true)(c:exs F N s (ρ.set i (some (.exc C))) S1=.ok (.nx ρ') S2)(d:exs F N r (ρ'.set i none) S2=X):exs F N (.c (.tryX t i b s) r) ρ S=X:=by
 simp only[exs,ex,h,a,c,Res.bind];exact d
noncomputable def wrd(C:PySem.Addr):D:=if C=37 then .str (PySem.Str.ofString "web")else if C=61 then .str (PySem.Str.ofString "laying")else .str (PySem.Str.ofString "measure")
def Mine(C:PySem.Addr):Prop:=C=37\/C=61\/C=73
def qlZ{d:Nat}{S:Sr}{C:PySem.Addr}(h:Mine C):G (d+1) 44 [.exc C] S=.ok (wrd C) S:=by
 rw[G_at (c:=c_44) rfl];refine qr rfl ?_;rcases h with rfl|rfl|rfl
 all_goals
  simp[c_44,exs,ex,ev,evs,varE,Res.bind,isxD,lookA,newL,PySem.sizeLine,asg,binD,lstOf,catOk,tst,truD,bltD,one,bSumB,boolsOf,cmpD,eqD,ixtD,wrd,idxD,seqOf,L2.atI,L2.ixN]
  try rfl
def qcf{d:Nat}{m y x:D}{S:Sr}{C:PySem.Addr}(a:Mine C)(h:G (d+13) 26 [m,y,x] S=.err (.exc C) S):G (d+14) 47 [m,y,x] S=.ok (wrd C) S:=by
 rw[G_at (c:=c_47) rfl];have hl:lookA C [(61,true),(73,true),(37,true)]=some true:=by rcases a with rfl|rfl|rfl <;> decide
 have f:=qlZ (d:=d+12) (S:=S) a;exact qr rfl (qG (S1:=S) (d:=.non) (ρ1:=[some m,some y,some x,some .non,none]) rfl rfl (qlY (ja (qdJ (jN rfl h))) hl (ρ':=[some m,some y,some x,some (.exc C),some (.exc C)]) (qG (S1:=S) (d:=.exc C) rfl (ρ1:=[some m,some y,some x,some (.exc C),some (.exc C)]) rfl zK) (x_no (S1:=S) (t_of (qH rfl rfl rfl)) (qA (qh rfl f)))))
def qjE{d:Nat}{m y x:D}{S:Sr}(h:NoWb y):G (d+14) 47 [m,y,x] S=.ok (.str (PySem.Str.ofString "web")) S:=qcf (C:=37) (.inl rfl) (qh8 h)
def qjF{d:Nat}{w:Wb}{m x:D}{S:Sr}(hw:WbOk w)(h:NoMs m):G (d+14) 47 [m,webD w,x] S=.ok (.str (PySem.Str.ofString "measure")) S:=qcf (C:=73) (.inr (.inr rfl)) (qh9 hw h)
def qjG{d g:Nat}{w:Wb}{ms:List Pt}{x:D}{S:Sr}(hw:WbOk w)(hm:MsOk g ms)(h:NoLy w x):G (d+14) 47 [msD ms,webD w,x] S=.ok (.str (PySem.Str.ofString "laying")) S:=qcf (C:=61) (.inr (.inl rfl)) (qia hw hm h)
def qN{F:Fs}{ρ:En}{U:Sr}{e:CE}{d:D}(h:ev F e ρ U=.ok d U):ev F (.t (.cons e .nil)) ρ U=.ok (.t [d]) U:=qZ (qe h rfl) 036
def qM{F:Fs}{ρ:En}{U:Sr}{e1 e2:CE}{d1 d2:D}(a:ev F e1 ρ U=.ok d1 U)(c:ev F e2 ρ U=.ok d2 U):ev F (.t (.cons e1 (.cons e2 .nil))) ρ U=.ok (.t [d1,d2]) U:=qZ (qe a (qe c rfl)) 036
def yo{F:Fs}{ρ:En}{U:Sr}:ev F (.t .nil) ρ U=.ok (.t []) U:=qZ rfl 07
def brepT{a:04}{k:Nat}{S:Sr}(h:a.length*k<=1000)(c:k<=1000):binD .mul (.t a) (.int k) S=some (.t (rep a k)):=by
 have:repOk a (k:Int)=true:=by
  unfold repOk PySem.sizeLine;rw[vH];refine⟨by omega,by omega,?_⟩;have:((k:Int)).toNat=k:=by omega
  rw[this];omega
 simp[binD,this]
section
variable(w:Wb)
noncomputable def csL:List D:=w.costs.map .int
noncomputable def tsL:List D:=w.ties.map tieD
noncomputable def owX(t:04):D:=.t [tupI w.costs,.t t]
noncomputable def owC(c:04):D:=.t [.t c,.t (tsL w)]
noncomputable def owA:List D:=[.non,.int 7,.bl true,.str (PySem.Str.ofString "web"),.t [],.l [],.emp,tupI w.costs,.t [tupI w.costs],.l [tupI w.costs,.t (tsL w)],.t [.l (csL w),.t (tsL w)],.t [tupI w.costs,.l (tsL w)]]
noncomputable def owB:List D:=[.t [.t [],.t []],owC w ([.int 0]++cutD (csL w) (some 1) none),owC w (cutD (csL w) none (some (-1))++[.int 101]),owC w ([.bl true]++cutD (csL w) (some 1) none)]
noncomputable def owD:List D:=[owX w (tsL w++[.t [.t [.int w.costs.length],.int 1]]),owX w (tsL w++[.t [.t [],.int 1]]),owX w [.t [.t [.int 0],.int 0]]]
noncomputable def owE:List D:=[owX w [.t [.t [.int 0],.bl true]],owX w [.t [.t [.int 0,.int 0],.int 1]],owX w [.t [.t [.int 0],.int (1000000+1)]]]
noncomputable def owF:List D:=[owX w [.t [.t [.int 0],.int 1],.t [.t [.int 0],.int 2]],owX w [.t [.l [.int 0],.int 1]],.t [.t (rep [.int 1] ((13:Nat):Int)),.t []]]
noncomputable def owG:List D:=[owX w [.t [.int 0,.int 1]],.t ([tupI w.costs,.t (tsL w)]++[.t []])]
noncomputable def odW:List D:=owA w++owB w++owD w++owE w++owF w++owG w
end
section
variable{w:Wb}
theorem jx:refsLts 0 (tsL w)=true:=qJ (by intro y a;obtain⟨z,_,rfl⟩:=w8.mp a;exact yZ 0 z)
theorem r_cs:refsLts 0 (csL w)=true:=by have:=qU 0 w.costs;exact this
theorem qaX{l:04}(h:refsLts 0 l=true)(a b:Option Int):refsLts 0 (cutD l a b)=true:=qJ λx c=>qB h ((jL l a b).1 x c)
theorem je{t:04}(a:refsLts 0 t=true){y:D}(c:y∈t)(h:tieB w.costs.length y=false):NoWb (owX w t):=by
 refine⟨by simp[owX,refsLt,refsLts,qU,a],?_⟩;have e:t.all (tieB (w.costs.length:Int))=false:=by
  rw[uy];exact⟨y,c,by rw[h];simp⟩
 have e2:tiesB (w.costs.length:Int) (.t t)=false:=by simp only[tiesB,e,vE,vP]
 show(costsB (tupI w.costs)&&tiesB ((w.costs.map D.int).length:Nat) (.t t))=false;rw[wF,e2,vE]
theorem qdU{c:04}(a:refsLts 0 c=true){y:D}(d:y∈c)(h:wholeB 1 100 y=false):NoWb (owC w c):=by
 refine⟨by simp[owC,refsLt,refsLts,a,jx],?_⟩;have e:c.all (wholeB 1 100)=false:=by
  rw[uy];exact⟨y,d,by rw[h];simp⟩
 show(costsB (.t c)&&_)=false;simp only[costsB,e,vE,vP]
theorem jn{a b:04}(c:refsLts 0 a=true)(d:refsLts 0 b=true):refsLts 0 (a++b)=true:=qJ λx f=>(wa.mp f).elim (qB c) (qB d)
theorem qib:∀y∈odW w,NoWb y:=by
 intro y c;unfold odW owA owB owD owE owF owG at c;simp only[wa,wW,wx,u8,or_assoc]at c;rcases c with rfl|rfl|rfl|rfl|rfl|rfl|rfl|rfl|rfl|rfl|rfl|rfl|rfl|rfl|rfl|rfl|rfl|rfl|rfl|rfl|rfl|rfl|rfl|rfl|rfl|rfl|rfl
 .exact ⟨rfl,rfl⟩
 .exact ⟨rfl,rfl⟩
 .exact ⟨rfl,rfl⟩
 .exact ⟨rfl,rfl⟩
 .exact ⟨rfl,rfl⟩
 .exact ⟨rfl,rfl⟩
 .exact ⟨rfl,rfl⟩
 .refine ⟨qU 0 _,?_⟩
  unfold tupI;cases w.costs with
  |nil=>rfl
  |cons a r =>
   cases r with
   |nil=>rfl
   |cons b r=>cases r <;> rfl
 .exact ⟨by simp[refsLt,refsLts,qU],rfl⟩
 .exact ⟨by simp[refsLt,refsLts,qU,jx],rfl⟩
 .exact ⟨by simp[refsLt,refsLts,r_cs,jx],rfl⟩
 .refine ⟨by simp[refsLt,refsLts,qU,jx],?_⟩
  show(costsB (tupI w.costs)&&false)=false;rw[vE]
 .exact ⟨rfl,rfl⟩
 .exact qdU (jn rfl (qaX r_cs _ _)) (y:=.int 0) 07 rfl
 .exact qdU (jn (qaX r_cs _ _) rfl) (y:=.int 101) 07 rfl
 .exact qdU (jn rfl (qaX r_cs _ _)) (y:=.bl true) 07 rfl
 .exact je (jn jx rfl) (y:=.t [.t [.int w.costs.length],.int 1]) 07 (by simp[tieB,placesB,intsOf];intro h;lia)
 .exact je (jn jx rfl) (y:=.t [.t [],.int 1]) 07 rfl
 .exact je rfl (y:=.t [.t [.int 0],.int 0]) 07 (by simp[tieB,wholeB])
 .exact je rfl (y:=.t [.t [.int 0],.bl true]) 07 (by simp[tieB,wholeB])
 .exact je rfl (y:=.t [.t [.int 0,.int 0],.int 1]) 07 (by simp[tieB,placesB,intsOf,upB])
 .exact je rfl (y:=.t [.t [.int 0],.int (1000000+1)]) 07 (by simp[tieB,wholeB])
 .refine ⟨by simp[owX,refsLt,refsLts,qU],?_⟩
  have:tiesB (lenT (tupI w.costs)) (.t [.t [.t [.int 0],.int 1],.t [.t [.int 0],.int 2]])=false:=by
   have e:upT ([D.t [.t [.int 0],.int 1],.t [.t [.int 0],.int 2]].map keyT)=false:=by decide
   simp only[tiesB,e,vE]
  show(costsB (tupI w.costs)&&_)=false;rw[this,vE]
 .exact je rfl (y:=.t [.l [.int 0],.int 1]) 07 rfl
 .exact ⟨by decide,by decide⟩
 .exact je rfl (y:=.t [.int 0,.int 1]) 07 rfl
 .exact ⟨by simp[refsLt,refsLts,qU,jx],rfl⟩
noncomputable abbrev oE(w:Wb)(L:04):En:=[some 012,some (tupI w.costs),some (.t (tsL w)),some (.l L)]
set_option maxHeartbeats 1000000 in
theorem qdV{d:Nat}{S:Sr}(h:WbOk w):G (d+1) 45 [webD w] S=.ok (.l (odW w)) S:=by
 have f:=h.c2;have i:=h.t1;have j:(csL w).length<=12:=by unfold csL;rw[wF];exact f
 have m:(tsL w).length<=30:=by unfold tsL;rw[wF];exact i
 have p:=qJ λy n=>(qib (w:=w) y n).1
 rw[G_at (c:=c_45) rfl];have q:∀(L M:04) {e:CE} {U:Sr},L.length+M.length<=60->ev (G d) e (oE w L) U=.ok (.l M) U->ev (G d) (.bin .add 000 e) (oE w L) U=.ok (.l (L++M)) U:=λL M {e U} hl h=>qm rfl h (bcat 00)
 have k1:=(jL (csL w) (some 1) none).2;have k2:=(jL (csL w) none (some (-1))).2;have o:ev (G d) (.l false (.c (.k .non) (.c (.k (.int 7)) (.c (.k (.bl true)) (.c (.k (.str (PySem.Str.ofString "web"))) (.c (.t .nil) (.c (.l false .nil) (.c (.dic false) (.c 06 (.c (.t 027) (.c (.blt (.list false) (.c 02 .n)) (.c (.t (.c (.blt (.list false) 027) 032)) (.c (.t (.c 06 (.c (.blt (.list false) 032) .n))) .n))))))))))))) [some 012,some (tupI w.costs),some (.t (tsL w)),none] S=.ok (.l (owA w)) S :=
  zg (qe rfl (qe rfl (qe rfl (qe rfl (qe yo (qe (zg rfl 07) (qe rfl (qe rfl (qe (qN rfl) (qe (qF (l:=[webD w]) rfl rfl) (qe (qM (qF (l:=[tupI w.costs]) rfl rfl) rfl) (qe (qM rfl (qF (l:=[.t (tsL w)]) rfl rfl)) rfl)))))))))))) (by simp[owA])
 refine qr rfl (qG (d:=webD w) (S1:=S) rfl (ρ1:=[some 012,some (tupI w.costs),some (.t (tsL w)),none]) rfl (qG o (ρ1:=oE w (owA w)) rfl ?_));refine qG (q (owA w) (owB w) (by simp[owA,owB]) (zg (qe (qM yo yo) (qe (qM (qm (qN rfl) (qaf (l:=csL w) rfl rfl rfl) (bcatT 030)) rfl) (qe (qM (qm (qaf (l:=csL w) rfl rfl rfl) (qN rfl) (bcatT (a:=cutD (csL w) none (some (-1))) (b:=[.int 101]) 030)) rfl) (qe (qM (qm (qN rfl) (qaf (l:=csL w) rfl rfl rfl) (bcatT 030)) rfl) rfl)))) (by simp[owB]))) (ρ1:=oE w (owA w++owB w)) rfl ?_;refine qG (q _ (owD w) (by simp[owA,owB,owD]) (zg (qe (qM rfl (qm (d1:=.t (tsL w)) rfl (qN (qM (qN (qF rfl (ym _ _))) rfl)) (bcatT 030))) (qe (qM rfl (qm (d1:=.t (tsL w)) rfl (qN (qM yo rfl)) (bcatT 030))) (qe (qM rfl (qN (qM (qN rfl) rfl))) rfl))) (by simp[owD]))) (ρ1:=oE w (owA w++owB w++owD w)) rfl ?_;refine qG (q _ (owE w) (by simp[owA,owB,owD,owE]) (zg (qe (qM rfl (qN (qM (qN rfl) rfl))) (qe (qM rfl (qN (qM (qM rfl rfl) rfl))) (qe (qM rfl (qN (qM (qN rfl) (qm (pow6 _ _ _) rfl badd)))) rfl))) (by simp[owE]))) (ρ1:=oE w (owA w++owB w++owD w++owE w)) rfl ?_;refine qG (q _ (owF w) (by simp[owA,owB,owD,owE,owF]) (zg (qe (qM rfl (qM (qM (qN rfl) rfl) (qM (qN rfl) rfl))) (qe (qM rfl (qN (qM (zg rfl 07) rfl))) (qe (qM (qm (d2:=.int ((13:Nat):Int)) (qN rfl) rfl (brepT 07 01)) yo) rfl))) (by simp[owF]))) (ρ1:=oE w (owA w++owB w++owD w++owE w++owF w)) rfl ?_;exact qA (q _ (owG w) (by simp[owA,owB,owD,owE,owF,owG]) (zg (qe (qM rfl (qN (qM rfl rfl))) (qe (qm (d1:=webD w) rfl (qN yo) (bcatT 07)) rfl)) (by simp[owG])))
end
def qdb(a:D)(r:04):cutD (a::r) (some 1) none=r:=by
 unfold cutD HT.sIx;simp
def qic(l:04)(t:D):cutD (l++[t]) none (some (-1))=l:=by
 unfold cutD HT.sIx;simp;rw[show(-1+((l.length:Int)+1)).toNat=l.length by lia,List.take_left'];rfl
def qfL{l:04}{x:D}{S:Sr}:idxD S (.t (l++[x])) (.int (-1))=some x:=by
 have a:L2.ixN (l++[x]).length (-1)=some l.length:=by
  unfold L2.ixN;rw[wT 01,wP,vr,wN 00];congr 1;lia
 show(L2.ixN (l++[x]).length (-1)).bind (λj=>(l++[x])[j]?)=_;rw[a,wX,wK (wH _)];simp
section
variable{B:Int}{w:Wb}{l:List (List Am)}(hw:WbOk w)(h:LyOk B w.ties l)(hB:B<=1000000)
theorem layN{ys:04}(n:ys.length≠w.ties.length):layB w (.t ys)=false:=by
 show(decide (ys.length=w.ties.length)&&_)=false;rw[wU n,vP]
theorem qdW{ys:04}{i:Nat}{t:Tie}{x:D}(a:w.ties[i]?=some t)(c:ys[i]?=some x)(hn:ltB t x=false):layB w (.t ys)=false:=by
 show(decide (ys.length=w.ties.length)&&(w.ties.zip ys).all λp=>ltB p.1 p.2)=false;have hm:(t,x)∈w.ties.zip ys:=wq (i:=i) (by rw[uf];exact⟨a,c⟩);rw[show((w.ties.zip ys).all λp=>ltB p.1 p.2)=false from uy.mpr ⟨_,hm,by rw[hn];simp⟩,vE]
theorem qkc(ps:List Am):numB (.t 029)=false/\nsm (.t 029)=true:=by
 cases ps with
 |nil=>exact⟨rfl,rfl⟩
 |cons p r =>
  cases r with
  |nil=>exact⟨rfl,rfl⟩
  |cons q r=>cases r <;> exact⟨rfl,rfl⟩
theorem qnr{t:Tie}(a:l≠[]):ltB t (.t 013)=false:=by
 cases l with
 |nil=>exact absurd rfl a
 |cons ps r =>
  have e:(lyD (ps::r)).all amB=false:=by
   rw[uy];refine⟨.t 029,by simp[lyD],?_⟩;unfold amB;rw[(qkc ps).1];simp
  show(decide ((lyD (ps::r)).length=t.1.length)&&((lyD (ps::r)).all amB&&_))=false;rw[e,vP,vE]
theorem yv:(lyD l).length=l.length:=by unfold lyD;rw[wF]
theorem qid{t:Tie}{ys:04}(n:ys.length≠t.1.length):ltB t (.t ys)=false:=by
 show(decide (ys.length=t.1.length)&&_)=false;rw[wU n,vP]
theorem qkd{t:Tie}{ys:04}{y:D}(a:y∈ys)(n:amB y=false):ltB t (.t ys)=false:=by
 have e:ys.all amB=false:=uy.mpr ⟨y,a,by rw[n];simp⟩;show(decide (ys.length=t.1.length)&&(ys.all amB&&_))=false;rw[e,vP,vE]
noncomputable def olA(L:04):List D:=[.non,.int 7,.bl true,.t [],.l [],.emp,.t (L++[.t []]),.l L,.t [.t L],.str (PySem.Str.ofString "laying")]
noncomputable def olN:List D:=cutD (olA []) none (some 3)++cutD (olA []) (some 4) none
noncomputable def olB(R F:04):List D:=[.t R,.t ([.l F]++R),.t ([.t (F++[nmD (0,1)])]++R)]
noncomputable def olC(R I G:04)(m:Am):List D:=[.t ([.t G]++R),.t ([.t ([nmD m]++G)]++R),.t (I++[.non])]
noncomputable def olE(R I G:04)(k:Nat)(m:Int):List D:=[.t (I++[.t (rep [nmD (-1,1)] (k:Int))]),.t ([.t ([.int m]++G)]++R)]
include h hB in
theorem qie:∀y∈olA 013,(y≠.t []\/w.ties≠[])->NoLy w y:=by
 have hl:=h.1;have hs:=qb3 hB h;have r:=yI l;intro y c hn;unfold olA at c;simp only[wW,wx,u8]at c;rcases c with rfl|rfl|rfl|rfl|rfl|rfl|rfl|rfl|rfl|rfl
 .exact ⟨rfl,rfl,rfl⟩
 .exact ⟨rfl,rfl,rfl⟩
 .exact ⟨rfl,rfl,rfl⟩
 .refine ⟨rfl,rfl,layN λe=>?_⟩
  rcases hn with z|z
  .exact z rfl
  .exact z (wp.mp e.symm)
 .exact ⟨rfl,rfl,rfl⟩
 .exact ⟨rfl,rfl,rfl⟩
 .refine ⟨jn r rfl,wb.mpr λx a=>?_,layN (by rw[wP,yv,hl];simp)⟩
  rcases wa.mp a with z|z
  .exact hs x z
  .rw [wV.mp z];rfl
 .exact ⟨r,rfl,rfl⟩
 .refine ⟨by simp[refsLt,refsLts,r],?_,?_⟩
  .show ((lyD l).all nsm&&true)=true
   rw[Bool.and_true,wb];intro x a;unfold lyD at a;obtain⟨ps,_,rfl⟩:=w8.mp a;exact(qkc ps).2
  .by_cases f:w.ties.length=1
   .have d:l≠[]:=λe=>by rw[e]at hl;simp at hl;lia
    exact qdW (i:=0) (t:=w.ties[0]) (x:=.t 013) (wC 00) rfl (qnr d)
   .exact layN 030
 .exact ⟨rfl,rfl,rfl⟩
include h hB in
theorem ql0(hl:l=[]):∀y∈olN,NoLy w y:=by
 have:=qie h hB;subst hl;intro y a;unfold olN at a;have e:cutD (olA []) none (some 3)++cutD (olA []) (some 4) none=[.non,.int 7,.bl true,.l [],.emp,.t ([]++[.t []]),.l [],.t [.t []],.str (PySem.Str.ofString "laying")]:=rfl;rw[e]at a;refine this y ?_ (.inl ?_)
 .show y∈olA []
  unfold olA;simp only[wW,wx,u8]at a ⊢;rcases a with z|z|z|z|z|z|z|z|z <;> simp[z]
 .simp only[wW,wx,u8]at a
  rcases a with rfl|rfl|rfl|rfl|rfl|rfl|rfl|rfl|rfl <;> simp
end
section
variable{B:Int}{w:Wb}{ps:List Am}{lr:List (List Am)}{t0:Tie}{tr:List Tie}(ht:w.ties=t0::tr)(h:LyOk B w.ties (ps::lr))(hB:B<=1000000)
include ht h hB
theorem qe1:AmOk B t0 ps:=h.2 (t0,ps) (by rw[ht];simp)
theorem hd_s:∀x∈lyD lr,tsm x=true:=λx a=>qb3 hB h x (by
 unfold lyD at a ⊢;rw[wj];exact wM _ a)
theorem qdc{x:D}(r:refsLt 0 x=true)(s:tsm x=true)(n:ltB t0 x=false):NoLy w (.t ([x]++lyD lr)):=by
 refine⟨?_,?_,qdW (i:=0) (by rw[ht];rfl) rfl n⟩
 .show (refsLt 0 x&&refsLts 0 (lyD lr))=true
  rw[r,yI];rfl
 .show (tsm x&&(lyD lr).all tsm)=true
  rw[s,wb.mpr (hd_s ht h hB)];rfl
theorem qke:∀p∈ps,NB p:=qhK hB (qe1 ht h hB)
theorem qif{qs:List Am}(a:∀p∈qs,NB p):(qs.map nmD).all nsm=true:=wb.mpr λx c=>by
 obtain⟨p,d,rfl⟩:=w8.mp c;exact qaO (a p d)
theorem qig:ps.length=t0.1.length:=by
 obtain⟨xs,s,_,_,a,_,_,e⟩:=(qe1 ht h hB).ex;rw[e,wF];exact a
theorem ql1:∀y∈olB (lyD lr) 029,NoLy w y:=by
 have hl:=h.1;have c:=qke ht h hB;have hn:=qig ht h hB;intro y a;unfold olB at a;simp only[wW,wx,u8]at a;rcases a with rfl|rfl|rfl
 .exact ⟨yI lr,wb.mpr (hd_s ht h hB),layN (by rw[yv,<-hl];simp)⟩
 .exact qdc ht h hB (zM ps) rfl rfl
 .refine qdc ht h hB (jn (zM ps) rfl) ?_ (qid (by rw[wP,wF,hn];simp))
  show(029++[nmD (0,1)]).all nsm=true;rw[List.all_append,qif ht h hB c];rfl
end
section
variable{B:Int}{w:Wb}{ps:List Am}{lr:List (List Am)}{t0:Tie}{tr:List Tie}(ht:w.ties=t0::tr)(h:LyOk B w.ties (ps::lr))(hB:B<=1000000)
noncomputable def moreA(p:Am):Am:=lw (p.1+p.2) p.2
theorem qjH(qs:List Am):(qs.map nmD).map toP=qs:=qb2 qs
include ht h hB
theorem qjI(hw:WbOk w){p:Am}{a:List Am}(e:ps=p::a):ltB t0 (.t ([nmD (moreA p)]++a.map nmD))=false/\NB (moreA p)/\1<=p.2/\p.2<=1000000:=by
 obtain⟨xs,s,c,q,r,l,n,f⟩:=(qe1 ht h hB).ex;have u:=(hw.t2 t0 (by rw[ht];simp)).2.2;cases xs with
 |nil=>rw[e]at f;cases f
 |cons x i =>
  rw[e,wj]at f;injection f with h7 h8;have v:=n x wR;have d:1<=p.2:=by rw[h7];exact(zt c).pos
  have j:p.2<=1000000:=by rw[h7];exact vD (qah c) 00
  have m:moreA p=lw (x+s) s:=by
   unfold moreA;refine qaT d c ?_;have e1:=zL (t:=x) c;rw[<-h7]at e1
   grind
  have nb:NB (moreA p):=by
   rw[m];have:1000000*s<=1000000*1000000:=wz 00 01;exact qh6 00 c 00
  refine⟨?_,nb,d,j⟩;have o:totN (moreA p::a)≠(t0.2,1):=by
   rw[m,h8,show lw (x+s) s::i.map (λx=>lw x s)=((x+s)::i).map (λx=>lw x s)from rfl,qhI c _ _ rfl,uK];rw[uK]at l;rw[show x+s+i.sum=(t0.2+1)*s by rw[Int.add_mul,<-l];lia,qc4 c];intro z;have this:t0.2+1=t0.2:=congrArg Prod.fst z;lia
  show(decide (([nmD (moreA p)]++a.map nmD).length=t0.1.length)&&(([nmD (moreA p)]++a.map nmD).all amB&&decide (totN (([nmD (moreA p)]++a.map nmD).map toP)=(t0.2,1))))=false;rw[show([nmD (moreA p)]++a.map nmD)=(moreA p::a).map nmD from rfl,qjH,wU o,vE,vE]
end
section
variable{B:Int}{w:Wb}{la:List (List Am)}{pz:List Am}{ta:List Tie}{tz:Tie}(ht:w.ties=ta++[tz])(h:LyOk B w.ties (la++[pz]))(hB:B<=1000000)
include ht h hB
theorem qdX:la.length=ta.length:=by
 have:=h.1;rw[ht,wP,wP]at this;simp at this;exact this
theorem qkf{x:D}(r:refsLt 0 x=true)(s:tsm x=true)(n:ltB tz x=false):NoLy w (.t (lyD la++[x])):=by
 have e:=qdX ht h hB;refine⟨jn (yI la) (by show(refsLt 0 x&&true)=true;rw[r];rfl),wb.mpr λy a=>?_,qdW (i:=ta.length) (t:=tz) (x:=x) ?_ ?_ n⟩
 .rcases wa.mp a with z|z
  .refine qb3 hB h y ?_
   unfold lyD at z ⊢;rw[vL];exact wu _ z
  .rw [wV.mp z];exact s
 .rw [ht,wK (wH _)];simp
 .rw [wK (by rw[yv,e];exact wH _),yv,e];simp
theorem qns:AmOk B tz pz:=by
 refine h.2 (tz,pz) ?_;rw[ht,List.zip_append (qdX ht h hB).symm];simp
end
def qih{F:Fs}{ρ:En}{S:Sr}{e:CE}{lo hi:CO}{l:04}{a b:Option Int}(h:ev F e ρ S=.ok (.l l) S)(c:evO F lo ρ S=.ok a S)(d:evO F hi ρ S=.ok b S):ev F (.slc e lo hi) ρ S=.ok (.l (cutD l a b)) S:=by
 simp only[ev,h,c,d,Res.bind,slcD,lstOf,wn,ofO]
def qcg{a:D}{r:04}{S:Sr}:idxD S (.t (a::r)) (.int 0)=some a:=by
 have c:L2.ixN (a::r).length (0:Int)=some 0:=by unfold L2.ixN;rw[wN 01,wN 07];rfl
 show(L2.ixN (a::r).length (0:Int)).bind (λj=>(a::r)[j]?)=_;rw[c];rfl
def qjJ(x:D)(k:Nat):rep [x] (k:Int)=List.replicate k x:=by
 unfold rep;have:((k:Int)).toNat=k:=by lia
 rw[this];induction k with
 |zero=>rfl
 |succ k a=>rw[ww,uD,ww,<-a 00];rfl
def qba{d:Nat}{B:Int}{w:Wb}{l:020}(hw:WbOk w)(h:LyOk B w.ties l)(m:B<=1000000):∃M:List D,(∀y∈M,NoLy w y)/\M.length<=20/\∀S,G (d+2) 46 [webD w,.t 013] S=.ok (.l M) S:=by
 have hl:=h.1;have a4:=hw.t1;have a5:(lyD l).length<=30:=by rw[yv];lia
 have z1:PySem.sizeLine>=1:=by simp[PySem.sizeLine]
 have eA:∀S,ev (G (d+1)) (.l false (.c (.k .non) (.c (.k (.int 7)) (.c (.k (.bl true)) (.c (.t .nil) (.c (.l false .nil) (.c (.dic false) (.c (.bin .add 06 (.t (.c (.t .nil) .n))) (.c (.blt (.list false) 027) (.c (.t 027) (.c (.k (.str (PySem.Str.ofString "laying"))) .n))))))))))) [some 012,some (.t 013),none,none,none] S=.ok (.l (olA 013)) S:=λS =>
  zg (qe rfl (qe rfl (qe rfl (qe yo (qe (zg rfl 07) (qe rfl (qe (qm rfl (qN yo) (bcatT 030)) (qe (qF (l:=[.t 013]) rfl rfl) (qe (qN rfl) (qe rfl rfl)))))))))) (by simp[olA])
 have W:=qie h m;cases l with
 |nil =>
  refine⟨olN,ql0 h m rfl,by decide,λS=>?_⟩;rw[G_at (c:=c_46) rfl];exact qr rfl (qG (eA S) (ρ1:=[some 012,some (.t []),some (.l (olA [])),none,none]) rfl (zf (S1:=S) (t_of (qH rfl yo rfl)) (qA (qm (qih (l:=olA []) (a:=none) (b:=some 3) rfl rfl rfl) (qih (l:=olA []) (a:=some 4) (b:=none) rfl rfl rfl) rfl))))
 |cons ps f =>
  obtain⟨A,tr,o⟩:∃A tr,w.ties=A::tr:=by
   cases e:w.ties with
   |nil=>rw[e]at hl;simp at hl
   |cons a r=>exact⟨a,r,rfl⟩
  have J:w.ties≠[]:=by rw[o];simp
  obtain⟨u,v,K⟩:∃u v,ps::f=u++[v]:=by
   rcases vM (ps::f)with z|⟨a,b,e⟩
   .simp at z
   .exact ⟨a,b,by rw[e,vN]⟩
  obtain⟨ta,Q,n⟩:∃ta Q,w.ties=ta++[Q]:=by
   rcases vM w.ties with z|⟨a,b,e⟩
   .exact absurd z J
   .exact ⟨a,b,by rw[e,vN]⟩
  have h':=h;rw[K]at h';have hd:=qe1 o h m;have hn:=qig o h m;have tk:=hw.t2 A (by rw[o];simp);have N:=hw.t2 Q (by rw[n];simp);have X:1<=ps.length:=by rw[hn];exact List.length_pos_iff.mpr tk.1.ne
  obtain⟨p,j,U⟩:∃p j,ps=p::j:=by
   cases ps with
   |nil=>simp at X
   |cons a r=>exact⟨a,r,rfl⟩
  obtain⟨mn,mb,m1,m2⟩:=qjI o h m hw U;have Y:=qke o h m;have Z:ps.map nmD=nmD p::j.map nmD:=by rw[U];rfl
  have hL:lyD (ps::f)=.t 029::lyD f:=rfl;have hI:lyD (ps::f)=lyD u++[.t (v.map nmD)]:=by rw[K];unfold lyD;rw[vL];rfl
  have am:=qns n h' m;have O:v.length=Q.1.length:=by
   obtain⟨xs,s,_,_,q,_,_,e⟩:=am.ex;rw[e,wF];exact q
  have a6:1<=v.length:=by rw[O];exact List.length_pos_iff.mpr N.1.ne
  have a7:v.length<=4:=by rw[O];exact N.2.1
  have a8:ps.length<=4:=by rw[hn];exact tk.2.1
  have a9:f.length<=29:=by simp at hl;lia
  have aa:u.length<=30:=by have:=qdX n h' m;have:=congrArg List.length n;simp at this;lia
  have a3:j.length+1=ps.length:=by rw[U];rfl
  have a0:=ql1 o h m;have C:(j.map nmD).all nsm=true:=qif o h m λq hq=>Y q (by rw[U];exact wM _ hq)
  have a1:∀y∈olC (lyD f) (lyD u) (j.map nmD) (moreA p),NoLy w y:=by
   intro y i;unfold olC at i;simp only[wW,wx,u8]at i;rcases i with rfl|rfl|rfl
   .exact qdc o h m (zM j) C (qid (by rw[wF];lia))
   .refine qdc o h m (jn rfl (zM j)) ?_ mn
    show(nsm (nmD (moreA p))&&(j.map nmD).all nsm)=true;rw[qaO mb,C];rfl
   .exact qkf n h' m rfl rfl rfl
  have a2:∀y∈olE (lyD f) (lyD u) (j.map nmD) v.length A.2,NoLy w y:=by
   intro y i;unfold olE at i;simp only[wW,wx,u8]at i;rcases i with rfl|rfl
   .rw [qjJ]
    have ha:∀y∈List.replicate v.length (nmD (-1,1)),y=nmD (-1,1):=λy i=>(vV.mp i).2
    refine qkf n h' m (qJ λy i=>by rw[ha y i];rfl) (wb.mpr λy i=>by rw[ha y i];decide) (qkd (y:=nmD (-1,1)) (vV.mpr ⟨by lia,rfl⟩) 01)
   .refine qdc o h m (jn rfl (zM j)) ?_ (qkd (y:=.int A.2) 07 rfl)
    show(nsm (.int A.2)&&(j.map nmD).all nsm)=true;rw[C];rfl
  refine⟨olA (lyD (ps::f))++olB (lyD f) 029++olC (lyD f) (lyD u) (j.map nmD) (moreA p)++olE (lyD f) (lyD u) (j.map nmD) v.length A.2,?_,by simp[olA,olB,olC,olE],λS=>?_⟩
  .intro y i
   rcases wa.mp i with i|i
   .rcases wa.mp i with i|i
    .rcases wa.mp i with i|i
     .exact W y i (.inr J)
     .exact a0 y i
    .exact a1 y i
   .exact a2 y i
  rw[G_at (c:=c_46) rfl];have el:=z9 (d:=d) (t:=p.1+p.2) (b:=p.2) (S:=S) m1 00;have I:∀(a b c:Option D),ev (G (d+1)) (.slc 06 (.some 05) .none) [some 012,some (.t (lyD (ps::f))),a,b,c] S=.ok (.t (lyD f)) S:=λa b c=>by
   have e:=qaf (F:=G (d+1)) (ρ:=[some 012,some (.t (lyD (ps::f))),a,b,c]) (S:=S) (l:=lyD (ps::f)) (a:=some 1) (b:=none) (e:=.v 1) (lo:=.some 05) (hi:=.none) rfl rfl rfl;rw[hL,qdb]at e;exact e
  have P:∀(a b c:Option D),ev (G (d+1)) (.slc 06 .none (.some (.neg 05))) [some 012,some (.t (lyD (ps::f))),a,b,c] S=.ok (.t (lyD u)) S:=λa b c=>by
   have e:=qaf (F:=G (d+1)) (ρ:=[some 012,some (.t (lyD (ps::f))),a,b,c]) (S:=S) (l:=lyD (ps::f)) (a:=none) (b:=some (-1)) (e:=.v 1) (lo:=.none) (hi:=.some (.neg 05)) rfl rfl rfl;rw[hI,qic]at e;rw[hI];exact e
  have hG:∀(a c:Option D),ev (G (d+1)) (.slc 000 (.some 05) .none) [some 012,some (.t (lyD (ps::f))),a,some (.t 029),c] S=.ok (.t (j.map nmD)) S:=λa c=>by
   have e:=qaf (F:=G (d+1)) (ρ:=[some 012,some (.t (lyD (ps::f))),a,some (.t 029),c]) (S:=S) (l:=ps.map nmD) (a:=some 1) (b:=none) (e:=.v 3) (lo:=.some 05) (hi:=.none) rfl rfl rfl;rw[Z,qdb]at e;rw[Z];exact e
  have hP:∀(a c:Option D),ev (G (d+1)) (.idx 000 003) [some 012,some (.t (lyD (ps::f))),a,some (.t 029),c] S=.ok (nmD p) S:=λa c=>qw (S1:=S) rfl rfl (by rw[Z];exact qcg)
  have q:∀(L M:04) {e:CE} {a b:Option D},L.length+M.length<=60->ev (G (d+1)) e [some 012,some (.t (lyD (ps::f))),some (.l L),a,b] S=.ok (.l M) S->ev (G (d+1)) (.bin .add 002 e) [some 012,some (.t (lyD (ps::f))),some (.l L),a,b] S=.ok (.l (L++M)) S:=λL M {e a b} hl h=>qm rfl h (bcat 00)
  refine qr rfl (qG (eA S) (ρ1:=[some 012,some (.t (lyD (ps::f))),some (.l (olA (lyD (ps::f)))),none,none]) rfl (x_no (S1:=S) (t_of (qH rfl yo rfl)) ?_));refine qG (d:=.t 029) (S1:=S) (qw (S1:=S) rfl rfl (by rw[hL];exact qcg)) (ρ1:=[some 012,some (.t (lyD (ps::f))),some (.l (olA (lyD (ps::f)))),some (.t 029),none]) rfl ?_;refine qG (d:=nmD (moreA p)) (S1:=S) (qh (qe (qm (d1:=.int p.1) (d2:=.int p.2) (qw (hP _ _) rfl rfl) (qw (hP _ _) rfl rfl) badd) (qe (qw (hP _ _) rfl rfl) rfl)) el) (ρ1:=[some 012,some (.t (lyD (ps::f))),some (.l (olA (lyD (ps::f)))),some (.t 029),some (nmD (moreA p))]) rfl ?_;have cl:∀x:D,[x].length+(lyD f).length<=1000:=λx=>by rw[yv];simp;lia
  refine qG (q _ (olB (lyD f) 029) (by simp[olA,olB]) (zg (qe (I _ _ _) (qe (qm (qN (qF (l:=[.t 029]) rfl rfl)) (I _ _ _) (bcatT (cl _))) (qe (qm (qN (qm (d1:=.t 029) rfl (qN (qM rfl rfl)) (bcatT 030))) (I _ _ _) (bcatT (cl _))) rfl))) (by simp[olB]))) (ρ1:=[some 012,some (.t (lyD (ps::f))),some (.l (olA (lyD (ps::f))++olB (lyD f) 029)),some (.t 029),some (nmD (moreA p))]) rfl ?_;refine qG (q _ (olC (lyD f) (lyD u) (j.map nmD) (moreA p)) (by simp[olA,olB,olC]) (zg (qe (qm (qN (hG _ _)) (I _ _ _) (bcatT (cl _))) (qe (qm (qN (qm (qN rfl) (hG _ _) (bcatT 030))) (I _ _ _) (bcatT (cl _))) (qe (qm (P _ _ _) (qN rfl) (bcatT (by rw[yv];simp;lia))) rfl))) (by simp[olC]))) (ρ1:=[some 012,some (.t (lyD (ps::f))),some (.l (olA (lyD (ps::f))++olB (lyD f) 029++olC (lyD f) (lyD u) (j.map nmD) (moreA p))),some (.t 029),some (nmD (moreA p))]) rfl ?_;have E:∀(a b c:Option D),ev (G (d+1)) (.idx 06 (.neg 05)) [some 012,some (.t (lyD (ps::f))),a,b,c] S=.ok (.t (v.map nmD)) S:=λa b c=>qw (S1:=S) rfl rfl (by rw[hI];exact qfL)
  have H:∀(a b c:Option D),ev (G (d+1)) (.idx (.idx (.idx 02 05) 003) 05) [some 012,some (.t (lyD (ps::f))),a,b,c] S=.ok (.int A.2) S:=λa b c=>qw (S1:=S) (d1:=tieD A) (qw (S1:=S) (d1:=.t (w.ties.map tieD)) 023 rfl (by rw[o];exact qcg)) rfl rfl
  refine qA (q _ (olE (lyD f) (lyD u) (j.map nmD) v.length A.2) (by simp[olA,olB,olC,olE]) (zg (qe (qm (P _ _ _) (qN (qm (qN (qM rfl rfl)) (qF (qe (E _ _ _) rfl) (by rw[qS,wF])) (brepT 030 00))) (bcatT (by rw[yv];simp;lia))) (qe (qm (qN (qm (qN (H _ _ _)) (hG _ _) (bcatT 030))) (I _ _ _) (bcatT (cl _))) rfl)) (by simp[olE])))
def qkg{s t:D}{S:Sr}(h:cmpD .ne s t S=some false){F:Fs}{ρ:En}{c:Sr}{e:CE}(d:ev F e ρ c=.ok s S){a:PySem.Str}(ha:t=.str a):tst F (.val (.cmp .ne e (.k (.str a)))) ρ c=.ok false S:=by
 subst ha;exact t_of (qH d rfl h)
def ne_s(a:PySem.Str)(S:Sr):cmpD .ne (.str a) (.str a) S=some false:=by
 show some (!(a == a))=_;simp
def qe2{l:04}{r:Int}{T:Sr}(c:0<=r)(d:r<l.length):∃x∈l,idxD T (.l l) (.int r)=some x:=by
 obtain⟨k,rfl⟩:∃k:Nat,r=k:=⟨r.toNat,by lia⟩;have a:k<l.length:=by lia
 refine⟨l[k],List.getElem_mem a,?_⟩;have:L2.ixN l.length (k:Int)=some k:=by
  unfold L2.ixN;rw[wN 00,wN 00];simp
 show(L2.ixN l.length (k:Int)).bind (λj=>l[j]?)=_;rw[this,wX,wC a]
def qii{c:Type}(l:List c)(S:Sr):bltD .all [.l (l.map λ_=>.bl true)] S=.ok (.bl true) S:=by
 have h:∀l:List c,boolsOf (l.map λ_=>D.bl true)=some (l.map λ_=>true):=by
  intro l;induction l with
  |nil=>rfl
  |cons a r d=>rw[wj,boolsOf,d];rfl
 simp only[bltD,one,bAll,seqOf,lstOf,wX,h,wn,ofO];congr 2;rw[xB,wb];simp
noncomputable def omA(M:04)(p:D):List D:=[.non,.int 7,.t [],.l [],.emp,.l M,p,.t (cutD (rep M ((7:Nat):Int)) none (some 7)),.t [.t [.str 047,.t [.int (-1),.int 2],.t [.int 1,.int 1]]]]
noncomputable def omB:List D:=[.t [.t [.str (PySem.Str.ofString "below"),.t [.int 0,.int 1],.t [.int 0,.int 1]]],.t [.t [.str (PySem.Str.ofString "up"),.t [.int 0,.int 1],.t [.int 1,.int 1]]],.t [.t [.str 047,.t [.int 0,.int 1]]]]
def qjK{x:D}{a:04}{k:Nat}(h:x∈rep a (k:Int)):x∈a:=by
 unfold rep at h;obtain⟨l,hl,c⟩:=List.mem_flatten.mp h;rw[(vV.mp hl).2]at c;exact c
def ql2(a:04)(k:Nat):(rep a (k:Int)).length=k*a.length:=by
 unfold rep;rw[show((k:Int)).toNat=k by lia,List.length_flatten,uL,List.sum_replicate_nat]
def qnt{g:Nat}{p:Pt}{r:List Pt}(h:MsOk g (p::r)):∀y∈omA ((p::r).map ptD) (ptD p)++omB,NoMs y:=by
 have hs:=h.sm;have f:=h.l2;have d:=qcc (p::r);intro y c;unfold omA omB at c;simp only[wa,wW,wx,u8,or_assoc]at c;rcases c with rfl|rfl|rfl|rfl|rfl|rfl|rfl|rfl|rfl|rfl|rfl|rfl
 .exact ⟨rfl,rfl,rfl⟩
 .exact ⟨rfl,rfl,rfl⟩
 .exact ⟨rfl,rfl,rfl⟩
 .exact ⟨rfl,rfl,rfl⟩
 .exact ⟨rfl,rfl,rfl⟩
 .exact ⟨d,rfl,rfl⟩
 .exact ⟨rfl,rfl,rfl⟩
 .have hm:∀x∈cutD (rep ((p::r).map ptD) ((7:Nat):Int)) none (some 7),x∈(p::r).map ptD:=λx a=>qjK ((jL _ _ _).1 x a)
  refine⟨qJ λx a=>qB d (hm x a),wb.mpr λx a=>hs x (hm x a),?_⟩;have hl:(cutD (rep ((p::r).map ptD) ((7:Nat):Int)) none (some 7)).length=7:=by
   have e:=ql2 ((p::r).map ptD) 7;rw[wF]at e;have i:=h.l1;have:cutD (rep ((p::r).map ptD) ((7:Nat):Int)) none (some 7)=(rep ((p::r).map ptD) ((7:Nat):Int)).take 7:=by
    unfold cutD HT.sIx;simp only[ug,Nat.sub_zero];rw[wT 01];rw[List.take_eq_take_iff];show min (min 7 _) _=_;omega
   rw[this,vZ,e];omega
  show(decide (1<=(cutD (rep ((p::r).map ptD) ((7:Nat):Int)) none (some 7)).length)&&decide ((cutD (rep ((p::r).map ptD) ((7:Nat):Int)) none (some 7)).length<=6)&&_)=false;rw[hl];rfl
 .exact ⟨rfl,by decide,by decide⟩
 .exact ⟨rfl,by decide,by decide⟩
 .exact ⟨rfl,by decide,by decide⟩
 .exact ⟨rfl,by decide,by decide⟩
noncomputable def dropS:Nat->CSs->CSs
 |0,s=>s
 |n+1,.cons _ r=>dropS n r
 |_+1,.nil=>.nil
noncomputable def bodyF:CSs->CSs
 | .c (.forS _ _ b) _=>b
 |_=>.nil
noncomputable abbrev fR(n:Nat)(ms:List Pt)(w:Wb)(l:020)(M N:04)(a6 a7:Option D):En:=[some (.ref n),some (msD ms),some 012,some (.t 013),some (.l M),some (.l N),a6,a7]
def qfM{d n E cb g:Nat}{v:Int}{ms:List Pt}{w:Wb}{l:020}{S:Sr}(h:WkOk E cb g ms w l)(hn:n<S.length)(hv:0<=v):Ok (G (d+15) 48 [.ref n,msD ms,webD w,.t 013] (pk S n v)) λy T=>y=.bl true/\∃u,0<=u/\T=pk S n u:=by
 have hw:=h.hw;have hm:=h.hm;obtain⟨B,e,hl,hB,_⟩:=h.hl.ex;obtain⟨M,hM,a0,eM⟩:=qba (d:=d+12) hw hl hB;obtain⟨p,r,Q⟩:∃p r,ms=p::r:=by
  cases hms:ms with
  |nil=>have:=hm.l1;rw[hms]at this;simp at this
  |cons a r=>exact⟨a,r,rfl⟩
 have a1:ms.length<=6:=hm.l2;obtain⟨N,P⟩:∃N,N=omA (ms.map ptD) (ptD p)++omB:=⟨_,rfl⟩;have W:∀y∈N,NoMs y:=by rw[P,Q];exact qnt (by rw[<-Q];exact hm)
 have J:N.length=12:=by rw[P];rfl
 have z1:PySem.sizeLine>=3:=by simp[PySem.sizeLine]
 rw[G_at (c:=c_48) rfl];refine yG (f:=c_48) rfl rfl ?_;rw[qv];rw[show c_48.body=.c (.set (.v 4) (.call 46 (.c 002 (.c 000 .n)))) (dropS 1 c_48.body)from rfl];refine qO (Ok.of (qh rfl (eM _)) (Ok.of (a:=[some (.ref n),some (msD ms),some 012,some (.t 013),some (.l M),none,none,none]) rfl ?_));have t3:∀{F:Fs} {ρ:En} {U:Sr} {e1 e2 Z:CE} {d1 d2 d3:D},ev F e1 ρ U=.ok d1 U->ev F e2 ρ U=.ok d2 U->ev F Z ρ U=.ok d3 U->ev F (.t (.cons e1 (.cons e2 (.cons Z .nil)))) ρ U=.ok (.t [d1,d2,d3]) U:=λh1 h2 h3=>qZ (qe h1 (qe h2 (qe h3 rfl))) z1
 have K:∀U,idxD U (msD ms) (.int 0)=some (ptD p):=λU=>by rw[Q];exact qcg
 have e7:∀(a5 i j:Option D) (U:Sr),ev (G (d+14)) (.slc (.bin .mul 06 (.k (.int 7))) .none (.some (.k (.int 7)))) [some (.ref n),some (msD ms),some 012,some (.t 013),some (.l M),a5,i,j] U=.ok (.t (cutD (rep (ms.map ptD) ((7:Nat):Int)) none (some 7))) U:=λa5 i j U=>qaf (qm (d1:=msD ms) (d2:=.int ((7:Nat):Int)) rfl rfl (brepT (by rw[wF];lia) 01)) rfl rfl
 simp only[dropS,c_48];refine qO (Ok.of (a:=.l (omA (ms.map ptD) (ptD p))) (S:=pk S n v) (zg (qe rfl (qe rfl (qe yo (qe (zg rfl 07) (qe rfl (qe (qF (l:=[msD ms]) rfl rfl) (qe (qw rfl rfl (K _)) (qe (e7 _ _ _ _) (qe (qN (t3 rfl (qM rfl rfl) (qM rfl rfl))) rfl))))))))) (by simp[omA])) (Ok.of (a:=fR n ms w l M (omA (ms.map ptD) (ptD p)) none none) rfl ?_));refine qO (Ok.of (a:=.l N) (S:=pk S n v) (by
  rw[P];exact qm rfl (zg (qe (qN (t3 rfl (qM rfl rfl) (qM rfl rfl))) (qe (qN (t3 rfl (qM rfl rfl) (qM rfl rfl))) (qe (qN (qM rfl (qM rfl rfl))) rfl))) (by simp[omB])) (bcat (by simp[omA,omB]))) (Ok.of (a:=fR n ms w l M N none none) rfl ?_))
 clear P e7 K;have o:∀(u:Int) (i j:Option D),0<=u->∃(x:D) (u':Int),0<=u'/\ev (G (d+14)) (.idx (.bin .add (.v 4) (.l false (.c 000 .n))) (.call 31 (.c 02 (.c (.bin .add (.blt .len (.c (.v 4) .n)) 05) .n)))) (fR n ms w l M N i j) (pk S n u)=.ok x (pk S n u'):=by
  intro u i j C;have f:=fm (v:=u) (m:=(M.length:Int)+1) 00;have H:=zx (d:=d+13) (n:=n) (v:=u) (m:=(M.length:Int)+1) (S:=S) hn 00 00;have s:0<=u.fdiv ((M.length:Int)+1):=wc C 00;generalize u.fdiv ((M.length:Int)+1)=u1 at H s;generalize u.fmod ((M.length:Int)+1)=q at H f;obtain⟨x,_,ex⟩:=qe2 (l:=M++[.t 013]) (r:=q) (T:=pk S n u1) f.1 030;have L:∀U,bltD .len [.l M] U=.ok (.int M.length) U:=λU=>by simp[bltD,one,bLen,lenD]
  exact⟨x,u1,s,qw (d1:=.l (M++[.t 013])) (qm rfl (zg (qe rfl rfl) 07) (bcat 030)) (qh (qe rfl (qe (qm (qF rfl (L _)) rfl badd) rfl)) H) ex⟩
 refine qbu (g:=λy:D=>y) (λ_ ρ U=>∃u i j,0<=u/\U=pk S n u/\ρ=fR n ms w l M N i j) (odW w) (Ok.of (qhA (qh rfl (qdV (d:=d+13) hw))) ⟨by simp,v,_,_,hv,rfl,rfl⟩) ?_ ?_
 .rintro pre y X ρ U A ⟨u,i,j,C,rfl,rfl⟩
  have O:=qib y (by rw[A];simp);refine Ok.of (a:=fR n ms w l M N (some y) j) rfl ?_;have f:=fm (v:=u) (m:=13) 01;have H:=zx (d:=d+13) (n:=n) (v:=u) (m:=13) (S:=S) hn 01 01;have s:0<=u.fdiv 13:=wc C 01;generalize u.fdiv 13=u1 at H s;generalize u.fmod 13=q at H f;obtain⟨m,_,em⟩:=qe2 (l:=N++[msD ms]) (r:=q) (T:=pk S n u1) f.1 (by simp[J];lia);refine qO (Ok.of (qw (d1:=.l (N++[msD ms])) (qm rfl (zg (qe rfl rfl) 07) (bcat (by simp[J]))) (qh rfl H) em) (Ok.of (a:=fR n ms w l M N (some y) (some m)) rfl ?_));obtain⟨x,Y,I,ex⟩:=o u1 (some y) (some m) s;exact o_no (Ok.of (qkg (ne_s _ _) (qh (qe rfl (qe rfl (qe ex rfl))) (qjE (d:=d) O)) rfl) ⟨rfl,zX ⟨Y,_,_,I,rfl,rfl⟩⟩)
 rintro ρ U ⟨u,i,j,C,rfl,rfl⟩;refine qbu (g:=λy:D=>y) (λ_ ρ U=>∃u i,0<=u/\U=pk S n u/\ρ=fR n ms w l M N i j) N (Ok.of (qhA rfl) ⟨by simp,u,_,C,rfl,rfl⟩) ?_ ?_
 .rintro pre y X ρ U A ⟨u,i,C,rfl,rfl⟩
  have O:=W y (by rw[A];simp);refine Ok.of (a:=fR n ms w l M N (some y) j) rfl ?_;obtain⟨x,Y,I,ex⟩:=o u (some y) j C;exact o_no (Ok.of (qkg (ne_s _ _) (qh (qe rfl (qe rfl (qe ex rfl))) (qjF (d:=d) hw O)) rfl) ⟨rfl,zX ⟨Y,_,I,rfl,rfl⟩⟩)
 rintro ρ U ⟨u,i,C,rfl,rfl⟩;have el:=qaI (g:=λy:D=>y) (F:=G (d+14)) (fr:=[1,2]) (nt:=1) (elt:=.cmp .eq (.call 47 (.c 02 034)) (.k (.str (PySem.Str.ofString "laying")))) (tg:=.v 2) (it:=.seq (.v 4)) (ifs:=.nil) (ρ:=fR n ms w l M N i j) (S:=pk S n u) (S1:=pk S n u) (ds:=M) M (λ_=>true) (λ_=>.bl true) (λρ=>∃y,ρ=[some (msD ms),some 012,y]) rfl 07 ⟨_,rfl⟩ (by unfold PySem.sizeLine;lia) (by
  rintro y O ρ m ⟨z,rfl⟩;exact⟨_,rfl,⟨_,rfl⟩,rfl,λ_=>⟨qH (qh rfl (qjG (d:=d) hw hm (hM y O))) rfl rfl,rfl⟩⟩)
 rw[zE]at el;exact qaM (Ok.of (qF (qe el rfl) (qii M _)) ⟨by rw[qv];exact wH _,rfl,rfl,u,C,by rw[<-qv S n u,uj]⟩)
def ql3{d:Nat}{p:Am}{S:Sr}(h:Lw p)(hb:p.2<2^9000):G (d+2) 43 [nmD p] S=.ok (.bl true) S:=by
 rw[G_at (c:=c_43) rfl];have i:=h.pos;have a:=qaI (g:=D.int) (F:=G (d+1)) (fr:=[]) (nt:=1) (elt:=.and (.isi .int 02) (.not (.isi .bool 02))) (tg:=.v 0) (it:=.seq 02) (ifs:=.nil) (ρ:=[some (nmD p)]) (S:=S) (S1:=S) (ds:=[p.1,p.2].map .int) [p.1,p.2] (λ_=>true) (λ_=>.bl true) (λρ=>∃y,ρ=[y]) rfl rfl ⟨_,rfl⟩ 036 (by
  rintro q j ρ m ⟨y,rfl⟩;exact⟨_,rfl,⟨_,rfl⟩,rfl,λ_=>⟨rfl,rfl⟩⟩)
 rw[zE]at a;have t3:tst (G (d+1)) (.val (.cmp .lt (.idx 02 05) 05)) [some (nmD p)] S=.ok (decide (p.2<1)) S:=t_of (qH 023 rfl rfl);rw[wU 00]at t3;have f:=z9 (d:=d) (t:=p.1) (b:=p.2) (S:=S) i hb;rw[qeT h]at f;exact qr rfl (x_no (S1:=S) (qX (t_no (x:=true) (t_of rfl)) (t_of (qH (qF rfl (qS _ _)) rfl (ne2 _ _)))) (x_no (S1:=S) (qX (t_no (x:=true) (t_of (qF (qe a rfl) (qii [p.1,p.2] S)))) t3) (qA (qH (qh (qe 023 (qe 023 rfl)) f) rfl (by rw[qj8];simp)))))
def qkh(p:Am)(S:Sr):cmpD .ne (nmD p) (nmD p) S=some false:=by
 show some (!((p.1 == p.1)&&((p.2 == p.2)&&true)))=_;simp
def Pk(T:Sr)(n:Nat):Prop:=∃v:Int,0<=v/\T[n]?=some (.l [.int v])
def Pk.use{T:Sr}{n:Nat}(h:Pk T n):n<T.length/\∃v:Int,0<=v/\pk T n v=T:=by
 obtain⟨v,c,a⟩:=h;exact⟨(wG.mp a).1,v,c,qjb a⟩
def Pk.same{T:Sr}{n:Nat}{u:Int}(h:n<T.length)(a:0<=u):Pk (pk T n u) n:=⟨u,a,qj6 h u⟩
def Pk.other{T:Sr}{n m:Nat}{u:Int}(h:Pk T m)(e:n≠m):Pk (pk T n u) m:=by
 obtain⟨v,a,c⟩:=h;exact⟨v,a,by unfold pk;rw[vi e];exact c⟩
def Pk.app{T X:Sr}{n:Nat}(h:Pk T n):Pk (T++X) n:=by
 obtain⟨v,c,a⟩:=h;exact⟨v,c,by rw[wL (wG.mp a).1];exact a⟩
def qaY{d:Nat}{ns:008}(a:ns.length<=63){k:Int}{S:Sr}(f:0<=k)(c:k<90):∃T,G (d+2) 30 [.l (ns.map .int),.int k] S=.ok 037 T/\Pk T S.length/\∀n,Pk S n->Pk T n/\n≠S.length:=by
 obtain⟨v,i,e⟩:=qlG (d:=d) a (k:=k) (S:=S) f c;refine⟨_,e,⟨v,i,by simp⟩,λn h=>⟨h.app,?_⟩⟩;obtain⟨j,_⟩:=h.use;exact wg j
def Pk.did{T T':Sr}{n m:Nat}(h:Pk T n)(hm:Pk T m){u:Int}(a:0<=u)(e:T'=pk T n u):Pk T' m:=by
 subst e;by_cases z:n=m
 .subst z;exact .same h.use.1 a
 .exact hm.other z
def ql4{F:Fs}{ρ:En}{S:Sr}{ns:008}(h:ρ[0]?=some (some (.l (ns.map .int)))):∃n:Nat,n<=4/\evI F (.rng (.c 003 (.c (.blt .max2 (.c 05 (.c (.blt .min2 (.c 039 (.c (.k (.int 24)) .n))) .n))) (.c (.k (.int 6)) .n)))) ρ S=.ok ((List.range n).map λ(k:Nat)=>D.int (0+6*k)) S:=by
 obtain⟨b,hb⟩:∃b:Int,b=(if(if 24<(ns.length:Int)then 24 else(ns.length:Int))>1 then(if 24<(ns.length:Int)then 24 else(ns.length:Int))else 1):=⟨_,rfl⟩;have a:1<=b/\b<=24:=by rw[hb];split <;> split <;> lia
 refine⟨((b-0+6-1) / 6).toNat,by lia,?_⟩;have c:ev F 02 ρ S=.ok (.l (ns.map .int)) S:=by simp only[ev,varE,h]
 have d:ev F 039 ρ S=.ok (.int ns.length) S:=qF (qe c rfl) (by simp[bltD,one,bLen,lenD]);have f:ev F (.blt .min2 (.c 039 (.c (.k (.int 24)) .n))) ρ S=.ok (.int (if 24<(ns.length:Int)then 24 else(ns.length:Int))) S:=qF (qe d (qe rfl rfl)) rfl;have i:ev F (.blt .max2 (.c 05 (.c (.blt .min2 (.c 039 (.c (.k (.int 24)) .n))) .n))) ρ S=.ok (.int b) S:=qF (qe rfl (qe f rfl)) (by rw[hb];rfl);have j:evs F (.c 003 (.c (.blt .max2 (.c 05 (.c (.blt .min2 (.c 039 (.c (.k (.int 24)) .n))) .n))) (.c (.k (.int 6)) .n))) ρ S=.ok [.int 0,.int b,.int 6] S:=qe rfl (qe i rfl);simp only[evI,j,Res.bind,rngD];have hc:-(2^62)<=(0:Int)/\(0:Int)<2^62/\-(2^62)<=b/\b<2^62/\(0:Int)<6/\(6:Int)<2^62:=⟨by decide,by decide,by lia,by lia,by decide,by decide⟩;rw[wN hc];rfl
def PtOk.mono{g g':Nat}{p:Pt}(h:PtOk g p)(f:g<=g'):PtOk g' p:=by
 obtain⟨a,b,c,d,i⟩:=h.e;exact⟨h.pt,h.ms,⟨a,b,c,d,by lia⟩,h.lp,h.lm,h.p0,h.m0⟩
def cut5(l:04):cutD l none (some 5)=l.take 5:=by
 unfold cutD HT.sIx;simp only[ug,Nat.sub_zero];rw[wT 01];rw[List.take_eq_take_iff];show min (min 5 _) _=_;omega
noncomputable abbrev lE(ns:008)(k:Int)(a2 a3 a4 a5 a6 a7 a8 a9 a10:Option D):En:=[some (.l (ns.map .int)),some (.int k),a2,a3,a4,a5,a6,a7,a8,a9,a10]
def qaZ{d E cb g:Nat}{ns:008}(m:ns.length<=63){k:Int}(hk:0<=k)(L:k<30){ms:List Pt}{w:Wb}{l:020}(h:WkOk E cb g ms w l){o p r s M c:Option D}{T:Sr}:
  Ok (exs (G (d+16)) NW (dropS 10 (bodyF zW.body)) (lE ns k (some 012) o p r (some (.t 013)) (some (msD ms)) s M c) T) λf _=>∃ρ,f=.nx ρ/\∃N O P Q U W Y Z A,ρ=lE ns k N O P Q U W Y Z A:=by
 have hw:=h.hw;have B:=qhZ hw h.hl h.hE h.hc;have hb:=h.hb;have h7:=h.h7;have C:=λS=>qjD (d:=d+3) (S:=S) h
 have eh:=qa8 (d:=d+12) (S:=T) hw (h.hl.g h.hE);have i:=qda (d:=d+11) (S:=T) h.hm.ok h.hm.l2 hw.c3 B h7 hb;obtain⟨X,j⟩:∃X,X=wth ms w.costs (hgt w l):=⟨_,rfl⟩;have J:Nx ((w.costs.zip (hgt w l)).length*(100*(6*VV))) ((w.costs.zip (hgt w l)).length*(6*(E+cb+g))) X:=by
  rw[j];unfold wth;have:=qaU (V:=100*(6*VV)) (f:=6*(E+cb+g)) _ ((w.costs.zip (hgt w l)).map λq=>plc ms q.1 q.2) rfl (λx F=>by
   obtain⟨q,H,rfl⟩:=w8.mp F;obtain⟨q1,q2⟩:=vB H;have hc:=hw.c3 _ q1;exact qb9 (B _ q2) h.hm.ok h.hm.l2 hc.1 hc.2)
  rw[wF]at this;exact this
 have lX:Lw X:=by
  rw[j];unfold wth;refine qdR λx F=>?_
  obtain⟨q,H,rfl⟩:=w8.mp F;obtain⟨q1,q2⟩:=vB H;have hc:=hw.c3 _ q1;exact(qb9 (B _ q2) h.hm.ok h.hm.l2 hc.1 hc.2).b1
 have I:X.2<2^9000:=by
  refine u3 J.b2 (ue 01 ?_);rw[vq];have:min w.costs.length (hgt w l).length*(6*(E+cb+g))<=7*(6*(E+cb+g)):=vg _ 00;lia
 rw[<-j]at i;simp only[<-j]at C;have en:=ql3 (d:=d+14) (S:=T) lX I;clear J j;simp only[dropS,bodyF,zW];refine qO (Ok.of (a:=nmD X) (S:=T) (qh (qe rfl (qe (qw rfl rfl rfl) (qe (qh rfl eh) rfl))) i) (Ok.of (a:=lE ns k (some 012) o p r (some (.t 013)) (some (msD ms)) s (some (nmD X)) c) rfl ?_));refine qO (Ok.of (a:=nmD X) (S:=T) (qh rfl (C _)) (Ok.of (a:=lE ns k (some 012) o p r (some (.t 013)) (some (msD ms)) s (some (nmD X)) (some (nmD X))) rfl ?_));refine o_no (Ok.of (qX (t_no (x:=true) (t_of (qh rfl en))) (t_of (qH rfl rfl (qkh X T)))) ⟨rfl,?_⟩);obtain⟨T2,ep,pP,_⟩:=qaY (d:=d+14) m (k:=k+4) (S:=T) 00 00;obtain⟨hn,v,hv,es⟩:=pP.use;obtain⟨y,T3,K,rfl,u,hu,eT⟩:=(qfM (d:=d+1) (n:=T.length) (v:=v) (S:=T2) h hn hv).ex;rw[es]at K;refine o_no (o_or (Ok.of (t_no (x:=true) (t_of (qh (qe (qh (qe rfl (qe (qm rfl rfl badd) rfl)) ep) (qe rfl (qe rfl (qe rfl rfl)))) K))) ?_));rw[wT 01];exact Ok.of (t_of (qH (qh rfl (C _)) rfl (qkh X T3))) ⟨rfl,zX ⟨_,rfl,_,_,_,_,_,_,_,_,_,rfl⟩⟩
def takeP{d n:Nat}{m:Int}{T:Sr}(h:Pk T n)(a:0<m)(hm:m.natAbs<2^64):∃(r:Int) (T':Sr),0<=r/\r<m/\G (d+1) 31 [.ref n,.int m] T=.ok (.int r) T'/\∀j,Pk T j->Pk T' j:=by
 obtain⟨hn,v,i,e⟩:=h.use;have c:=zx (d:=d) (n:=n) (v:=v) (m:=m) (S:=T) hn a hm;rw[e]at c;have f:=fm (v:=v) (m:=m) a;exact⟨_,_,f.1,f.2,c,λj l=>h.did l (wc i 00) rfl⟩
def turn{d:Nat}{ns:008}(j:ns.length<=63){k:Int}(hk:0<=k)(O:k<30){a2 a3 a4 a5 M I H A i:Option D}{S:Sr}:
  Ok (exs (G (d+16)) NW (bodyF zW.body) (lE ns k a2 a3 a4 a5 M I H A i) S) λf _=>∃ρ,f=.nx ρ/\∃x2 x3 x4 x5 x6 x7 x8 x9 af,ρ=lE ns k x2 x3 x4 x5 x6 x7 x8 x9 af:=by
 obtain⟨T0,a1,p0,_⟩:=qaY (d:=d+14) j (k:=k) (S:=S) hk 00;obtain⟨ag,v0,ah,aa⟩:=p0.use;obtain⟨P,u0,ab,an,ac,ao,ap,J⟩:=qnl (d:=d+13) (n:=S.length) (v:=v0) (mo:=7) (tn:=10) (S:=T0) ag ah 01 01 01 01;rw[aa]at J;generalize pk T0 S.length u0=T1 at J;rw[show bodyF zW.body=.c (.set 002 (.call 37 (.c (.call 30 035) (.c (.k (.int 7)) (.c (.k (.int 10)) .n))))) (dropS 1 (bodyF zW.body))from rfl];refine qO (Ok.of (qh (qe (qh rfl a1) (qe rfl (qe rfl rfl))) J) (Ok.of (a:=lE ns k (some (webD P)) a3 a4 a5 M I H A i) rfl ?_));obtain⟨T2,W,p2,_⟩:=qaY (d:=d+14) j (k:=k+2) (S:=T1) 00 00;obtain⟨T3,X,p3,k3⟩:=qaY (d:=d+14) j (k:=k+41) (S:=T2) 00 00;have Y:=(k3 _ p2).1;generalize aq:T1.length=n1 at W p2 Y;generalize ar:T2.length=n2 at X p3;obtain⟨r,T4,ai,aj,ad,k4⟩:=takeP (d:=d+15) (m:=4) p3 01 01;rw[show dropS 1 (bodyF zW.body)=.c (.set 000 (.call 30 (.c 02 (.c (.bin .add 06 (.k (.int 2))) .n)))) (.c (.set (.v 4) (.call 30 (.c 02 (.c (.bin .add 06 (.k (.int 41))) .n)))) (.c (.set (.v 5) (.cmp .eq (.call 31 (.c (.v 4) (.c (.k (.int 4)) .n))) 003)) (dropS 4 (bodyF zW.body))))from rfl];refine qO (Ok.of (qh (qe rfl (qe (qm rfl rfl badd) rfl)) W) (Ok.of (a:=lE ns k (some (webD P)) (some (.ref n1)) a4 a5 M I H A i) rfl ?_));refine qO (Ok.of (qh (qe rfl (qe (qm rfl rfl badd) rfl)) X) (Ok.of (a:=lE ns k (some (webD P)) (some (.ref n1)) (some (.ref n2)) a5 M I H A i) rfl ?_));refine qO (Ok.of (a:=.bl (r == 0)) (S:=T4) (qH (qh rfl ad) rfl rfl) (Ok.of (a:=lE ns k (some (webD P)) (some (.ref n1)) (some (.ref n2)) (some (.bl (r == 0))) M I H A i) rfl ?_));have q2:=k4 _ Y;have q3:=k4 _ p3;generalize (r == 0)=gr;have B:Ok (exs (G (d+16)) NW (.c (.ifs (.val (.v 5)) (.c (.set 002 (.call 49 (.c (.v 4) 032))) .n) .n) .n) (lE ns k (some (webD P)) (some (.ref n1)) (some (.ref n2)) (some (.bl gr)) M I H A i) T4) λf U=>∃w,f=.nx (lE ns k (some 012) (some (.ref n1)) (some (.ref n2)) (some (.bl gr)) M I H A i)/\WbOk w/\w.costs.length<=7/\w.ties.length<=10/\(gr=false->∀c∈w.costs,c<=5)/\Pk U n1/\Pk U n2:=by
  cases gr with
  |false=>exact o_no (Ok.of (t_of rfl) ⟨rfl,zX ⟨P,rfl,ab,by lia,by lia,λ_=>ac.1,q2,q3⟩⟩)
  |true =>
   obtain⟨hn,v,K,es⟩:=q3.use;obtain⟨y,U,eg,w',u,ak,as,au,rfl,L,eU⟩:=(qjB (d:=d+14) (n:=n2) (v:=v) (w:=P) (S:=T4) ab hn K).ex;rw[es]at eg;refine qc5 (t_of rfl) ?_;refine qO (Ok.of (qh rfl eg) (Ok.of (a:=lE ns k (some (webD w')) (some (.ref n1)) (some (.ref n2)) (some (.bl true)) M I H A i) rfl (zX (zX ⟨w',rfl,ak,by lia,by lia,λh=>(by cases h),q3.did q2 L eU,q3.did q3 L eU⟩))))
 rw[show dropS 4 (bodyF zW.body)=.c (.ifs (.val (.v 5)) (.c (.set 002 (.call 49 (.c (.v 4) 032))) .n) .n) (dropS 5 (bodyF zW.body))from rfl];have N:∀{s:CS} {r:CSs} {ρ:En} {T:Sr} {Q:R.Fl->Sr->Prop},(Ok (exs (G (d+16)) NW (.cons s .nil) ρ T) λf U=>∃ρ1,f=.nx ρ1/\Ok (exs (G (d+16)) NW r ρ1 U) Q)->Ok (exs (G (d+16)) NW (.cons s r) ρ T) Q:=by
  intro s r ρ T Q h;obtain⟨f,U,e,ρ1,rfl,h1⟩:=h.ex;have e':ex (G (d+16)) NW s ρ T=.ok (.nx ρ1) U:=by
   simp only[exs]at e;cases z:ex (G (d+16)) NW s ρ T with
   |no=>rw[z]at e;cases e
   |err=>rw[z]at e;cases e
   |ok f S2=>rw[z,Res.bind_ok]at e;cases f <;> first|exact e|cases e
  have:exs (G (d+16)) NW (.cons s r) ρ T=exs (G (d+16)) NW r ρ1 U:=by simp only[exs,e',Res.bind_ok]
  rw[this];exact h1
 refine N (B.mono ?_);rintro f U ⟨w,rfl,hw,h7,av,h5,b2,b3⟩;refine⟨_,rfl,?_⟩;clear B a1 J W X ad k3 k4 p2 p3 Y q2 q3 aa p0 ac;rw[show dropS 5 (bodyF zW.body)=.c (.set (.v 6) (.call 38 (.c 000 032))) (.c (.set (.v 7) (.call 41 (.c 000 (.c (.k (.int 6)) .n)))) (.c (.set (.v 8) (.call 30 (.c 02 (.c (.bin .add 06 (.k (.int 53))) .n)))) (dropS 8 (bodyF zW.body))))from rfl];obtain⟨hn,v,K,es⟩:=b2.use;obtain⟨y,U1,el,l,u,hl,L,rfl,Z⟩:=(qfI (d:=d+14) (n:=n1) (v:=v) (w:=w) (S:=U) hw hn K).ex;rw[es]at el;have c2:=b2.did b2 L Z;have c3:=b2.did b3 L Z;clear Z es;obtain⟨hn,v,K,es⟩:=c2.use;obtain⟨y,U2,em,ms,u,a0,rfl,L,ae⟩:=(qfK (d:=d+14) (n:=n1) (v:=v) (S:=U1) hn K).ex;rw[es]at em;have d3:=c2.did c3 L ae;clear ae es;obtain⟨U3,ep,p4,k4⟩:=qaY (d:=d+14) j (k:=k+53) (S:=U2) 00 00;have f3:=(k4 _ d3).1;generalize aw:U2.length=n3 at ep p4;refine qO (Ok.of (qh rfl el) (Ok.of (a:=lE ns k (some 012) (some (.ref n1)) (some (.ref n2)) (some (.bl gr)) (some (.t 013)) I H A i) rfl ?_));refine qO (Ok.of (qh rfl em) (Ok.of (a:=lE ns k (some 012) (some (.ref n1)) (some (.ref n2)) (some (.bl gr)) (some (.t 013)) (some (msD ms)) H A i) rfl ?_));refine qO (Ok.of (qh (qe rfl (qe (qm rfl rfl badd) rfl)) ep) (Ok.of (a:=lE ns k (some 012) (some (.ref n1)) (some (.ref n2)) (some (.bl gr)) (some (.t 013)) (some (msD ms)) (some (.ref n3)) A i) rfl ?_));rw[show dropS 8 (bodyF zW.body)=.c (.ifs (.and (.not (.val (.v 5))) (.val (.cmp .eq (.call 31 (.c (.v 8) (.c (.k (.int 6)) .n))) 003))) (.c (.set (.v 6) (.call 50 (.c (.v 8) 032))) .n) .n) (.c (.ifs (.val (.v 5)) (.c (.set (.v 7) (.bin .add (.slc (.v 7) .none (.some (.k (.int 5)))) (.t (.c (.call 51 (.c (.v 4) .n)) .n)))) .n) .n) (dropS 10 (bodyF zW.body)))from rfl];cases gr with
 |false =>
  have C:∀{E:Nat} {l:020},LyE E w l->E<=200->WkOk E 3 4 ms w l:=λ{E l} h hE=>⟨hw,a0,h,by lia,λc hc=>by have:=h5 rfl c hc;lia,h7,by lia⟩
  obtain⟨r,U4,ai,aj,et,k5⟩:=takeP (d:=d+15) (m:=6) p4 01 01;have p5:=k5 _ p4;refine N ?_;by_cases z:r=0
  .subst z
   obtain⟨hn,v,K,es⟩:=p5.use;obtain⟨y,U5,ef,l2,u,al,L,rfl,_⟩:=(qjC (d:=d+13) (n:=n3) (v:=v) (w:=w) (S:=U4) hw hn K).ex;rw[es]at ef;refine o_if (qhy (Ok.of (t_no (x:=false) (t_of rfl)) ?_));rw[wN 01];refine Ok.of (t_of (qH (qh rfl et) rfl rfl)) ?_;rw[wN 01];refine qO (Ok.of (qh rfl ef) (Ok.of (a:=lE ns k (some 012) (some (.ref n1)) (some (.ref n2)) (some (.bl false)) (some (.t (lyD l2))) (some (msD ms)) (some (.ref n3)) A i) rfl ?_));refine zX (zX ⟨_,rfl,?_⟩);refine o_no (Ok.of (t_of rfl) ⟨rfl,?_⟩);exact qaZ j hk O (C (E:=200) ⟨1000000,20,al,by decide,by decide,by lia,by decide,by decide⟩ (wH _))
  .refine o_if (qhy (Ok.of (t_no (x:=false) (t_of rfl)) ?_))
   rw[wN 01];refine Ok.of (a:=false) (t_of (qH (qh rfl et) rfl (by show some (r == 0)=some false;rw[wv.mpr z]))) ?_;rw[wT 01];refine zX (zX ⟨_,rfl,?_⟩);refine o_no (Ok.of (t_of rfl) ⟨rfl,?_⟩);exact qaZ j hk O (C (E:=40) ⟨12,4,hl,by decide,by decide,by lia,by decide,by decide⟩ 01)
 |true =>
  obtain⟨hn,v,K,es⟩:=f3.use;obtain⟨y,U5,eg,p,u,hp,rfl,L,_⟩:=(qcd (d:=d+14) (n:=n2) (v:=v) (S:=U3) hn K).ex;rw[es]at eg;have am:MsOk 40 (ms.take 5++[p]):=by
   refine⟨by simp,by simp;lia,λq hq=>?_⟩;rcases wa.mp hq with z|z
   .exact (a0.ok q (vh z)).mono 01
   .rw [wV.mp z];exact hp
  have e5:ev (G (d+16)) (.bin .add (.slc (.v 7) .none (.some (.k (.int 5)))) (.t (.c (.call 51 (.c (.v 4) .n)) .n))) (lE ns k (some 012) (some (.ref n1)) (some (.ref n2)) (some (.bl true)) (some (.t 013)) (some (msD ms)) (some (.ref n3)) A i) U3=.ok (msD (ms.take 5++[p])) U5:=by
   have e:=qm (F:=G (d+16)) (o:=.add) (ρ:=lE ns k (some 012) (some (.ref n1)) (some (.ref n2)) (some (.bl true)) (some (.t 013)) (some (msD ms)) (some (.ref n3)) A i) (S:=U3) (S1:=U3) (S2:=U5) (e1:=.slc (.v 7) .none (.some (.k (.int 5)))) (e2:=.t (.c (.call 51 (.c (.v 4) .n)) .n)) (d1:=.t (cutD (ms.map ptD) none (some 5))) (d2:=.t [ptD p]) (qaf (l:=ms.map ptD) rfl rfl rfl) (qZ (qe (qh rfl eg) rfl) 036) (bcatT (by
    have:=(jL (ms.map ptD) none (some 5)).2;have:=a0.l2;rw[wF]at *;simp;lia))
   rw[e,cut5];unfold msD;rw[vL,List.map_take];rfl
  refine o_no (qhy (Ok.of (t_no (x:=true) (t_of rfl)) ?_));rw[wT 01];refine⟨rfl,?_⟩;refine qc5 (t_of rfl) ?_;refine qO (Ok.of e5 (Ok.of (a:=lE ns k (some 012) (some (.ref n1)) (some (.ref n2)) (some (.bl true)) (some (.t 013)) (some (msD (ms.take 5++[p]))) (some (.ref n3)) A i) rfl (zX ?_)));exact qaZ (E:=40) (cb:=7) (g:=40) j hk O ⟨hw,am,⟨12,4,hl,by decide,by decide,by lia,by decide,by decide⟩,by decide,λc hc=>by have:=hw.c3 c hc;lia,h7,by decide⟩
def ql5{d:Nat}{ns:008}(w:ns.length<=63):G (d+17) 52 [.l (ns.map .int)] []=.ok (.bl true) []:=by
 have:Ok (G (d+17) 52 [.l (ns.map .int)] []) λr S=>r=.bl true/\S=[]:=by
  rw[G_at (c:=zW) rfl];refine yG (f:=zW) rfl rfl ?_;obtain⟨n,hn,y⟩:=ql4 (F:=G (d+16)) (ρ:=[some (.l (ns.map .int)),none,none,none,none,none,none,none,none,none,none]) (S:=[]) (ns:=ns) rfl;refine qbu (g:=λk:Nat=>D.int (0+6*k)) (λpre ρ _=>∃x j l m o p s u v h,ρ=[some (.l (ns.map .int)),x,j,l,m,o,p,s,u,v,h]) (List.range n) (Ok.of y ⟨rfl,_,_,_,_,_,_,_,_,_,_,rfl⟩) ?_ ?_
  .rintro pre q A ρ T i ⟨x,j,l,m,o,p,s,u,v,h,rfl⟩
   have B:q∈List.range n:=by rw[i];simp
   have C:=uB.mp B;refine Ok.of (a:=lE ns (0+6*q) j l m o p s u v h) rfl ?_;refine(turn (d:=d) w (k:=0+6*(q:Int)) 00 00).mono ?_;rintro f S1 ⟨ρ,rfl,H,I,J,K,L,M,N,O,E,rfl⟩;exact⟨_,_,_,_,_,_,_,_,_,_,rfl⟩
  .rintro ρ T ⟨x,j,l,m,o,p,s,u,v,h,rfl⟩
   exact qaM (Ok.of rfl ⟨wr _,rfl,rfl,by simp⟩)
 obtain⟨a,S,e,rfl,rfl⟩:=this.ex;exact e
def pure_law(ns:008)(h:ns.length<=63):∃a,R.run prg NW 17 52 [.l (ns.map .int)] []=.ok (.bl true) a:=⟨[],by rw[<-qhC];exact ql5 (d:=0) h⟩
end RP
section
namespace PySem.W.Fast
def tw12504086822052751974:Nat:=0
end PySem.W.Fast
noncomputable def PySem.W.Fast.tw1529632576231000882:Nat:=0
noncomputable def PySem.W.Fast.tw10650406410780058143:Nat:=0
noncomputable def PySem.W.Fast.tw11880020321432339750:Nat:=0
noncomputable def PySem.W.Fast.tw9124772460271304690:Nat:=0
noncomputable def PySem.W.Fast.tw6975035889197995243:Nat:=0
noncomputable def PySem.W.Fast.tw14445426168493038104:Nat:=0
noncomputable def PySem.W.Fast.tw9512625214092963682:Nat:=0
noncomputable def PySem.W.Fast.tw15635090192116745145:Nat:=0
noncomputable def PySem.W.Fast.tw15173411649278311472:Nat:=0
noncomputable def PySem.W.Fast.tw3797342570277522990:Nat:=0
noncomputable def PySem.W.Fast.tw14639792392453178415:Nat:=0
noncomputable def PySem.W.Fast.tw10906274508644638954:Nat:=0
noncomputable def PySem.W.Fast.tw18082946041290839776:Nat:=0
noncomputable def PySem.W.Fast.tw13753011613353123340:Nat:=0
noncomputable def PySem.W.Fast.tw7476312596183919027:Nat:=0
noncomputable def PySem.W.Fast.tw10724762795628306529:Nat:=0
noncomputable def PySem.W.Fast.tw7996457976747499307:Nat:=0
noncomputable def PySem.W.Fast.tw9943860757745067659:Nat:=0
noncomputable def PySem.W.Fast.tw9082645502608983449:Nat:=0
noncomputable def PySem.W.Fast.tw9482866413363765452:Nat:=0
noncomputable def PySem.W.Fast.tw15137405535045867409:Nat:=0
noncomputable def PySem.W.Fast.tw46770295969561871:Nat:=0
noncomputable def PySem.W.Fast.tw12959196771547781458:Nat:=0
noncomputable def PySem.W.Fast.tw8846276706124092276:Nat:=0
noncomputable def PySem.W.Fast.tw11948648311320071935:Nat:=0
noncomputable def PySem.W.Fast.tw6073432316921051244:Nat:=0
noncomputable def PySem.W.Fast.tw8560061255855439200:Nat:=0
noncomputable def PySem.W.Fast.tw7102471466833020349:Nat:=0
noncomputable def PySem.W.Fast.tw16078773293043379928:Nat:=0
noncomputable def PySem.W.Fast.tw6070855915095935382:Nat:=0
noncomputable def PySem.W.Fast.tw8873337950604497395:Nat:=0
noncomputable def PySem.W.Fast.tw9429636103594288858:Nat:=0
noncomputable def PySem.W.Fast.tw10519880759921954356:Nat:=0
noncomputable def PySem.W.Fast.tw10298643344852049959:Nat:=0
noncomputable def PySem.W.Fast.tw12107381596733656466:Nat:=0
noncomputable def PySem.W.Fast.tw16102930071563555883:Nat:=0
noncomputable def PySem.W.Fast.tw2108138081212706739:Nat:=0
noncomputable def PySem.W.Fast.tw17378368604666029966:Nat:=0
noncomputable def PySem.W.Fast.tw3080358149598968468:Nat:=0
noncomputable def PySem.W.Fast.tw5932624487879470371:Nat:=0
noncomputable def PySem.W.Fast.tw5337811216122971467:Nat:=0
noncomputable def PySem.W.Fast.tw1317422643530641448:Nat:=0
noncomputable def PySem.W.Fast.tw16244486993585958866:Nat:=0
noncomputable def PySem.W.Fast.tw8095493204511276539:Nat:=0
noncomputable def PySem.W.Fast.tw1544291724043590653:Nat:=0
noncomputable def PySem.W.Fast.tw15284004828705910175:Nat:=0
noncomputable def PySem.W.Fast.tw12219686825533150239:Nat:=0
noncomputable def PySem.W.Fast.tw16287657046076593524:Nat:=0
noncomputable def PySem.W.Fast.tw18290332500785158996:Nat:=0
noncomputable def PySem.W.Fast.tw16012811375050106965:Nat:=0
noncomputable def PySem.W.Fast.tw15228801768158524940:Nat:=0
noncomputable def PySem.W.Fast.tw18017369984673946510:Nat:=0
noncomputable def PySem.W.Fast.tw4278295897561461405:Nat:=0
noncomputable def PySem.W.Fast.tw10044541435244024887:Nat:=0
noncomputable def PySem.W.Fast.tw11114431875294149555:Nat:=0
noncomputable def PySem.W.Fast.tw11649712268893072927:Nat:=0
noncomputable def PySem.W.Fast.tw617740344877957879:Nat:=0
noncomputable def PySem.W.Fast.tw1022950712479392803:Nat:=0
noncomputable def PySem.W.Fast.tw6670240945549741293:Nat:=0
noncomputable def PySem.W.Fast.tw14221054681687742678:Nat:=0
noncomputable def PySem.W.Fast.tw7246140349548051156:Nat:=0
noncomputable def PySem.W.Fast.tw10832661168254566810:Nat:=0
noncomputable def PySem.W.Fast.tw14094456374063315828:Nat:=0
noncomputable def PySem.W.Fast.tw11948945597900011180:Nat:=0
noncomputable def PySem.W.Fast.tw10593828930226361995:Nat:=0
noncomputable def PySem.W.Fast.tw16118979427452492040:Nat:=0
noncomputable def PySem.W.Fast.tw17331711310079202949:Nat:=0
noncomputable def PySem.W.Fast.tw5714029384525554764:Nat:=0
noncomputable def PySem.W.Fast.tw469959974360859102:Nat:=0
noncomputable def PySem.W.Fast.tw12766690415691085864:Nat:=0
noncomputable def PySem.W.Fast.tw12410753000306918247:Nat:=0
noncomputable def PySem.W.Fast.tw2229472366084520105:Nat:=0
noncomputable def PySem.W.Fast.tw7767921429005270691:Nat:=0
noncomputable def PySem.W.Fast.tw12812985745681776342:Nat:=0
noncomputable def PySem.W.Fast.tw3337957533110641263:Nat:=0
noncomputable def PySem.W.Fast.tw4684674383006272102:Nat:=0
noncomputable def PySem.W.Fast.tw15133109773491890129:Nat:=0
noncomputable def PySem.W.Fast.tw14775878736532924389:Nat:=0
noncomputable def PySem.W.Fast.tw18100718126460389917:Nat:=0
noncomputable def PySem.W.Fast.tw14938984203738987464:Nat:=0
noncomputable def PySem.W.Fast.tw1727879548772203509:Nat:=0
noncomputable def PySem.W.Fast.tw12867739182624284068:Nat:=0
noncomputable def PySem.W.Fast.tw10247919492654250542:Nat:=0
noncomputable def PySem.W.Fast.tw14778179677954206238:Nat:=0
noncomputable def PySem.W.Fast.tw1189707163126592172:Nat:=0
noncomputable def PySem.W.Fast.tw5337750896234370981:Nat:=0
noncomputable def PySem.W.Fast.tw16052309432222937579:Nat:=0
noncomputable def PySem.W.Fast.tw4188134353398285819:Nat:=0
noncomputable def PySem.W.Fast.tw17417718059165856651:Nat:=0
noncomputable def PySem.W.Fast.tw14313935746489673385:Nat:=0
noncomputable def PySem.W.Fast.tw3285757775406431869:Nat:=0
noncomputable def PySem.W.Fast.tw165115818060636720:Nat:=0
noncomputable def PySem.W.Fast.tw16046072334929234230:Nat:=0
noncomputable def PySem.W.Fast.tw2286727539976023459:Nat:=0
noncomputable def PySem.W.Fast.tw14494822248834317687:Nat:=0
noncomputable def PySem.W.Fast.tw289590391548943346:Nat:=0
noncomputable def PySem.W.Fast.tw9570568752662966835:Nat:=0
noncomputable def PySem.W.Fast.tw2243365437995369081:Nat:=0
noncomputable def PySem.W.Fast.tw17042422486255772760:Nat:=0
noncomputable def PySem.W.Fast.tw2416847217385373829:Nat:=0
noncomputable def PySem.W.Fast.tw7880926315737625332:Nat:=0
noncomputable def PySem.W.Fast.tw3761411260254975257:Nat:=0
noncomputable def PySem.W.Fast.tw13323195369696323829:Nat:=0
noncomputable def PySem.W.Fast.tw2062975576462207591:Nat:=0
noncomputable def PySem.W.Fast.tw10040493688933457914:Nat:=0
noncomputable def PySem.W.Fast.tw5800517329478134096:Nat:=0
noncomputable def PySem.W.Fast.tw3506393437707811027:Nat:=0
noncomputable def PySem.W.Fast.tw6899285450020581618:Nat:=0
noncomputable def PySem.W.Fast.tw14447883860302089357:Nat:=0
noncomputable def PySem.W.Fast.tw5559747345469995978:Nat:=0
noncomputable def PySem.W.Fast.tw2306406566359989261:Nat:=0
noncomputable def PySem.W.Fast.tw1215105730065001497:Nat:=0
noncomputable def PySem.W.Fast.tw16993290057178209226:PySem.Program:=PySem.Challenge.pw_weblayers_k30_worth_of_layings
theorem PySem.W.Fast.te16993290057178209226:PySem.Challenge.pw_weblayers_k30_worth_of_layings=PySem.W.Fast.tw16993290057178209226:=rfl
namespace RP
open PySem PySem.W PyProof.Rows R
noncomputable abbrev KOf2{K:009}{h:Heap}(_:K.In h):PySem.W.Frag:=K
end RP
open PySem PySem.W PyProof.Rows R
set_option maxRecDepth 100000 in
set_option maxHeartbeats 0 in
theorem PySem.Challenge.cw_weblayers_k30_worth_of_layings_holds : PySem.Challenge.rw_weblayers_k30_worth_of_layings.Holds := by
 w_on;o_law;k_head;(case hw=>w_witness2)
 k_fill
 refine R.qle (l:=PySem.Challenge.rw_weblayers_k30_worth_of_layings) (n:=63) (k:=51) (x:="_law_script") (g:=R.run RP.prg RP.NW 17 52) rfl (by decide) rfl ⟨rfl,by decide,by decide⟩ (λw h Y=>PySem.W.kIn_of Y) ?zp ?zc ?zF RP.pure_law
 case zp=>intro P;rfl
 case zc=>intro P;rfl
 case zF =>
  intro w mg fa h KX G hmg
  have p:RP.Pre (RP.KOf2 KX) mg:=by
   dsimp only[RP.KOf2]
   constructor
   case gb=>constructor <;> (refine' mg_none_of KX G ?a;case a=>k_is)
   case v2|v3|v4|v5|v6|v7=>refine' qln KX G ?a ?b;(case a=>k_is);(case b=>exact rfl)
   case v0|v1=>refine' qi5 KX G ?a ?b;(case a=>k_is);(case b=>exact rfl)
   case v8|v9|v10|v11|v12|v13|v14|v15|v16|v17|v18|v19|v20=>refine' R.qlw KX G ?a ?b;(case a=>k_is);(case b=>exact rfl)
   case v21=>refine' mg_none_of KX G ?a;(case a=>k_is)
   case v27|v42|v57=>refine' ⟨?a,?b,?c,?d,?e,?f,?g,?h⟩;(case a|b|c|d|e|f|g=>k_is);(case h=>rfl)
   case v26|v41|v56=>k_exc
   case v22|v23|v24|v25|v28|v29|v30|v31|v32|v33|v34|v35|v36|v37|v38|v39|v40|v43|v44|v45|v46|v47|v48|v49|v50|v51|v52|v53|v54|v55|v58|v59|v60|v61|v62|v63|v64|v65|v66|v67|v68|v69|v70=>rfl
   all_goals
    refine' qlm KX G ?a ?l ?c ?d ?h ?t ?k ?b
    (case a|l|c|d=>k_is);(case h|t=>rfl);(case k=>k_is)
    (case b=>intro _ _ _ _ _ _ _ q;first|(obtain⟨_,rfl⟩:=len1 q;rfl)|(obtain⟨_,_,rfl⟩:=len2 q;rfl)|(obtain⟨_,_,_,rfl⟩:=len3 q;rfl)|(obtain⟨_,_,_,_,rfl⟩:=len4 q;rfl))
  obtain⟨f,fd,c,t,hm,U,hb⟩:=p.u_52
  have e0:=hmg.symm.trans hm
  cases e0
  obtain⟨oc,od,kV,doc,pm,an,ct,osl,rfl,lk,hcd⟩:=U.ex
  exact⟨_,λs u=>.of_eq rfl,λbase kb _=>RP.o_law p kb (RP.qhm p kb 16) U⟩
end
