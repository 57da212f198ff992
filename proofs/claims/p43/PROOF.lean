import PyProof.Rows.All
import Wide.All
import OpenK.AllK
import Wide.FinOn
import Lean
import PyProof.EqAt
import PyProof.EqKinds
import PyProof.TupleCall
import PyProof.DictTruth
import PyProof.Conv_int_bool
import PySem.Challenge.RW_weblayers_k43_whole_webs_called_otherwis
set_option Elab.async false
set_option linter.all false
set_option maxRecDepth 100000
set_option maxHeartbeats 4000000
set_option genSizeOf false
set_option genSizeOfSpec false
section
open PySem PySem.Spec PyProof.Rows Spec
def w1:=@wpAny_field
def w5:=@PySem.mem_of_lookup
def wh:=@Nat.zero_le
def wi:=@wpAny_standAt
def wr:=@if_true
def ws:=@Nat.ne_of_gt
def vS:=@List.nodup_cons
def vT:=@List.foldl_cons
def vU:=@Calls.spliced_cons
def vV:=@Bool.false_eq_true
def vW:=@List.lookup_cons
def vX:=@List.filter_cons
def vY:=@List.mem_of_mem_take
def vZ:=@List.getElem?_cons_zero
def v0:=@F.slot_dict_keyiterator_next
def v4:=@wpAny_seqItems
def v5:=@Heap.size_push
def v6:=@List.pairwise_map
def v7:=@List.nodup_append
def v8:=@List.append_assoc
def v9:=@PyProof.Rows.callWith_type1
def va:=@List.getElem_of_mem
def vb:=@Array.length_toList
def vc:=@List.getElem?_set_self
def vd:=@List.any_eq_true
def ve:=@List.length_singleton
def vf:=@Int.fmod_lt_of_pos
def vg:=@List.mem_range
def vh:=@wpAny_updateSeq
def vi:=@List.flatten_cons
def vk:=@Int.mul_le_mul_of_nonneg_right
def vl:=@List.sum_cons
def vm:=@List.getElem?_replicate
def vn:=@List.any_cons
def vo:=@Int.mul_pos
def vq:=@wpAny_typeNameOfWhole_keyiter
def vr:=@List.not_mem_nil
def vt:=@beq_iff_eq
def vu:=@wpAny_setField_rec
def vw:=@List.zip_cons_cons
def vz:=@wpAny_passesOwn
def uA:=@List.set_append_right
def uB:=@List.forIn_cons
def uC:=@List.append_nil
def uD:=@Array.getElem?_toList
def uE:=@wpAny_rule
def uF:=@Nat.lt_succ_of_lt
def uG:=@List.filter_congr
def uH:=@F.plain_list_iadd
def uI:=@Calls.spliced_nil
def uJ:=@Int.fdiv_eq_ediv_of_nonneg
def uK:=@F.slot_tuple_iterator_next
def uL:=@Array.getElem?_eq_getElem
def uM:=@wpAny_isInstance
def uN:=@if_false
def uO:=@wpAny_typeNameOf_keyiter
def uP:=@List.getElem?_take_of_lt
def uQ:=@wpAny_attempt
def uR:=@List.find?_cons
def uS:=@List.filter_map
def uT:=@List.drop_of_length_le
def uU:=@F.called_tuple
def uV:=@wpAny_typeOf
def uW:=@List.length_filter_le
def uX:=@List.prefix_refl
def uY:=@List.getElem_mem
def uZ:=@Int.mul_le_mul_of_nonneg_left
def u5:=@F.plain_sum_loop
def u6:=@List.getElem?_set_ne
def u7:=@Array.toArray_toList
def u8:=@List.all_cons
def u9:=@typeIs_int
def ua:=@wpAny_of_eq
def ub:=@wpAny_letGo
def uc:=@List.drop_succ_cons
def ud:=@Int.mul_lt_mul_of_pos_right
def ue:=@Array.getElem_setIfInBounds
def uf:=@Int.lt_of_mul_lt_mul_right
def ug:=@wpAny_pyIter_tuple
def uh:=@wpAny_Call_Name_kw
def ui:=@Obj.data_mapFields
def uj:=@Nat.lt_of_lt_of_eq
def uk:=@List.filter_append
def ul:=@List.drop_zero
def um:=@List.drop_eq_getElem_cons
def uo:=@F.slot_tuple_getattribute
def uq:=@wpAny_dictEntries
def ur:=@PySem.F.args_tuple_add_2
def ut:=@List.length_erase_of_mem
def uu:=@List.any_eq_false
def uv:=@Int.toNat_natCast
def uw:=@F.plain_tuple_new
def ux:=@Bool.not_eq_true'
def uy:=@decide_eq_false_iff_not
def uz:=@PySem.F.entry_tuple_add
def xA:=@Option.bind_none
def xB:=@Nat.lt_succ_self
def xC:=@Nat.le_add_right
def xD:=@List.getElem_inj
def xE:=@PySem.F.slot_tuple_add
def xF:=@Array.getElem?_eq_none
def xG:=@get?_update_seq
def xH:=@codeAny_of_tree
def xI:=@codeAny_mono
def xJ:=@PySem.F.slot_dict_get
def xK:=@List.map_nil
def xL:=@List.eq_nil_or_concat
def xM:=@List.concat_eq_append
def xN:=@List.Pairwise.and_mem
def xO:=@F.slot_zip_next
def xP:=@F.slot_int_rmul
def xQ:=@F.plain_proto_collect
def xR:=@F.entry_proto_collect
def xS:=@call_meets
def xT:=@wpAny_updateSeq_pair
def xU:=@List.getElem_toArray
def xV:=@wpAny_setField
def xW:=@wpAny_fieldsOf
end
section
open PySem PySem.Spec PyProof.Rows Spec
def wA:=@wpAny_bind
def wB:=@Heap.get?_push_of_some
def wC:=@List.getElem?_eq_getElem
def wD:=@wpAny_pure
def wE:=@List.mem_cons_self
def wF:=@Heap.get?_push_size
def wG:=@List.length_map
def wH:=@List.mem_cons_of_mem
def wI:=@List.map_cons
def wJ:=@Heap.lt_size
def wK:=@Nat.le_refl
def wL:=@List.size_toArray
def wM:=@if_pos
def wN:=@List.getD_eq_getElem?_getD
def wO:=@if_neg
def wP:=@List.getElem?_eq_some_iff
def wQ:=@Option.bind_some
def wR:=@List.mem_cons
def wS:=@List.map_map
def wT:=@List.mem_append_right
def wU:=@Bool.false_ne_true
def wV:=@List.contains_iff_mem
def wW:=@Bool.and_eq_true
def wX:=@List.mem_map
def wY:=@List.getElem?_append_left
def wZ:=@Option.map_some
def w4:=@List.length_cons
def w6:=@Nat.lt_of_lt_of_le
def w8:=@List.getElem?_append_right
def w9:=@wpAny_newObj_type
def wa:=@List.length_eq_zero_iff
def wb:=@List.getElem?_map
def wc:=@Nat.ne_of_lt
def wd:=@List.length_append
def we:=@List.map_congr_left
def wf:=@List.mem_singleton
def wg:=@Around.under_plainId
def wj:=@Heap.get?_update_other
def wk:=@decide_eq_true_eq
def wm:=@List.mem_filter
def wn:=@Int.fmod_nonneg_of_pos
def wo:=@List.mem_of_getElem?
def wp:=@List.mem_append_left
def wq:=@wpAny_callSpecial?_slot
def wt:=@decide_eq_false
def wu:=@List.mem_append
def wv:=@wpAny_holding
def ww:=@List.all_eq_true
def wx:=@codeAny_builtin
def wy:=@List.pairwise_cons
def wz:=@wpAny_call_entry
def vA:=@plainId_quiet
def vB:=@beq_eq_false_iff_ne
def vC:=@List.replicate_succ
def vD:=@Heap.get?_update_self
def vE:=@List.length_take
def vF:=@of_decide_eq_true
def vG:=@PyProof.Rows.slot_tuple_getitem
def vH:=@Nat.lt_irrefl
def vI:=@Nat.le_trans
def vJ:=@List.map_append
def vK:=@decide_eq_true
def vL:=@sizeLine_eq
def vM:=@PySem.W.kia_one
def vN:=@List.length_nil
def vO:=@Int.fdiv_nonneg
def vP:=@Bool.eq_iff_iff
def vQ:=@wpAny_mono
def vR:=@wpAny_truthy_bool
end
namespace L2
open PySem PySem.Spec PyProof.Rows
noncomputable abbrev Key:=Sum Int Str
noncomputable def keyIs:Key->Value->Bool
 | .inl k,v=>Value.isInt k v
 | .inr x,v=>Value.isStrOf x v
noncomputable def keyH(w:World):Key->Int
 | .inl k=>hashInt k
 | .inr x=>hashStr w x
theorem keyIs_shape:∀{k:Key} {v:Value},keyIs k v=true->(∃i t,k=Sum.inl i/\v=Value.int i t)\/(∃x t,k=Sum.inr x/\v=Value.str x t)
 | .inl i,v,h=>by
  obtain⟨t,e⟩:=Value.isInt_shape (k:=i) (v:=v) h
  exact .inl ⟨i,t,rfl,e⟩
 | .inr x,v,h=>by
  obtain⟨t,e⟩:=Value.isStrOf_shape (x:=x) (v:=v) h
  exact .inr ⟨x,t,rfl,e⟩
theorem qeb(i:Int)(t:Tok):keyIs (.inl i) (.int i t)=true:=by simp[keyIs,Value.isInt]
theorem qec(x:Str)(t:Tok):keyIs (.inr x) (.str x t)=true:=by simp[keyIs,Value.isStrOf]
theorem qjg(a b:Int):decide ((Sum.inl a:Key)=Sum.inl b)=(a == b):=by
 by_cases e:a=b
 .subst e;simp
 .have h:¬(Sum.inl a:Key)=Sum.inl b:=λq=>e (Sum.inl.inj q)
  rw[wt h]
  exact(vB.mpr e).symm
theorem qjh(a b:Str):decide ((Sum.inr a:Key)=Sum.inr b)=decide (a=b):=by
 by_cases e:a=b
 .subst e;simp
 .have h:¬(Sum.inr a:Key)=Sum.inr b:=λq=>e (Sum.inr.inj q)
  rw[wt h,wt e]
theorem qji(a:Int)(b:Str):decide ((Sum.inl a:Key)=Sum.inr b)=false:=wt (λq=>nomatch q)
theorem qjj(a:Str)(b:Int):decide ((Sum.inr a:Key)=Sum.inl b)=false:=wt (λq=>nomatch q)
noncomputable def mixKind(prog:Program)(w:World):PySem.KeyKind prog w Key where
 is:=keyIs
 hash:=keyH w
 inj:=λv a b ha d=>by
  rcases keyIs_shape ha with ⟨i,t,rfl,rfl⟩|⟨x,t,rfl,rfl⟩
  .rcases keyIs_shape d with ⟨j,u,rfl,e⟩|⟨y,u,rfl,e⟩
   .injection e with e1 _;rw[e1]
   .exact nomatch e
  .rcases keyIs_shape d with ⟨j,u,rfl,e⟩|⟨y,u,rfl,e⟩
   .exact nomatch e
   .injection e with e1 _;rw[e1]
 byValue:=λk v h=>by
  rcases keyIs_shape h with ⟨i,t,rfl,rfl⟩|⟨x,t,rfl,rfl⟩ <;> rfl
 pyHash:=λc h=>by
  rcases keyIs_shape c with ⟨i,t,rfl,rfl⟩|⟨x,t,rfl,rfl⟩
  .exact wpAny_pyHash_int h
  .exact wpAny_pyHash_str h
 eqBool:=λf c h=>by
  rcases keyIs_shape f with ⟨i,t,rfl,rfl⟩|⟨x,t,rfl,rfl⟩
  .rcases keyIs_shape c with ⟨j,u,rfl,rfl⟩|⟨y,u,rfl,rfl⟩
   .rw [qjg]at h;exact wpAny_eqBool_int h
   .rw [qji]at h;exact SeqAt.EqAt.int_str i t y u _ _ _ _ h
  .rcases keyIs_shape c with ⟨j,u,rfl,rfl⟩|⟨y,u,rfl,rfl⟩
   .rw [qjj]at h;exact SeqAt.EqAt.str_int x t j u _ _ _ _ h
   .rw [qjh]at h;exact wpAny_eqBool_str h
 «strs»:=λk x t v h=>by
  rcases keyIs_shape h with ⟨i,u,rfl,e⟩|⟨y,u,rfl,e⟩
  .exact nomatch e
  .injection e with e1 _
   subst e1
   cases v <;> rfl
theorem qbB(prog:Program)(w:World)(i:Int)(t:Tok):(mixKind prog w).is (.inl i) (.int i t)=true:=qeb i t
theorem qbC(prog:Program)(w:World)(x:Str)(t:Tok):(mixKind prog w).is (.inr x) (.str x t)=true:=qec x t
end L2
namespace L2
open PySem PySem.Spec PyProof.Rows
inductive V where
 |non|bl (b:Bool)|int (i:Int)|str (x:Str)|byt (b:Array UInt8)|flt (b:UInt64)|ref (a:Addr)|ty (n:String)
 deriving DecidableEq
def RelV:V->Value->Prop
 | .non,u=>u=Value.none
 | .bl b,u=>u=Value.bool b
 | .int i,u=>∃t,u=Value.int i t
 | .str x,u=>∃t,u=Value.str x t
 | .byt b,u=>∃t,u=Value.bytes b t
 | .flt b,u=>∃t,u=Value.float b t
 | .ref a,u=>u=Value.ref a
 | .ty n,u=>u=Value.type n
noncomputable abbrev Vals:List V->List Value->Prop:=Paired RelV
theorem Vals.length{xs:List V}{us:List Value}(r:Vals xs us):xs.length=us.length:=Paired.length r
theorem Vals.get:∀{xs:List V} {us:List Value} {i:Nat} {x:V},Vals xs us->xs[i]?=some x->∃u,us[i]?=some u/\RelV x u
 |_,_,_,_,.nil,e=>by simp at e
 |_,_,0,_,.cons r _,e=>by simp at e;subst e;exact⟨_,rfl,r⟩
 |_,_,i+1,x,.cons _ t,e=>by
  obtain⟨u,a,b⟩:=Vals.get (i:=i) (x:=x) t (by simpa using e)
  exact⟨u,by simpa using a,b⟩
theorem Vals.set{x:V}{u:Value}(r:RelV x u):∀{xs:List V} {us:List Value} (i:Nat),Vals xs us->Vals (xs.set i x) (us.set i u)
 |_,_,_,.nil=>.nil
 |_,_,0,.cons _ t=>.cons r t
 |_,_,i+1,.cons q t=>.cons q (Vals.set r i t)
theorem Vals.append:∀{xs ys:List V} {us a:List Value},Vals xs us->Vals ys a->Vals (xs++ys) (us++a)
 |_,_,_,_,.nil,s=>s
 |_,_,_,_,.cons r t,s=>.cons r (Vals.append t s)
theorem Vals.take:∀{xs:List V} {us:List Value} (n:Nat),Vals xs us->Vals (xs.take n) (us.take n)
 |_,_,0,_=>.nil
 |_,_,_+1,.nil=>.nil
 |_,_,n+1,.cons r t=>.cons r (Vals.take n t)
theorem Vals.drop:∀{xs:List V} {us:List Value} (n:Nat),Vals xs us->Vals (xs.drop n) (us.drop n)
 |_,_,0,r=>r
 |_,_,_+1,.nil=>.nil
 |_,_,n+1,.cons _ t=>Vals.drop n t
def RelO:Option V->Option Value->Prop
 |some v,some u=>RelV v u
 |none,none=>True
 |_,_=>False
noncomputable def KV{κ:Type}:List (κ×V)->List (κ×Value)->Prop:=Paired λ(p:κ×V) (q:κ×Value)=>p.1=q.1/\RelV p.2 q.2
noncomputable def kV:Key->V
 | .inl i=>.int i
 | .inr x=>.str x
inductive HO where
 |lst (xs:List V)
 |tup (xs:List V)
 |dK (kvs:List (Key×V))|dT (kvs:List (List Key×V))
 |set (S:Int->Bool) (n:Nat)
 |ins (C dx:Addr) (fs:List (Str×V))
 |own (x:Addr)
 |xd (fs:List (Str×V))
 |met (f x:Addr)
 |rng (lo hi:Int)
 |frz (o:Obj) (u:HO)
 |tbl (ps:Array Value)
 |ext (φ:Heap->Prop)
noncomputable abbrev Hp:=Addr->Option HO
noncomputable def upd(H:Hp)(a:Addr)(o:HO):Hp:=λb=>if b=a then some o else H b
theorem qv{H:Hp}{a:Addr}{o:HO}:upd H a o a=some o:=by unfold upd;rw[wM rfl]
theorem qk{H:Hp}{a b:Addr}{o:HO}(h:b≠a):upd H a o b=H b:=by unfold upd;rw[wO h]
theorem qhr{H:Hp}{a:Addr}{o u:HO}:upd (upd H a o) a u=upd H a u:=by
 funext b;unfold upd;split <;> rfl
theorem qkZ{H:Hp}{a b:Addr}{o u:HO}(h:H a=some o)(h':H b=some u)(d:o≠u):a≠b:=by
 intro e;subst e;rw[h]at h';exact d (Option.some.inj h')
theorem zm{H:Hp}{a b:Addr}{o:HO}(h:H a=some o)(h':H b=none):a≠b:=by
 intro e;subst e;rw[h]at h';cases h'
theorem yw(h:Heap)(its:Array Value):∀o,(h.push {cls:=.type "tuple",data:=.seq its}).get? h.objs.size=some o->o.dict=none:=λo q=>by
 rw[wF _ rfl]at q;cases q;rfl
section
variable(P:Program)(w:World)
def ObjOk(H:Hp)(h:Heap)(a:Addr):HO->Prop
 | .lst xs=>xs.length<=sizeLine/\∃(its:List Value) (n:Nat),Vals xs its/\h.get? a=some {cls:=.type "list",data:=.seq its.toArray n}
 | .tup xs=>xs.length<=sizeLine/\∃its:List Value,Vals xs its/\IsTup h a its.toArray/\∀o,h.get? a=some o->o.dict=none
 | .dK kvs=>kvs.length<=sizeLine/\(a == sysModules)=false/\∃vs,KV kvs vs/\h.DictOf (mixKind P w) a vs
 | .dT kvs=>kvs.length<=sizeLine/\(a == sysModules)=false/\∃xs:List (List Key×Addr×Value),
   Paired (λ(p:List Key×V) (q:List Key×Addr×Value)=>p.1=q.1/\H q.2.1=some (.tup (p.1.map kV))/\RelV p.2 q.2.2) kvs xs /\
   ∃o es e,h.get? a=some o/\o.ExactDict/\o.data=.dict es e/\es.toList=xs.map (entryOfKey (tupleKind (mixKind P w)))/\(xs.map (·.1)).Nodup
 | .set S n=>h.SetOf (intKind P w) a S n
 | .ins C dx fs=>H dx=some (.own a)/\fs.length<=1000/\dx≠a/\h.get? a=some (PySem.W.instObj C dx) /\
   ∃mA,h.Ns1 dx mA/\(∀f,RelO (fs.lookup f) (mA f))/\PySem.Within mA (fs.map (·.1))
 | .own _=>∃o,h.get? a=some o
 | .xd fs=>∃mA,h.Ns1 a mA/\∀f,RelO (fs.lookup f) (mA f)
 | .rng lo hi=>∃t u v,h.get? a=some {cls:=.type "range",data:=.fields #[.int lo t,.int hi u,.int 1 v]}
 | .frz o u=>h.get? a=some o/\ObjOk H h a u
 | .tbl ps=>h.get? a=some {cls:=.none,data:=.fields ps}/\TriplesOk ps.toList
 | .met f x=>h.get? a=some (PySem.W.methodObj (.ref f) (.ref x))
 | .ext b=>b h/\(∃o,h.get? a=some o)/\∀c d:Heap,b c->(∀o,c.get? a=some o->d.get? a=some o)->b d
def HOk(H:Hp)(h:Heap):Prop:=∀a o,H a=some o->ObjOk P w H h a o
end
section
variable{P:Program}{w:World}{H H':Hp}{h h':Heap}{a:Addr}{o:HO}
theorem ObjOk.lt(x:ObjOk P w H h a o):a<h.objs.size:=by
 cases o with
 |lst xs=>obtain⟨_,_,_,_,e⟩:=x;exact wJ e
 |tup xs=>obtain⟨_,_,_,p,_⟩:=x;exact p.lt
 |dK kvs=>obtain⟨_,_,_,_,o,_,_,e,_⟩:=x;exact wJ e
 |dT kvs=>obtain⟨_,_,_,_,o,_,_,e,_⟩:=x;exact wJ e
 |set S n=>obtain⟨o,_,_,_,e,_⟩:=x;exact wJ e
 |ins C dx fs=>obtain⟨_,_,_,e,_⟩:=x;exact wJ e
 |own y=>obtain⟨_,e⟩:=x;exact wJ e
 |xd fs=>obtain⟨_,⟨_,_,_,e,_⟩,_⟩:=x;exact wJ e
 |rng lo hi=>obtain⟨_,_,_,e⟩:=x;exact wJ e
 |frz ob u=>obtain⟨e,_⟩:=x;exact wJ e
 |tbl ps=>exact wJ (show h.get? a=some _ from x.1)
 |met f y=>exact wJ (show h.get? a=some _ from x)
 |ext b=>obtain⟨_,⟨_,e⟩,_⟩:=x;exact wJ e
theorem Paired.mapP{e i:Type}{F G:e->i->Prop}:∀{c:List e} {d:List i},Paired F c d->(∀a b,F a b->G a b)->Paired G c d
 |_,_,.nil,_=>.nil
 |_,_,.cons r t,f=>.cons (f _ _ r) (Paired.mapP t f)
theorem ObjOk.stay(x:ObjOk P w H h a o)(k:∀b u,(b=a\/H b=some (.own a))->h.get? b=some u->h'.get? b=some u)(j:∀b,H b=some (.own a)->H' b=some (.own a))(l:∀b xs,H b=some (.tup xs)->H' b=some (.tup xs)):ObjOk P w H' h' a o:=by
 induction o with
 |lst xs=>obtain⟨z,its,n,r,e⟩:=x;exact⟨z,its,n,r,k _ _ (.inl rfl) e⟩
 |tup xs=>obtain⟨z,its,r,⟨ob,e,c⟩,nd⟩:=x;exact⟨z,its,r,⟨ob,k _ _ (.inl rfl) e,c⟩,λo q=>by rw[k _ _ (.inl rfl) e]at q;cases q;exact nd _ e⟩
 |dK kvs=>obtain⟨z,y,vs,r,ob,es,i,e,c⟩:=x;exact⟨z,y,vs,r,ob,es,i,k _ _ (.inl rfl) e,c⟩
 |dT kvs =>
  obtain⟨z,y,xs,r,ob,es,i,e,c⟩:=x
  exact⟨z,y,xs,Paired.mapP r λp q z=>⟨z.1,l _ _ z.2.1,z.2.2⟩,ob,es,i,k _ _ (.inl rfl) e,c⟩
 |set S n=>obtain⟨ob,es,i,t,e,c⟩:=x;exact⟨ob,es,i,t,k _ _ (.inl rfl) e,c⟩
 |ins C dx fs =>
  obtain⟨d,z,ne,e,mA,⟨od,es,i,m,c⟩,r⟩:=x
  exact⟨j _ d,z,ne,k _ _ (.inl rfl) e,mA,⟨od,es,i,k _ _ (.inr d) m,c⟩,r⟩
 |own y=>obtain⟨ob,e⟩:=x;exact⟨ob,k _ _ (.inl rfl) e⟩
 |xd fs=>obtain⟨mA,⟨od,es,i,e,c⟩,r⟩:=x;exact⟨mA,⟨od,es,i,k _ _ (.inl rfl) e,c⟩,r⟩
 |rng lo hi=>obtain⟨t,u,v,e⟩:=x;exact⟨t,u,v,k _ _ (.inl rfl) e⟩
 |frz ob u s=>obtain⟨e,q⟩:=x;exact⟨k _ _ (.inl rfl) e,s q⟩
 |tbl ps =>
  obtain⟨e,z⟩:=x
  exact⟨k a _ (.inl rfl) e,z⟩
 |met f y =>
  have e:h.get? a=some (PySem.W.methodObj (.ref f) (.ref y)):=x
  show h'.get? a=some (PySem.W.methodObj (.ref f) (.ref y))
  exact k a _ (.inl rfl) e
 |ext A=>obtain⟨p,⟨o,e⟩,st⟩:=x;exact⟨st _ _ p λo q=>k _ _ (.inl rfl) q,⟨o,k _ _ (.inl rfl) e⟩,st⟩
theorem HOk.lt(x:HOk P w H h)(e:H a=some o):a<h.objs.size:=(x a o e).lt
theorem HOk.fresh(x:HOk P w H h)(e:h.objs.size<=a):H a=none:=by
 cases q:H a with
 |none=>rfl
 |some u=>exact absurd (w6 (x.lt q) e) (vH _)
theorem HOk.kept(x:HOk P w H h)(k:∀b u,h.get? b=some u->h'.get? b=some u):HOk P w H h':=λa o e =>
 (x a o e).stay (λb u _ q=>k b u q) (λ_ q=>q) λ_ _ q=>q
theorem HOk.laid(x:HOk P w H h)(k:∀b u,h.get? b=some u->h'.get? b=some u)(f:h.objs.size<=a)(new:ObjOk P w (upd H a o) h' a o):HOk P w (upd H a o) h':=λb u e=>by
 have hn:=x.fresh f
 by_cases d:b=a
 .subst d;rw[qv]at e;cases e;exact new
 .rw [qk d]at e
  exact(x b u e).stay (λc v _ q=>k c v q) (λc q=>by rw[qk (zm q hn)];exact q) λc xs q=>by rw[qk (zm q hn)];exact q
end
def Rd(H:Hp)(a:Addr)(u:HO):Prop:=H a=some u\/∃o,H a=some (.frz o u)
theorem Rd.ok{P:Program}{w:World}{H:Hp}{h:Heap}{a:Addr}{u:HO}(r:Rd H a u)(x:HOk P w H h):ObjOk P w H h a u:=by
 rcases r with r|⟨o,r⟩
 .exact x a u r
 .obtain ⟨_,q⟩:=x a _ r
  exact q
def Mut:Option HO->Prop
 |some (.lst _)=>True
 |some (.dK _)=>True
 |some (.dT _)=>True
 |some (.set _ _)=>True
 |some (.ins _ _ _)=>True
 |some (.ext _)=>True
 |_=>False
section
variable{P:Program}{w:World}{H:Hp}{h h':Heap}{x e:Addr}{o':HO}
theorem HOk.write(ok:HOk P w H h)(i:Mut (H x))(n:e=x\/H e=some (.own x))(k:∀b u,b≠e->h.get? b=some u->h'.get? b=some u)(m:∃u,h'.get? e=some u)(new:ObjOk P w (upd H x o') h' x o'):HOk P w (upd H x o') h':=λb u q=>by
 have d:∀c y,H c=some (.own y)->c≠x:=λc y r z=>by subst z;rw[r]at i;exact i
 have f:∀c xs,H c=some (.tup xs)->c≠x:=λc xs r z=>by subst z;rw[r]at i;exact i
 by_cases j:b=x
 .subst j;rw[qv]at q;cases q;exact new
 .rw [qk j]at q
  by_cases a:b=e
  .have o:H b=some (.own x):=by
    rcases n with z|z
    .exact absurd (a.trans z) j
    .rw [a];exact z
   rw[q]at o;cases o
   obtain⟨v,p⟩:=m
   exact⟨v,by rw[a];exact p⟩
  .refine (ok b u q).stay (λc v l r=>k c v ?_ r) (λc r=>by rw[qk (d c b r)];exact r) λc xs r=>by rw[qk (f c xs r)];exact r
   rcases l with rfl|l
   .exact a
   .rintro rfl
    rcases n with z|z
    .exact d c b l z
    .rw [l]at z;cases z;exact j rfl
end
structure Un (fs ex:List Addr) (H H':Hp) (h h':Heap):Prop where
 keep:∀b o,h.get? b=some o->H b=none->b∉fs->b∉ex->h'.get? b=some o
 slot:∀b o,h.get? b=some o->H b=none->b∈fs->b∉ex->∃sl,h'.get? b=some {o with slots:=sl}
 free:∀b o,h.get? b=some o->H b=none->b∉ex->H' b=none
 there:∀b o,h.get? b=some o->b∉ex->∃o',h'.get? b=some o'
 tups:∀b xs,H b=some (.tup xs)->H' b=some (.tup xs)
 frzs:∀b o u,H b=some (.frz o u)->H' b=some (.frz o u)
 tbls:∀b ps,H b=some (.tbl ps)->∃more,H' b=some (.tbl (ps++more))
section
variable{fs fs' ex ex':List Addr}{H H1 H2:Hp}{h h1 h2 h':Heap}{a x e:Addr}{o:HO}
theorem Un.any(u:Un fs ex H H1 h h1){b:Addr}{ob:Obj}(q:h.get? b=some ob)(n:H b=none)(c:b∉ex):∃sl,h1.get? b=some {ob with slots:=sl}:=by
 by_cases d:b∈fs
 .exact u.slot b ob q n d c
 .exact ⟨ob.slots,u.keep b ob q n d c⟩
theorem Un.kept(k:∀b u,h.get? b=some u->h'.get? b=some u):Un fs ex H H h h' :=
 ⟨λb ob q _ _ _=>k b ob q,λb ob q _ _ _=>⟨ob.slots,k b ob q⟩,λ_ _ _ n _=>n,λb ob q _=>⟨ob,k b ob q⟩,λ_ _ q=>q,λ_ _ _ q=>q,λ_ ps q=>⟨#[],by rw[q];simp⟩⟩
theorem Un.refl:Un fs ex H H h h:=Un.kept λ_ _ q=>q
theorem Un.laid(k:∀b u,h.get? b=some u->h'.get? b=some u)(c:h.objs.size<=a)(hn:H a=none):Un fs ex H (upd H a o) h h' where
 keep:=λb u q _ _ _=>k b u q
 slot:=λb u q _ _ _=>⟨u.slots,k b u q⟩
 free:=λb u q n _=>by rw[qk (wc (w6 (wJ q) c))];exact n
 there:=λb u q _=>⟨u,k b u q⟩
 tups:=λb xs q=>by rw[qk (zm q hn)];exact q
 frzs:=λb u xs q=>by rw[qk (zm q hn)];exact q
 tbls:=λb ps q=>⟨#[],by rw[qk (zm q hn),q];simp⟩
theorem Un.write(d:Mut (H x))(l:e=x\/H e=some (.own x))(k:∀b u,b≠e->h.get? b=some u->h'.get? b=some u)(f:∃u,h'.get? e=some u):Un fs ex H (upd H x o) h h':=by
 have i:∀b,H b=none->b≠x:=λb n z=>by subst z;rw[n]at d;exact d
 have j:∀b,H b=none->b≠e:=λb n z=>by
  subst z
  rcases l with r|r
  .exact i b n r
  .rw [n]at r;cases r
 have hm:∀b u,H b=some u->¬Mut (some u)->b≠x:=λb u q nm z=>by subst z;rw[q]at d;exact nm d
 refine⟨λb u q n _ _=>k b u (j b n) q,λb u q n _ _=>⟨u.slots,k b u (j b n) q⟩,λb u q n _=>by rw[qk (i b n)];exact n,λb u q _=>?_,
  λb xs q=>by rw[qk (hm b _ q λz=>z)];exact q,λb u xs q=>by rw[qk (hm b _ q λz=>z)];exact q,λb ps q=>⟨#[],by rw[qk (hm b _ q λz=>z),q];simp⟩⟩
 by_cases c:b=e
 .subst c;exact f
 .exact ⟨u,k b u c q⟩
end
structure GK (g g':Array GenState):Prop where
 bare:AllBare g'
 sz:g.size<=g'.size
 old:∀i,i<g.size->g'[i]?=g[i]?
theorem GK.refl{g:Array GenState}(b:AllBare g):GK g g:=⟨b,wK _,λ_ _=>rfl⟩
theorem GK.self{g g':Array GenState}(x:GK g g'):GK g' g':=GK.refl x.bare
theorem GK.trans{g c d:Array GenState}(a:GK g c)(b:GK c d):GK g d:=⟨b.bare,vI a.sz b.sz,λi hi=>(b.old i (w6 hi a.sz)).trans (a.old i hi)⟩
noncomputable def codeTab(K:PySem.W.Frag)(c T:Addr):Bool:=match K.lookup c with
 |some ⟨cls,_,.fields vs,_⟩=>(cls == .type "code")&&(match(vs.getD 11 Value.none:Value),(vs[11]?:Option Value),(vs.getD 18 Value.none:Value),(vs.getD 7 Value.none:Value),(vs.getD 9 Value.none:Value),(vs.getD 10 Value.none:Value)with
  | .ref a,some (.ref b),.str _ _,.int _ _,.bool _,.int _ _=>a == T&&b == T&&c != T
  |_,_,_,_,_,_=>false)
 |_=>false
noncomputable def trk(h:Heap)(H:Hp):List Addr:=(List.range h.objs.size).filter λa=>(H a).isSome
noncomputable def hidT(h:Heap)(H:Hp):Heap:=PySem.W.hideAll h (trk h H)
theorem qed(h:Heap)(H:Hp):(hidT h H).objs.size=h.objs.size:=PySem.W.hideAll_size _ _
theorem qeR{h:Heap}{H:Hp}{b:Addr}{o:Obj}(e:h.get? b=some o)(n:H b=none):(hidT h H).get? b=some o :=
 PySem.W.hideAll_get _ e λhm=>by
  have q:(H b).isSome=true:=(wm.mp hm).2
  rw[n]at q;simp at q
theorem qhs{h:Heap}{H:Hp}{b:Addr}{o:Obj}(e:(hidT h H).get? b=some o):h.get? b=some o/\H b=none:=by
 have a:h.get? b=some o:=PySem.W.of_hideAll (trk h H) e
 refine⟨a,?_⟩
 cases q:H b with
 |none=>rfl
 |some x =>
  have hm:b∈trk h H:=wm.mpr ⟨vg.mpr (wJ a),by simp[q]⟩
  have z:(hidT h H).get? b=none:=PySem.W.hideAll_none (trk h H) hm
  rw[z]at e;cases e
noncomputable def allNews(g h:Heap)(L:Addr):List (Addr×Obj):=(List.range h.objs.size).filterMap λa=>if a=L\/(g.get? a).isSome=true then none else(h.get? a).map λo=>(a,o)
noncomputable def rest(g h:Heap)(L d:Addr):List (Addr×Obj):=(allNews g h L).filter λp=>decide (p.1≠d)
end L2
namespace L2
open PySem PySem.Spec PyProof.Rows
structure Mod (K:PySem.W.Frag) (mg:Str->Option Value) (base:Heap):Prop where
 kin:K.In base
 glob:base.Ns mainGlobals mg
 blt:∃mb,base.Ns builtinsNs mb/\∀x:Str,x≠"__name__"->mb x=bootBuiltins x
 nolimit:base.NoLimit
 bmod:∃bm ob,mg "__builtins__"=some (.ref bm)/\bm≠builtinsNs/\base.get? bm=some ob/\ob.cls=.type "module"/\ob.dict=some builtinsNs/\ob.data=.plain
structure Cx where
 prog:Program
 w:World
 K:PySem.W.Frag
 mg:Str->Option Value
 base:Heap
 A:Around
 N:List Str
 s₀:Shared
 H₀:Hp
 env:Env
 outer:List Env
 stack:List Env
 ex:List Addr
 fn:Str->Bool
 calm:Bool
 pn:List (Addr×Obj)
 xe:Value->Shared->Prop
noncomputable def frs(l:List Env):List Addr:=l.filterMap (·.frame)
noncomputable abbrev Cx.fs(X:Cx):List Addr:=frs X.outer
def Vis(sc:Scope)(x:Str):Prop:=sc.names.lookup x=some .local\/sc.names.lookup x=some .cell\/sc.names.lookup x=some .free
def Loc(sc:Scope)(x:Str):Prop:=sc.names.lookup x=some .local\/sc.names.lookup x=some .cell
noncomputable def Look(env:Env)(h:Heap)(m:Str->Option Value)(x:Str)(u:Value):Prop :=
 (env.kindOf x=some .local/\m x=some u)\/((env.kindOf x=some .cell\/env.kindOf x=some .free)/\∃c,env.cells.lookup x=some c/\h.IsCell c (some u))
structure Cx.Ok (X:Cx):Prop where
 mod:Mod X.K X.mg X.base
 kind:X.env.scope.kind=.function
 glob:X.env.globals=mainGlobals
 blt:X.env.builtins=builtinsNs
 above:X.s₀.heap.objs.size<=X.env.locals
 inj:∀x y c,X.env.cells.lookup x=some c->X.env.cells.lookup y=some c->x=y
 has:∀x,(X.env.kindOf x=some .cell\/X.env.kindOf x=some .free)->∃c,X.env.cells.lookup x=some c
 cab:∀x c,X.fn x=true->X.env.cells.lookup x=some c->X.s₀.heap.objs.size<=c
 hd:X.calm=true->X.A.handled=none
 frames:X.A.frames=some X.stack
 stk:X.stack=X.outer\/(X.stack=X.env::X.outer/\X.env.frame=some X.env.locals)
 exf:∀b∈X.ex,b≠X.env.locals/\∀x c,X.env.cells.lookup x=some c->c≠b
 bs:∀b o,X.base.get? b=some o->X.s₀.heap.get? b=some o/\X.H₀ b=none
 bsz:X.base.objs.size<=X.s₀.heap.objs.size
 noex:∀b o,X.base.get? b=some o->b∉X.ex
 exfs:∀b∈X.ex,b∉X.fs
 funs:X.s₀.heap.FunFrames X.base X.outer
 frf:∀b∈X.fs,X.H₀ b=none
 tab:∀c T,codeTab X.K c T=true->∃ps,X.H₀ T=some (.tbl ps)
structure Inv (X:Cx) (pins:List (Addr×Obj)) (σ:List (Option V)) (H:Hp) (s:Shared):Prop where
 ok:X.Ok
 os:s.os=X.s₀.os
 bare:GK X.s₀.gens s.gens
 base:Un X.fs X.ex X.H₀ H X.s₀.heap s.heap
 loc:∃m,s.heap.Ns X.env.locals m/\∀(i:Nat) (x:Str) (v:V),X.N[i]?=some x->σ[i]?=some (some v)->Vis X.env.scope x->∃u,RelV v u/\Look X.env s.heap m x u
 cell:∀x c,X.env.cells.lookup x=some c->∃v,s.heap.IsCell c v
 free:H X.env.locals=none
 freeC:∀x c,X.env.cells.lookup x=some c->H c=none
 pin:∀p∈X.pn++pins,s.heap.get? p.1=some p.2/\H p.1=none/\p.1≠X.env.locals/\p.1∉X.fs/\∀v,p.2.data≠.cell v
 hok:HOk X.prog X.w H s.heap
 len:σ.length=X.N.length
section
variable{X:Cx}{pins:List (Addr×Obj)}{σ:List (Option V)}{H H':Hp}{s:Shared}{h':Heap}
theorem Cx.Ok.nofr(ok:X.Ok){b:Addr}{o:Obj}(e:X.base.get? b=some o):b∉X.fs:=λa=>by
 have:=(ok.funs.mem a).1
 rw[e]at this;cases this
theorem Inv.bs(I:Inv X pins σ H s):∀b o,X.base.get? b=some o->s.heap.get? b=some o/\H b=none:=λb o e =>
 ⟨I.base.keep b o (I.ok.bs b o e).1 (I.ok.bs b o e).2 (I.ok.nofr e) (I.ok.noex b o e),I.base.free b o (I.ok.bs b o e).1 (I.ok.bs b o e).2 (I.ok.noex b o e)⟩
theorem Inv.bk(I:Inv X pins σ H s):∀b o,X.base.get? b=some o->s.heap.get? b=some o:=λb o e=>(I.bs b o e).1
theorem Inv.mod(I:Inv X pins σ H s):Mod X.K X.mg X.base:=I.ok.mod
theorem Inv.kIn(I:Inv X pins σ H s):X.K.In s.heap:=I.ok.mod.kin.keeps I.bk
theorem Inv.nolimit(I:Inv X pins σ H s):s.heap.NoLimit:=I.ok.mod.nolimit.keeps I.bk
theorem Inv.lt(I:Inv X pins σ H s):X.env.locals<s.heap.objs.size:=let ⟨_,hn,_⟩:=I.loc;hn.lt
theorem Inv.sz(I:Inv X pins σ H s):X.s₀.heap.objs.size<=s.heap.objs.size:=vI I.ok.above (Nat.le_of_lt I.lt)
theorem Inv.nofs(I:Inv X pins σ H s){a:Addr}(h:s.heap.objs.size<=a):a∉X.fs:=λb=>by
 obtain⟨_,o,c,_⟩:=I.ok.funs.mem b
 exact absurd (w6 (wJ c) (vI I.sz h)) (vH _)
theorem Inv.cne(I:Inv X pins σ H s):∀x c,X.env.cells.lookup x=some c->c≠X.env.locals:=λx c e z=>by
 obtain⟨v,o,d,hd⟩:=I.cell x c e
 obtain⟨m,⟨o',es,f,a,b,_⟩,_⟩:=I.loc
 rw[z,a]at d;cases d;rw[b]at hd;cases hd
theorem Inv.funs(I:Inv X pins σ H s):s.heap.FunFrames X.base X.outer:=by
 have all:∀(l:List Env),(∀b∈frs l,b∈X.fs)->X.s₀.heap.FunFrames X.base l->s.heap.FunFrames X.base l:=by
  intro l
  induction l with
  |nil=>intro _ _;trivial
  |cons env r h =>
   intro f i
   obtain⟨j,⟨L,o,a,hn,m,hd⟩,n⟩:=i
   have c:L∈X.fs:=f L (by unfold frs;rw[List.filterMap_cons,a];exact wE)
   obtain⟨sl,e⟩:=I.base.slot L o m (I.ok.frf L c) c λz=>I.ok.exfs L z c
   exact⟨j,⟨L,_,a,hn,e,hd⟩,h (λb d=>f b (by unfold frs;rw[List.filterMap_cons,a];exact wH _ d)) n⟩
 exact all X.outer (λ_ d=>d) I.ok.funs
theorem Inv.stack(I:Inv X pins σ H s):s.heap.FunFrames X.base X.stack:=by
 rcases I.ok.stk with e|⟨e,hf⟩
 .rw [e];exact I.funs
 .rw [e]
  obtain⟨m,hn,_⟩:=I.loc
  refine .cons (by rw[I.ok.kind];decide) hf hn ?_ I.funs
  exact Heap.get?_none_of_le (vI I.ok.bsz I.ok.above)
theorem Inv.stkSub(I:Inv X pins σ H s):∀b∈frs X.stack,b∈X.env.locals::X.fs:=λb a=>by
 rcases I.ok.stk with e|⟨e,hf⟩
 .rw [e]at a;exact wH _ a
 .rw [e]at a
  unfold frs at a
  rw[List.filterMap_cons,hf]at a
  exact a
theorem Inv.stkFree(I:Inv X pins σ H s):∀b∈frs X.stack,H b=none:=λb a=>by
 rcases wR.mp (I.stkSub b a)with e|a
 .rw [e];exact I.free
 .obtain ⟨_,o,c,_⟩:=I.ok.funs.mem a
  exact I.base.free b o c (I.ok.frf b a) λz=>I.ok.exfs b z a
theorem Inv.step{g':Array GenState}{t':Nat}{d':Drawn}{ch:List Addr}(I:Inv X pins σ H s)(f:∀b∈ch,(b∈X.ex\/X.s₀.heap.objs.size<=b)/\b≠X.env.locals/\(∀x c,X.env.cells.lookup x=some c->c≠b)/\∀p∈X.pn++pins,p.1≠b)(keep:∀b o,b≠X.env.locals->b∉X.fs->b∉ch->s.heap.get? b=some o->H b=none->h'.get? b=some o)(slot:∀b o,b≠X.env.locals->b∈X.fs->b∉ch->s.heap.get? b=some o->H b=none->∃sl,h'.get? b=some {o with slots:=sl})(free:∀b o,b∉ch->s.heap.get? b=some o->H b=none->H' b=none)(there:∀b o,b∉ch->s.heap.get? b=some o->∃o',h'.get? b=some o')(tups:∀b xs,H b=some (.tup xs)->H' b=some (.tup xs))(frzs:∀b o u,H b=some (.frz o u)->H' b=some (.frz o u))(tbls:∀b ps,H b=some (.tbl ps)->∃more,H' b=some (.tbl (ps++more)))(ns:∀m,s.heap.Ns X.env.locals m->h'.Ns X.env.locals m)(hok:HOk X.prog X.w H' h')(M:GK s.gens g'):
  Inv X pins σ H' {s with heap:=h',gens:=g',drawn:=d',toks:=t' }:=by
 have C:∀b o,X.s₀.heap.get? b=some o->b≠X.env.locals:=λb o e=>wc (w6 (wJ e) I.ok.above)
 have y:∀b o,X.s₀.heap.get? b=some o->b∉X.ex->b∉ch:=λb o e a A=>by
  rcases(f b A).1 with z|z
  .exact a z
  .exact absurd (w6 (wJ e) z) (vH _)
 have h:∀x c,X.env.cells.lookup x=some c->∀v,s.heap.IsCell c v->h'.IsCell c v:=λx c e v ⟨o,B,hd⟩=>by
  have j:c∉ch:=λz=>(f c z).2.2.1 x c e rfl
  by_cases J:c∈X.fs
  .obtain ⟨sl,q⟩:=slot c o (I.cne x c e) J j B (I.freeC x c e)
   exact⟨_,q,hd⟩
  .exact ⟨o,keep c o (I.cne x c e) J j B (I.freeC x c e),hd⟩
 refine⟨I.ok,I.os,I.bare.trans M,⟨λb o e n A a=>?_,λb o e n A a=>?_,λb o e n a=>?_,λb o e a=>?_,λb xs e=>tups b xs (I.base.tups b xs e),λb o xs e=>frzs b o xs (I.base.frzs b o xs e),λb ps e=>?_⟩,?_,λx c e=>?_,?_,λx c e=>?_,λp K=>?_,hok,I.len⟩
 .exact keep b o (C b o e) A (y b o e a) (I.base.keep b o e n A a) (I.base.free b o e n a)
 .obtain ⟨sl,e1⟩:=I.base.slot b o e n A a
  obtain⟨F,E⟩:=slot b _ (C b o e) A (y b o e a) e1 (I.base.free b o e n a)
  exact⟨F,E⟩
 .obtain ⟨o',e1⟩:=I.base.there b o e a
  exact free b o' (y b o e a) e1 (I.base.free b o e n a)
 .obtain ⟨o',e1⟩:=I.base.there b o e a
  exact there b o' (y b o e a) e1
 .obtain ⟨m1,e1⟩:=I.base.tbls b ps e
  obtain⟨m2,E⟩:=tbls b _ e1
  exact⟨m1++m2,by rw[E,Array.append_assoc]⟩
 .obtain ⟨m,hn,N⟩:=I.loc
  refine⟨m,ns m hn,λi x v e1 E O=>?_⟩
  obtain⟨u,r,l⟩:=N i x v e1 E O
  refine⟨u,r,?_⟩
  rcases l with l|⟨k,c,e,z⟩
  .exact .inl l
  .exact .inr ⟨k,c,e,h x c e _ z⟩
 .obtain ⟨v,z⟩:=I.cell x c e
  exact⟨v,h x c e v z⟩
 .obtain ⟨m,⟨o,_,_,B,_⟩,_⟩:=I.loc
  exact free _ o (λz=>(f _ z).2.1 rfl) B I.free
 .obtain ⟨v,o,B,hd⟩:=I.cell x c e
  exact free c o (λz=>(f c z).2.2.1 x c e rfl) B (I.freeC x c e)
 .obtain ⟨e,n,ne,L,d⟩:=I.pin p K
  have j:p.1∉ch:=λz=>(f p.1 z).2.2.2 p K rfl
  exact⟨keep p.1 p.2 ne L j e n,free p.1 p.2 j e n,ne,L,d⟩
theorem Inv.un{t':Nat}(I:Inv X pins σ H s)(u:Un X.fs [] H H' s.heap h')(hok:HOk X.prog X.w H' h'):Inv X pins σ H' {s with heap:=h',toks:=t' }:=by
 obtain⟨m,⟨o,es,j,h,r⟩,_⟩:=id I.loc
 obtain⟨sl,i⟩:=u.any h I.free (by simp)
 exact I.step (g':=s.gens) (d':=s.drawn) (ch:=[]) (λ_ z=>nomatch z) (λb o _ c _ e n=>u.keep b o e n c (by simp)) (λb o _ c _ e n=>u.slot b o e n c (by simp)) (λb o _ e n=>u.free b o e n (by simp)) (λb o _ e=>u.there b o e (by simp)) u.tups u.frzs u.tbls (λl hm=>by
  obtain⟨o',d,f,a,r'⟩:=hm
  rw[h]at a;cases a
  exact⟨_,d,f,i,r'⟩) hok I.bare.self
theorem Inv.call{g':Array GenState}{t':Nat}{d':Drawn}{ch:List Addr}(I:Inv X pins σ H s)(u:Un (frs X.stack) ch H H' s.heap h')(hok:HOk X.prog X.w H' h')(q:GK s.gens g')(d:∀b∈ch,(b∈X.ex\/X.s₀.heap.objs.size<=b)/\b≠X.env.locals/\(∀x c,X.env.cells.lookup x=some c->c≠b)/\∀p∈X.pn++pins,p.1≠b):
  Inv X pins σ H' {s with heap:=h',gens:=g',drawn:=d',toks:=t' }:=by
 obtain⟨m,⟨o,es,y,l,r⟩,_⟩:=id I.loc
 obtain⟨sl,h⟩:=u.any l I.free λz=>(d _ z).2.1 rfl
 exact I.step (ch:=ch) d (λb o h v a e n=>u.keep b o e n (λz=>(wR.mp (I.stkSub b z)).elim h v) a) (λb o _ _ a e n=>u.any e n a) (λb o a e n=>u.free b o e n a) (λb o a e=>u.there b o e a) u.tups u.frzs u.tbls (λA hm=>by
  obtain⟨o',i,j,f,r'⟩:=hm
  rw[l]at f;cases f
  exact⟨_,i,j,h,r'⟩) hok q
theorem Inv.turned{t':Nat}{it:Addr}(I:Inv X pins σ H s)(k:∀b o,b≠it->s.heap.get? b=some o->h'.get? b=some o)(hn:H it=none)(f:it≠X.env.locals)(h:it∈X.ex\/X.s₀.heap.objs.size<=it)(i:∀x c,X.env.cells.lookup x=some c->c≠it)(j:∀p∈X.pn++pins,p.1≠it):Inv X pins σ H {s with heap:=h',toks:=t' }:=by
 have d:∀b u,H b=some u->b≠it:=λb u e z=>by rw[z,hn]at e;cases e
 refine I.step (g':=s.gens) (d':=s.drawn) (ch:=[it]) (λb l=>?_) (λb o _ _ a e _=>k b o (λz=>a (by simp[z])) e) (λb o _ _ a e _=>⟨o.slots,k b o (λz=>a (by simp[z])) e⟩) (λ_ _ _ _ n=>n)
  (λb o a e=>⟨o,k b o (λz=>a (by simp[z])) e⟩) (λ_ _ e=>e) (λ_ _ _ e=>e) (λb ps e=>⟨#[],by rw[e];simp⟩) (λm hm=>?_) (λb u e=>?_) I.bare.self
 .have e:b=it:=by simpa using l
  subst e
  exact⟨h,f,i,j⟩
 .obtain ⟨o,es,w,y,r⟩:=hm
  exact⟨o,es,w,k _ o (Ne.symm f) y,r⟩
 .refine (I.hok b u e).stay (λc v a q=>k c v ?_ q) (λ_ q=>q) λ_ _ q=>q
  rcases a with z|z
  .rw [z];exact d b u e
  .exact d c _ z
theorem Inv.tok(I:Inv X pins σ H s)(t:Nat):Inv X pins σ H {s with toks:=t}:=I.un (h':=s.heap) (t':=t) Un.refl I.hok
theorem Inv.kept{t':Nat}(I:Inv X pins σ H s)(k:∀b u,s.heap.get? b=some u->h'.get? b=some u):Inv X pins σ H {s with heap:=h',toks:=t' }:=I.un (Un.kept k) (I.hok.kept k)
theorem Inv.laid{a:Addr}{o:HO}{t':Nat}(I:Inv X pins σ H s)(k:∀b u,s.heap.get? b=some u->h'.get? b=some u)(c:s.heap.objs.size<=a)(new:ObjOk X.prog X.w (upd H a o) h' a o):
  Inv X pins σ (upd H a o) {s with heap:=h',toks:=t' }:=I.un (Un.laid k c (I.hok.fresh c)) (I.hok.laid k c new)
theorem Inv.write{x e:Addr}{o:HO}{t':Nat}(I:Inv X pins σ H s)(c:Mut (H x))(d:e=x\/H e=some (.own x))(k:∀b u,b≠e->s.heap.get? b=some u->h'.get? b=some u)(a:∃u,h'.get? e=some u)(new:ObjOk X.prog X.w (upd H x o) h' x o):Inv X pins σ (upd H x o) {s with heap:=h',toks:=t' }:=I.un (Un.write c d k a) (I.hok.write c d k a new)
theorem Inv.pins_of{a:List (Addr×Obj)}(I:Inv X pins σ H s)(h:∀p∈a,s.heap.get? p.1=some p.2/\H p.1=none/\p.1≠X.env.locals/\p.1∉X.fs/\∀v,p.2.data≠.cell v):Inv X a σ H s :=
 ⟨I.ok,I.os,I.bare,I.base,I.loc,I.cell,I.free,I.freeC,λp b=>(wu.mp b).elim (λz=>I.pin p (wp _ z)) (h p),I.hok,I.len⟩
theorem qbD{N:List Str}(c:N.Nodup){i j:Nat}{x:Str}(a:N[i]?=some x)(b:N[j]?=some x):i=j:=by
 obtain⟨e,e1⟩:=wP.mp a
 obtain⟨f,d⟩:=wP.mp b
 exact(xD c).mp (e1.trans d.symm)
theorem jb{M:Model}{A:Around}{E:Value->Shared->Prop}{i:Nat}{x:Str}{v:V}{u:Value}{Q:Unit->Shared->Prop}(I:Inv X pins σ H s)(hN:X.N.Nodup)(hi:X.N[i]?=some x)(C:Loc X.env.scope x)(r:RelV v u)(h:∀s',Inv X pins (σ.set i (some v)) H s'->(∃a,Heap.SameBut a s.heap s'.heap/\(a=X.env.locals\/X.env.cells.lookup x=some a))->Q () s')(hf:X.fn x=true\/X.env.scope.names.lookup x=some .local:=by first|exact .inl rfl|exact .inr rfl|assumption):wpAny M A (storeName X.env x u) Q E s:=by
 obtain⟨m,hn,hl⟩:=id I.loc
 have S:(X.env.scope.kind == .class || (X.env.scope.kind == .module&&X.env.locals != X.env.globals))=false:=by rw[I.ok.kind];rfl
 have K:i<σ.length:=by rw[I.len];exact(wP.mp hi).1
 have cne:=I.cne
 have l:∀{a:Addr} {h':Heap},(∃o,s.heap.get? a=some o/\H a=none)->Heap.SameBut a s.heap h'->HOk X.prog X.w H h':=λ{a h'} ha f b ob e=>by
  obtain⟨_,_,F⟩:=ha
  refine(I.hok b ob e).stay (λc w' B q=>(f.2 c ?_).trans q) (λ_ q=>q) λ_ _ q=>q
  rintro rfl
  rcases B with rfl|B
  .rw [F]at e;cases e
  .rw [F]at B;cases B
 rcases C with L|L
 .refine wpAny_storeName_local L hn (λh' a0 f=>?_) S
  obtain⟨oL,_,_,a1,_⟩:=id hn
  refine h _ ⟨I.ok,I.os,I.bare,⟨λb o e n O C=>?_,λb o e n O C=>?_,I.base.free,λb o e C=>?_,I.base.tups,I.base.frzs,I.base.tbls⟩,⟨_,a0,λj y v' e1 J e3=>?_⟩,λy c e=>?_,I.free,I.freeC,λp hp=>?_,l ⟨oL,a1,I.free⟩ f,by simpa using I.len⟩ ⟨_,f,.inl rfl⟩
  .exact (f.2 b (wc (w6 (wJ e) I.ok.above))).trans (I.base.keep b o e n O C)
  .obtain ⟨sl,e1⟩:=I.base.slot b o e n O C
   exact⟨sl,(f.2 b (wc (w6 (wJ e) I.ok.above))).trans e1⟩
  .obtain ⟨o',e1⟩:=I.base.there b o e C
   exact⟨o',(f.2 b (wc (w6 (wJ e) I.ok.above))).trans e1⟩
  .by_cases P:j=i
   .subst P
    rw[hi]at e1;cases e1
    rw[vc K]at J
    cases J
    exact⟨u,r,.inl ⟨L,by simp⟩⟩
   .rw [u6 (Ne.symm P)]at J
    obtain⟨u',r',q⟩:=hl j y v' e1 J e3
    refine⟨u',r',?_⟩
    rcases q with ⟨k,e⟩|⟨k,c,e,z⟩
    .refine .inl ⟨k,?_⟩
     have:y≠x:=λe=>P (qbD hN e1 (e ▸ hi))
     simp[this,e]
    .exact .inr ⟨k,c,e,z.sameBut f (cne y c e)⟩
  .obtain ⟨w',z⟩:=I.cell y c e
   exact⟨w',z.sameBut f (cne y c e)⟩
  .obtain ⟨e,n,ne,nf,d⟩:=I.pin p hp
   exact⟨(f.2 p.1 ne).trans e,n,ne,nf,d⟩
 .have R:X.fn x=true:=by
   rcases hf with z|z
   .exact z
   .rw [z]at L;cases L
  obtain⟨c,B⟩:=I.ok.has x (.inl L)
  obtain⟨w',z⟩:=I.cell x c B
  refine wpAny_storeName_cell I.ok.kind L B z (λh' U f=>?_)
  obtain⟨oc,W,Y⟩:=id z
  refine h {s with heap:=h' } ⟨I.ok,I.os,I.bare,⟨λb o e n O C=>?_,λb o e n O C=>?_,I.base.free,λb o e C=>?_,I.base.tups,I.base.frzs,I.base.tbls⟩,⟨m,hn.sameBut f (Ne.symm (cne x c B)),λj y v' e1 J e3=>?_⟩,λy c' e=>?_,I.free,I.freeC,λp hp=>?_,l ⟨oc,W,I.freeC x c B⟩ f,by simpa using I.len⟩ ⟨c,f,.inr B⟩
  .exact (f.2 b (wc (w6 (wJ e) (I.ok.cab x c R B)))).trans (I.base.keep b o e n O C)
  .obtain ⟨sl,e1⟩:=I.base.slot b o e n O C
   exact⟨sl,(f.2 b (wc (w6 (wJ e) (I.ok.cab x c R B)))).trans e1⟩
  .obtain ⟨o',e1⟩:=I.base.there b o e C
   exact⟨o',(f.2 b (wc (w6 (wJ e) (I.ok.cab x c R B)))).trans e1⟩
  .by_cases P:j=i
   .subst P
    rw[hi]at e1;cases e1
    rw[vc K]at J
    cases J
    exact⟨u,r,.inr ⟨.inl L,c,B,U⟩⟩
   .rw [u6 (Ne.symm P)]at J
    obtain⟨u',r',q⟩:=hl j y v' e1 J e3
    refine⟨u',r',?_⟩
    rcases q with q|⟨k,c',e,z'⟩
    .exact .inl q
    .refine .inr ⟨k,c',e,z'.sameBut f ?_⟩
     rintro rfl
     exact P (qbD hN e1 (I.ok.inj _ _ _ e B ▸ hi))
  .by_cases Z:c'=c
   .subst Z;exact⟨_,U⟩
   .obtain ⟨w2,z2⟩:=I.cell y c' e
    exact⟨w2,z2.sameBut f Z⟩
  .obtain ⟨e,n,ne,nf,d⟩:=I.pin p hp
   refine⟨(f.2 p.1 ?_).trans e,n,ne,nf,d⟩
   intro q
   rw[q,W]at e
   have q':oc=p.2:=Option.some.inj e
   exact d w' (by rw[<-q'];exact Y)
theorem yN{M:Model}{A:Around}{E:Value->Shared->Prop}{i:Nat}{x:Str}{v:V}{u:Value}{Q:Unit->Shared->Prop}(I:Inv X pins σ H s)(a:X.N.Nodup)(hi:X.N[i]?=some x)(b:Loc X.env.scope x)(r:RelV v u)(h:∀s',Inv X pins (σ.set i (some v)) H s'->Q () s')(c:X.fn x=true\/X.env.scope.names.lookup x=some .local:=by first|exact .inl rfl|exact .inr rfl|assumption):wpAny M A (storeName X.env x u) Q E s :=
 jb I a hi b r (λs' d _=>h s' d) c
theorem Inv.call'{s':Shared}{ch:List Addr}(I:Inv X pins σ H s)(d:s'.os=s.os)(u:Un (frs X.stack) ch H H' s.heap s'.heap)(hok:HOk X.prog X.w H' s'.heap)(f:GK s.gens s'.gens)(a:∀b∈ch,(b∈X.ex\/X.s₀.heap.objs.size<=b)/\b≠X.env.locals/\(∀x c,X.env.cells.lookup x=some c->c≠b)/\∀p∈X.pn++pins,p.1≠b):Inv X pins σ H' s':=by
 obtain⟨h',g',d',t',o'⟩:=s'
 have e:o'=s.os:=d
 subst e
 exact I.call (g':=g') (t':=t') (d':=d') u hok f a
end
noncomputable abbrev XK:=Value->Option Addr->Hp->Prop
noncomputable abbrev St:=List (Option V)
noncomputable abbrev VK:=V->Hp->Prop
noncomputable abbrev TE:=St->Hp->VK->Prop
noncomputable abbrev TT:=St->Hp->(Bool->Hp->Prop)->Prop
noncomputable abbrev TA:=St->Hp->(List V->Hp->Prop)->Prop
structure Ends where
 nx:St->Hp->Prop
 rt:VK
 bk:St->Hp->Prop:=λ_ _=>False
 ct:St->Hp->Prop:=λ_ _=>False
noncomputable abbrev TS:=Ends->St->Hp->Prop
def EP(X:Cx)(pins:List (Addr×Obj))(a:St)(Q:VK)(u:Value)(s':Shared):Prop:=∃v H',Inv X pins a H' s'/\RelV v u/\Q v H'
def TP(X:Cx)(pins:List (Addr×Obj))(a:St)(Q:Bool->Hp->Prop)(b:Bool)(s':Shared):Prop:=∃H',Inv X pins a H' s'/\Q b H'
def AP(X:Cx)(pins:List (Addr×Obj))(a:St)(Q:List V->Hp->Prop)(us:List Value)(s':Shared):Prop:=∃vs H',Inv X pins a H' s'/\Vals vs us/\Q vs H'
noncomputable def SP(X:Cx)(pins:List (Addr×Obj))(D:Ends)(f:Flow)(s':Shared):Prop :=
 match f with
 | .next=>∃a H',Inv X pins a H' s'/\D.nx a H'
 | .brk=>∃a H',Inv X pins a H' s'/\D.bk a H'
 | .cont=>∃a H',Inv X pins a H' s'/\D.ct a H'
 | .ret u=>∃v a H',Inv X pins a H' s'/\RelV v u/\D.rt v H'
noncomputable def PE(X:Cx)(e:Expr)(t:TE):Prop :=
 ∀(pins:List (Addr×Obj)) (s:Shared) (a:St) (H:Hp) (Q:VK),Inv X pins a H s->t a H Q->wpAny (model X.prog X.w) X.A (eval e X.env) (EP X pins a Q) X.xe s
noncomputable def PT(X:Cx)(e:Expr)(t:TT):Prop :=
 ∀(pins:List (Addr×Obj)) (s:Shared) (a:St) (H:Hp) (Q:Bool->Hp->Prop),Inv X pins a H s->t a H Q->wpAny (model X.prog X.w) X.A (isTrue e X.env (eval e X.env)) (TP X pins a Q) X.xe s
noncomputable def PW(X:Cx)(e:Expr)(t:TT):Prop :=
 ∀(a:Sem Value) (pins:List (Addr×Obj)) (s:Shared) (b:St) (H:Hp) (Q:Bool->Hp->Prop),Inv X pins b H s->t b H Q->wpAny (model X.prog X.w) X.A (isTrue e X.env a) (TP X pins b Q) X.xe s
theorem PW.pt{X:Cx}{e:Expr}{t:TT}(h:PW X e t):PT X e t:=h _
noncomputable def PA(X:Cx)(es:List Expr)(t:TA):Prop :=
 ∀(pos:Pos) (pins:List (Addr×Obj)) (s:Shared) (a:St) (H:Hp) (Q:List V->Hp->Prop),Inv X pins a H s->t a H Q->wpAny (model X.prog X.w) X.A (spliced (backTo pos (starEach es X.env))) (AP X pins a Q) X.xe s
noncomputable def PS(X:Cx)(st:Stmt)(t:TS):Prop :=
 ∀(pins:List (Addr×Obj)) (s:Shared) (a:St) (H:Hp) (D:Ends),Inv X pins a H s->t D a H->wpAny (model X.prog X.w) X.A (exec st X.env) (SP X pins D) X.xe s
noncomputable def PSs(X:Cx)(st:List Stmt)(t:TS):Prop :=
 ∀(pins:List (Addr×Obj)) (s:Shared) (a:St) (H:Hp) (D:Ends),Inv X pins a H s->t D a H->wpAny (model X.prog X.w) X.A (execs st X.env) (SP X pins D) X.xe s
theorem thn{b:Type}{t:Sem b}{Q Q':b->Shared->Prop}{M:Model}{A:Around}{E:Value->Shared->Prop}{s:Shared}(h:wpAny M A t Q E s)(c:∀a s,Q a s->Q' a s):wpAny M A t Q' E s:=vQ h c λ_ _ x=>x
end L2
namespace L2
open PySem PySem.Spec PyProof.Rows
section
variable{X:Cx}
theorem bin{a b:Expr}{j l:TE}(ha:PE X a j)(n:PE X b l){pins:List (Addr×Obj)}{s:Shared}{c:St}{H:Hp}{R:V->V->Hp->Prop}(I:Inv X pins c H s)(h:j c H λx i=>l c i λy H2=>R x y H2){m:Type}{Q:m->Shared->Prop}{f:Value->Value->Sem m}(o:∀v u s2 x y H2,Inv X pins c H2 s2->RelV x v->RelV y u->R x y H2->wpAny (model X.prog X.w) X.A (f v u) Q X.xe s2):
  wpAny (model X.prog X.w) X.A (eval a X.env) (λv d=>wpAny (model X.prog X.w) X.A (eval b X.env) (λu e=>wpAny (model X.prog X.w) X.A (f v u) Q X.xe e) X.xe d) X.xe s:=by
 refine thn (ha pins s c H _ I h) λv s1 ⟨x,i,p,q,q1⟩=>?_
 refine thn (n pins s1 c i _ p q1) λu s2 ⟨y,H2,r,z,q2⟩=>?_
 exact o v u s2 x y H2 r q z q2
noncomputable def tVar(i:Nat):TE:=λa H Q=>∃v,a[i]?=some (some v)/\Q v H
noncomputable def tC(v:V):TE:=λ_ H Q=>Q v H
theorem qeS{i:Nat}{x:Str}{pos:Pos}(d:X.N[i]?=some x)(f:Vis X.env.scope x)(hd:(x == ("__debug__":Str))=false:=by decide)(b:(x == ("__classdict__":Str))=false:=by decide):PE X (.Name x pos) (tVar i):=by
 intro pins s j H Q I h
 obtain⟨v,e,h⟩:=h
 obtain⟨m,hn,n⟩:=I.loc
 obtain⟨u,r,l⟩:=n i x v d e f
 have fin:EP X pins j Q u s:=⟨v,H,I,r,h⟩
 rcases l with ⟨a,hm⟩|⟨a,c,hc,hcell⟩
 .exact wpAny_Name (wpAny_loadName_local I.ok.kind a hn hm fin) hd
 .rcases a with a|a
  .exact wpAny_Name (wpAny_loadName_cell I.ok.kind a hc hcell fin) hd
  .exact wpAny_Name (wpAny_loadName_free I.ok.kind a hc hcell fin b) hd
theorem qeT{i j pos}:PE X (.Constant (.int i) j pos) (tC (.int i)):=λ_ _ _ H _ I h=>wpAny_Constant_int ⟨.int i,H,I.tok _,⟨_,rfl⟩,h⟩
theorem qk0{b j pos}:PE X (.Constant (.bool b) j pos) (tC (.bl b)):=λ_ _ _ H _ I h=>Constant_bool ⟨.bl b,H,I,rfl,h⟩
def Gl(X:Cx)(x:Str):Prop:=X.env.kindOf x=some .globalImplicit
theorem qdc{E:Value->Shared->Prop}{pins:List (Addr×Obj)}{s:Shared}{a:St}{H:Hp}{x:Str}{u:Value}{pos:Pos}{Q:Value->Shared->Prop}(I:Inv X pins a H s)(b:Gl X x)(hm:X.mg x=some u)(h:Q u s)(hd:(x == ("__debug__":Str))=false:=by decide):wpAny (model X.prog X.w) X.A (eval (.Name x pos) X.env) Q E s :=
 Calls.Name_function_global I.ok.kind b (Calls.loadGlobal_global (by rw[I.ok.glob];exact I.mod.glob.keeps I.bk) hm h) hd
theorem z9{E:Value->Shared->Prop}{pins:List (Addr×Obj)}{s:Shared}{a:St}{H:Hp}{x:Str}{u:Value}{pos:Pos}{Q:Value->Shared->Prop}(I:Inv X pins a H s)(b:Gl X x)(hm:X.mg x=none)(c:bootBuiltins x=some u)(h:Q u s)(hn:x≠"__name__":=by decide)(hd:(x == ("__debug__":Str))=false:=by decide):wpAny (model X.prog X.w) X.A (eval (.Name x pos) X.env) Q E s:=by
 obtain⟨mb,d,e⟩:=I.mod.blt
 exact Calls.Name_function_global I.ok.kind b (Calls.loadGlobal_builtin (by rw[I.ok.glob];exact I.mod.glob.keeps I.bk) hm (by rw[I.ok.blt];exact d.keeps I.bk) ((e x hn).trans c) h) hd
theorem qht{x:Str}{v:V}{u:Value}{pos:Pos}(a:Gl X x)(hm:X.mg x=some u)(r:RelV v u)(hd:(x == ("__debug__":Str))=false:=by decide):PE X (.Name x pos) (tC v) :=
 λ_ _ _ H _ I h=>qdc I a hm ⟨v,H,I,r,h⟩ hd
theorem qhu{x:Str}{v:V}{u:Value}{pos:Pos}(a:Gl X x)(hm:X.mg x=none)(b:bootBuiltins x=some u)(r:RelV v u)(hn:x≠"__name__":=by decide)(hd:(x == ("__debug__":Str))=false:=by decide):PE X (.Name x pos) (tC v) :=
 λ_ _ _ H _ I h=>z9 I a hm b ⟨v,H,I,r,h⟩ hn hd
variable{a b:Expr}{ta tb:TE}{pos:Pos}
variable{tA tB':TT}{rest:List Expr}
noncomputable def tOr(t u:TT):TT:=λd H Q=>t d H λc e=>if c=true then Q true e else u d e Q
noncomputable def tNot(t:TT):TT:=λd H Q=>t d H λc e=>Q (!c) e
theorem qjk(ha:PT X a tA):PW X (.BoolOp .Or [a] pos) tA:=by
 intro f pins s d H Q I h
 refine isTrue_or (thn (ha pins s d H Q I h) λc s1 e=>?_)
 cases c with
 |false=>exact isTrue_or_nil e
 |true=>exact e
theorem qk1(ha:PT X a tA)(i:PW X (.BoolOp .Or (b::rest) pos) tB'):PW X (.BoolOp .Or (a::b::rest) pos) (tOr tA tB'):=by
 intro j pins s d H Q I h
 refine isTrue_or (thn (ha pins s d H _ I h) λc s1 ⟨e,f,q1⟩=>?_)
 cases c with
 |true=>exact⟨e,f,q1⟩
 |false=>exact i j pins s1 d e Q f q1
theorem qjl(ha:PT X a tA):PT X (.UnaryOp .Not a pos) (tNot tA):=by
 intro pins s d H Q I h
 exact isTrue_not (ha pins s d H (λc e=>Q (!c) e) I h)
noncomputable def tAndV(ta tb:TE):TE:=λd H Q=>ta d H λx e=>∃c,x=.bl c/\if c=true then tb d e Q else Q (.bl false) e
noncomputable def tNotV(ta:TE):TE:=λd H Q=>ta d H λx e=>∃c,x=.bl c/\Q (.bl (!c)) e
theorem qjm{op}{t:TE}(h:PE X a t):PE X (.BoolOp op [a] pos) t:=λpins s c H Q I d=>BoolOp_one (h pins s c H Q I d)
theorem qjn(ha:PE X a ta)(i:PE X (.BoolOp .And (b::rest) pos) tb):PE X (.BoolOp .And (a::b::rest) pos) (tAndV ta tb):=by
 intro pins s d H Q I h
 refine BoolOp_and (thn (ha pins s d H _ I h) λv s1 ⟨x,e,f,j,q1⟩=>?_)
 obtain⟨c,rfl,q1⟩:=q1
 cases j
 refine vR ?_
 cases c with
 |true=>exact i pins s1 d e Q f q1
 |false=>exact⟨.bl false,e,f,rfl,q1⟩
theorem qjo(ha:PE X a ta):PE X (.UnaryOp .Not a pos) (tNotV ta):=by
 intro pins s d H Q I h
 refine UnaryOp_ (thn (ha pins s d H _ I h) λv s1 ⟨x,e,f,i,q1⟩=>?_)
 obtain⟨c,rfl,q1⟩:=q1
 cases i
 exact not_of (vR ⟨.bl (!c),e,f,rfl,q1⟩)
end
end L2
namespace L2
open PySem PySem.Spec PyProof.Rows
noncomputable def SqL(K:PySem.W.Frag)(H:Hp)(a:Addr)(xs:List V):Prop :=
 Rd H a (.lst xs) \/
  ∃(o:Obj) (its:Array Value) (n:Nat),K.lookup a=some o/\o.cls=.type "list"/\o.dict=none/\o.data=.seq its n/\its.size<=sizeLine/\Vals xs its.toList
noncomputable def SqT(K:PySem.W.Frag)(H:Hp)(a:Addr)(xs:List V):Prop :=
 Rd H a (.tup xs) \/
  ∃(o:Obj) (its:Array Value) (n:Nat),K.lookup a=some o/\o.cls=.type "tuple"/\o.data=.seq its n/\its.size<=sizeLine/\Vals xs its.toList
noncomputable def absV:Value->Option V
 | .none=>some .non
 | .bool b=>some (.bl b)
 | .int i _=>some (.int i)
 | .str x _=>some (.str x)
 | .bytes b _=>some (.byt b)
 | .float b _=>some (.flt b)
 | .ref a=>some (.ref a)
 | .type n=>some (.ty n)
 |_=>none
theorem RelV.abs{x:V}{u:Value}(r:RelV x u):absV u=some x:=by
 cases x with
 |non=>cases r;rfl
 |bl _=>cases r;rfl
 |int _=>obtain⟨t,rfl⟩:=r;rfl
 |str _=>obtain⟨t,rfl⟩:=r;rfl
 |byt _=>obtain⟨t,rfl⟩:=r;rfl
 |flt _=>obtain⟨t,rfl⟩:=r;rfl
 |ref _=>cases r;rfl
 |ty _=>cases r;rfl
theorem RelV.inj{x y:V}{u:Value}(r:RelV x u)(q:RelV y u):x=y:=Option.some.inj (r.abs.symm.trans q.abs)
theorem Vals.inj:∀{xs ys:List V} {us:List Value},Vals xs us->Vals ys us->xs=ys
 |_,_,_,.nil,.nil=>rfl
 |_,_,_,.cons r t,.cons r' t'=>by rw[r.inj r',Vals.inj t t']
section
variable{X:Cx}{pins:List (Addr×Obj)}{σ:St}{H:Hp}{s:Shared}{a:Addr}{xs ys:List V}
theorem Inv.list(I:Inv X pins σ H s)(h:SqL X.K H a xs):∃its:List Value,Vals xs its/\PlainL s.heap a its.toArray/\xs.length<=sizeLine:=by
 rcases h with h|⟨o,its,n,hk,hc,hd,hs,hz,r⟩
 .obtain ⟨z,its,n,r,e⟩:=h.ok I.hok
  exact⟨its,r,⟨_,n,e,rfl,rfl,rfl⟩,z⟩
 .refine ⟨its.toList,r,⟨o,n,I.kIn a o hk,hc,hd,by simpa using hs⟩,?_⟩
  have e:=r.length
  simp only[vb]at e
  lia
theorem Inv.tuple(I:Inv X pins σ H s)(h:SqT X.K H a xs):∃its:List Value,Vals xs its/\IsTup s.heap a its.toArray/\xs.length<=sizeLine:=by
 rcases h with h|⟨o,its,n,hk,hc,hs,hz,r⟩
 .obtain ⟨z,its,r,p,_⟩:=h.ok I.hok
  exact⟨its,r,p,z⟩
 .refine ⟨its.toList,r,⟨o,I.kIn a o hk,hc,n,by simpa using hs⟩,?_⟩
  have e:=r.length
  simp only[vb]at e
  lia
theorem Inv.list_inj(I:Inv X pins σ H s)(h:SqL X.K H a xs)(h':SqL X.K H a ys):xs=ys:=by
 obtain⟨its,r,⟨o,n,e,_,_,d⟩,_⟩:=I.list h
 obtain⟨its',r',⟨o',c,b,_,_,d'⟩,_⟩:=I.list h'
 rw[e]at b;cases b
 rw[d]at d'
 injection d' with d1 _
 have:its=its':=by simpa using congrArg Array.toList d1
 subst this
 exact r.inj r'
theorem Inv.tuple_inj(I:Inv X pins σ H s)(h:SqT X.K H a xs)(h':SqT X.K H a ys):xs=ys:=by
 obtain⟨its,r,⟨o,e,_,n,d⟩,_⟩:=I.tuple h
 obtain⟨its',r',⟨o',b,_,c,d'⟩,_⟩:=I.tuple h'
 rw[e]at b;cases b
 rw[d]at d'
 injection d' with d1 _
 have:its=its':=by simpa using congrArg Array.toList d1
 subst this
 exact r.inj r'
end
noncomputable abbrev Cx.wish(X:Cx)(E:Value->Shared->Prop):Cx:={X with xe:=E}
noncomputable abbrev Cx.nox(X:Cx):Cx:=X.wish λ_ _=>False
theorem Cx.Ok.wish{X:Cx}(ok:X.Ok)(E:Value->Shared->Prop):(X.wish E).Ok :=
 ⟨ok.mod,ok.kind,ok.glob,ok.blt,ok.above,ok.inj,ok.has,ok.cab,ok.hd,ok.frames,ok.stk,ok.exf,ok.bs,ok.bsz,ok.noex,ok.exfs,ok.funs,ok.frf,ok.tab⟩
theorem Cx.Ok.unwish{X:Cx}{E:Value->Shared->Prop}(ok:(X.wish E).Ok):X.Ok :=
 ⟨ok.mod,ok.kind,ok.glob,ok.blt,ok.above,ok.inj,ok.has,ok.cab,ok.hd,ok.frames,ok.stk,ok.exf,ok.bs,ok.bsz,ok.noex,ok.exfs,ok.funs,ok.frf,ok.tab⟩
section
variable{X:Cx}{pins:List (Addr×Obj)}{σ:St}{H:Hp}{s:Shared}{E:Value->Shared->Prop}
theorem Inv.wish(I:Inv X pins σ H s)(E:Value->Shared->Prop):Inv (X.wish E) pins σ H s:=⟨I.ok.wish E,I.os,I.bare,I.base,I.loc,I.cell,I.free,I.freeC,I.pin,I.hok,I.len⟩
theorem Inv.unwish(I:Inv (X.wish E) pins σ H s):Inv X pins σ H s:=⟨I.ok.unwish,I.os,I.bare,I.base,I.loc,I.cell,I.free,I.freeC,I.pin,I.hok,I.len⟩
theorem SP.unwish{D:Ends}{f:Flow}{s':Shared}(h:SP (X.wish E) pins D f s'):SP X pins D f s':=by
 cases f with
 |next=>obtain⟨a,H',I,q⟩:=h;exact⟨a,H',I.unwish,q⟩
 |brk=>obtain⟨a,H',I,q⟩:=h;exact⟨a,H',I.unwish,q⟩
 |cont=>obtain⟨a,H',I,q⟩:=h;exact⟨a,H',I.unwish,q⟩
 |ret u=>obtain⟨v,a,H',I,r,q⟩:=h;exact⟨v,a,H',I.unwish,r,q⟩
theorem PSs.nox{st:List Stmt}{t:TS}(h:PSs X.nox st t):PSs X st t:=λpins s σ H D I a =>
 vQ (h pins s σ H D (I.wish _) a) (λ_ _ q=>q.unwish) λ_ _ z=>False.elim z
end
section
variable{X:Cx}{st:Stmt}{rest:List Stmt}{t u:TS}{e:Expr}{te:TE}{pos:Pos}
noncomputable def tNext:TS:=λD a H=>D.nx a H
noncomputable def tSeq(t u:TS):TS:=λD a H=>t {D with nx:=u D} a H
theorem qhv:PSs X [] tNext:=λ_ _ a H _ I h=>wpAny_execs_nil ⟨a,H,I,h⟩
theorem qeU(b:PS X st t)(c:PSs X rest u):PSs X (st::rest) (tSeq t u):=by
 intro pins s d H D I h
 refine wpAny_execs_cons (thn (b pins s d H {D with nx:=u D} I h) λf s1 q=>?_)
 cases f with
 |next =>
  obtain⟨a,H',i,q⟩:=q
  exact c pins s1 a H' D i q
 |ret v=>exact q
 |brk=>exact q
 |cont=>exact q
theorem Inv.quiet{pins:List (Addr×Obj)}{a:St}{H:Hp}{s:Shared}(I:Inv X pins a H s):interactive X.env=false:=by simp[interactive,I.ok.kind]
noncomputable def tDrop(te:TE):TS:=λD a H=>te a H λ_ b=>D.nx a b
theorem qhw(b:PE X e te)(c:swapsWith e none pos.line X.env=pure false:=by rfl):PS X (.Expr e pos) (tDrop te):=by
 intro pins s a H D I h
 exact wpAny_Expr_any (thn (b pins s a H _ I h) λv s1 ⟨x,d,f,i,q1⟩=>⟨a,d,f,q1⟩) I.quiet c
noncomputable def tRet(te:TE):TS:=λD a H=>te a H D.rt
theorem qjp(b:PE X e te):PS X (.Return (some e) pos) (tRet te):=by
 intro pins s a H D I h
 exact wpAny_Return_some (thn (b pins s a H _ I h) λv s1 ⟨x,c,d,f,q1⟩=>⟨x,a,c,d,f,q1⟩)
noncomputable def tIfS(c:TT)(t u:TS):TS:=λD a H=>c a H λb d=>if b=true then t D a d else u D a d
theorem qk2{c:Expr}{a b:List Stmt}{i:TT}(m:PT X c i)(ha:PSs X a t)(n:PSs X b u):PS X (.If c a b pos) (tIfS i t u):=by
 intro pins s f H D I h
 refine wpAny_If (thn (m pins s f H _ I h) λd s1 ⟨j,l,q1⟩=>?_)
 cases d with
 |true=>exact ha pins s1 f j D l q1
 |false=>exact n pins s1 f j D l q1
noncomputable def tNever:TS:=λ_ _ _=>False
theorem qeV:PS X st tNever:=λ_ _ _ _ _ _ h=>h.elim
end
noncomputable abbrev TG:=V->St->Hp->(St->Hp->Prop)->Prop
noncomputable abbrev TGs:=List V->St->Hp->(St->Hp->Prop)->Prop
noncomputable def PG(X:Cx)(a:Expr)(t:TG):Prop :=
 ∀(pins:List (Addr×Obj)) (s:Shared) (c:St) (H:Hp) (v:V) (u:Value) (Q:St->Hp->Prop),Inv X pins c H s->RelV v u->t v c H Q ->
  wpAny (model X.prog X.w) X.A (assign a X.env u) (λ_ s'=>∃b H',Inv X pins b H' s'/\Q b H') X.xe s
noncomputable def PGs(X:Cx)(ts:List Expr)(t:TGs):Prop :=
 ∀(pins:List (Addr×Obj)) (s:Shared) (b:St) (H:Hp) (vs:List V) (us:List Value) (Q:St->Hp->Prop),Inv X pins b H s->Vals vs us->t vs b H Q ->
  wpAny (model X.prog X.w) X.A (assignInOrder ((assignEach ts X.env).map (·.2)) us) (λ_ s'=>∃a H',Inv X pins a H' s'/\Q a H') X.xe s
noncomputable abbrev TSet:=V->V->V->Hp->(Hp->Prop)->Prop
noncomputable def PSet(X:Cx)(t:TSet):Prop :=
 ∀(pins:List (Addr×Obj)) (s:Shared) (a:St) (H:Hp) (o i v:V) (b c u:Value) (Q:Hp->Prop),Inv X pins a H s->RelV o b->RelV i c->RelV v u->t o i v H Q ->
  wpAny (model X.prog X.w) X.A (setItem b c u) (λ_ s'=>∃H',Inv X pins a H' s'/\Q H') X.xe s
noncomputable abbrev TIp:=V->V->Hp->VK->Prop
noncomputable def PIp(X:Cx)(op:Operator)(t:TIp):Prop :=
 ∀(pins:List (Addr×Obj)) (s:Shared) (a:St) (H:Hp) (x y:V) (v u:Value) (Q:VK),Inv X pins a H s->RelV x v->RelV y u->t x y H Q ->
  wpAny (model X.prog X.w) X.A (inplaceOp op v u) (EP X pins a Q) X.xe s
section
variable{X:Cx}{pos:Pos}
noncomputable def gName(i:Nat):TG:=λv a H Q=>Q (a.set i (some v)) H
theorem qdd{i:Nat}{x:Str}(a:X.N.Nodup)(hi:X.N[i]?=some x)(b:Loc X.env.scope x)(c:X.fn x=true\/X.env.scope.names.lookup x=some .local:=by first|exact .inl rfl|exact .inr rfl|assumption):PG X (.Name x pos) (gName i):=by
 intro pins s e H v u Q I r h
 exact wpAny_assign_Name (yN I a hi b r (λs' d=>⟨_,H,d,h⟩) c)
noncomputable def gNil:TGs:=λvs a H Q=>vs=[]/\Q a H
noncomputable def gCons(t:TG)(u:TGs):TGs:=λvs b H Q=>∃v r,vs=v::r/\t v b H λa H'=>u r a H' Q
theorem qhx:PGs X [] gNil:=by
 intro pins s a H vs us Q I r h
 obtain⟨e,h⟩:=h
 subst e
 cases r
 exact assignInOrder_nil ⟨a,H,I,h⟩
theorem qeW{e:Expr}{es:List Expr}{t:TG}{u:TGs}(b:PG X e t)(c:PGs X es u)(d:(assignEach (e::es) X.env).map (·.2)=assign e X.env::(assignEach es X.env).map (·.2):=by rfl):PGs X (e::es) (gCons t u):=by
 intro pins s f H vs us Q I r h
 obtain⟨v,m,e1,h⟩:=h
 subst e1
 cases r with
 |cons r i =>
  rw[d]
  refine assignInOrder_cons (thn (b pins s f H _ _ _ I r h) λ_ s1 ⟨a,j,l,q1⟩=>?_)
  exact c pins s1 a j _ _ Q l i q1
noncomputable def gTup(K:PySem.W.Frag)(n:Nat)(t:TGs):TG:=λv b H Q=>∃a xs,v=.ref a/\SqT K H a xs/\xs.length=n/\t xs b H Q
theorem qjq{es:List Expr}{k:Nat}{t:TGs}{n:Nat}(j:X.calm=true)(h:PGs X es t)(hn:(assignEach es X.env).length=n:=by rfl)(c:(assignEach es X.env).findIdx? (·.1)=none:=by rfl):PG X (.Tuple es k pos) (gTup X.K n t):=by
 intro pins s f H v u Q I r d
 obtain⟨a,xs,e1,l,m,d⟩:=d
 subst e1
 cases r
 obtain⟨its,i,p,x⟩:=I.tuple l
 refine assign_Tuple_tuple (I.ok.hd j) p (by simp[hn,<-m,i.length]) c λh' q=>?_
 have w:Inv X pins f H {s with heap:=h' }:=I.kept (t':=s.toks) λb o e=>q b o (wc (wJ e)) e
 exact h pins _ f H xs _ Q w (by simpa using i) d
noncomputable def gSub(b ti:TE)(t:TSet):TG:=λv a H Q=>b a H λo c=>ti a c λi H2=>t o i v H2 λH3=>Q a H3
theorem qjr{o i:Expr}{d ti:TE}{t:TSet}(e:PE X o d)(hi:PE X i ti)(f:PSet X t)(ha:∀v,assign (.Subscript o i pos) X.env v=(do
   let a <-holding [v] (eval o X.env)
   let b <-holding [v,a] (eval i X.env)
   standAt pos
   holding [v,a,b] (setItem a b v)
   release [v,a,b] []):=by intro _;rfl):PG X (.Subscript o i pos) (gSub d ti t):=by
 intro pins s c H v u Q I r h
 rw[ha]
 refine wA (wv (thn (e pins s c H _ I h) λa s1 ⟨x,j,l,m,q1⟩=>?_))
 refine wA (wv (thn (hi pins s1 c j _ l q1) λb s2 ⟨y,H2,n,p,q2⟩=>?_))
 refine wA (wi (wA (wv (thn (f pins s2 c H2 x y v a b u _ n m p r q2) λ_ z ⟨H3,q,w⟩=>?_))))
 exact wpAny_release ⟨c,H3,q,w⟩
noncomputable def tAsg(b:TE)(g:TG):TS:=λD a H=>b a H λx c=>g x a c D.nx
theorem qjs{tg e:Expr}{a:TE}{g:TG}(c:PE X e a)(d:PG X tg g)(f:swapsWithSole [tg] e pos.line X.env=pure false:=by rfl)(i:swappedStores [tg] e X.env=pure none:=by rfl)(j:(assignEach [tg] X.env).map (·.2)=[assign tg X.env]:=by rfl):PS X (.Assign [tg] e pos) (tAsg a g):=by
 intro pins s b H D I h
 refine wpAny_Assign_stores (thn (c pins s b H _ I h) λv s1 ⟨x,l,m,n,q1⟩=>?_) f i
 rw[j]
 exact thn (d pins s1 b l x v _ m n q1) λ_ s2 q=>q
theorem qjt{i:Nat}{x:Str}{e:Expr}{b:TE}{a:Pos}(c:X.N.Nodup)(hi:X.N[i]?=some x)(d:Loc X.env.scope x)(f:PE X e b)(j:swapsWith e (some (.Name x a)) pos.line X.env=pure false:=by rfl)(l:X.fn x=true\/X.env.scope.names.lookup x=some .local:=by first|exact .inl rfl|exact .inr rfl|assumption):
  PS X (.Assign [.Name x a] e pos) (tAsg b (gName i)):=by
 intro pins s m H D I h
 refine wpAny_Assign_Name (thn (f pins s m H _ I h) λv s1 ⟨y,n,o,p,q1⟩=>?_) j
 exact yN o c hi d p (λs2 q=>⟨_,n,q,q1⟩) l
noncomputable def tPar(i j:Nat)(b:TA):TS:=λD a H=>b a H λvs c=>∃v w,vs=[v,w]/\D.nx ((a.set i (some v)).set j (some w)) c
theorem qju{i j:Nat}{x y:Str}{a b:Expr}{u:TA}{f l pt:Pos}{kt k2 pt2}(K:X.calm=true)(z:X.N.Nodup)(hi:X.N[i]?=some x)(L:X.N[j]?=some y)(m:i≠j)(B:X.env.scope.names.lookup x=some .local)(C:X.env.scope.names.lookup y=some .local)(ha:PA X [a,b] u)(M:swappedStores [.Tuple [.Name x f,.Name y l] kt pt] (.Tuple [a,b] k2 pt2) X.env=pure (some [x,y]))(O:swapsWithSole [.Tuple [.Name x f,.Name y l] kt pt] (.Tuple [a,b] k2 pt2) pos.line X.env=pure false:=by rfl):
  PS X (.Assign [.Tuple [.Name x f,.Name y l] kt pt] (.Tuple [a,b] k2 pt2) pos) (tPar i j u):=by
 intro pins s E H D I h
 rw[exec_Assign_arm]
 refine wA (wi ?_)
 rw[O]
 refine wA (wD ?_)
 rw[wO (by decide)]
 refine wA (Tuple_ (thn (ha _ pins s E H _ I h) λus s1 ⟨vs,F,P,Q,q1⟩=>?_))
 obtain⟨v,w,e1,q1⟩:=q1
 subst e1
 obtain⟨c,d,rfl,R,n⟩:∃c d,us=[c,d]/\RelV v c/\RelV w d:=by
  cases Q with
  |cons p q =>
   cases q with
   |cons S U =>
    cases U
    exact⟨_,_,rfl,p,S⟩
 refine w9 ?_ (by show 2<=sizeLine;decide)
 have W:Inv X pins E F {s1 with heap:=s1.heap.push {cls:=.type "tuple",data:=.seq [c,d].toArray}}:=P.kept (t':=s1.toks) λb o e=>wB _ e
 rw[M]
 refine wA (wD ?_)
 show wpAny (model X.prog X.w) X.A (do rule "assign.swapped-stores";let items <-unpackItems (.ref s1.heap.objs.size) 2 none;assignInOrder [λv=>bindName X.env y v,λv=>bindName X.env x v] items.reverse;pure Flow.next) _ _ _
 refine wA (uE (wA (unpackItems_tuple (items:=#[c,d]) (I.ok.hd K) (IsTup.new s1.heap _) λh' r=>?_)))
 have Y:=W.kept (h':=h') (t':=s1.toks) λb o e=>r b o (wc (wJ e)) e
 show wpAny _ _ (assignInOrder [λv=>bindName X.env y v,λv=>bindName X.env x v] [d,c] >>= λ_=>pure Flow.next) _ _ _
 refine wA (assignInOrder_cons (wpAny_bindName (yN Y z L (.inl C) n (λs2 Z=>?_) (.inr C))))
 refine assignInOrder_cons (wpAny_bindName (yN Z z hi (.inl B) R (λs3 J=>assignInOrder_nil (wD ?_)) (.inr B)))
 rw[List.set_comm _ _ (Ne.symm m)]at J
 exact⟨_,F,J,q1⟩
noncomputable def tAugS(e ti f:TE)(a:V->V->Hp->VK->Prop)(d:TIp)(b:TSet):TS:=λD c H=>e c H λo h=>ti c h λi H2=>a o i H2 λx H3=>f c H3 λy j=>d x y j λz l=>b o i z l λm=>D.nx c m
noncomputable def PGet(X:Cx)(t:V->V->Hp->VK->Prop):Prop :=
 ∀(pins:List (Addr×Obj)) (s:Shared) (a:St) (H:Hp) (o i:V) (b c:Value) (Q:VK),Inv X pins a H s->RelV o b->RelV i c->t o i H Q ->
  wpAny (model X.prog X.w) X.A (getItem b c) (EP X pins a Q) X.xe s
theorem qhy{o i e:Expr}{m ti n:TE}{a:V->V->Hp->VK->Prop}{j:TIp}{b:TSet}{op:Operator}{l:Pos}(w:PE X o m)(hi:PE X i ti)(x:PGet X a)(y:PE X e n)(z:PIp X op j)(A:PSet X b)(ha:∀c d new,augStore i c d new=(do holding [new,c,d] (setItem c d new);release [new,c,d] [];pure .next):=by intros;rfl):PS X (.AugAssign (.Subscript o i l) op e pos) (tAugS m ti n a j b):=by
 intro pins s f H D I h
 refine wpAny_AugAssign_SubscriptAny (thn (w pins s f H _ I h) λc s1 ⟨p,B,C,q,q1⟩=>?_) ha
 refine thn (hi pins s1 f B _ C q1) λd s2 ⟨r,H2,E,u,q2⟩=>?_
 refine thn (x pins s2 f H2 p r c d _ E q u q2) λold F ⟨J,H3,K,L,M⟩=>?_
 refine thn (y pins F f H3 _ K M) λv N ⟨O,P,Q,R,S⟩=>?_
 refine thn (z pins N f P J O old v _ Q L R S) λnew U ⟨x5,W,Y,Z,q5⟩=>?_
 exact thn (A pins U f W p r x5 c d new _ Y q u Z q5) λ_ s6 ⟨H6,I6,q6⟩=>⟨f,H6,I6,q6⟩
noncomputable def ipI(f:Int->Int->Int):TIp:=λx y H Q=>∃i j,x=.int i/\y=.int j/\Q (.int (f i j)) H
theorem qjv:PIp X .Add (ipI λi j=>i+j):=by
 intro pins s d H x y v u Q I a b h
 obtain⟨i,j,e1,c,q⟩:=h
 subst e1;subst c
 obtain⟨t,rfl⟩:=a
 obtain⟨t',rfl⟩:=b
 exact iadd_int ⟨.int _,H,I.tok _,⟨_,rfl⟩,q⟩
end
section
variable{X:Cx}{pos:Pos}
noncomputable def tWhile(c:TT)(h:TS):TS:=λD a H=>∃W:Nat->St->Hp->Prop,(∃m,W m a H)/\∀m a H,W m a H ->
 c a H λb e=>if b=true then ∃N:St->Hp->Prop,(∀d H',N d H'->∃f,f<m/\W f d H')/\h {D with nx:=N,ct:=N,bk:=D.nx} a e else D.nx a e
theorem qeX{c:Expr}{body:List Stmt}{q:TT}{r:TS}(u:PassesOwn (model X.prog X.w) X.A X.env X.xe)(B:PT X c q)(C:PSs X body r):PS X (.While c body [] pos) (tWhile q r):=by
 intro pins s E H D I h
 obtain⟨W,⟨F,J⟩,e⟩:=h
 refine wpAny_While (codeAny_whileLoop (λn s'=>∃i H',Inv X pins i H' s'/\W n i H') ?_ F ⟨E,H,I,J⟩)
 rintro n s1 ⟨d,x,K,L⟩
 refine vz u (thn (B pins s1 d x _ K (e n d x L)) λb s2 ⟨H2,y,q2⟩=>?_)
 cases b with
 |true =>
  obtain⟨N,z,q2⟩:=q2
  rw[wM rfl]
  refine vz u (thn (C pins s2 d H2 _ y q2) λf M j=>?_)
  cases f with
  |next =>
   obtain⟨a,H3,l,m⟩:=j
   obtain⟨o,hm,p⟩:=z a H3 m
   exact⟨o,hm,a,H3,l,p⟩
  |cont =>
   obtain⟨a,H3,l,m⟩:=j
   obtain⟨o,hm,p⟩:=z a H3 m
   exact⟨o,hm,a,H3,l,p⟩
  |brk=>exact j
  |ret v=>exact j
 |false =>
  rw[wO wU]
  exact wpAny_execs_nil ⟨d,H2,y,q2⟩
end
structure It where
 go:Nat->Hp->Prop
 yld:Nat->Hp->V->Hp->Prop
 stop:Nat->Hp->Prop
noncomputable def FpOk(X:Cx)(pins:List (Addr×Obj))(H:Hp)(b:Addr):Prop :=
 H b=none/\b≠X.env.locals/\b∉X.fs/\(b∈X.ex\/X.s₀.heap.objs.size<=b)/\(∀x c,X.env.cells.lookup x=some c->c≠b)/\∀p∈X.pn++pins,p.1≠b
theorem Inv.fpOk{X:Cx}{pins:List (Addr×Obj)}{d:St}{H H':Hp}{s:Shared}{b:Addr}(I:Inv X pins d H s)(a:s.heap.objs.size<=b)(hn:H' b=none):FpOk X pins H' b:=by
 refine⟨hn,ws (w6 I.lt a),I.nofs a,.inr (vI I.sz a),λx c e z=>?_,λp f z=>?_⟩
 .obtain ⟨v,q⟩:=I.cell x c e
  exact absurd (w6 q.lt (by rw[z];exact a)) (vH _)
 .exact absurd (w6 (wJ (I.pin p f).1) (by rw[z];exact a)) (vH _)
structure Turn (P:Program) (w:World) (K:PySem.W.Frag) (tg:Expr) (J:It) (fp:List Addr) (it:Addr) (tn:Nat->Heap->Prop):Prop where
 mem:it∈fp
 obj:∀i h,tn i h->∀b∈fp,∃o,h.get? b=some o/\∀v,o.data≠.cell v
 keep:∀i h h',tn i h->(∀b∈fp,∀o,h.get? b=some o->h'.get? b=some o)->tn i h'
 item:∀(X:Cx),X.prog=P->X.w=w->X.K=K->X.calm=true->∀(i:Nat) (pins:List (Addr×Obj)) (s:Shared) (σ:St) (H:Hp) (E:Value->Shared->Prop),Inv X pins σ H s->(∀b∈fp,FpOk X pins H b)->tn i s.heap->J.go i H ->
  wpAny (model P w) X.A (pyNext (.ref it)) (λr s1=>∃u,r=some u /\
   wpAny (model P w) X.A (letOwnedTupleGo tg (.ref it) u) (λ_ s2=>∃x H',Inv X pins σ H' s2/\RelV x u/\J.yld i H x H'/\tn (i+1) s2.heap/\∀b∈fp,H' b=none) E s1) E s
 done:∀(X:Cx),X.prog=P->X.w=w->X.K=K->X.calm=true->∀(i:Nat) (pins:List (Addr×Obj)) (s:Shared) (σ:St) (H:Hp) (E:Value->Shared->Prop),Inv X pins σ H s->(∀b∈fp,FpOk X pins H b)->tn i s.heap->J.stop i H ->
  wpAny (model P w) X.A (pyNext (.ref it)) (λr s1=>r=none/\Inv X pins σ H s1) E s
 self:∀(A:Around) (i:Nat) (s:Shared) (Q:Value->Shared->Prop) (E:Value->Shared->Prop),tn i s.heap->Q (.ref it) s->wpAny (model P w) A (pyIter (.ref it)) Q E s
noncomputable abbrev TI:=St->Hp->(It->Hp->Prop)->Prop
noncomputable def PIE(X:Cx)(pins:List (Addr×Obj))(c:St)(tg:Expr)(R:It->Hp->Prop)(a:Value)(s2:Shared):Prop :=
 ∃(it:Addr) (fp:List Addr) (tn:Nat->Heap->Prop) (J:It) (H':Hp),a=.ref it/\Inv X pins c H' s2/\Turn X.prog X.w X.K tg J fp it tn/\tn 0 s2.heap/\(∀b∈fp,FpOk X pins H' b)/\R J H'
noncomputable def PI(X:Cx)(tg iter:Expr)(b:TI):Prop :=
 ∀(pins:List (Addr×Obj)) (s:Shared) (a:St) (H:Hp) (R:It->Hp->Prop),Inv X pins a H s->b a H R ->
  wpAny (model X.prog X.w) X.A (eval iter X.env) (λv s1=>wpAny (model X.prog X.w) X.A (pyIter v) (PIE X pins a tg R) X.xe s1) X.xe s
theorem qeY{M:Model}{A:Around}{E:Value->Shared->Prop}{s:Shared}{tg:Expr}{it:Addr}{u:Value}{o:Obj}{n:String}{vs:Array Value}{Q:Unit->Shared->Prop}(b:s.heap.get? it=some o)(c:o.cls=.type n)(hd:o.data=.fields vs)(hn:["enumerate","zip","dict_itemiterator","dict_reverseitemiterator","odict_iterator","itertools.zip_longest","itertools.pairwise"].contains n=false)(a:Q () s):wpAny M A (letOwnedTupleGo tg (.ref it) u) Q E s:=by
 unfold letOwnedTupleGo
 cases tg <;> first
  |exact wD a
  | (cases u <;> first
    |exact wD a
    | (refine wA (wpAny_load b ?_)
       rw[c,hd]
       show wpAny M A (if(["enumerate","zip","dict_itemiterator","dict_reverseitemiterator","odict_iterator","itertools.zip_longest","itertools.pairwise"].contains n&&vs[0]? == some (rawInt _))=true then _ else _) Q E s
       rw[wO (by intro h;rw[hn,Bool.false_and]at h;cases h)]
       exact wD a))
noncomputable def Itl(K:PySem.W.Frag)(a:Addr):It :=
 ⟨λi H=>∃xs x,SqL K H a xs/\xs[i]?=some x,λi H x H'=>H'=H/\∀xs,SqL K H a xs->xs[i]?=some x,λi H=>∃xs,SqL K H a xs/\xs.length<=i⟩
noncomputable def Itt(K:PySem.W.Frag)(a:Addr):It :=
 ⟨λi H=>∃xs x,SqT K H a xs/\xs[i]?=some x,λi H x H'=>H'=H/\∀xs,SqT K H a xs->xs[i]?=some x,λi H=>∃xs,SqT K H a xs/\xs.length<=i⟩
theorem qee{P:Program}{w:World}{K:PySem.W.Frag}{tg:Expr}(a it:Addr):Turn P w K tg (Itl K a) [it] it (λi h=>h.IsListIter it a i) where
 mem:=by simp
 obj:=λi h st b f=>by
  have e:b=it:=by simpa using f
  subst e
  obtain⟨o,e,c,d⟩:=st
  exact⟨o,e,λv z=>by rw[d]at z;cases z⟩
 keep:=λi h h' st k=>st.at λo e=>k it (by simp) o e
 item:=by
  intro X n q r N i pins s O H E I l st y
  subst n q r
  obtain⟨xs,x,m,A⟩:=y
  obtain⟨its,B,p,Q⟩:=I.list m
  obtain⟨u,R,S⟩:=B.get A
  obtain⟨C,F,U,J,L,M⟩:=l it (by simp)
  refine wpAny_pyNext_list_item st p.isList (x:=u) (by simpa using R) λh' j Y=>?_
  have Z:Inv X pins O H {s with heap:=h' }:=I.turned (t':=s.toks) (λb o f e=>(Y.2 b f).trans e) C F J L M
  obtain⟨o,e,c,d⟩:=id j
  exact⟨u,rfl,qeY (s:={s with heap:=h' }) e c d (by decide) ⟨x,H,Z,S,⟨rfl,λys hy=>by rw[I.list_inj hy m];exact A⟩,j,λb f=>(l b f).1⟩⟩
 done:=by
  intro X n q r N i pins s O H E I l st y
  subst n q r
  obtain⟨xs,m,A⟩:=y
  obtain⟨its,B,p,Q⟩:=I.list m
  obtain⟨C,F,U,J,L,M⟩:=l it (by simp)
  have hl:=B.length
  exact wpAny_pyNext_list_end (I.ok.hd N) st p.isList (by simp;lia) λh' eb=>⟨rfl,I.turned (t':=s.toks) (λb o f e=>eb b o f e) C F J L M⟩
 self:=λ_ _ _ _ _ st h=>wpAny_pyIter_listiter st h
theorem qcv{P:Program}{w:World}{K:PySem.W.Frag}{tg:Expr}(a it:Addr):Turn P w K tg (Itt K a) [it] it (λi h=>h.IsTupleIter it a i) where
 mem:=by simp
 obj:=λi h st b f=>by
  have e:b=it:=by simpa using f
  subst e
  obtain⟨o,e,c,d⟩:=st
  exact⟨o,e,λv z=>by rw[d]at z;cases z⟩
 keep:=λi h h' st k=>st.at λo e=>k it (by simp) o e
 item:=by
  intro X n q r N i pins s O H E I l st y
  subst n q r
  obtain⟨xs,x,m,A⟩:=y
  obtain⟨its,B,p,Q⟩:=I.tuple m
  obtain⟨u,R,S⟩:=B.get A
  obtain⟨C,F,U,J,L,M⟩:=l it (by simp)
  refine wpAny_pyNext_tuple_item st (show s.heap.IsTuple a its.toArray from p) (x:=u) (by simpa using R) λh' j Y=>?_
  have Z:Inv X pins O H {s with heap:=h' }:=I.turned (t':=s.toks) (λb o f e=>(Y.2 b f).trans e) C F J L M
  obtain⟨o,e,c,d⟩:=id j
  exact⟨u,rfl,qeY (s:={s with heap:=h' }) e c d (by decide) ⟨x,H,Z,S,⟨rfl,λys hy=>by rw[I.tuple_inj hy m];exact A⟩,j,λb f=>(l b f).1⟩⟩
 done:=by
  intro X n q r N i pins s O H E I l st y
  subst n q r
  obtain⟨xs,m,A⟩:=y
  obtain⟨its,B,p,Q⟩:=I.tuple m
  obtain⟨C,F,U,J,L,M⟩:=l it (by simp)
  have hl:=B.length
  exact wpAny_pyNext_tuple_end (I.ok.hd N) st (show s.heap.IsTuple a its.toArray from p) (by simp;lia) λh' eb=>⟨rfl,I.turned (t':=s.toks) (λb o f e=>eb b o f e) C F J L M⟩
 self:=λ_ _ _ _ _ st h=>wpAny_pyIter_tupleiter st h
end L2
namespace L2
open PySem PySem.Spec PyProof.Rows
section
variable{X:Cx}{tg:Expr}
noncomputable def tFor(e:TI)(g:TG)(f:TS):TS:=λD a H=>e a H λJ h=>∃W:Nat->Nat->St->Hp->Prop,(∃m,W 0 m a h)/\∀i m a H,W i m a H ->
 (J.stop i H/\D.nx a H)\/(J.go i H/\∃N:St->Hp->Prop,(∀b H',N b H'->∃d,d<m/\W (i+1) d b H')/\∀x H',J.yld i H x H'->g x a H' λc H2=>f {D with nx:=N,ct:=N,bk:=D.nx} c H2)
noncomputable def pinsAt(fp:List Addr)(h:Heap):List (Addr×Obj):=fp.filterMap λb=>(h.get? b).map λo=>(b,o)
theorem q9{fp:List Addr}{h:Heap}{b:Addr}{o:Obj}(a:b∈fp)(e:h.get? b=some o):(b,o)∈pinsAt fp h:=List.mem_filterMap.mpr ⟨b,a,by rw[e];rfl⟩
theorem qef{fp:List Addr}{h:Heap}{p:Addr×Obj}(a:p∈pinsAt fp h):p.1∈fp/\h.get? p.1=some p.2:=by
 obtain⟨b,c,e⟩:=List.mem_filterMap.mp a
 cases q:h.get? b with
 |none=>rw[q]at e;cases e
 |some o =>
  rw[q]at e
  have d:(b,o)=p:=Option.some.inj e
  subst d
  exact⟨c,q⟩
theorem Inv.pinned{pins:List (Addr×Obj)}{a:St}{H:Hp}{s:Shared}{fp:List Addr}(I:Inv X pins a H s)(h:∀b∈fp,FpOk X pins H b)(i:∀b∈fp,∃o,s.heap.get? b=some o/\∀v,o.data≠.cell v):Inv X (pins++pinsAt fp s.heap) a H s :=
 I.pins_of λp j=>(wu.mp j).elim (λz=>I.pin p (wT _ z)) λz=>by
  obtain⟨c,e⟩:=qef z
  obtain⟨l,m,n,_⟩:=h p.1 c
  obtain⟨o,f,d⟩:=i p.1 c
  rw[e]at f;cases f
  exact⟨e,l,m,n,d⟩
theorem Inv.unpinned{pins pl:List (Addr×Obj)}{a:St}{H:Hp}{s:Shared}(I:Inv X (pins++pl) a H s):Inv X pins a H s:=I.pins_of λp b=>I.pin p (wT _ (wp _ b))
theorem qjw{iter:Expr}{body:List Stmt}{Y:TI}{g:TG}{Z:TS}{pos:Pos}(E:PassesOwn (model X.prog X.w) X.A X.env X.xe)(hc:X.calm=true)(hi:PI X tg iter Y)(hg:PG X tg g)(c:PSs X body Z)(hs:∀x,foldedSetIterable iter X.env x=pure x:=by intro _;rfl):PS X (.For tg iter body [] pos) (tFor Y g Z):=by
 intro pins s σ H D I h
 refine wpAny_For (thn (hi pins s σ H _ I h) λv s1 h1=>thn h1 λa0 s2 h2=>?_) hs
 obtain⟨it,fp,tn,J,H2,e,I2,T,O,f2,W,⟨m0,w0⟩,F⟩:=h2
 subst e
 have j:∀{H':Hp},(∀b∈fp,H' b=none)->∀b∈fp,FpOk X pins H' b:=λhn b c=>⟨hn b c,(f2 b c).2⟩
 refine codeAny_forLoop_any (λn s'=>∃i l H',Inv X pins l H' s'/\tn i s'.heap/\(∀b∈fp,H' b=none)/\W i n l H') ?_ m0 ⟨0,σ,H2,I2,O,λb c=>(f2 b c).1,w0⟩
 rintro n s3 ⟨i,p,H3,I3,K,L,w3⟩
 rcases F i n p H3 w3 with ⟨stop,qn⟩|⟨go,N,hN,step⟩
 .refine vz E (thn (T.done X rfl rfl rfl hc i pins s3 p H3 X.xe I3 (j L) K stop) λr s4 ⟨P,I4⟩=>?_)
  subst P
  exact wpAny_execs_nil ⟨p,H3,I4,qn⟩
 .refine vz E (thn (T.item X rfl rfl rfl hc i pins s3 p H3 X.xe I3 (j L) K go) λr s4 ⟨u,P,h4⟩=>?_)
  subst P
  refine vz E (thn h4 λ_ s5 ⟨x,H5,I5,r5,y5,C,Q⟩=>?_)
  have R:=I5.pinned (j Q) (T.obj _ _ C)
  refine vz E (thn (hg _ s5 p H5 x u _ R r5 (step x H5 y5)) λ_ s6 ⟨S,H6,I6,q6⟩=>?_)
  refine vz E (thn (c _ s6 S H6 _ I6 q6) λf U B=>?_)
  have q:∀{a:St} {y:Hp},Inv X (pins++pinsAt fp s5.heap) a y U->N a y->∃m,m<n/\∃i l H',Inv X pins l H' U/\tn i U.heap/\(∀b∈fp,H' b=none)/\W i m l H':=λ{a y} z M=>by
   obtain⟨m',hm,w7⟩:=hN a y M
   refine⟨m',hm,i+1,a,y,z.unpinned,T.keep _ _ _ C λb c o e=>(z.pin (b,o) (wT _ (wT _ (q9 c e)))).1,λb c=>?_,w7⟩
   obtain⟨o,e,d⟩:=T.obj _ _ C b c
   exact(z.pin (b,o) (wT _ (wT _ (q9 c e)))).2.1
  cases f with
  |next=>obtain⟨a,y,z,M⟩:=B;exact q z M
  |cont=>obtain⟨a,y,z,M⟩:=B;exact q z M
  |brk=>obtain⟨a,y,z,B⟩:=B;exact⟨a,y,z.unpinned,B⟩
  |ret v=>obtain⟨x7,a,y,z,r7,B⟩:=B;exact⟨x7,a,y,z.unpinned,r7,B⟩
end
end L2
namespace L2
open PySem PySem.Spec PyProof.Rows
noncomputable abbrev R2:=V->V->Hp->VK->Prop
noncomputable def OpR(X:Cx)(f:Value->Value->Sem Value)(r:R2):Prop :=
 ∀(pins:List (Addr×Obj)) (s:Shared) (a:St) (H:Hp) (x y:V) (v u:Value) (Q:VK),Inv X pins a H s->RelV x v->RelV y u->r x y H Q ->
  wpAny (model X.prog X.w) X.A (f v u) (EP X pins a Q) X.xe s
noncomputable def UnR(X:Cx)(f:Value->Sem Value)(r:V->Hp->VK->Prop):Prop :=
 ∀(pins:List (Addr×Obj)) (s:Shared) (a:St) (H:Hp) (x:V) (v:Value) (Q:VK),Inv X pins a H s->RelV x v->r x H Q ->
  wpAny (model X.prog X.w) X.A (f v) (EP X pins a Q) X.xe s
noncomputable def CallR(X:Cx)(f:Value)(r:List V->Hp->VK->Prop):Prop :=
 ∀(pins:List (Addr×Obj)) (s:Shared) (a:St) (H:Hp) (xs:List V) (us:List Value) (Q:VK),Inv X pins a H s->Vals xs us->r xs H Q ->
  wpAny (model X.prog X.w) X.A (call f us) (EP X pins a Q) X.xe s
noncomputable def TruR(X:Cx)(r:V->Hp->(Bool->Hp->Prop)->Prop):Prop :=
 ∀(pins:List (Addr×Obj)) (s:Shared) (a:St) (H:Hp) (x:V) (v:Value) (Q:Bool->Hp->Prop),Inv X pins a H s->RelV x v->r x H Q ->
  wpAny (model X.prog X.w) X.A (truthy v) (TP X pins a Q) X.xe s
noncomputable def tOp(r:R2)(b c:TE):TE:=λa H Q=>b a H λx d=>c a d λy H2=>r x y H2 Q
noncomputable def tUn(r:V->Hp->VK->Prop)(a:TE):TE:=λb H Q=>a b H λx c=>r x c Q
noncomputable def rI(C:Int->Int->Prop)(g:Int->Int->V):R2:=λx y H Q=>∃i j,x=.int i/\y=.int j/\C i j/\Q (g i j) H
noncomputable def rI0(g:Int->Int->V):R2:=λx y H Q=>∃i j,x=.int i/\y=.int j/\Q (g i j) H
def rU(g:Int->V):V->Hp->VK->Prop:=λx H Q=>∃i,x=.int i/\Q (g i) H
section
variable{X:Cx}{a b c:Expr}{ta tb tc:TE}{pos:Pos}
theorem binT(ha:PE X a ta)(l:PE X b tb){pins:List (Addr×Obj)}{s:Shared}{d:St}{H:Hp}{R:V->V->Hp->Prop}(I:Inv X pins d H s)(h:ta d H λx j=>tb d j λy H2=>R x y H2){Q:Value->Shared->Prop}{f:Value->Value->Sem Value}(m:∀v u s2 x y H2,Inv X pins d H2 s2->RelV x v->RelV y u->R x y H2->wpAny (model X.prog X.w) X.A (f v u) Q X.xe s2):
  wpAny (model X.prog X.w) X.A (eval a X.env) (λv e=>wpAny (model X.prog X.w) X.A (eval b X.env) (λu i=>wpAny (model X.prog X.w) X.A (f v u) Q X.xe i) X.xe e) X.xe s:=by
 refine thn (ha pins s d H _ I h) λv s1 ⟨x,j,n,o,q1⟩=>?_
 refine thn (l pins s1 d j _ n q1) λu s2 ⟨y,H2,p,q,q2⟩=>?_
 exact m v u s2 x y H2 p o q q2
theorem qk3{op:Operator}{r:R2}(d:OpR X (binaryOp op) r)(ha:PE X a ta)(e:PE X b tb):PE X (.BinOp a op b pos) (tOp r ta tb):=by
 intro pins s f H Q I h
 exact wpAny_BinOp (binT ha e I h λv u s2 x y H2 i rx j q=>d pins s2 f H2 x y v u Q i rx j q)
theorem qk4{op:UnaryOp}{r:V->Hp->VK->Prop}(e:UnR X (unaryOp op) r)(ha:PE X a ta):PE X (.UnaryOp op a pos) (tUn r ta):=by
 intro pins s d H Q I h
 exact UnaryOp_ (thn (ha pins s d H _ I h) λv s1 ⟨x,f,i,j,q1⟩=>e pins s1 d f x v Q i j q1)
theorem opI{f:Value->Value->Sem Value}{C:Int->Int->Prop}{g:Int->Int->Int}(d:∀(i j:Int) (t u:Tok) (s:Shared) (Q:Value->Shared->Prop) (E:Value->Shared->Prop),C i j->Q (.int (g i j) s.toks) {s with toks:=s.toks+1}->wpAny (model X.prog X.w) X.A (f (.int i t) (.int j u)) Q E s):
  OpR X f (rI C λi j=>.int (g i j)):=by
 intro pins s m H x y v u Q I rx e h
 obtain⟨i,j,rfl,rfl,l,q⟩:=h
 obtain⟨t,rfl⟩:=rx
 obtain⟨t',rfl⟩:=e
 exact d i j t t' s _ _ l ⟨.int (g i j),H,I.tok _,⟨_,rfl⟩,q⟩
theorem opB0{f:Value->Value->Sem Value}{g:Int->Int->Bool}(d:∀(i j:Int) (t u:Tok) (s:Shared) (Q:Value->Shared->Prop) (E:Value->Shared->Prop),Q (.bool (g i j)) s->wpAny (model X.prog X.w) X.A (f (.int i t) (.int j u)) Q E s):
  OpR X f (rI0 λi j=>.bl (g i j)):=by
 intro pins s l H x y v u Q I rx e h
 obtain⟨i,j,rfl,rfl,q⟩:=h
 obtain⟨t,rfl⟩:=rx
 obtain⟨t',rfl⟩:=e
 exact d i j t t' s _ _ ⟨.bl (g i j),H,I,rfl,q⟩
theorem qcw(k:Nat):(0:Int)<=2^k:=by
 rw[two_pow_cast]
 exact Int.natCast_nonneg _
theorem qjx:OpR X (binaryOp .RShift) (rI (λ_ j=>0<=j) λi j=>.int (i / 2^j.toNat)):=opI λi j _ _ _ _ _ d q =>
 rshift_int d (by rw[uJ i (qcw _)];exact q)
theorem unI{f:Value->Sem Value}{g:Int->Int}(d:∀(i:Int) (t:Tok) (s:Shared) (Q:Value->Shared->Prop) (E:Value->Shared->Prop),Q (.int (g i) s.toks) {s with toks:=s.toks+1}->wpAny (model X.prog X.w) X.A (f (.int i t)) Q E s):
  UnR X f (rU λi=>.int (g i)):=by
 intro pins s e H x v Q I rx h
 obtain⟨i,rfl,q⟩:=h
 obtain⟨t,rfl⟩:=rx
 exact d i t s _ _ ⟨.int (g i),H,I.tok _,⟨_,rfl⟩,q⟩
theorem qjy:UnR X (unaryOp .USub) (rU λi=>.int (-i)):=unI λ_ _ _ _ _ q=>neg_int q
end
section
variable{X:Cx}{a b c:Expr}{ta tb tc:TE}{pos:Pos}
theorem qeZ{pins:List (Addr×Obj)}{d:St}{H:Hp}{s:Shared}{Q:VK}{k f:Bool}(I:Inv X pins d H s)(q:Q (.bl k) H)(e:k=f):EP X pins d Q (.bool f) s:=by
 subst e
 exact⟨.bl k,H,I,rfl,q⟩
theorem qk5:OpR X (compareOp .Lt) (rI0 λi j=>.bl (decide (i<j))):=opB0 λ_ _ _ _ _ _ _ q=>lt_int q
theorem qk6:OpR X (compareOp .LtE) (rI0 λi j=>.bl (decide (i<=j))):=opB0 λ_ _ _ _ _ _ _ q=>le_int q
theorem qk7:OpR X (compareOp .Gt) (rI0 λi j=>.bl (decide (j<i))):=opB0 λ_ _ _ _ _ _ _ q=>gt_int q
theorem qk8:OpR X (compareOp .GtE) (rI0 λi j=>.bl (decide (j<=i))):=opB0 λ_ _ _ _ _ _ _ q=>ge_int q
theorem qjz:OpR X (compareOp .Is) (λx y H Q=>y=.non/\Q (.bl (decide (x=.non))) H):=by
 intro pins s e H x y v u Q I rx d h
 obtain⟨rfl,q⟩:=h
 cases d
 refine is_none_gen (qeZ I q ?_)
 cases x <;> first
  | (cases rx;rfl)
  | (obtain⟨t,rfl⟩:=rx;rfl)
theorem qhz:OpR X (compareOp .IsNot) (λx y H Q=>y=.non/\Q (.bl (!decide (x=.non))) H):=by
 intro pins s e H x y v u Q I rx d h
 obtain⟨rfl,q⟩:=h
 cases d
 refine isnot_none_gen (qeZ I q ?_)
 cases x <;> first
  | (cases rx;rfl)
  | (obtain⟨t,rfl⟩:=rx;rfl)
theorem qhA{op:CmpOp}{r:R2}(d:OpR X (compareOp op) r)(ha:PE X a ta)(e:PE X b tb)(hm:behindInMarks op b=false):PE X (.Compare a [op] [b] pos) (tOp r ta tb):=by
 intro pins s f H Q I h
 exact wpAny_Compare1 (binT ha e I h λv u s2 x y H2 i rx j q=>d pins s2 f H2 x y v u Q i rx j q) hm
noncomputable def tTest(t:TE):TT:=λd H Q=>t d H λx H'=>∃k,x=.bl k/\Q k H'
theorem qhB{op:CmpOp}{r:R2}(f:OpR X (compareOp op) r)(ha:PE X a ta)(i:PE X b tb)(hm:behindInMarks op b=false):PT X (.Compare a [op] [b] pos) (tTest (tOp r ta tb)):=by
 intro pins s d H Q I h
 refine wpAny_isTrue_Compare1 (thn (ha pins s d H _ I h) λv s1 ⟨x,j,l,m,q1⟩=>thn (i pins s1 d j _ l q1) λu s2 ⟨y,H2,n,o,q2⟩ =>
  thn (f pins s2 d H2 x y v u _ n m o q2) λc A ⟨z,H3,p,q,k,e,w⟩=>?_) hm
 subst e
 cases q
 exact vR ⟨H3,p,w⟩
noncomputable def tChain(r r':R2)(ta tb tc:TE):TE:=λd H Q=>ta d H λx e=>tb d e λy H2=>r x y H2 λz H3=>∃k,z=.bl k /\
 (if k=true then tc d H3 λf h=>r' y f h Q else Q (.bl false) H3)
theorem qe0{op f:CmpOp}{r r':R2}(o:OpR X (compareOp op) r)(j:OpR X (compareOp f) r')(ha:PE X a ta)(p:PE X b tb)(q:PE X c tc)(hm:lastMarks [op,f] [b,c]=false:=by with_unfolding_all rfl):PE X (.Compare a [op,f] [b,c] pos) (tChain r r' ta tb tc):=by
 intro pins s i H Q I h
 refine Compare_chain (thn (ha pins s i H _ I h) λv s1 ⟨x,w,A,B,q1⟩=>chain_link (thn (p pins s1 i w _ A q1) λu s2 ⟨y,H2,C,l,q2⟩ =>
  thn (o pins s2 i H2 x y v u _ C B l q2) λd E ⟨z,H3,m,F,k,e,n⟩=>?_)) hm
 subst e
 cases F
 refine vR ?_
 cases k with
 |false=>exact ite_ff ⟨.bl false,H3,m,rfl,n⟩
 |true=>exact ite_tt (chain_last (thn (q pins E i H3 _ m n) λJ K ⟨L,M,N,O,P⟩=>j pins K i M y L u J Q N l O P))
theorem qe1{op f:CmpOp}{r r':R2}(o:OpR X (compareOp op) r)(j:OpR X (compareOp f) r')(ha:PE X a ta)(p:PE X b tb)(q:PE X c tc)(hm:lastMarks [op,f] [b,c]=false:=by with_unfolding_all rfl):PT X (.Compare a [op,f] [b,c] pos) (tTest (tChain r r' ta tb tc)):=by
 intro pins s i H Q I h
 refine isTrue_chain (thn (ha pins s i H _ I h) λv s1 ⟨x,w,A,B,q1⟩=>test_link (thn (p pins s1 i w _ A q1) λu s2 ⟨y,H2,C,l,q2⟩ =>
  thn (o pins s2 i H2 x y v u _ C B l q2) λd E ⟨z,H3,m,F,k,e,n⟩=>?_)) hm
 subst e
 cases F
 refine vR ?_
 cases k with
 |false =>
  obtain⟨k',J,K⟩:=n
  cases J
  exact ite_ff ⟨H3,m,K⟩
 |true =>
  refine ite_tt (test_last (thn (q pins E i H3 _ m n) λL M ⟨N,O,P,R,S⟩=>thn (j pins M i O y N u L _ P l R S) λd' s5 ⟨z2,U,W,Y,k2,Z,q5⟩=>?_))
  subst Z
  cases Y
  exact vR ⟨U,W,q5⟩
noncomputable def TruV(K:PySem.W.Frag)(x:V)(H:Hp)(k:Bool):Prop :=
 match x with
 | .non=>k=false
 | .bl b=>k=b
 | .int i=>k=(i != 0)
 | .str y=>y.length<=sizeLine/\k=((y.length:Int) != 0)
 | .byt y=>y.size<=sizeLine/\k=((y.size:Int) != 0)
 | .ref p=>(∃xs,SqL K H p xs/\k=!xs.isEmpty)\/(∃xs,SqT K H p xs/\k=!xs.isEmpty)\/∃kvs,H p=some (.dK kvs)/\k=!kvs.isEmpty
 |_=>False
theorem qcx{κ:Type}{kvs:List (κ×V)}{vs:List (κ×Value)}(r:KV kvs vs):(!vs.isEmpty)=!kvs.isEmpty:=by
 cases r <;> rfl
theorem jJ{xs:List V}{its:List Value}(r:Vals xs its):(!its.toArray.isEmpty)=!xs.isEmpty:=by
 cases r <;> simp
theorem line63:(sizeLine:Nat)<2^63:=by rw[vL];decide
theorem qjA:TruR X (λx H Q=>∃k,TruV X.K x H k/\Q k H):=by
 intro pins s u H x v Q I rx h
 obtain⟨k,e,q⟩:=h
 have z:=line63
 have A:sizeLine=16777216:=vL
 cases x with
 |non =>
  cases rx
  have d:k=false:=e
  subst d
  exact truthy_none ⟨H,I,q⟩
 |bl b =>
  cases rx
  have d:k=b:=e
  subst d
  exact vR ⟨H,I,q⟩
 |int i =>
  obtain⟨t,rfl⟩:=rx
  have d:k=(i != 0):=e
  subst d
  exact PySem.P.truthy_int ⟨H,I,q⟩
 |str y =>
  obtain⟨t,rfl⟩:=rx
  obtain⟨n,d⟩:y.length<=sizeLine/\k=((y.length:Int) != 0):=e
  subst d
  exact PySem.P.truthy_str (by lia) ⟨H,I.tok _,q⟩
 |byt y =>
  obtain⟨t,rfl⟩:=rx
  obtain⟨n,d⟩:y.size<=sizeLine/\k=((y.size:Int) != 0):=e
  subst d
  exact PySem.W.truthy_bytes (by lia) ⟨H,I.tok _,q⟩
 |ref p =>
  cases rx
  have d:(∃xs,SqL X.K H p xs/\k=!xs.isEmpty)\/(∃xs,SqT X.K H p xs/\k=!xs.isEmpty)\/∃kvs,H p=some (.dK kvs)/\k=!kvs.isEmpty:=e
  rcases d with ⟨xs,j,d⟩|⟨xs,j,d⟩|⟨kvs,j,d⟩
  .subst d
   obtain⟨its,r,pl,l⟩:=I.list j
   have f:=r.length
   exact wpAny_truthy_list pl.isList (by simp only[wL];lia) ⟨H,I.tok _,by rw[jJ r];exact q⟩
  .subst d
   obtain⟨its,r,pl,l⟩:=I.tuple j
   have f:=r.length
   exact truthy_tuple pl (by simp only[wL];lia) ⟨H,I.tok _,by rw[jJ r];exact q⟩
  .subst d
   obtain⟨l,o,vs,r,m⟩:kvs.length<=sizeLine/\(p == sysModules)=false/\∃vs,KV kvs vs/\s.heap.DictOf (mixKind X.prog X.w) p vs:=I.hok p _ j
   have f:kvs.length=vs.length:=Paired.length r
   exact wpAny_truthy_dict o m (by lia) ⟨H,I.tok _,by rw[qcx r];exact q⟩
 |_=>exact(show False from e).elim
theorem qe2(ha:PE X a ta)(f:∀d,isTrue a X.env d=(do let v <-d;standAt a.pos;holding [v] (truthy v))):
  PT X a (λe H Q=>ta e H λx H'=>∃k,TruV X.K x H' k/\Q k H'):=by
 intro pins s e H Q I h
 exact isTrue_plain (thn (ha pins s e H _ I h) λv s1 ⟨x,i,j,l,q1⟩=>qjA pins s1 e i x v Q j l q1) (f _)
theorem qcy:OpR X (binaryOp .Add) (λx y H Q=>∃i j,x=.str i/\y=.str j/\i.length+j.length<=sizeLine/\Q (.str (i++j)) H):=by
 intro pins s f H x y v u Q I rx d h
 obtain⟨i,j,rfl,rfl,e,q⟩:=h
 obtain⟨t,rfl⟩:=rx
 obtain⟨t',rfl⟩:=d
 exact add_str (λt' tk=>⟨.str (i++j),H,I.tok _,⟨_,rfl⟩,q⟩) e
theorem vals1{x:V}{us:List Value}(r:Vals [x] us):∃u,us=[u]/\RelV x u:=by
 cases r with
 |cons d e=>cases e;exact⟨_,rfl,d⟩
theorem vals2{x y:V}{us:List Value}(r:Vals [x,y] us):∃u d,us=[u,d]/\RelV x u/\RelV y d:=by
 cases r with
 |cons e f =>
  cases f with
  |cons h i=>cases i;exact⟨_,_,rfl,e,h⟩
theorem qe3:CallR X (.builtin "abs") (λxs H Q=>∃i,xs=[.int i]/\Q (.int (if i<0 then -i else i)) H):=by
 intro pins s d H xs us Q I r h
 obtain⟨i,rfl,q⟩:=h
 obtain⟨u,rfl,t,rfl⟩:=vals1 r
 exact call_abs_int λu tk=>⟨.int (if i<0 then -i else i),H,I.tok _,⟨_,rfl⟩,q⟩
theorem qeg(e:X.calm=true):CallR X (.builtin "max") (λxs H Q=>∃i j,xs=[.int i,.int j]/\Q (.int (if j>i then j else i)) H):=by
 intro pins s f H xs us Q I r h
 obtain⟨i,j,rfl,q⟩:=h
 obtain⟨u,l,rfl,⟨t,rfl⟩,⟨t',rfl⟩⟩:=vals2 r
 refine max_two_ints (I.ok.hd e) λh' tk k=>⟨_,H,I.kept k,?_,q⟩
 by_cases d:j>i
 .rw [wM d,wM d];exact⟨_,rfl⟩
 .rw [wO d,wO d];exact⟨_,rfl⟩
theorem qeh(e:X.calm=true):CallR X (.builtin "min") (λxs H Q=>∃i j,xs=[.int i,.int j]/\Q (.int (if j<i then j else i)) H):=by
 intro pins s f H xs us Q I r h
 obtain⟨i,j,rfl,q⟩:=h
 obtain⟨u,l,rfl,⟨t,rfl⟩,⟨t',rfl⟩⟩:=vals2 r
 refine min_two_ints (I.ok.hd e) λh' tk k=>⟨_,H,I.kept k,?_,q⟩
 by_cases d:j<i
 .rw [wM d,wM d];exact⟨_,rfl⟩
 .rw [wO d,wO d];exact⟨_,rfl⟩
noncomputable def LenV(K:PySem.W.Frag)(x:V)(H:Hp)(n:Nat):Prop :=
 match x with
 | .str y=>y.length<=sizeLine/\n=y.length
 | .byt y=>y.size<=sizeLine/\n=y.size
 | .ref p=>(∃xs,SqL K H p xs/\n=xs.length)\/∃xs,SqT K H p xs/\n=xs.length
 |_=>False
theorem qe4:CallR X (.builtin "len") (λxs H Q=>∃x n,xs=[x]/\LenV X.K x H n/\Q (.int n) H):=by
 intro pins s m H xs us Q I r h
 obtain⟨x,n,rfl,e,q⟩:=h
 obtain⟨u,rfl,rx⟩:=vals1 r
 have o:=line63
 have v:sizeLine=16777216:=vL
 cases x with
 |str y =>
  obtain⟨t,rfl⟩:=rx
  obtain⟨j,f⟩:y.length<=sizeLine/\n=y.length:=e
  subst f
  exact len_str (by lia) ⟨.int _,H,I.tok _,⟨_,rfl⟩,q⟩
 |byt y =>
  obtain⟨t,rfl⟩:=rx
  obtain⟨j,f⟩:y.size<=sizeLine/\n=y.size:=e
  subst f
  exact PySem.W.len_bytes (by lia) ⟨.int _,H,I.tok _,⟨_,rfl⟩,q⟩
 |ref p =>
  cases rx
  have f:(∃xs,SqL X.K H p xs/\n=xs.length)\/∃xs,SqT X.K H p xs/\n=xs.length:=e
  rcases f with ⟨xs,i,f⟩|⟨xs,i,f⟩
  .subst f
   obtain⟨its,r',pl,l⟩:=I.list i
   have d:=r'.length
   exact Calls.call_len_list pl.isList (by simp only[wL];lia) ⟨.int xs.length,H,I.tok _,⟨_,by simp only[wL];rw[d]⟩,q⟩
  .subst f
   obtain⟨its,r',pl,l⟩:=I.tuple i
   have d:=r'.length
   exact len_tuple pl (by simp only[wL];lia) ⟨.int xs.length,H,I.tok _,⟨_,by simp only[wL];rw[d]⟩,q⟩
 |_=>exact(show False from e).elim
end
end L2
namespace L2
open PySem PySem.Spec PyProof.Rows
structure ObjM (h:Heap) (x dx C:Addr) (mA:Str->Option Value):Prop where
 obj:h.get? x=some (PySem.W.instObj C dx)
 ns:h.Ns1 dx mA
 ne:dx≠x
theorem qei{h:Heap}{dx:Addr}{mA:Str->Option Value}(n:h.Ns1 dx mA):∃od,h.get? dx=some od/\∀name,PySem.W.lookIn name od=some (mA name):=by
 obtain⟨o,es,j,c,hd,d,_,hm⟩:=n
 refine⟨o,c,λname=>?_⟩
 have e:=hm name
 unfold nsFind findBy at e
 rw[<-Array.find?_toList]at e
 unfold PySem.W.lookIn
 rw[hd]
 dsimp only
 split
 .rename_i y q
  rw[q]at e
  exact congrArg some e
 .rename_i q
  rw[q]at e
  have a:es.toList.any (·.refKey)=false:=by
   rw[uu]
   intro y f
   obtain⟨z,t,b⟩:=d y (Array.mem_toList_iff.mp f)
   simp[DictEntry.refKey,b]
  have i:¬es.toList.any (·.refKey)=true:=by rw[a];exact wU
  rw[wO i]
  exact congrArg some e
theorem ObjM.look{h:Heap}{x dx C:Addr}{mA:Str->Option Value}(I:ObjM h x dx C mA):∃od,PySem.W.InstAt h x (PySem.W.instObj C dx) C (some od)/\∀name,PySem.W.lookIn name od=some (mA name) :=
 let ⟨od,a,b⟩:=qei I.ns
 ⟨od,⟨I.obj,rfl,rfl,a⟩,b⟩
theorem RelO.some_of{v:V}{o:Option Value}(r:RelO (some v) o):∃u,o=some u/\RelV v u:=by
 cases o with
 |none=>exact(show False from r).elim
 |some u=>exact⟨u,rfl,r⟩
section
variable{P:Program}{w:World}{H H':Hp}{h h':Heap}{a C dx:Addr}{fs fs':List (Str×V)}
theorem qhC(hok:HOk P w H h)(e:H a=some (.ins C dx fs)):∃mA,ObjM h a dx C mA/\(∀f,RelO (fs.lookup f) (mA f))/\PySem.Within mA (fs.map (·.1))/\fs.length<=1000/\H dx=some (.own a):=by
 obtain⟨d,z,ne,ob,mA,n,r,q⟩:=(show ObjOk P w H h a (.ins C dx fs)from hok a _ e)
 exact⟨mA,⟨ob,n,ne⟩,r,q,z,d⟩
end
structure Cls (K:PySem.W.Frag) (C:Addr):Prop where
 pg:PySem.W.plainGet K C Str.empty=true
 hd:PySem.W.hasDictIn K C=true
 po:PySem.W.plainOver K C=true
 sa:PySem.W.findIn K (.ref C) "__setattr__"=some (some (.builtin "object.__setattr__"))
theorem Cls.get{K:PySem.W.Frag}{C:Addr}(c:Cls K C)(f:Str):PySem.W.plainGet K C f=true:=c.pg
section
variable{X:Cx}{pins:List (Addr×Obj)}{σ:St}{H:Hp}{s:Shared}{A:Around}{E:Value->Shared->Prop}{Q:Value->Shared->Prop}{c:Value}{b:Bool}
inductive TyOf (K:PySem.W.Frag) (H:Hp):V->Value->Prop where
 |non:TyOf K H .non (.type "NoneType")
 |bl (x:Bool):TyOf K H (.bl x) (.type "bool")
 |int (i:Int):TyOf K H (.int i) (.type "int")
 |str (x:Str):TyOf K H (.str x) (.type "str")
 |flt (x:UInt64):TyOf K H (.flt x) (.type "float")
 |lst {a:Addr} {xs:List V} (e:H a=some (.lst xs)):TyOf K H (.ref a) (.type "list")
 |frz {a:Addr} {o:Obj} {xs:List V} (e:H a=some (.frz o (.lst xs))):TyOf K H (.ref a) (.type "list")
 |tup {a:Addr} {xs:List V} (e:H a=some (.tup xs)):TyOf K H (.ref a) (.type "tuple")
 |dK {a:Addr} {kvs:List (Key×V)} (e:H a=some (.dK kvs)):TyOf K H (.ref a) (.type "dict")
 |dT {a:Addr} {kvs:List (List Key×V)} (e:H a=some (.dT kvs)):TyOf K H (.ref a) (.type "dict")
 |ins {a C dx:Addr} {fs:List (Str×V)} (e:H a=some (.ins C dx fs)) (cl:Cls K C) (ha:PySem.W.findIn K (.ref C) "__class__"=some (some (.builtin "object.__class__")))
   (hn:PySem.W.specialIn K (.builtin "object.__class__") "__get__"=some (some (.builtin "getset_descriptor.__get__"))) (htk:PySem.W.takesIn K (.builtin "object.__class__")=some true)
   (hm:PySem.W.mroIn K C (.type "object")=some true):TyOf K H (.ref a) (.ref C)
theorem qej{x:V}{u t:Value}(I:Inv X pins σ H s)(rx:RelV x u)(ty:TyOf X.K H x t)(e:PySem.W.kitOne X.K t c=some b)(h:∀tk,Q (.bool b) {s with toks:=tk}):
  wpAny (model X.prog X.w) A (call (.builtin "isinstance") [u,c]) Q E s:=by
 cases ty with
 |non=>cases (show u=Value.none from rx);exact vM PySem.W.kitx_none I.kIn True.intro e (λz=>nomatch z) h
 |bl y=>cases (show u=Value.bool y from rx);exact vM PySem.W.kitx_bool I.kIn True.intro e (λz=>nomatch z) h
 |int i=>obtain⟨t,q⟩:=(show ∃t,u=Value.int i t from rx);cases q;exact vM PySem.W.kitx_int I.kIn True.intro e (λz=>nomatch z) h
 |str y=>obtain⟨t,q⟩:=(show ∃t,u=Value.str y t from rx);cases q;exact vM PySem.W.kitx_str I.kIn True.intro e (λz=>nomatch z) h
 |flt y=>obtain⟨t,q⟩:=(show ∃t,u=Value.float y t from rx);cases q;exact vM PySem.W.kitx_float I.kIn True.intro e (λz=>nomatch z) h
 | @lst a xs d =>
  cases (show u=Value.ref a from rx)
  obtain⟨_,_,n,_,f⟩:=(show ObjOk X.prog X.w H s.heap a (.lst xs)from I.hok a _ d)
  exact vM PySem.W.kitx_list I.kIn ⟨_,f,rfl⟩ e (λz=>nomatch z) h
 | @frz a ob xs d =>
  cases (show u=Value.ref a from rx)
  obtain⟨_,_,_,n,_,f⟩:=(show ObjOk X.prog X.w H s.heap a (.frz ob (.lst xs))from I.hok a _ d)
  exact vM PySem.W.kitx_list I.kIn ⟨_,f,rfl⟩ e (λz=>nomatch z) h
 | @tup a xs d =>
  cases (show u=Value.ref a from rx)
  obtain⟨_,_,_,p,_⟩:=(show ObjOk X.prog X.w H s.heap a (.tup xs)from I.hok a _ d)
  obtain⟨o,f,j,_⟩:=p
  exact vM PySem.W.kitx_tuple I.kIn ⟨o,f,j⟩ e (λz=>nomatch z) h
 | @dK a kvs d =>
  cases (show u=Value.ref a from rx)
  obtain⟨_,_,vs,_,p⟩:=(show ObjOk X.prog X.w H s.heap a (.dK kvs)from I.hok a _ d)
  obtain⟨o,es,l,f,j,_⟩:=p
  exact vM PySem.W.kitx_dict I.kIn ⟨o,f,j.1⟩ e (λz=>nomatch z) h
 | @dT a kvs d =>
  cases (show u=Value.ref a from rx)
  obtain⟨_,_,xs,_,o,es,l,f,j,_⟩:=(show ObjOk X.prog X.w H s.heap a (.dT kvs)from I.hok a _ d)
  exact vM PySem.W.kitx_dict I.kIn ⟨o,f,j.1⟩ e (λz=>nomatch z) h
 | @ins a C dx fs d cl ha hn htk hm =>
  cases (show u=Value.ref a from rx)
  obtain⟨mA,O,_⟩:=qhC I.hok d
  obtain⟨od,J,_⟩:=O.look
  exact vM (PySem.W.kitx_own (cl.get _) cl.hd ha hn htk hm) I.kIn J e (λz=>nomatch z) h
end
end L2
namespace L2
open PySem PySem.Spec PyProof.Rows
structure Room (k:Nat) (A:Around):Prop where
 hd:A.handled=none
 dp:A.depth+3*k+5<recursionLimit
 un:A.units+16*k+200<cLine
theorem Room.mono{j k:Nat}{A:Around}(r:Room k A)(h:j<=k):Room j A:=⟨r.hd,by have:=r.dp;lia,by have:=r.un;lia⟩
theorem Room.deeper{k:Nat}{A:Around}(r:Room (k+1) A)(env:Env):Room k (A.deeper env) :=
 ⟨r.hd,by have:=r.dp;show A.depth+1+3*k+5<_;lia,by have:=r.un;show A.units+3+16*k+200<_;lia⟩
theorem Room.depth{k:Nat}{A:Around}(r:Room k A):A.depth<recursionLimit:=by have:=r.dp;lia
theorem Room.units{k:Nat}{A:Around}(r:Room k A):A.units+64<cLine:=by have:=r.un;lia
noncomputable def tNil:TA:=λ_ H Q=>Q [] H
noncomputable def tCons(b:TE)(tr:TA):TA:=λa H Q=>b a H λx c=>tr a c λxs H2=>Q (x::xs) H2
section
variable{X:Cx}{e:Expr}{es:List Expr}{te:TE}{t:TA}{pos:Pos}
theorem qcz:PA X [] tNil:=λ_ _ _ _ H Q I h=>uI ⟨[],H,I,.nil,h⟩
theorem jB(ha:PE X e te)(b:PA X es t)(c:starEach (e::es) X.env=(false,eval e X.env)::starEach es X.env:=by rfl):PA X (e::es) (tCons te t):=by
 intro pos pins s a H Q I h
 rw[c]
 show wpAny _ _ (spliced ((false,eval e X.env)::backTo pos (starEach es X.env))) _ _ s
 refine vU (thn (ha pins s a H _ I h) λu s1 ⟨x,d,f,i,q1⟩=>?_)
 exact thn (b pos pins s1 a d _ f q1) λus s2 ⟨xs,H2,j,l,q2⟩=>⟨x::xs,H2,j,.cons i l,q2⟩
noncomputable def tTup(t:TA):TE:=λb H Q=>t b H λxs a=>xs.length<=sizeLine/\∀p,a p=none->Q (.ref p) (upd a p (.tup xs))
noncomputable def tLst(t:TA):TE:=λb H Q=>t b H λxs a=>xs.length<=sizeLine/\∀p,a p=none->Q (.ref p) (upd a p (.lst xs))
theorem qjB{x1}(h:PA X es t):PE X (.Tuple es x1 pos) (tTup t):=by
 intro pins s d H Q I f
 refine wpAny_Tuple_spliced (thn (h pos pins s d H _ I f) λus s1 ⟨xs,a,c,r,z,q⟩=>⟨by rw[<-r.length];exact z,?_⟩)
 have i:a s1.heap.objs.size=none:=c.hok.fresh (wK _)
 refine⟨.ref s1.heap.objs.size,upd a s1.heap.objs.size (.tup xs),c.laid (t':=s1.toks) (λb u e=>wB _ e) (wK _) ?_,rfl,q _ i⟩
 exact⟨z,us,r,⟨_,wF _ rfl,rfl,_,rfl⟩,yw _ _⟩
theorem qjC(h:PA X es t):PE X (.List es pos) (tLst t):=by
 intro pins s d H Q I f
 refine wpAny_List_spliced (thn (h pos pins s d H _ I f) λus s1 ⟨xs,a,c,r,z,q⟩=>⟨by rw[<-r.length];exact z,?_⟩)
 have i:a s1.heap.objs.size=none:=c.hok.fresh (wK _)
 refine⟨.ref s1.heap.objs.size,upd a s1.heap.objs.size (.lst xs),c.laid (t':=s1.toks) (λb u e=>wB _ e) (wK _) ?_,rfl,q _ i⟩
 exact⟨z,us,0,r,wF _ rfl⟩
end
noncomputable abbrev Sp:=List V->Hp->VK->XK->Prop
noncomputable abbrev CXT:=List Env->Hp->Shared->XK->Value->Shared->Prop
structure Env0 (P:Program) (w:World) (K:PySem.W.Frag) (mg:Str->Option Value) (base:Heap) (A:Around) (outer:List Env) (s:Shared) (H:Hp):Prop where
 frames:A.frames=some outer
 mod:Mod K mg base
 bs:∀b o,base.get? b=some o->s.heap.get? b=some o/\H b=none
 bsz:base.objs.size<=s.heap.objs.size
 funs:s.heap.FunFrames base outer
 frf:∀b∈frs outer,H b=none
 hok:HOk P w H s.heap
 bare:AllBare s.gens
 tab:∀c T,codeTab K c T=true->∃ps,H T=some (.tbl ps)
noncomputable def CE(outer:List Env)(P:Program)(w:World)(H:Hp)(s:Shared)(Q:VK)(u:Value)(s':Shared):Prop :=
 ∃v H',s'.os=s.os/\GK s.gens s'.gens/\Un (frs outer) [] H H' s.heap s'.heap/\HOk P w H' s'.heap/\RelV v u/\Q v H'
noncomputable def CR(CX:CXT)(outer:List Env)(P:Program)(w:World)(H:Hp)(s:Shared)(Q:VK)(E:XK)(r:Result)(s':Shared):Prop :=
 match r with
 | .ok (.ret u)=>CE outer P w H s Q u s'
 | .ok _=>False
 | .error e=>CX outer H s E e s'
structure FnOk (P:Program) (w:World) (K:PySem.W.Frag) (mg:Str->Option Value) (base:Heap) (CX:CXT) (k:Nat) (f:Addr) (fd:FuncData) (ps:List Str) (sp:Sp):Prop where
 len:∀vs H Q E,sp vs H Q E->vs.length=ps.length
 run:∀(A:Around) (outer:List Env) (s:Shared) (H:Hp) (args:Args) (us:List Value) (vs:List V) (Q:VK) (E:XK),Room k A->Env0 P w K mg base A outer s H->BindsTo s fd args (ps.zip us)->Vals vs us->sp vs H Q E ->
  codeAny (model P w) A (.call (.ref f) args) (CR CX outer P w H s Q E) s
section
variable{X:Cx}{pins:List (Addr×Obj)}{σ:St}{H:Hp}{s s':Shared}
theorem Inv.env0(I:Inv X pins σ H s):Env0 X.prog X.w X.K X.mg X.base X.A X.stack s H :=
 ⟨I.ok.frames,I.ok.mod,I.bs,vI I.ok.bsz I.sz,I.stack,I.stkFree,I.hok,I.bare.bare,λc T z=>let ⟨ps,e⟩:=I.ok.tab c T z;let ⟨m,a⟩:=I.base.tbls _ _ e;⟨_,a⟩⟩
theorem Inv.after{Q:VK}{u:Value}(I:Inv X pins σ H s)(h:CE X.stack X.prog X.w H s Q u s'):EP X pins σ Q u s':=by
 obtain⟨v,H',os,bare,un,hok,r,q⟩:=h
 obtain⟨c,g,d,t,a⟩:=s'
 obtain rfl:a=s.os:=os
 exact⟨v,H',I.call (h':=c) (g':=g) (d':=d) (t':=t) (ch:=[]) un hok bare (λb z=>absurd z (by simp)),r,q⟩
end
noncomputable def tCall(sp:Sp)(dvs:List V)(E:XK)(t:TA):TE:=λa H Q=>t a H λvs b=>sp (vs++dvs) b Q E
noncomputable def Binds(K:PySem.W.Frag)(fd:FuncData)(ps:List Str)(ds:List Value):Prop :=
 ∀(s:Shared) (us:List Value),K.In s.heap->(us++ds).length=ps.length->BindsTo s fd ⟨us,[]⟩ (ps.zip (us++ds))
theorem Binds.all{K:PySem.W.Frag}{fd:FuncData}{ps:List Str}(h:∀us:List Value,us.length=ps.length->bindArgs fd ⟨us,[]⟩=pure (ps.zip us)):Binds K fd ps []:=λs us _ a=>by
 rw[uC]at a ⊢
 exact .of_eq (h us a)
def Passes(CX:CXT)(X:Cx)(E:XK):Prop:=∀(pins:List (Addr×Obj)) (a:St) (H:Hp) (s:Shared) (e:Value) (s':Shared),Inv X pins a H s->CX X.stack H s E e s'->X.xe e s'
section
variable{X:Cx}{CX:CXT}{k:Nat}{f C:Addr}{fd:FuncData}{ps:List Str}{sp:Sp}{dvs:List V}{ds:List Value}{E:XK}{x m:Str}{p pos apos:Pos}{e o:Expr}{es:List Expr}{ta:TE}{t:TA}
theorem qjD{pins:List (Addr×Obj)}{b:St}{H:Hp}{s:Shared}{Q:VK}{us:List Value}{vs:List V}(F:FnOk X.prog X.w X.K X.mg X.base CX k f fd ps sp)(d:Room k X.A)(i:Binds X.K fd ps ds)(hd:Vals dvs ds)(j:Passes CX X E)(I:Inv X pins b H s)(r:Vals vs us)(h:sp (vs++dvs) H Q E):wpAny (model X.prog X.w) X.A (call (.ref f) us) (EP X pins b Q) X.xe s:=by
 have c:Vals (vs++dvs) (us++ds):=r.append hd
 have l:(us++ds).length=ps.length:=by rw[<-c.length];exact F.len _ _ _ _ h
 refine wpAny_call (xI (F.run X.A X.stack s H ⟨us,[]⟩ (us++ds) (vs++dvs) Q E d I.env0 (i s us I.kIn l) c h) λr s' a=>?_)
 cases r with
 |error e=>exact j pins b H s e s' I a
 |ok n =>
  cases n with
  |ret u=>exact I.after a
  |next=>exact False.elim a
  |brk=>exact False.elim a
  |cont=>exact False.elim a
theorem qhD(F:FnOk X.prog X.w X.K X.mg X.base CX k f fd ps sp)(d:Room k X.A)(i:Gl X x)(hm:X.mg x=some (.ref f))(j:PySem.W.keepIn X.K (.ref f)=true)(l:Binds X.K fd ps ds)(hd:Vals dvs ds)(n:Passes CX X E)(ha:PA X (e::es) t)(a:(x == ("__debug__":Str))=false:=by decide)(u:starEach (e::es) X.env=(false,eval e X.env)::starEach es X.env:=by rfl)(b:(backTo pos (starEach es X.env)).any (·.1)=false:=by rfl):
  PE X (.Call (.Name x p) (e::es) [] pos) (tCall sp dvs E t):=by
 intro pins s v H Q I h
 refine uh (qdc I i hm ?_ a)
 refine PySem.W.callWith_K (h₀:=X.base) I.ok.mod.kin j (thn (ha pos pins s v H _ I h) λus s1 ⟨vs,y,c,r,q⟩=>⟨c.kIn,?_⟩) u b
 exact qjD F d l hd n c r q
end
structure FnScope (N P:List Str) (sc:Scope):Prop where
 kind:sc.kind=.function
 co:sc.isCoroutine=false
 gen:sc.isGenerator=false
 nd:N.Nodup
 pre:N.take P.length=P
 par:∀x∈P,sc.names.lookup x=some .local\/sc.names.lookup x=some .cell
 nofree:∀y∈sc.names,y.2≠.free
theorem qay{kindOf:Str->Option NameKind}{x:Str}:∀{a:List (Str×Value)} {m:Str->Option Value},(∀v,(x,v)∉a)->bindL kindOf a m x=m x
 |[],_,_=>rfl
 | (n,v)::r,m,h=>by
  unfold bindL
  rw[qay λw b=>h w (wH _ b)]
  split
  .have:x≠n:=by rintro rfl;exact h v wE
   simp[this]
  .rfl
theorem qaz{kindOf:Str->Option NameKind}{x:Str}:∀{a:List (Str×Value)} {m:Str->Option Value},(∀v,(x,v)∉a)->bindC kindOf a m x=m x
 |[],_,_=>rfl
 | (n,v)::r,m,h=>by
  unfold bindC
  rw[qaz λw b=>h w (wH _ b)]
  split
  .rfl
  .have:x≠n:=by rintro rfl;exact h v wE
   simp[this]
theorem qaA{kindOf:Str->Option NameKind}{x:Str}{v:Value}:∀{P:List Str} {vs:List Value} {i:Nat} {m:Str->Option Value},P.Nodup->P[i]?=some x->vs[i]?=some v->kindOf x=some .local ->
  bindL kindOf (P.zip vs) m x=some v
 |[],_,_,_,_,h,_,_=>by simp at h
 |_::_,[],_,_,_,_,h,_=>by simp at h
 |p::P,w::vs,0,m,nd,h1,h2,hk=>by
  simp at h1 h2;subst h1;subst h2
  show bindL kindOf ((p,w)::P.zip vs) m p=_
  unfold bindL
  rw[qay λv a=>(vS.mp nd).1 (List.of_mem_zip a).1,wM hk]
  simp
 |p::P,w::vs,i+1,m,nd,h1,h2,hk=>by
  show bindL kindOf ((p,w)::P.zip vs) m x=_
  unfold bindL
  exact qaA (i:=i) (vS.mp nd).2 (by simpa using h1) (by simpa using h2) hk
theorem qaB{kindOf:Str->Option NameKind}{x:Str}{v:Value}:∀{P:List Str} {vs:List Value} {i:Nat} {m:Str->Option Value},P.Nodup->P[i]?=some x->vs[i]?=some v->kindOf x≠some .local ->
  bindC kindOf (P.zip vs) m x=some v
 |[],_,_,_,_,h,_,_=>by simp at h
 |_::_,[],_,_,_,_,h,_=>by simp at h
 |p::P,w::vs,0,m,nd,h1,h2,hk=>by
  simp at h1 h2;subst h1;subst h2
  show bindC kindOf ((p,w)::P.zip vs) m p=_
  unfold bindC
  rw[qaz λv a=>(vS.mp nd).1 (List.of_mem_zip a).1,wO hk]
  simp
 |p::P,w::vs,i+1,m,nd,h1,h2,hk=>by
  show bindC kindOf ((p,w)::P.zip vs) m x=_
  unfold bindC
  exact qaB (i:=i) (vS.mp nd).2 (by simpa using h1) (by simpa using h2) hk
noncomputable def start(N:List Str)(vs:List V):St:=vs.map some++List.replicate (N.length-vs.length) none
noncomputable def cxOf(CX:CXT)(P:Program)(w:World)(K:PySem.W.Frag)(mg:Str->Option Value)(base:Heap)(N:List Str)(a:Str)(scope:Scope)(f:Addr)(c:Value)(A:Around)(outer:List Env)(s:Shared)(H:Hp)(E:XK):Cx where
 prog:=P
 w:=w
 K:=K
 mg:=mg
 base:=base
 A:=A.deeper (envOfC a scope s.heap.objs.size f c)
 N:=N
 s₀:=s
 H₀:=H
 env:=envOfC a scope s.heap.objs.size f c
 outer:=outer
 stack:=envOfC a scope s.heap.objs.size f c::outer
 ex:=[]
 calm:=true
 fn:=λ_=>true
 pn:=[]
 xe:=λe s'=>wpAny (model P w) (A.deeper (envOfC a scope s.heap.objs.size f c)) (leaving (envOfC a scope s.heap.objs.size f c) e) (λ_ b=>CX outer H s E e b) (λd b=>CX outer H s E d b) s'
theorem qbE{sc:Scope}{n:Nat}{x:Str}(h:sc.names.lookup x=some .cell):∃c,(cellsFrom n sc.names []).lookup x=some c:=by
 have q:=PySem.W.cellsFrom_some sc.names n [] (.inl h)
 exact Option.isSome_iff_exists.mp q
theorem qek{CX:CXT}{P:Program}{w:World}{K:PySem.W.Frag}{mg:Str->Option Value}{base:Heap}{N ps:List Str}{d:Str}{scope:Scope}{f:Addr}{F:Value}{A:Around}{outer:List Env}{s s1:Shared}{H:Hp}{E:XK}{us:List Value}{vs:List V}(S:FnScope N ps scope)(hd:A.handled=none)(l:Env0 P w K mg base A outer s H)(Q:vs.length=ps.length)(r:Vals vs us)(x:InCallC s s.heap.objs.size (bindL (envOfC d scope s.heap.objs.size f F).kindOf (ps.zip us) λ_=>none) (cellsFrom (s.heap.objs.size+1) scope.names []) (bindC (envOfC d scope s.heap.objs.size f F).kindOf (ps.zip us) λ_=>none) s1):
  Inv (cxOf CX P w K mg base N d scope f F A outer s H E) [] (start N vs) H s1:=by
 have M:ps.length<=N.length:=by have:=congrArg List.length S.pre;rw[vE]at this;lia
 obtain⟨I,tk,rfl,J⟩:=x.done
 have m:∀b:Addr,b∉(cxOf CX P w K mg base N d scope f F A outer s H E).ex:=λb z=>absurd (show b∈([]:List Addr)from z) (by simp)
 refine⟨⟨l.mod,S.kind,rfl,rfl,wK _,λy z c I j=>?_,λy o=>?_,λy c _ h=>?_,λ_=>hd,Around.frames_deeper l.frames,.inr ⟨rfl,rfl⟩,λb z=>absurd z (m b),l.bs,l.bsz,λb _ _=>m b,λb z=>absurd z (m b),l.funs,l.frf,l.tab⟩,
  rfl,GK.refl l.bare,Un.kept J,⟨_,x.toInCall.ns,λi y v I j R=>?_⟩,λy c h=>⟨_,x.cell y c h⟩,l.hok.fresh (wK _),λy c h=>?_,λp B=>absurd (show p∈([]:List (Addr×Obj))from B) (by simp),l.hok.kept J,?_⟩
 .exact name_of_addr x.apart (w5 I) (w5 j)
 .have o:scope.names.lookup y=some .cell\/scope.names.lookup y=some .free:=o
  rcases o with o|o
  .exact qbE o
  .exact absurd rfl (S.nofree _ (w5 o))
 .exact Nat.le_of_lt (x.above y c (w5 h))
 .have hi:i<vs.length:=by
   unfold start at j
   by_cases hi:i<vs.length
   .exact hi
   .rw [w8 (by simpa using hi)]at j
    rw[vm]at j
    split at j <;> cases j
  have ha:vs[i]?=some v:=by
   unfold start at j
   rw[wY (by simpa using hi),wb]at j
   cases e:vs[i]? with
   |none=>rw[e]at j;cases j
   |some a=>rw[e]at j;cases j;rfl
  obtain⟨u,L,O⟩:=r.get ha
  have B:ps[i]?=some y:=by
   rw[<-S.pre,uP (by lia)];exact I
  have C:ps.Nodup:=by rw[<-S.pre];exact S.nd.sublist (List.take_sublist _ _)
  refine⟨u,O,?_⟩
  rcases S.par y (wo B)with k|k
  .exact .inl ⟨k,qaA C B L k⟩
  .obtain ⟨c,e⟩:=qbE (n:=s.heap.objs.size+1) k
   refine .inr ⟨.inl k,c,e,?_⟩
   have q:=x.cell y c e
   rw[qaB C B L (by show scope.names.lookup y≠_;rw[k];decide)]at q
   exact q
 .exact l.hok.fresh (Nat.le_of_lt (x.above y c (w5 h)))
 .unfold start
  show _=N.length
  rw[wd,wG,List.length_replicate]
  lia
theorem qk9{CX:CXT}{P:Program}{w:World}{K:PySem.W.Frag}{mg:Str->Option Value}{base:Heap}{k:Nat}{f:Addr}{name a:Str}{d:Arguments}{body:List Stmt}{scope:Scope}{L kV doc pm c ct oc:Value}{an od:Option Addr}{osl:Array (Option Value)}{N ps:List Str}{sp:Sp}(O:K.lookup f=some ⟨oc,od,.func (PySem.W.fnOf name a d body scope L kV doc pm an c ct),osl⟩)(z:PySem.W.codeIn K c a=true)(S:FnScope N ps scope)(len:∀vs H Q E,sp vs H Q E->vs.length=ps.length)(i:∀(A:Around) (outer:List Env) (s:Shared) (H:Hp) (vs:List V) (Q:VK) (E:XK),Room k (A.deeper (envOfC a scope s.heap.objs.size f c))->sp vs H Q E ->
   ∃t,PSs (cxOf CX P w K mg base N a scope f c A outer s H E) body t/\t {nx:=λ_ H'=>Q .non H',rt:=Q} (start N vs) H):
  FnOk P w K mg base CX (k+1) f (PySem.W.fnOf name a d body scope L kV doc pm an c ct) ps sp:=by
 refine⟨len,λA outer s H args us vs Q E B m R r p=>?_⟩
 have U:=len _ _ _ _ p
 have M:K.In s.heap:=m.mod.kin.keeps λb o e=>(m.bs b o e).1
 have C:s.heap.NoLimit:=m.mod.nolimit.keeps λb o e=>(m.bs b o e).1
 have j:∀y∈ps.zip us,scope.names.lookup y.1=some .local\/(scope.names.lookup y.1=some .cell/\((cellsFrom (s.heap.objs.size+1) scope.names []).lookup y.1).isSome=true):=λ⟨n,v⟩ X=>by
  rcases S.par n (List.of_mem_zip X).1 with q|q
  .exact .inl q
  .exact .inr ⟨q,PySem.W.cellsFrom_some _ _ _ (.inl q)⟩
 refine codeAny_call_function B.depth (M _ _ O) rfl S.co S.gen rfl (PySem.W.codeRec_of M z) (R _ _ _ _ ?_)
 refine wpAny_newFunctionEnv_cells S.kind j λenv Y s1 x=>?_
 subst Y
 refine⟨C.keeps x.toInCall.keep,codeAny_func ?_⟩
 obtain⟨t,Z,hq⟩:=i A outer s H vs Q E (B.deeper _) p
 have I:Inv (cxOf CX P w K mg base N a scope f c A outer s H E) [] (start N vs) H s1:=qek S B.hd m U r x
 refine vQ (Z [] s1 (start N vs) H _ I hq) (λfl s' l=>?_) λe s' l=>l
 have fin:∀{h:St} {H':Hp} {v:V} {u:Value},Inv (cxOf CX P w K mg base N a scope f c A outer s H E) [] h H' s'->RelV v u->Q v H'->CE outer P w H s Q u s' :=
  λ{h H' v u} J F q=>⟨v,H',J.os,J.bare,J.base,J.hok,F,q⟩
 cases fl with
 |ret u =>
  obtain⟨v,h,H',J,F,q⟩:=l
  exact fin J F q
 |next =>
  obtain⟨h,H',J,q⟩:=l
  exact fin (v:=V.non) (u:=Value.none) J rfl q
 |brk =>
  obtain⟨_,_,_,q⟩:=l
  exact False.elim q
 |cont =>
  obtain⟨_,_,_,q⟩:=l
  exact False.elim q
end L2
namespace L2
open PySem PySem.Spec PyProof.Rows
section
variable{X:Cx}{x:Str}{p pos:Pos}{e:Expr}{es:List Expr}{t:TA}{id T:String}{r:List V->Hp->VK->Prop}
noncomputable def tCB(r:List V->Hp->VK->Prop)(t:TA):TE:=λa H Q=>t a H λvs b=>r vs b Q
theorem qbF(d:CallR X (.builtin id) r)(f:Gl X x)(hm:X.mg x=none)(i:bootBuiltins x=some (.builtin id))(ha:PA X (e::es) t)(hn:x≠"__name__":=by decide)(a:(x == ("__debug__":Str))=false:=by decide)(j:starEach (e::es) X.env=(false,eval e X.env)::starEach es X.env:=by rfl)(b:(backTo pos (starEach es X.env)).any (·.1)=false:=by rfl):PE X (.Call (.Name x p) (e::es) [] pos) (tCB r t):=by
 intro pins s c H Q I h
 refine uh (z9 I f hm i ?_ hn a)
 exact PyProof.Rows.callWith_builtin1 (thn (ha pos pins s c H _ I h) λus s1 ⟨vs,l,m,n,q1⟩=>d pins s1 c l vs us Q m n q1) j b
theorem qel(d:CallR X (.type T) r)(f:Gl X x)(hm:X.mg x=none)(i:bootBuiltins x=some (.type T))(ha:PA X (e::es) t)(hn:x≠"__name__":=by decide)(a:(x == ("__debug__":Str))=false:=by decide)(j:starEach (e::es) X.env=(false,eval e X.env)::starEach es X.env:=by rfl)(b:(backTo pos (starEach es X.env)).any (·.1)=false:=by rfl):PE X (.Call (.Name x p) (e::es) [] pos) (tCB r t):=by
 intro pins s c H Q I h
 refine uh (z9 I f hm i ?_ hn a)
 exact v9 (thn (ha pos pins s c H _ I h) λus s1 ⟨vs,l,m,n,q1⟩=>d pins s1 c l vs us Q m n q1) j b
end
end L2
namespace HT
open PySem PyProof.Rows
noncomputable def lexLt:List Int->List Int->Bool
 |[],[]=>false
 |[],_::_=>true
 |_::_,[]=>false
 |x::xs,y::ys=>if x=y then lexLt xs ys else decide (x<y)
theorem za(x y:Int)(xs ys:List Int):lexLt (x::xs) (y::ys)=if x=y then lexLt xs ys else decide (x<y):=rfl
theorem yF:lexLt [] []=false:=rfl
theorem yd(y:Int)(ys:List Int):lexLt [] (y::ys)=true:=rfl
theorem ye(x:Int)(xs:List Int):lexLt (x::xs) []=false:=rfl
theorem qbG(A:Around)(s:Shared)(a:Int)(t:Tok)(c:Int)(u:Tok):∃e,SeqAt.EqAt A s (.int a t) (.int c u) e/\(e=true ↔ a=c) :=
 ⟨(a == c),SeqAt.EqAt.int_int a t c u,by simp⟩
theorem qe5(A:Around)(s:Shared)(a:Int)(t:Tok)(c:Int)(u:Tok)(prog:Program)(w:World)(E:Value->Shared->Prop)(Q:Value->Shared->Prop)(h:Q (.bool (decide (a<c))) s):
  wpAny (model prog w) A (richCompare .Lt (.int a t) (.int c u)) Q E s :=
 (PyProof.Rows.lt_int h:wpAny (model prog w) A (compareOp .Lt (.int a t) (.int c u)) Q E s)
section
open PySem.SeqAt
open PySem.AutoSeq1 (wpAny_loadPart')
open PySem.MeetsSeq PySem.MeetsSeq2 PySem.MeetsSeq3
theorem qat(l b:Addr)(items f:Array Value)(n P:Nat)(Q J:Option Addr)(sl K:Array (Option Value))(ns F:List Int)(hi:IntsAre items.toList ns)(N:IntsAre f.toList F):
  Meets (Builtin.«tuple.__lt__» ⟨[.ref l,.ref b],[]⟩)
   (λ_ R s=>s.heap.get? l=some {cls:=.type "tuple",dict:=Q,data:=.seq items n,slots:=sl}/\s.heap.get? b=some {cls:=.type "tuple",dict:=J,data:=.seq f P,slots:=K} /\
    R (.ok (.ret (.bool (lexLt ns F)))) s) :=
 .of_wp λprog w A R s h=>by
  obtain⟨H,g,d,tk,os⟩:=s;obtain⟨S,U,h⟩:=h
  have Z:=AutoSeq1.sub_tuple_tuple
  have z1:items.size=ns.length:=by rw[<-hi.length];simp
  have z2:f.size=F.length:=by rw[<-N.length];simp
  wp_walk using wpAny_loadPart' S,wpAny_loadPart' U,wpAny_forIn_list _ (λrest b s'=>b.1=none/\s'=⟨H,g,d,tk,os⟩/\∃(vs I:List Value) (j m:List Int),rest=vs.zip I /\
   IntsAre vs j/\IntsAre I m/\j.length+f.size=m.length+items.size/\R (.ok (.ret (.bool (lexLt j m)))) ⟨H,g,d,tk,os⟩) _
  case turn =>
   rintro⟨y,x⟩ rest b s' ⟨z,rfl,vs,I,j,m,o,B,p,i,r⟩
   cases B with
   |nil=>rw[List.zip_nil_left]at o;cases o
   |cons a t C =>
    cases p with
    |nil=>rw[List.zip_nil_right]at o;cases o
    |cons c u E =>
     rw[vw]at o
     injection o with L hrest
     injection L with W hx
     subst W hx
     rw[za]at r
     simp only[w4]at i
     obtain⟨e,X,v⟩:=qbG A.in1 ⟨H,g,d,tk,os⟩ a t c u
     refine wA (X prog w _ _ ?_)
     cases e with
     |true =>
      rw[wM (v.mp rfl)]at r
      wp_walk
      exact⟨rfl,rfl,_,_,_,_,hrest,C,E,by lia,r⟩
     |false =>
      rw[wO (λq=>absurd (v.mpr q) wU)]at r
      have M:=qe5 A.in1 ⟨H,g,d,tk,os⟩ a t c u prog w
      wp_walk using M
      exact⟨_,rfl,by simpa using r⟩
  case fin =>
   rintro⟨b1,b2⟩ s' ⟨z,rfl,vs,I,j,m,o,B,p,i,r⟩
   simp only at z
   subst z
   have O:lexLt j m=decide (items.size<f.size):=by
    cases B with
    |nil =>
     cases p with
     |nil =>
      simp only[vN]at i
      rw[yF]
      exact(wt (by lia)).symm
     |cons c u Y =>
      simp only[vN,w4]at i
      rw[yd]
      exact(vK (by lia)).symm
    |cons a t O =>
     cases p with
     |nil =>
      simp only[vN,w4]at i
      rw[ye]
      exact(wt (by lia)).symm
     |cons c u Y =>
      rw[vw]at o
      cases o
   rw[O]at r
   wp_walk
   exact⟨_,rfl,by simpa[Builtin.Tuple.tupleCompareSizes]using r⟩
  case h =>
   exact⟨rfl,rfl,items.toList,f.toList,ns,F,rfl,hi,N,by lia,h⟩
end
section
variable{prog:Program}{w:World}{A:Around}{E:Value->Shared->Prop}{s:Shared}
theorem jK{l b:Addr}{items a:Array Value}{ns c:List Int}{Q:Value->Shared->Prop}(r:IsTup s.heap l items)(u:IsTup s.heap b a)(hi:IntsAre items.toList ns)(v:IntsAre a.toList c)(y:A.units<cLine)(h:Q (.bool (lexLt ns c)) s):wpAny (model prog w) A (compareOp .Lt (.ref l) (.ref b)) Q E s:=by
 obtain⟨⟨cls,z,data,sl⟩,o,p,n,hd⟩:=id r
 obtain⟨⟨q,i,j,m⟩,d,e,B,f⟩:=id u
 simp only at p hd e f
 subst p hd e f
 exact richCompare_meets_room (op:=.Lt) ⟨_,o,rfl⟩ ⟨_,d,rfl⟩ PySem.F.slot_tuple_lt PySem.F.entry_tuple_lt (PySem.F.args_tuple_lt_2 _ _) (qat l b items a n B z i sl m ns c hi v)
  ⟨o,d,show Value.bool (lexLt ns c)≠Value.notImplemented/\Q (.bool (lexLt ns c)) s from⟨(λx=>nomatch x),h⟩⟩ y
theorem qhE{t b:Addr}{vs a:List Value}{Q:Value->Shared->Prop}(v:IsTup s.heap t vs.toArray)(x:IsTup s.heap b a.toArray)(o:vs≠[])(y:a=[]->Q (.ref t) s)(z:a≠[]->Q (.ref s.heap.objs.size) {s with heap:=s.heap.push {cls:=.type "tuple",data:=.seq (vs++a).toArray}})(hsz:vs.length+a.length<=sizeLine):wpAny (model prog w) A (binaryOp .Add (.ref t) (.ref b)) Q E s:=by
 obtain⟨⟨cls,p,data,sl⟩,j,q,n,hd⟩:=id v
 obtain⟨⟨r,d,m,f⟩,c,h,u,i⟩:=id x
 simp only at q hd h i
 subst q hd h i
 have e:vs.toArray++a.toArray=(vs++a).toArray:=by simp
 by_cases l:a=[]
 .exact concat_meets ⟨_,j,rfl⟩ ⟨_,c,rfl⟩ noFill_tuple_add seq_tuple_add xE uz (ur _ _)
   (tuple_addW1 t b vs.toArray a.toArray n u p d sl f (by simpa using o) (by simp[l])) ⟨j,c,y l⟩
 .refine concat_meets ⟨_,j,rfl⟩ ⟨_,c,rfl⟩ noFill_tuple_add seq_tuple_add xE uz (ur _ _)
   (tuple_addW2 t b vs.toArray a.toArray n u p d sl f (by simpa using o) (by simpa using l) (by rw[wL,wL];exact hsz)) ⟨j,c,?_⟩
  rw[e]
  exact z l
noncomputable def sIx(n d:Nat):Option Int->Nat
 |none=>d
 |some v=>if v<0 then(v+(n:Int)).toNat else min v.toNat n
theorem qjE(n d:Nat)(hd:d<=n)(o:Option Int):sIx n d o<=n:=by
 cases o with
 |none=>exact hd
 |some v =>
  show(if v<0 then(v+(n:Int)).toNat else min v.toNat n)<=n
  by_cases a:v<0
  .rw [wM a];lia
  .rw [wO a];exact Nat.min_le_right _ _
theorem qde(v:Int)(n d:Nat):(if v<0 then max (v+(n:Int)) 0 else min v (n:Int))=((sIx n d (some v):Nat):Int):=by
 show(if v<0 then max (v+(n:Int)) 0 else min v (n:Int))=(((if v<0 then(v+(n:Int)).toNat else min v.toNat n):Nat):Int)
 by_cases a:v<0
 .simp only[wM a];lia
 .simp only[wO a];lia
theorem qcA(lo hi:Option Int)(n:Nat):Builtin.Slice.sliceAdjust lo hi 1 (n:Int)=(((sIx n 0 lo:Nat):Int),((sIx n n hi:Nat):Int)):=by
 have a:¬((1:Int)<0):=by lia
 unfold Builtin.Slice.sliceAdjust
 simp only[a,uN]
 refine Prod.ext ?_ ?_
 .cases lo with
  |none=>rfl
  |some v=>exact qde v n 0
 .cases hi with
  |none=>rfl
  |some v=>exact qde v n n
theorem qcB(i j:Nat):Builtin.Slice.slicePlaces (i:Int) (j:Int) 1=j-i:=by
 unfold Builtin.Slice.slicePlaces
 have a:(1:Int)>0:=by lia
 simp only[a,wr,Int.ediv_one]
 split <;> lia
theorem jL{v:Value}{o:Option Int}{Q:Option Int->Shared->Prop}(p:IsPart v o)(h:Q o s):wpAny (model prog w) A (Builtin.Slice.slicePartIndex v) Q E s:=by
 cases p with
 |none=>exact slicePart_none h
 |int i t=>exact slicePart_int h
theorem zJ{sl:Addr}{c d:Value}{lo hi:Option Int}{n:Nat}{Q:Int×Int×Nat->Shared->Prop}(e:s.heap.IsSliceOf sl c d .none)(pl:IsPart c lo)(f:IsPart d hi)(h:Q (((sIx n 0 lo:Nat):Int),1,sIx n n hi-sIx n 0 lo) s):wpAny (model prog w) A (Builtin.Slice.sliceApplied (.ref sl) (pure (n:Int))) Q E s:=by
 obtain⟨os,a,i,b⟩:=id e
 unfold Builtin.Slice.sliceApplied Builtin.Slice.sliceFields
 refine wA (wA (w1 a b (x:=c) rfl (wA (w1 a b (x:=d) rfl (wA (w1 a b (x:=.none) rfl (wD ?_)))))))
 refine wA (slicePart_none ?_)
 show wpAny _ _ (if((1:Int) == 0)=true then _ else _) _ _ s
 rw[wO (by decide)]
 refine wA (jL pl (wA (jL f (wA (wD ?_)))))
 show wpAny _ _ (match Builtin.Slice.sliceAdjust lo hi 1 (n:Int)with|(lo,hi)=>pure (lo,(1:Int),Builtin.Slice.slicePlaces lo hi 1)) _ _ s
 rw[qcA lo hi n]
 show wpAny _ _ (pure (((sIx n 0 lo:Nat):Int),(1:Int),Builtin.Slice.slicePlaces ((sIx n 0 lo:Nat):Int) ((sIx n n hi:Nat):Int) 1)) _ _ s
 rw[qcB]
 exact wD h
theorem qe6(xs:Array Value)(i k:Nat):((List.range k).filterMap λ(m:Nat)=>xs[((i:Int)+(m:Int)*1).toNat]?).toArray=((xs.toList.drop i).take k).toArray:=by
 have e:(λ(m:Nat)=>xs[((i:Int)+(m:Int)*1).toNat]?)=λm=>xs[i+m]?:=by
  funext m
  have:((i:Int)+(m:Int)*1).toNat=i+m:=by lia
  rw[this]
 rw[e]
 have:=pick_run xs i k
 rw[List.filterMap_map]at this
 have a:((λx=>xs[x]?)∘λx=>i+x)=λm=>xs[i+m]?:=rfl
 rw[a]at this
 rw[this]
theorem yO{t sl:Addr}{items:Array Value}{i j:Value}{lo hi:Option Int}{Q:Value->Shared->Prop}(b:IsTup s.heap t items)(l:s.heap.IsSliceOf sl i j .none)(pl:IsPart i lo)(n:IsPart j hi)(o:¬(sIx items.size 0 lo=0/\sIx items.size items.size hi=items.size))(h:Q (.ref s.heap.objs.size) {s with heap:=s.heap.push {cls:=.type "tuple",data:=.seq ((items.toList.drop (sIx items.size 0 lo)).take (sIx items.size items.size hi-sIx items.size 0 lo)).toArray}})(hsz:items.size<=sizeLine):wpAny (model prog w) A (getItem (.ref t) (.ref sl)) Q E s:=by
 have a:sizeOk (.seq ((items.toList.drop (sIx items.size 0 lo)).take (sIx items.size items.size hi-sIx items.size 0 lo)).toArray):=by
  show((items.toList.drop (sIx items.size 0 lo)).take (sIx items.size items.size hi-sIx items.size 0 lo)).toArray.size<=sizeLine
  rw[wL,vE,List.length_drop,vb]
  lia
 have r:sIx items.size items.size hi<=items.size:=qjE _ _ (wK _) hi
 obtain⟨os,c,d,p⟩:=id l
 have e:s.TypeIs (.ref sl) "slice":=⟨os,c,d⟩
 unfold getItem
 try with_reducible refine wv ?_
 first|refine wA (wD ?_)|skip
 refine wA (wpAny_sequenceKey b.typeIs (by decide) ?_)
 refine wA (wq (name:=Str.ofString "__getitem__") b.typeIs vG
  (wz vG b.typeIs entry_tuple_getitem ?_ (args_tuple_getitem _ _)))
 show wpAny _ _ (Builtin.Tuple.tupleItemsOf (.ref t) >>= _) _ _ s
 refine wA (tupleItemsOf_ b ?_)
 refine wA (uV e ?_)
 rw[wM (by decide)]
 refine wA (zJ l pl n ?_)
 have f:¬((((sIx items.size 0 lo:Nat):Int) == 0&&(1:Int) == 1&&(sIx items.size items.size hi-sIx items.size 0 lo) == items.size)=true):=by
  intro q
  rw[wW,wW]at q
  have q1:((sIx items.size 0 lo:Nat):Int)=0:=eq_of_beq q.1.1
  have q2:sIx items.size items.size hi-sIx items.size 0 lo=items.size:=eq_of_beq q.2
  exact o ⟨by lia,by lia⟩
 show wpAny _ _ (if(((sIx items.size 0 lo:Nat):Int) == 0&&(1:Int) == 1&&(sIx items.size items.size hi-sIx items.size 0 lo) == items.size)=true then _ else _) _ _ s
 rw[wO f,qe6]
 first
  |exact wA (m:=Builtin.Tuple.tupleExact _) (w9 (wD ⟨_,rfl,wD h⟩) a)
  |exact wA (m:=Builtin.Tuple.tupleExact _) (w9 (wA (wD (wD ⟨_,rfl,wD h⟩))) a)
  |exact wA (wA (m:=Builtin.Tuple.tupleExact _) (w9 (wD (wD ⟨_,rfl,wD h⟩)) a))
  |exact wA (wA (m:=Builtin.Tuple.tupleExact _) (w9 (wD ⟨_,rfl,wD h⟩) a))
end
end HT
namespace L2
open PySem PySem.Spec PyProof.Rows
noncomputable abbrev TO:=St->Hp->(Option Int->Hp->Prop)->Prop
noncomputable def PO(X:Cx)(e:Option Expr)(t:TO):Prop :=
 ∀(pins:List (Addr×Obj)) (s:Shared) (a:St) (H:Hp) (Q:Option Int->Hp->Prop),Inv X pins a H s->t a H Q ->
  wpAny (model X.prog X.w) X.A (evalPart e X.env) (λu s'=>∃o H',Inv X pins a H' s'/\IsPart u o/\Q o H') X.xe s
noncomputable def tNoPart:TO:=λ_ H Q=>Q none H
noncomputable def tPart(t:TE):TO:=λa H Q=>t a H λx b=>∃i,x=.int i/\Q (some i) b
theorem zb{ns:List Int}:∀{us:List Value},Vals (ns.map V.int) us->IntsAre us ns:=by
 induction ns with
 |nil=>intro us r;rw[xK]at r;cases r;exact .nil
 |cons n ns a =>
  intro us r
  rw[wI]at r
  cases r with
  |cons b c =>
   obtain⟨t,e⟩:=b
   subst e
   exact .cons n t (a c)
section
variable{X:Cx}{e:Expr}{te:TE}{lo hi:Option Expr}{tl th:TO}{pos p2:Pos}
theorem qhF:PO X none tNoPart:=by
 intro pins s a H Q I h
 rw[evalPart_none]
 exact wD ⟨none,H,I,.none,h⟩
theorem qhG(h:PE X e te):PO X (some e) (tPart te):=by
 intro pins s a H Q I b
 rw[evalPart_some]
 refine thn (h pins s a H _ I b) λu s1 ⟨x,c,d,f,q1⟩=>?_
 obtain⟨i,rfl,q⟩:=q1
 obtain⟨t,rfl⟩:=f
 exact⟨some i,c,d,.int i t,q⟩
noncomputable def SlR(X:Cx)(r:V->Option Int->Option Int->Hp->VK->Prop):Prop :=
 ∀(pins:List (Addr×Obj)) (s:Shared) (a:St) (H:Hp) (x:V) (v b c:Value) (lo hi:Option Int) (sl:Addr) (Q:VK),Inv X pins a H s->RelV x v->s.heap.IsSliceOf sl b c .none->IsPart b lo->IsPart c hi->r x lo hi H Q ->
  ∃T id,typeLookup (.type T) "__getitem__"=pure (some (.builtin id))/\s.TypeIs v T/\wpAny (model X.prog X.w) X.A (getItem v (.ref sl)) (EP X pins a Q) X.xe s
theorem SlR.or{r r':V->Option Int->Option Int->Hp->VK->Prop}(h:SlR X r)(h':SlR X r'):SlR X (λx lo hi H Q=>r x lo hi H Q\/r' x lo hi H Q):=by
 intro pins s a H x v b c lo hi sl Q I rx d pl f q
 rcases q with q|q
 .exact h pins s a H x v b c lo hi sl Q I rx d pl f q
 .exact h' pins s a H x v b c lo hi sl Q I rx d pl f q
noncomputable def tSl(r:V->Option Int->Option Int->Hp->VK->Prop)(te:TE)(tl th:TO):TE:=λa H Q=>te a H λx b=>tl a b λl H2=>th a H2 λu H3=>r x l u H3 Q
theorem qe7{r:V->Option Int->Option Int->Hp->VK->Prop}(i:SlR X r)(j:PE X e te)(m:PO X lo tl)(n:PO X hi th):PE X (.Subscript e (.Slice lo hi none p2) pos) (tSl r te tl th):=by
 intro pins s c H Q I h
 refine Subscript_ (thn (j pins s c H _ I h) λv s1 ⟨x,o,p,y,q1⟩=>?_)
 refine wpAny_Slice (thn (m pins s1 c o _ p q1) λd s2 ⟨l,H2,z,pl,q2⟩=>thn (n pins s2 c H2 _ z q2) λf a ⟨u,H3,B,C,E⟩=>?_)
 rw[evalPart_none]
 refine wD ?_
 have F:Inv X pins c H3 {a with heap:=a.heap.push {cls:=.type "slice",data:=.fields #[d,f,.none]}}:=B.kept (t':=a.toks) λb ob q=>wB _ q
 obtain⟨T,id,J,K,L⟩:=i pins {a with heap:=a.heap.push {cls:=.type "slice",data:=.fields #[d,f,.none]}} c H3 x v d f l u a.heap.objs.size Q F y (Heap.IsSliceOf.new ..) pl C E
 show wpAny (model X.prog X.w) X.A (subscriptTail e (.Slice lo hi none p2) v (.ref a.heap.objs.size)) (EP X pins c Q) X.xe {a with heap:=a.heap.push {cls:=.type "slice",data:=.fields #[d,f,.none]}}
 exact tail_any (ops:=[.ref a.heap.objs.size,v]) K J L (by with_unfolding_all rfl)
noncomputable def cutV(xs:List V)(lo hi:Option Int):List V:=(xs.drop (HT.sIx xs.length 0 lo)).take (HT.sIx xs.length xs.length hi-HT.sIx xs.length 0 lo)
theorem js(xs:List V)(lo hi:Option Int):(cutV xs lo hi).length<=xs.length:=by
 unfold cutV
 rw[vE,List.length_drop]
 lia
def rSlT(K:PySem.W.Frag):V->Option Int->Option Int->Hp->VK->Prop:=λx lo hi H Q=>∃a xs,x=.ref a/\SqT K H a xs /\
 ¬(HT.sIx xs.length 0 lo=0/\HT.sIx xs.length xs.length hi=xs.length)/\∀p,H p=none->Q (.ref p) (upd H p (.tup (cutV xs lo hi)))
theorem qjF:SlR X (rSlT X.K):=by
 intro pins s n H x v p u lo hi sl Q I rx i pl j h
 obtain⟨a,xs,rfl,l,m,q⟩:=h
 cases rx
 obtain⟨its,r,d,f⟩:=I.tuple l
 have c:its.toArray.size=xs.length:=by rw[wL];exact r.length.symm
 refine⟨"tuple",_,vG.lookup,d.typeIs,?_⟩
 refine HT.yO d i pl j (by rw[c];exact m) ?_ (by rw[c];exact f)
 rw[c]
 refine⟨.ref s.heap.objs.size,_,I.laid (t':=s.toks) (o:=.tup (cutV xs lo hi)) (λb ob q=>wB _ q) (wK _) ?_,rfl,q _ (I.hok.fresh (wK _))⟩
 exact⟨vI (js xs lo hi) f,_,(r.drop (HT.sIx xs.length 0 lo)).take (HT.sIx xs.length xs.length hi-HT.sIx xs.length 0 lo),IsTup.new _ _,yw _ _⟩
noncomputable def rLtT(K:PySem.W.Frag):R2:=λx y H Q=>∃a b ns c,x=.ref a/\y=.ref b/\SqT K H a (ns.map V.int)/\SqT K H b (c.map V.int)/\Q (.bl (HT.lexLt ns c)) H
theorem qjG(f:X.A.units<cLine):OpR X (compareOp .Lt) (rLtT X.K):=by
 intro pins s o H x y v u Q I rx i h
 obtain⟨a,b,ns,d,rfl,rfl,ha,j,q⟩:=h
 cases rx
 cases i
 obtain⟨its,l,m,_⟩:=I.tuple ha
 obtain⟨c,n,p2,_⟩:=I.tuple j
 have i1:IntsAre its.toArray.toList ns:=zb l
 have i2:IntsAre c.toArray.toList d:=zb n
 exact HT.jK m p2 i1 i2 f ⟨.bl (HT.lexLt ns d),H,I,rfl,q⟩
noncomputable def rCatT(K:PySem.W.Frag):R2:=λx y H Q=>∃a b xs ys,x=.ref a/\y=.ref b/\SqT K H a xs/\SqT K H b ys/\xs≠[]/\xs.length+ys.length<=sizeLine /\
 (ys=[]->Q (.ref a) H)/\(ys≠[]->∀p,H p=none->Q (.ref p) (upd H p (.tup (xs++ys))))
theorem Vals.nil_iff{xs:List V}{us:List Value}(r:Vals xs us):us=[] ↔ xs=[]:=by
 cases r with
 |nil=>simp
 |cons _ _=>simp
theorem qhH:OpR X (binaryOp .Add) (rCatT X.K):=by
 intro pins s p H x y v u Q I rx j h
 obtain⟨a,b,xs,ys,rfl,rfl,ha,l,m,f,q1,q2⟩:=h
 cases rx
 cases j
 obtain⟨its,d,n,_⟩:=I.tuple ha
 obtain⟨i,c,p2,_⟩:=I.tuple l
 refine HT.qhE n p2 (λz=>m (d.nil_iff.mp z)) (λz=>⟨.ref a,H,I,rfl,q1 (c.nil_iff.mp z)⟩) (λz=>?_) (by rw[<-d.length,<-c.length];exact f)
 refine⟨.ref s.heap.objs.size,_,I.laid (t':=s.toks) (o:=.tup (xs++ys)) (λb ob q=>wB _ q) (wK _) ?_,rfl,q2 (λw=>z (c.nil_iff.mpr w)) _ (I.hok.fresh (wK _))⟩
 exact⟨by rw[wd];exact f,_,d.append c,IsTup.new _ _,yw _ _⟩
end
end L2
namespace L2
open PySem PySem.Spec PyProof.Rows
noncomputable def ixN(n:Nat)(i:Int):Option Nat:=if 0<=i then(if i<n then some i.toNat else none)else if -(n:Int)<=i then some (i+n).toNat else none
noncomputable def atI{a:Type}(xs:List a)(i:Int):Option a:=(ixN xs.length i).bind λj=>xs[j]?
theorem qdf{n:Nat}{i:Int}{j:Nat}(h:ixN n i=some j):seqIndex? i n=some j/\j<n/\-(n:Int)<=i/\i<n:=by
 unfold ixN at h
 by_cases h0:0<=i
 .rw [wM h0]at h
  by_cases a:i<n
  .rw [wM a]at h
   have e:i.toNat=j:=Option.some.inj h
   exact⟨by rw[seqIndex_of h0 a,e],by lia,by lia,a⟩
  .rw [wO a]at h;cases h
 .rw [wO h0]at h
  by_cases a:-(n:Int)<=i
  .rw [wM a]at h
   have e:(i+n).toNat=j:=Option.some.inj h
   exact⟨by rw[seqIndex_neg (by lia) a,e],by lia,a,by lia⟩
  .rw [wO a]at h;cases h
theorem qdg{a:Type}{xs:List a}{i:Int}{v:a}(h:atI xs i=some v):∃j,seqIndex? i xs.length=some j/\xs[j]?=some v/\j<xs.length/\-(xs.length:Int)<=i/\i<xs.length:=by
 unfold atI at h
 cases e:ixN xs.length i with
 |none=>rw[e]at h;cases h
 |some j =>
  rw[e]at h
  obtain⟨b,c,d,f⟩:=qdf e
  exact⟨j,b,h,c,d,f⟩
def PlainIx(b:Expr):Prop:=∀o i,subscripted b false o i=operate [o,i] (getItem o i)
noncomputable def IxR(X:Cx)(r:R2):Prop :=
 ∀(b a:Expr) (pins:List (Addr×Obj)) (s:Shared) (c:St) (H:Hp) (x y:V) (v u:Value) (Q:VK),Inv X pins c H s->RelV x v->RelV y u->r x y H Q ->
  subscripted a false v u=operate [v,u] (getItem v u)->wpAny (model X.prog X.w) X.A (subscriptTail b a v u) (EP X pins c Q) X.xe s
noncomputable def MtR(X:Cx)(id:String)(r:V->List V->Hp->VK->Prop):Prop :=
 ∀(pins:List (Addr×Obj)) (s:Shared) (a:St) (H:Hp) (x:V) (xs:List V) (v:Value) (us:List Value) (Q:VK),Inv X pins a H s->RelV x v->Vals xs us->r x xs H Q ->
  wpAny (model X.prog X.w) X.A (call (.builtin id) (v::us)) (EP X pins a Q) X.xe s
section
variable{X:Cx}{a b:Expr}{ta tb:TE}{pos:Pos}
theorem IxR.or{r r':R2}(h:IxR X r)(h':IxR X r'):IxR X (λx y H Q=>r x y H Q\/r' x y H Q):=by
 intro c d pins s e H x y v u Q I rx f q i
 rcases q with q|q
 .exact h c d pins s e H x y v u Q I rx f q i
 .exact h' c d pins s e H x y v u Q I rx f q i
theorem qiT{r:R2}(c:IxR X r)(ha:PE X a ta)(d:PE X b tb)(e:PlainIx b):PE X (.Subscript a b pos) (tOp r ta tb):=by
 intro pins s f H Q I h
 exact Subscript_ (binT ha d I h λv u s2 x y H2 i rx j q=>c a b pins s2 f H2 x y v u Q i rx j q (e _ _))
noncomputable def rIxL(K:PySem.W.Frag):R2:=λx y H Q=>∃p xs i v,x=.ref p/\y=.int i/\SqL K H p xs/\atI xs i=some v/\Q v H
noncomputable def rIxT(K:PySem.W.Frag):R2:=λx y H Q=>∃p xs i v,x=.ref p/\y=.int i/\SqT K H p xs/\atI xs i=some v/\Q v H
theorem qhI:IxR X (rIxL X.K):=by
 intro d e pins s m H x y v u Q I rx A h n
 obtain⟨p,xs,i,z,rfl,rfl,B,C,q⟩:=h
 cases rx
 obtain⟨t,rfl⟩:=A
 obtain⟨its,r,pl,M⟩:=I.list B
 obtain⟨j,c,E,N,F,J⟩:=qdg C
 obtain⟨w,o,f⟩:=r.get E
 have L:=r.length
 have hn:=line63
 have fin:EP X pins m Q w s:=⟨z,H,I,f,q⟩
 by_cases h0:0<=i
 .have l:i.toNat=j:=by
   rw[seqIndex_of h0 J]at c
   exact Option.some.inj c
  exact item_listR pl.isList h0 (by lia) (by rw[l];simpa using o) fin n
 .have l:(i+(its.toArray.size:Int)).toNat=j:=by
   rw[seqIndex_neg (by lia) F]at c
   rw[wL,<-L]
   exact Option.some.inj c
  exact subscriptTail_builtinR (x:=w) pl.isList.typeIs slot_list_getitem.lookup
   (wpAny_getItem_list_neg (Q:=λr s'=>r=w/\EP X pins m Q r s') pl.isList (by lia) (by rw[wL] <;> lia) (by lia) (by rw[l];simpa using o) ⟨rfl,fin⟩) n
theorem qjH:IxR X (rIxT X.K):=by
 intro c d pins s f H x y v u Q I rx l h m
 obtain⟨p,xs,i,z,rfl,rfl,n,o,q⟩:=h
 cases rx
 obtain⟨t,rfl⟩:=l
 obtain⟨its,r,pl,F⟩:=I.tuple n
 obtain⟨j,A,B,J,L,M⟩:=qdg o
 obtain⟨w,C,e⟩:=r.get B
 have E:=r.length
 have hn:=line63
 have fin:EP X pins f Q w s:=⟨z,H,I,e,q⟩
 exact subscriptTail_builtinR (x:=w) pl.typeIs slot_tuple_getitem.lookup
  (getItem_tuple (j:=j) (Q:=λr s'=>r=w/\EP X pins f Q r s') pl (by lia) (by lia) (by rw[wL,<-E];exact A) (by simpa using C) ⟨rfl,fin⟩) m
theorem qcC(its:List Value)(n j:Nat)(u:Value):Obj.mapSeq (·.setIfInBounds j u) {cls:=.type "list",data:=.seq its.toArray n}={cls:=.type "list",data:=.seq (its.set j u).toArray n}:=by
 simp[Obj.mapSeq]
theorem Inv.lst{pins:List (Addr×Obj)}{c:St}{H:Hp}{s:Shared}{p:Addr}{xs:List V}(I:Inv X pins c H s)(h:H p=some (.lst xs)):
  ∃(its:List Value) (n:Nat),Vals xs its/\s.heap.get? p=some {cls:=.type "list",data:=.seq its.toArray n}/\xs.length<=sizeLine:=by
 obtain⟨z,its,n,r,e⟩:=I.hok p _ h
 exact⟨its,n,r,e,z⟩
theorem Inv.lstUpd{pins:List (Addr×Obj)}{d:St}{H:Hp}{s:Shared}{p:Addr}{xs ys:List V}{its its':List Value}{n c:Nat}{f:Obj->Obj}(I:Inv X pins d H s)(h:H p=some (.lst xs))(j:s.heap.get? p=some {cls:=.type "list",data:=.seq its.toArray n})(i:f {cls:=.type "list",data:=.seq its.toArray n}={cls:=.type "list",data:=.seq its'.toArray c})(r:Vals ys its')(l:ys.length<=sizeLine)(t:Nat):
  Inv X pins d (upd H p (.lst ys)) {s with heap:=s.heap.update p f,toks:=t}:=by
 have e:(s.heap.update p f).get? p=some {cls:=.type "list",data:=.seq its'.toArray c}:=by
  rw[vD f j (by rw[i] <;> rfl),i]
 refine I.write (x:=p) (e:=p) (by rw[h];trivial) (.inl rfl) (λb u m q=>(wj _ _ (Ne.symm m)).trans q) ⟨_,e⟩ ?_
 exact⟨l,its',c,r,e⟩
noncomputable def rSetL:V->V->V->Hp->(Hp->Prop)->Prop:=λo i v H Q=>∃p xs k j,o=.ref p/\i=.int k/\H p=some (.lst xs)/\ixN xs.length k=some j/\Q (upd H p (.lst (xs.set j v)))
theorem qe8:PSet X rSetL:=by
 intro pins s y H o i v E F u Q I z ri A h
 obtain⟨p,xs,k,j,rfl,rfl,l,B,q⟩:=h
 cases z
 obtain⟨t,rfl⟩:=ri
 obtain⟨its,n,r,d,C⟩:=I.lst l
 obtain⟨c,J,m,w⟩:=qdf B
 have e:=r.length
 have hn:=line63
 have x:Inv X pins y (upd H p (.lst (xs.set j v))) {s with heap:=s.heap.update p (Obj.mapSeq (·.setIfInBounds j u))} :=
  I.lstUpd l d (qcC its n j u) (r.set A j) (by rw[List.length_set];exact C) s.toks
 by_cases h0:0<=k
 .have f:k.toNat=j:=by
   rw[seqIndex_of h0 w]at c
   exact Option.some.inj c
  exact PySem.W.ki_setAt d h0 (by lia) (by rw[wL,<-e];exact w) (by rw[f];exact⟨_,x,q⟩)
 .have f:(k+(its.toArray.size:Int)).toNat=j:=by
   rw[seqIndex_neg (by lia) m]at c
   rw[wL,<-e]
   exact Option.some.inj c
  exact PySem.W.ki_setBack d (by lia) (by rw[wL,<-e];exact m) (by lia) (by rw[f];exact⟨_,x,q⟩)
theorem qaV(lo hi:Option Int)(n:Nat):(sliceBounds lo hi none n).1=((HT.sIx n 0 lo:Nat):Int)/\(sliceBounds lo hi none n).2.1=((HT.sIx n n hi:Nat):Int)/\(sliceBounds lo hi none n).2.2=1:=by
 refine⟨?_,?_,rfl⟩
 .cases lo with
  |none=>simp[sliceBounds,HT.sIx]
  |some i =>
   simp only[sliceBounds,HT.sIx,Option.getD_none,show(1:Int)>0 by decide,wr]
   by_cases h:i<0
   .simp only[h,wr] <;> lia
   .simp only[h,uN] <;> lia
 .cases hi with
  |none=>simp[sliceBounds,HT.sIx]
  |some i =>
   simp only[sliceBounds,HT.sIx,Option.getD_none,show(1:Int)>0 by decide,wr]
   by_cases h:i<0
   .simp only[h,wr] <;> lia
   .simp only[h,uN] <;> lia
theorem qau(its:List Value)(lo hi:Option Int):slicePick its.toArray lo hi none=((its.drop (HT.sIx its.length 0 lo)).take (HT.sIx its.length its.length hi-HT.sIx its.length 0 lo)).toArray:=by
 obtain⟨c,d,e⟩:=qaV lo hi its.toArray.size
 unfold slicePick
 rw[c,d,e]
 simp only[sliceRange_one,pick_run,wL] <;> rfl
def rSlL(K:PySem.W.Frag):V->Option Int->Option Int->Hp->VK->Prop:=λx lo hi H Q=>∃a xs,x=.ref a/\SqL K H a xs/\∀p,H p=none->Q (.ref p) (upd H p (.lst (cutV xs lo hi)))
theorem qhJ:SlR X (rSlL X.K):=by
 intro pins s l H x v m n lo hi sl Q I rx e pl f h
 obtain⟨a,xs,rfl,i,q⟩:=h
 cases rx
 obtain⟨its,r,d,j⟩:=I.list i
 have c:=r.length
 refine⟨"list",_,slot_list_getitem.lookup,d.isList.typeIs,?_⟩
 refine wpAny_getItem_list_slice d.isList e pl f .none (by simp) ?_ (by rw[wL] <;> lia)
 rw[qau,<-c]
 refine⟨.ref s.heap.objs.size,_,I.laid (t':=s.toks) (o:=.lst (cutV xs lo hi)) (λb ob q=>wB _ q) (wK _) ?_,rfl,q _ (I.hok.fresh (wK _))⟩
 exact⟨vI (js xs lo hi) j,_,0,(r.drop (HT.sIx xs.length 0 lo)).take (HT.sIx xs.length xs.length hi-HT.sIx xs.length 0 lo),wF _ rfl⟩
noncomputable def flatV:V->Bool
 | .non=>true
 | .bl _=>true
 | .int _=>true
 | .str _=>true
 |_=>false
noncomputable def eqV:V->V->Bool
 | .non,.non=>true
 | .bl a,.bl b=>a == b
 | .bl a,.int b=>(if a then 1 else 0) == b
 | .int a,.bl b=>a == (if b then 1 else 0)
 | .int a,.int b=>a == b
 | .str a,.str b=>a == b
 |_,_=>false
theorem qjI{A:Around}{s:Shared}{y x:V}{u v:Value}(c:RelV y u)(rx:RelV x v)(e:flatV y=true)(d:flatV x=true):SeqAt.EqAt A s u v (eqV y x):=by
 cases y with
 |non =>
  cases c
  cases x with
  |non=>cases rx;exact SeqAt.EqAt.same _
  |bl b=>cases rx;exact SeqAt.EqAt.none_bool b
  |int b=>obtain⟨t,rfl⟩:=rx;exact SeqAt.EqAt.none_int b t
  |str b=>obtain⟨t,rfl⟩:=rx;exact SeqAt.EqAt.none_str b t
  |_=>exact absurd (show false=true from d) wU
 |bl a =>
  cases c
  cases x with
  |non=>cases rx;exact SeqAt.EqAt.bool_none a
  |bl b=>cases rx;exact SeqAt.EqAt.bool_bool a b
  |int b=>obtain⟨t,rfl⟩:=rx;exact SeqAt.EqAt.bool_int a b t
  |str b=>obtain⟨t,rfl⟩:=rx;exact SeqAt.EqAt.bool_str a b t
  |_=>exact absurd (show false=true from d) wU
 |int a =>
  obtain⟨t',rfl⟩:=c
  cases x with
  |non=>cases rx;exact SeqAt.EqAt.int_none a t'
  |bl b=>cases rx;exact SeqAt.EqAt.int_bool a t' b
  |int b=>obtain⟨t,rfl⟩:=rx;exact SeqAt.EqAt.int_int a t' b t
  |str b=>obtain⟨t,rfl⟩:=rx;exact SeqAt.EqAt.int_str a t' b t
  |_=>exact absurd (show false=true from d) wU
 |str a =>
  obtain⟨t',rfl⟩:=c
  cases x with
  |non=>cases rx;exact SeqAt.EqAt.str_none a t'
  |bl b=>cases rx;exact SeqAt.EqAt.str_bool a t' b
  |int b=>obtain⟨t,rfl⟩:=rx;exact SeqAt.EqAt.str_int a t' b t
  |str b=>obtain⟨t,rfl⟩:=rx;exact SeqAt.EqAt.str_str a t' b t
  |_=>exact absurd (show false=true from d) wU
 |_=>exact absurd (show false=true from e) wU
noncomputable def eqU(x:V)(u:Value):Bool:=match u with
 | .none=>eqV .non x
 | .bool b=>eqV (.bl b) x
 | .int i _=>eqV (.int i) x
 | .str z _=>eqV (.str z) x
 |_=>false
theorem qe9{x y:V}{u:Value}(r:RelV y u)(f:flatV y=true):eqU x u=eqV y x:=by
 cases y with
 |non=>cases r;rfl
 |bl b=>cases r;rfl
 |int i=>obtain⟨t,rfl⟩:=r;rfl
 |str z=>obtain⟨t,rfl⟩:=r;rfl
 |_=>exact absurd (show false=true from f) wU
theorem yP{x:V}:∀{xs:List V} {us:List Value},Vals xs us->xs.all flatV=true->us.any (eqU x)=xs.any λy=>eqV y x
 |_,_,.nil,_=>rfl
 |y::xs,u::us,.cons r t,f=>by
  rw[u8,wW]at f
  rw[vn,vn,qe9 r f.1,yP t f.2]
theorem yf{A:Around}{s:Shared}{x:V}{v:Value}(rx:RelV x v)(d:flatV x=true):∀{xs:List V} {us:List Value},Vals xs us->xs.all flatV=true->∀u∈us,SeqAt.EqAt A s u v (eqU x u)
 |_,_,.nil,_=>λu c=>by cases c
 |y::xs,u::us,.cons r t,f=>λe c=>by
  rw[u8,wW]at f
  rcases wR.mp c with rfl|c
  .rw [qe9 r f.1];exact qjI r rx f.1 d
  .exact yf rx d t f.2 e c
noncomputable def inV(x:V)(xs:List V):Bool:=xs.any λy=>eqV y x
noncomputable def rIn(K:PySem.W.Frag)(c:Bool):R2:=λx y H Q=>∃p xs,y=.ref p/\(SqL K H p xs\/SqT K H p xs)/\flatV x=true/\xs.all flatV=true/\Q (.bl (if c then !inV x xs else inV x xs)) H
theorem qem:OpR X (compareOp .In) (rIn X.K false):=by
 intro pins s j H x y v u Q I rx f h
 obtain⟨p,xs,rfl,c,e,fs,q⟩:=h
 cases f
 rcases c with c|c
 .obtain ⟨its,r,pl,i⟩:=I.list c
  refine SeqAt.in_listAt (eqU x) pl.isList (λw d=>yf rx e r fs w (by simpa using d)) ⟨.bl _,H,I,rfl,?_⟩
  rw[show its.toArray.any (eqU x)=its.any (eqU x) by simp,yP r fs]
  exact q
 .obtain ⟨its,r,pl,i⟩:=I.tuple c
  refine SeqAt.in_tupleAt (eqU x) pl (λw d=>yf rx e r fs w (by simpa using d)) ⟨.bl _,H,I,rfl,?_⟩
  rw[show its.toArray.any (eqU x)=its.any (eqU x) by simp,yP r fs]
  exact q
theorem qaW:OpR X (compareOp .NotIn) (rIn X.K true):=by
 intro pins s j H x y v u Q I rx f h
 obtain⟨p,xs,rfl,c,e,fs,q⟩:=h
 cases f
 rcases c with c|c
 .obtain ⟨its,r,pl,i⟩:=I.list c
  refine SeqAt.notIn_listAt (eqU x) pl.isList (λw d=>yf rx e r fs w (by simpa using d)) ⟨.bl _,H,I,rfl,?_⟩
  rw[show its.toArray.any (eqU x)=its.any (eqU x) by simp,yP r fs]
  exact q
 .obtain ⟨its,r,pl,i⟩:=I.tuple c
  refine SeqAt.notIn_tupleAt (eqU x) pl (λw d=>yf rx e r fs w (by simpa using d)) ⟨.bl _,H,I,rfl,?_⟩
  rw[show its.toArray.any (eqU x)=its.any (eqU x) by simp,yP r fs]
  exact q
theorem CallR.or{f:Value}{r r':List V->Hp->VK->Prop}(h:CallR X f r)(h':CallR X f r'):CallR X f (λxs H Q=>r xs H Q\/r' xs H Q):=by
 intro pins s c H xs us Q I d q
 rcases q with q|q
 .exact h pins s c H xs us Q I d q
 .exact h' pins s c H xs us Q I d q
theorem qav:CallR X (.type "tuple") (λxs H Q=>∃p ys,xs=[.ref p]/\((SqL X.K H p ys/\∀l,H l=none->Q (.ref l) (upd H l (.tup ys)))\/(SqT X.K H p ys/\Q (.ref p) H))):=by
 intro pins s d H xs us Q I r h
 obtain⟨p,ys,rfl,h⟩:=h
 obtain⟨u,rfl,rx⟩:=vals1 r
 cases rx
 rcases h with ⟨c,q⟩|⟨c,q⟩
 .obtain ⟨its,r',pl,f⟩:=I.list c
  have i:=r'.length
  refine call_tuple_list pl.isList (λh' kp=>?_) (by simp only[wL] <;> lia)
  have j:Inv X pins d H {s with heap:=h' }:=I.kept (t':=s.toks) kp
  have m:Inv X pins d (upd H h'.objs.size (.tup ys)) {s with heap:=h'.push {cls:=.type "tuple",data:=.seq its.toArray}} :=
   j.laid (t':=s.toks) (λb o e=>wB _ e) (wK _) (show ObjOk X.prog X.w _ _ _ (.tup ys)from⟨f,its,r',IsTup.new _ _,yw _ _⟩)
  exact⟨.ref h'.objs.size,_,m,rfl,q _ (j.hok.fresh (wK _))⟩
 .obtain ⟨its,r',pl,f⟩:=I.tuple c
  exact call_tuple_same pl ⟨.ref p,H,I,rfl,q⟩
def tyV(K:PySem.W.Frag)(T:String)(x:V)(H:Hp):Prop:=match x with
 | .str _=>T="str"
 | .int _=>T="int"
 | .ref p=>(T="list"/\∃xs,SqL K H p xs)\/(T="tuple"/\∃o,K.lookup p=some o/\o.cls=.type "tuple"/\o.dict=none) \/
   (T="dict"/\((∃kvs,H p=some (.dK kvs))\/∃kvs,H p=some (.dT kvs)))\/(T="set"/\∃S n,H p=some (.set S n))
 |_=>False
theorem qjJ{pins:List (Addr×Obj)}{h:St}{H:Hp}{s:Shared}{T:String}{x:V}{v:Value}(I:Inv X pins h H s)(r:RelV x v)(ty:tyV X.K T x H):
  s.TypeIs v T/\∀a,v=.ref a->∃ob,s.heap.get? a=some ob/\ob.dict=none:=by
 cases x with
 |str z =>
  obtain⟨t,rfl⟩:=r
  cases (show T="str" from ty)
  exact⟨typeIs_str s z t,λ_ e=>nomatch e⟩
 |int i =>
  obtain⟨t,rfl⟩:=r
  cases (show T="int" from ty)
  exact⟨u9 s i t,λ_ e=>nomatch e⟩
 |ref p =>
  cases r
  rcases ty with ⟨rfl,xs,j⟩|⟨rfl,o,d,hc,hd⟩|⟨rfl,d⟩|⟨rfl,S,n,d⟩
  .obtain ⟨its,_,pl,_⟩:=I.list j
   refine⟨pl.isList.typeIs,λa e=>?_⟩
   cases e
   obtain⟨o,n,e,c,hd,_⟩:=pl
   exact⟨o,e,hd⟩
  .refine ⟨⟨o,I.kIn p o d,hc⟩,λa e=>?_⟩
   cases e
   exact⟨o,I.kIn _ o d,hd⟩
  .have z:∃o,s.heap.get? p=some o/\o.ExactDict:=by
    rcases d with ⟨kvs,d⟩|⟨kvs,d⟩
    .obtain ⟨_,_,_,_,o,_,_,e,ex,_⟩:=I.hok p _ d
     exact⟨o,e,ex⟩
    .obtain ⟨_,_,_,_,o,_,_,e,ex,_⟩:=I.hok p _ d
     exact⟨o,e,ex⟩
   obtain⟨o,e,ex⟩:=z
   refine⟨⟨o,e,ex.1⟩,λa f=>?_⟩
   cases f
   exact⟨o,e,ex.2.1⟩
  .obtain ⟨o,_,_,_,e,ex,_⟩:=I.hok p _ d
   refine⟨⟨o,e,ex.1⟩,λa f=>?_⟩
   cases f
   exact⟨o,e,ex.2.1⟩
 |_=>exact False.elim ty
noncomputable def tBM(K:PySem.W.Frag)(T:String)(r:V->List V->Hp->VK->Prop)(e:TE)(t:TA):TE:=λc H Q=>e c H λx d=>tyV K T x d/\t c d λxs H2=>r x xs H2 Q
variable{o e:Expr}{es:List Expr}{to:TE}{t:TA}{name:Str}{apos cpos:Pos}{T id:String}{r:V->List V->Hp->VK->Prop}
theorem qla(q:PlainAttrs T)(slot:Slot T name id)(j:typeOf (.builtin id)=pure (.type "method_descriptor"))(hm:MtR X id r)(u:PE X o to)(ha:PA X (e::es) t)(d:attributeBase o name X.env (eval o X.env)=eval o X.env:=by rfl)(i:((backTo cpos (starEach (e::es) X.env)).all (λx=>!x.1)&&(backToKw cpos (keywordEach [] X.env)).all (λx=>x.1.isSome)
   && decide ((e::es).length+([]:List Keyword).length+(if([]:List Keyword).isEmpty then 0 else 1)<30))=true:=by rfl)(f:(apos.endLine == cpos.line)=true:=by rfl)(w:starEach (e::es) X.env=(false,eval e X.env)::starEach es X.env:=by rfl)(c:(backTo cpos (starEach es X.env)).any (·.1)=false:=by rfl):
  PE X (.Call (.Attribute o name apos) (e::es) [] cpos) (tBM X.K T r to t):=by
 intro pins s l H Q I h
 refine wpAny_Call_method_late d i f rfl (thn (u pins s l H _ I h) λv s1 ⟨x,y,m,n,ty,q1⟩=>?_)
 obtain⟨z,A⟩:=qjJ m n ty
 refine⟨T,id,q,slot,j,z,A,?_⟩
 have p:=ha cpos pins s1 l y _ m q1
 rw[w]at p ⊢
 refine Calls.callWith_builtin (by show(false || (backTo cpos (starEach es X.env)).any (·.1))=false;rw[c] <;> rfl) (Calls.evalArgs_plain ?_)
 exact thn p λus s2 ⟨vs,H2,B,C,q2⟩=>hm pins s2 l H2 x vs v us Q B n C q2
/- xs.append(e),list.index on a module's tuple .. are MtR facts of 06m -/
end
end L2
namespace L2
open PySem PySem.Spec PyProof.Rows
noncomputable def MtM(X:Cx)(id:String)(r:V->List V->Hp->VK->Prop):Prop :=
 ∀(pins:List (Addr×Obj)) (s:Shared) (a:St) (H:Hp) (x:V) (xs:List V) (v:Value) (us:List Value) (Q:VK),Inv X pins a H s->RelV x v->Vals xs us->r x xs H Q ->
  wpAny (model X.prog X.w) X.A (call (.builtin id) (v::us)) (EP X pins a Q) X.xe s
theorem Vals.one:∀{x:V} {us:List Value},Vals [x] us->∃u,us=[u]/\RelV x u
 |_,_,.cons r .nil=>⟨_,rfl,r⟩
theorem Vals.eraseIdx:∀{xs:List V} {us:List Value} (i:Nat),Vals xs us->Vals (xs.eraseIdx i) (us.eraseIdx i)
 |_,_,_,.nil=>.nil
 |_,_,0,.cons _ t=>t
 |_,_,i+1,.cons r t=>.cons r (Vals.eraseIdx i t)
theorem Vals.rep{xs:List V}{us:List Value}(h:Vals xs us):∀k:Nat,Vals (List.replicate k xs).flatten (List.replicate k us).flatten
 |0=>.nil
 |k+1=>by
  rw[vC,vC,vi,vi]
  exact Vals.append h (Vals.rep h k)
theorem qaC{a:Type}:∀(l:List a) (i:Nat),(l.eraseIdx i).length<=l.length
 |[],_=>wK _
 |_::_,0=>Nat.le_succ _
 |_::r,i+1=>Nat.succ_le_succ (qaC r i)
theorem jc(its:List Value):∀(k:Nat) (a:List Value),
  List.foldl (λb c=>b++c) a.toArray (List.replicate k its.toArray)=(a++(List.replicate k its).flatten).toArray
 |0,a=>by simp
 |k+1,a=>by
  have e:a.toArray++its.toArray=(a++its).toArray:=by simp
  have d:(a++its)++(List.replicate k its).flatten=a++(List.replicate (k+1) its).flatten:=by
   rw[vC,vi,v8]
  rw[<-d,<-jc its k (a++its),<-e,vC,vT]
section
variable{X:Cx}{pins:List (Addr×Obj)}{σ:St}{H:Hp}{s:Shared}{l b:Addr}{xs ys zs:List V}
theorem Inv.lset{its its':List Value}{n:Nat}{f:Array Value->Array Value}{t':Nat}(I:Inv X pins σ H s)(a:H l=some (.lst xs))(e:s.heap.get? l=some {cls:=.type "list",data:=.seq its.toArray n})(c:f its.toArray=its'.toArray)(d:Vals ys its')(h:ys.length<=sizeLine):
  Inv X pins σ (upd H l (.lst ys)) {s with heap:=s.heap.update l (Obj.mapSeq f),toks:=t' }:=by
 have q:=PySem.IsL.update e f
 rw[c]at q
 refine I.write (x:=l) (e:=l) (by rw[a];exact trivial) (.inl rfl) (λm u i j=>(wj s.heap (Obj.mapSeq f) (Ne.symm i)).trans j) ⟨_,q⟩ ?_
 exact⟨h,its',_,d,q⟩
theorem Inv.lnew{its:List Value}{t':Nat}(I:Inv X pins σ H s)(a:Vals ys its)(c:ys.length<=sizeLine):
  Inv X pins σ (upd H s.heap.objs.size (.lst ys)) {s with heap:=s.heap.push {cls:=.type "list",data:=.seq its.toArray},toks:=t' } :=
 I.laid (λ_ _ q=>wB _ q) (wK _) ⟨c,its,0,a,wF _ rfl⟩
theorem Inv.fresh(I:Inv X pins σ H s):H s.heap.objs.size=none:=I.hok.fresh (wK _)
theorem Inv.lstM(I:Inv X pins σ H s)(a:H l=some (.lst xs)):xs.length<=sizeLine/\∃(its:List Value) (n:Nat),Vals xs its/\xs.length=its.length/\s.heap.get? l=some {cls:=.type "list",data:=.seq its.toArray n}:=by
 obtain⟨z,its,n,r,e⟩:=I.hok l _ a
 exact⟨z,its,n,r,r.length,e⟩
theorem notLongL{n:Nat}(h:n<=sizeLine):Builtin.List.listTooLong n=false:=by
 unfold Builtin.List.listTooLong
 exact wt (by lia)
end
section
variable{X:Cx}
def rAppend:V->List V->Hp->VK->Prop:=λx vs H Q=>∃l xs y,x=.ref l/\vs=[y]/\H l=some (.lst xs)/\xs.length<sizeLine/\Q .non (upd H l (.lst (xs++[y])))
theorem qaD:MtM X "list.append" rAppend:=by
 intro pins s d H x vs v us Q I rx b h
 obtain⟨l,xs,y,rfl,rfl,a,f,q⟩:=h
 cases rx
 obtain⟨u,rfl,c⟩:=b.one
 obtain⟨z,its,n,r,i,e⟩:=I.lstM a
 refine xS F.slot_list_append ⟨_,e,rfl⟩ F.entry_list_append (F.args_list_append_2 _ _) (PySem.list_append l its.toArray n u (by rw[wL];lia)) ⟨e,?_⟩
 refine⟨.non,_,I.lset (its':=its++[u]) a e (by simp) (r.append (.cons c .nil)) ?_,rfl,q⟩
 rw[wd,ve]
 lia
def rPopAt:V->List V->Hp->VK->Prop:=λx vs H Q=>∃l xs i k y,x=.ref l/\vs=[.int i]/\H l=some (.lst xs)/\-(2^63)<=i/\i<2^63/\seqIndex? i xs.length=some k/\xs[k]?=some y/\Q y (upd H l (.lst (xs.eraseIdx k)))
theorem qfa:MtM X "list.pop" rPopAt:=by
 intro pins s B H x vs v us Q I rx c h
 obtain⟨l,xs,i,k,y,rfl,rfl,b,d,f,j,m,q⟩:=h
 cases rx
 obtain⟨u,rfl,o⟩:=c.one
 obtain⟨t,rfl⟩:=o
 obtain⟨z,its,n,r,p,e⟩:=I.lstM b
 obtain⟨w,A,a⟩:=r.get m
 refine xS F.slot_list_pop ⟨_,e,rfl⟩ F.entry_list_pop (F.args_list_pop_2 _ _)
  (MeetsSeq.list_pop_at l its.toArray n i t k w (fitsIndex_both d f) (by rw[wL,<-p];exact j) (by rw[<-uD];exact A) (by rw[wL];lia)) ⟨e,?_⟩
 refine⟨y,_,I.lset (its':=its.eraseIdx k) b e ?_ (r.eraseIdx k) ?_,a,q⟩
 .show its.toArray.eraseIdxIfInBounds k=(its.eraseIdx k).toArray
  rw[List.eraseIdxIfInBounds_toArray]
 .have:=qaC xs k
  lia
theorem qaX{a:Type}(xs:List a)(k:Nat):(List.replicate k xs).flatten.length=k*xs.length:=by
 induction k with
 |zero=>simp
 |succ k b=>rw[vC,vi,wd,b,Nat.succ_mul,Nat.add_comm]
end
section
variable{prog:Program}{w:World}{A:Around}{E:Value->Shared->Prop}{s:Shared}
set_option maxRecDepth 100000 in
end
end L2
namespace L2
open PySem PySem.Spec PyProof.Rows
section
variable{κ:Type}[DecidableEq κ]
noncomputable def valV(kvs:List (κ×V))(k:κ):Option V:=(kvs.find? λa=>decide (a.1=k)).map (·.2)
noncomputable def putK(kvs:List (κ×V))(k:κ)(v:V):List (κ×V) :=
 if(kvs.any λa=>decide (a.1=k))=true then kvs.map (λa=>if a.1=k then(a.1,v)else a)else kvs++[(k,v)]
theorem yQ{p:κ×V}{r:List (κ×V)}{k:κ}(e:p.1=k):valV (p::r) k=some p.2:=by simp[valV,uR,e]
theorem yg{p:κ×V}{r:List (κ×V)}{k:κ}(e:¬p.1=k):valV (p::r) k=valV r k:=by simp[valV,uR,e]
theorem qbH(k:κ):∀kvs:List (κ×V),(kvs.any λa=>decide (a.1=k))=(valV kvs k).isSome
 |[]=>rfl
 |p::r=>by
  rw[vn]
  by_cases e:p.1=k
  .simp only[yQ e,vK e,Bool.true_or,Option.isSome_some]
  .rw [yg e,wt e,Bool.false_or];exact qbH k r
theorem zt(kvs:List (κ×V))(k:κ)(v:V):(putK kvs k v).length<=kvs.length+1:=by
 unfold putK
 split
 .rw [wG];lia
 .rw [wd,w4,vN];lia
theorem RelO.isSome_eq{o:Option V}{u:Option Value}(r:RelO o u):o.isSome=u.isSome:=by
 cases o with
 |none=>cases u with
  |none=>rfl
  |some _=>exact(show False from r).elim
 |some _=>cases u with
  |none=>exact(show False from r).elim
  |some _=>rfl
theorem RelO.getD{o:Option V}{u:Option Value}{d:V}{d':Value}(r:RelO o u)(rd:RelV d d'):RelV (o.getD d) (u.getD d'):=by
 cases o with
 |none=>cases u with
  |none=>exact rd
  |some _=>exact(show False from r).elim
 |some _=>cases u with
  |none=>exact(show False from r).elim
  |some _=>exact r
theorem KV.val{kvs:List (κ×V)}{vs:List (κ×Value)}(r:KV kvs vs)(k:κ):RelO (valV kvs k) (valueAt vs k):=by
 unfold KV at r
 induction r with
 |nil=>exact True.intro
 | @cons p q ps a h t f =>
  obtain⟨d,i⟩:=h
  by_cases e:p.1=k
  .have c:q.1=k:=d.symm.trans e
   have b:valueAt (q::a) k=some q.2:=by simp[valueAt,uR,c]
   rw[yQ e,b];exact i
  .have c:¬q.1=k:=λz=>e (d.trans z)
   have b:valueAt (q::a) k=valueAt a k:=by simp[valueAt,uR,c]
   rw[yg e,b];exact f
theorem KV.any{kvs:List (κ×V)}{vs:List (κ×Value)}(r:KV kvs vs)(k:κ):(kvs.any λa=>decide (a.1=k))=vs.any λa=>decide (a.1=k):=by
 unfold KV at r
 induction r with
 |nil=>rfl
 |cons h t b=>rw[vn,vn,b,h.1]
theorem KV.repl{kvs:List (κ×V)}{vs:List (κ×Value)}(r:KV kvs vs)(k:κ){y:V}{u:Value}(c:RelV y u):
  KV (kvs.map λa=>if a.1=k then(a.1,y)else a) (vs.map λa=>if a.1=k then(a.1,u)else a):=by
 unfold KV at r ⊢
 induction r with
 |nil=>exact .nil
 | @cons p q ps i h t d =>
  rw[wI,wI]
  refine .cons ?_ d
  obtain⟨b,f⟩:=h
  by_cases e:p.1=k
  .rw [wM e,wM (b.symm.trans e)];exact⟨b,c⟩
  .rw [wO e,wO (λz=>e (b.trans z))];exact⟨b,f⟩
theorem KV.put{kvs:List (κ×V)}{vs:List (κ×Value)}(r:KV kvs vs)(k:κ){y:V}{u:Value}(a:RelV y u):KV (putK kvs k y) (stored vs k u):=by
 unfold putK stored
 rw[r.any k]
 by_cases e:(vs.any λb=>decide (b.1=k))=true
 .rw [wM e,wM e];exact r.repl k a
 .rw [wO e,wO e];exact Paired.snoc r ⟨rfl,a⟩
theorem KV.length{kvs:List (κ×V)}{vs:List (κ×Value)}(r:KV kvs vs):kvs.length=vs.length:=Paired.length r
end
theorem qbI{P:Program}{w:World}{k:Key}{u:Value}(r:RelV (kV k) u):(mixKind P w).is k u=true:=by
 cases k with
 |inl i=>obtain⟨t,e⟩:=(show ∃t,u=Value.int i t from r);subst e;exact qbB P w i t
 |inr x=>obtain⟨t,e⟩:=(show ∃t,u=Value.str x t from r);subst e;exact qbC P w x t
theorem qaE{P:Program}{w:World}:∀{ks:List Key} {us:List Value},Vals (ks.map kV) us->ItemsAre (mixKind P w) ks us
 |[],_,r=>by rw[xK]at r;cases r;exact .nil
 |k::ks,_,r=>by
  rw[wI]at r
  cases r with
  |cons h t=>exact .cons (qbI h) (qaE t)
noncomputable abbrev KT(H:Hp):List (List Key×V)->List (List Key×Addr×Value)->Prop:=Paired λp q=>p.1=q.1/\H q.2.1=some (.tup (p.1.map kV))/\RelV p.2 q.2.2
theorem KT.val{H:Hp}{kvs:List (List Key×V)}{xs:List (List Key×Addr×Value)}(r:KT H kvs xs)(k:List Key):RelO (valV kvs k) ((atKey xs k).map (·.2)):=by
 induction r with
 |nil=>exact True.intro
 | @cons p q ps a h t f =>
  obtain⟨d,_,i⟩:=h
  by_cases e:p.1=k
  .have c:q.1=k:=d.symm.trans e
   have b:atKey (q::a) k=some q.2:=by simp[atKey,uR,c]
   rw[yQ e,b];exact i
  .have c:¬q.1=k:=λz=>e (d.trans z)
   have b:atKey (q::a) k=atKey a k:=by simp[atKey,uR,c]
   rw[yg e,b];exact f
theorem KT.repl{H:Hp}{kvs:List (List Key×V)}{xs:List (List Key×Addr×Value)}(r:KT H kvs xs)(k:List Key){y:V}{u:Value}(d:RelV y u):
  KT H (kvs.map λb=>if b.1=k then(b.1,y)else b) (xs.map (putAt k u)):=by
 induction r with
 |nil=>exact .nil
 | @cons p q ps j h t f =>
  rw[wI,wI]
  refine .cons ?_ f
  obtain⟨a,c,i⟩:=h
  unfold putAt
  by_cases e:p.1=k
  .rw [wM e,wM (a.symm.trans e)];exact⟨a,c,d⟩
  .rw [wO e,wO (λz=>e (a.trans z))];exact⟨a,c,i⟩
theorem KT.put{H:Hp}{kvs:List (List Key×V)}{xs:List (List Key×Addr×Value)}(r:KT H kvs xs)(k:List Key){b:Addr}{y:V}{u:Value}(c:H b=some (.tup (k.map kV)))(a:RelV y u):
  KT H (putK kvs k y) (storedH xs k b u):=by
 have e:(kvs.any λd=>decide (d.1=k))=(atKey xs k).isSome:=by
  rw[qbH,(r.val k).isSome_eq,Option.isSome_map]
 unfold putK storedH
 rw[e]
 by_cases q:(atKey xs k).isSome=true
 .rw [wM q,wM q];exact r.repl k a
 .rw [wO q,wO q];exact Paired.snoc r ⟨rfl,c,a⟩
theorem KT.keeps{H H':Hp}{kvs:List (List Key×V)}{xs:List (List Key×Addr×Value)}(r:KT H kvs xs)(a:∀b ys,H b=some (.tup ys)->H' b=some (.tup ys)):KT H' kvs xs :=
 Paired.mapP r λ_ _ z=>⟨z.1,a _ _ z.2.1,z.2.2⟩
section
variable{P:Program}{w:World}{H:Hp}{h:Heap}{a:Addr}
theorem qiU{u:HO}(ok:HOk P w H h)(e:Rd H a u):ObjOk P w H h a u:=e.ok ok
theorem qbJ{kvs:List (Key×V)}(ok:HOk P w H h)(e:Rd H a (.dK kvs)):kvs.length<=sizeLine/\(a == sysModules)=false/\∃vs,KV kvs vs/\h.DictOf (mixKind P w) a vs :=
 show ObjOk P w H h a (.dK kvs)from qiU ok e
theorem qiV{kvs:List (Key×V)}(ok:HOk P w H h)(e:H a=some (.dK kvs)):kvs.length<=sizeLine/\(a == sysModules)=false/\∃vs,KV kvs vs/\h.DictOf (mixKind P w) a vs:=qbJ ok (.inl e)
theorem jM{ks:List Key}(ok:HOk P w H h)(e:H a=some (.tup (ks.map kV))):(tupleKind (mixKind P w)).is h ks a:=by
 obtain⟨_,its,r,⟨o,b,c,n,d⟩,_⟩:=(show ObjOk P w H h a (.tup (ks.map kV))from ok a _ e)
 exact⟨o,its.toArray,n,b,c,d,by simpa using qaE r⟩
theorem qbK{kvs:List (List Key×V)}(ok:HOk P w H h)(e:Rd H a (.dT kvs)):kvs.length<=sizeLine/\(a == sysModules)=false /\
  ∃xs,KT H kvs xs/\h.DictOfH (tupleKind (mixKind P w)) a xs:=by
 obtain⟨z,y,xs,r,o,es,d,f,i,j,n,s⟩:=(show ObjOk P w H h a (.dT kvs)from qiU ok e)
 refine⟨z,y,xs,r,o,es,d,f,i,j,n,λx b=>?_,s⟩
 have all:∀{l:List (List Key×V)} {m:List (List Key×Addr×Value)},KT H l m->∀x∈m,(tupleKind (mixKind P w)).is h x.1 x.2.1:=by
  intro l m q
  induction q with
  |nil=>intro x b;exact nomatch b
  | @cons p q ps v c t u =>
   intro x b
   rcases wR.mp b with e|b
   .subst e
    exact jM ok (by rw[<-c.1];exact c.2.1)
   .exact u x b
 exact all r x b
theorem qlb{kvs:List (List Key×V)}(ok:HOk P w H h)(e:H a=some (.dT kvs)):kvs.length<=sizeLine/\(a == sysModules)=false /\
  ∃xs,KT H kvs xs/\h.DictOfH (tupleKind (mixKind P w)) a xs:=qbK ok (.inl e)
end
noncomputable def DGet(H:Hp)(a:Addr)(y:V)(r:Option V):Prop :=
 (∃kvs k,Rd H a (.dK kvs)/\y=kV k/\r=valV kvs k)\/∃kvs k b,Rd H a (.dT kvs)/\y=.ref b/\H b=some (.tup (k.map kV))/\r=valV kvs k
noncomputable def DPut(H:Hp)(a:Addr)(y v:V)(H':Hp):Prop :=
 (∃kvs k,H a=some (.dK kvs)/\y=kV k/\kvs.length<sizeLine/\H'=upd H a (.dK (putK kvs k v))) \/
 ∃kvs k b,H a=some (.dT kvs)/\y=.ref b/\H b=some (.tup (k.map kV))/\kvs.length<sizeLine/\H'=upd H a (.dT (putK kvs k v))
theorem DGet.k{H:Hp}{a:Addr}{kvs:List (Key×V)}{k:Key}(e:H a=some (.dK kvs)):DGet H a (kV k) (valV kvs k):=.inl ⟨kvs,k,.inl e,rfl,rfl⟩
theorem DGet.t{H:Hp}{a b:Addr}{kvs:List (List Key×V)}{k:List Key}(e:H a=some (.dT kvs))(c:H b=some (.tup (k.map kV))):DGet H a (.ref b) (valV kvs k):=.inr ⟨kvs,k,b,.inl e,rfl,c,rfl⟩
theorem DPut.k{H:Hp}{a:Addr}{kvs:List (Key×V)}{k:Key}{v:V}(e:H a=some (.dK kvs))(b:kvs.length<sizeLine):DPut H a (kV k) v (upd H a (.dK (putK kvs k v))):=.inl ⟨kvs,k,e,rfl,b,rfl⟩
theorem DPut.t{H:Hp}{a b:Addr}{kvs:List (List Key×V)}{k:List Key}{v:V}(e:H a=some (.dT kvs))(c:H b=some (.tup (k.map kV)))(d:kvs.length<sizeLine):
  DPut H a (.ref b) v (upd H a (.dT (putK kvs k v))):=.inr ⟨kvs,k,b,e,rfl,c,d,rfl⟩
section
variable{X:Cx}{pins:List (Addr×Obj)}{σ:St}{H:Hp}{s:Shared}{a:Addr}{y v:V}{u r:Value}{o:Option V}{A:Around}{E:Value->Shared->Prop}
theorem Inv.big(I:Inv X pins σ H s):sysModules<s.heap.objs.size:=by
 have h:mainGlobals<s.heap.objs.size:=(I.mod.glob.keeps I.bk).lt
 exact Nat.lt_trans (by decide) h
theorem qaF{Q:Value->Shared->Prop}(x:A.units+1<cLine)(I:Inv X pins σ H s)(g:DGet H a y (some v))(q:RelV y u)(h:∀f s',Inv X pins σ H s'->RelV v f->Q f s'):
  wpAny (model X.prog X.w) A (getItem (.ref a) u) Q E s:=by
 rcases g with ⟨kvs,k,e,i,l⟩|⟨kvs,k,b,e,i,eb,l⟩
 .subst i
  obtain⟨z,hd,vs,c,j⟩:=qbJ I.hok e
  obtain⟨f,m,d⟩:=RelO.some_of (v:=v) (o:=valueAt vs k) (by rw[l];exact c.val k)
  exact wpAny_getItem_of (qbI q) j.mapOf m (h f _ (I.tok _) d)
 .subst i
  cases (show u=Value.ref b from q)
  obtain⟨z,hd,xs,c,j⟩:=qbK I.hok e
  obtain⟨f,m,d⟩:=RelO.some_of (v:=v) (o:=(atKey xs k).map (·.2)) (by rw[l];exact c.val k)
  obtain⟨p,B,n⟩:=Option.map_eq_some_iff.mp m
  refine wpAny_getItem_heap (tupleKind_room_in1 x) (jM I.hok eb) j B ?_
  rw[n]
  exact h f _ (I.tok _) d
theorem qaY{h':Heap}{t':Nat}{ob:HO}(I:Inv X pins σ H s)(c:Mut (H a))(d:Heap.SameBut a s.heap h')(f:∃q,h'.get? a=some q)(new:ObjOk X.prog X.w (upd H a ob) h' a ob):
  Inv X pins σ (upd H a ob) {s with heap:=h',toks:=t' } :=
 I.write (x:=a) (e:=a) c (.inl rfl) (λb q h z=>(d.2 b h).trans z) f new
theorem qfb{P:Program}{w:World}{H':Hp}{h':Heap}{kvs:List (Key×V)}{vs:List (Key×Value)}(z:kvs.length<=sizeLine)(hd:(a == sysModules)=false)(b:KV kvs vs)(c:h'.DictOf (mixKind P w) a vs):
  ObjOk P w H' h' a (.dK kvs):=⟨z,hd,vs,b,c⟩
theorem qen{H':Hp}{Q:Unit->Shared->Prop}(K:A.units+1<cLine)(I:Inv X pins σ H s)(g:DPut H a y v H')(C:RelV y u)(F:RelV v r)(h:∀s',Inv X pins σ H' s'->Q () s'):
  wpAny (model X.prog X.w) A (setItem (.ref a) u r) Q E s:=by
 rcases g with ⟨kvs,k,e,j,l,m⟩|⟨kvs,k,b,e,j,eb,l,m⟩
 .subst j m
  obtain⟨z,hd,vs,d,n⟩:=qiV I.hok e
  have p:vs.length<=sizeLine:=by rw[<-d.length];exact z
  have x:(putK kvs k v).length<=sizeLine:=by have:=zt kvs k v;lia
  refine wpAny_setItem_pairs (hsz:=p) (qbI C) n λh' f B=>h _ ?_
  have L:∃q,h'.get? a=some q:=let ⟨q,_,_,i,_⟩:=f;⟨q,i⟩
  exact qaY I (by rw[e];exact True.intro) B L (qfb x hd (d.put k F) f)
 .subst j m
  cases (show u=Value.ref b from C)
  obtain⟨z,hd,xs,d,n⟩:=qlb I.hok e
  have p:xs.length<=sizeLine:=by rw[<-Paired.length d];exact z
  have x:(putK kvs k v).length<=sizeLine:=by have:=zt kvs k v;lia
  refine wpAny_setItem_heap (hsz:=p) (tupleKind_room_in1 K) (jM I.hok eb) n λh' f B=>h _ ?_
  obtain⟨q,es,M,i,N,O,P,_,R⟩:=f
  refine qaY I (by rw[e];exact True.intro) B ⟨q,i⟩ ⟨x,hd,_,(d.put k eb F).keeps λc ys J=>?_,q,es,M,i,N,O,P,R⟩
  rw[qk (qkZ J e (λz=>nomatch z))]
  exact J
end
theorem qbL{X:Cx}{pins:List (Addr×Obj)}{d:St}{H:Hp}{s:Shared}{a:Addr}{y:V}{o:Option V}(I:Inv X pins d H s)(g:DGet H a y o):s.TypeIs (.ref a) "dict":=by
 rcases g with ⟨kvs,k,e,_,_⟩|⟨kvs,k,b,e,_,_,_⟩
 .obtain ⟨_,_,vs,_,c⟩:=qbJ I.hok e
  exact c.typeIs
 .obtain ⟨_,_,xs,_,c⟩:=qbK I.hok e
  exact c.typeIs
theorem qbM{P:Program}{w:World}{H:Hp}(h:Heap)(a:sysModules<h.objs.size):ObjOk P w H (h.push {cls:=.type "dict",data:=.dict #[]}) h.objs.size (.dK []) :=
 ⟨wh _,vB.mpr (Ne.symm (wc a)),[],.nil,Heap.DictOf.new h⟩
theorem qfc{P:Program}{w:World}{H:Hp}(h:Heap)(a:sysModules<h.objs.size):ObjOk P w H (h.push {cls:=.type "dict",data:=.dict #[]}) h.objs.size (.dT []) :=
 ⟨wh _,vB.mpr (Ne.symm (wc a)),[],.nil,_,#[],0,wF _ rfl,⟨rfl,rfl,rfl⟩,rfl,rfl,List.nodup_nil⟩
noncomputable def tDNewK:TE:=λ_ H Q=>∀p,H p=none->Q (.ref p) (upd H p (.dK []))
noncomputable def tDNewT:TE:=λ_ H Q=>∀p,H p=none->Q (.ref p) (upd H p (.dT []))
section
variable{X:Cx}{pos:Pos}
theorem qbN:PE X (.Dict [] [] pos) tDNewK:=λpins s b H Q I h =>
 wpAny_Dict_empty ⟨.ref s.heap.objs.size,_,I.laid (a:=s.heap.objs.size) (o:=.dK []) (t':=s.toks) (λ_ _ q=>wB _ q) (wK _) (qbM s.heap I.big),rfl,h _ (I.hok.fresh (wK _))⟩
theorem qfd:PE X (.Dict [] [] pos) tDNewT:=λpins s b H Q I h =>
 wpAny_Dict_empty ⟨.ref s.heap.objs.size,_,I.laid (a:=s.heap.objs.size) (o:=.dT []) (t':=s.toks) (λ_ _ q=>wB _ q) (wK _) (qfc s.heap I.big),rfl,h _ (I.hok.fresh (wK _))⟩
end
structure M2 (X:Cx) (o:Expr) (m:Str) (apos:Pos) (e f:Expr) (cpos:Pos):Prop where
 base:attributeBase o m X.env (eval o X.env)=eval o X.env
 few:((backTo cpos (starEach [e,f] X.env)).all (λx=>!x.1)&&(backToKw cpos (keywordEach [] X.env)).all (λx=>x.1.isSome)
  && decide (([e,f]:List Expr).length+([]:List Keyword).length+(if([]:List Keyword).isEmpty then 0 else 1)<30))=true
 line:(apos.endLine == cpos.line)=true
 trees:backTo cpos (starEach [e,f] X.env)=[(false,eval e X.env),(false,eval f X.env)]
def IsD(H:Hp)(a:Addr):Prop:=(∃kvs,Rd H a (.dK kvs))\/∃kvs,Rd H a (.dT kvs)
theorem qfe{X:Cx}{pins:List (Addr×Obj)}{i:St}{H:Hp}{s:Shared}{a:Addr}(I:Inv X pins i H s)(d:IsD H a):
  s.TypeIs (.ref a) "dict"/\(∀b,Value.ref a=.ref b->∃ob,s.heap.get? b=some ob/\ob.dict=none)/\(a == sysModules)=false:=by
 rcases d with ⟨kvs,e⟩|⟨kvs,e⟩
 .obtain ⟨_,hd,vs,_,c⟩:=qbJ I.hok e
  refine⟨c.typeIs,λb q=>?_,hd⟩
  cases q
  obtain⟨ob,_,_,f,h,_⟩:=c
  exact⟨ob,f,h.2.1⟩
 .obtain ⟨_,hd,xs,_,c⟩:=qbK I.hok e
  refine⟨c.typeIs,λb q=>?_,hd⟩
  cases q
  obtain⟨ob,_,_,f,h,_⟩:=c
  exact⟨ob,f,h.2.1⟩
section
variable{X:Cx}{pins:List (Addr×Obj)}{σ:St}{H:Hp}{s:Shared}{a:Addr}{y d:V}{u r:Value}{o:Option V}{A:Around}{E:Value->Shared->Prop}
theorem qjK{Q:Value->Shared->Prop}(n:A.units+1<cLine)(I:Inv X pins σ H s)(g:DGet H a y o)(j:RelV y u)(rd:RelV d r)(h:∀m s',Inv X pins σ H s'->RelV (o.getD d) m->Q m s'):
  wpAny (model X.prog X.w) A (call (.builtin "dict.get") [.ref a,u,r]) Q E s:=by
 rcases g with ⟨kvs,k,e,i,l⟩|⟨kvs,k,b,e,i,eb,l⟩
 .subst i
  obtain⟨z,hd,vs,c,f⟩:=qbJ I.hok e
  refine call_meetsIn xJ f.typeIs PySem.F.entry_dict_get (PySem.F.args_dict_get_3 _ _ _) (meets_dict_get_default (mixKind X.prog X.w) a (qbI j) hd r) ⟨_,f.mapOf,h _ _ (I.tok _) ?_⟩
  rw[l]
  exact(c.val k).getD rd
 .subst i
  cases (show u=Value.ref b from j)
  obtain⟨z,hd,xs,c,f⟩:=qbK I.hok e
  refine call_meetsIn xJ f.typeIs PySem.F.entry_dict_get (PySem.F.args_dict_get_3 _ _ _) (meetsH_dict_get_default (tupleKind (mixKind X.prog X.w)) a b hd r) ⟨tupleKind_room_in1 n,k,xs,jM I.hok eb,f,h _ _ (I.tok _) ?_⟩
  rw[l]
  exact(c.val k).getD rd
end
noncomputable def tDGet2(d ty tx:TE):TE:=λb H Q=>d b H λx c=>∃a,x=.ref a/\IsD c a/\ty b c λy H2=>tx b H2 λz H3=>∃o,DGet H3 a y o/\Q (o.getD z) H3
section
variable{X:Cx}{o e f:Expr}{apos cpos:Pos}{td ty tx:TE}
theorem qff(j:X.A.units+1<cLine)(l:PE X o td)(n:PE X e ty)(p:PE X f tx)(m:M2 X o "get" apos e f cpos):PE X (.Call (.Attribute o "get" apos) [e,f] [] cpos) (tDGet2 td ty tx):=by
 intro pins s b H Q I h
 refine wpAny_Call_method m.base m.few m.line PySem.F.plainAttrs_dict xJ PySem.F.type_dict_get (thn (l pins s b H _ I h) λu s1 ⟨x,q,i,rx,a,ex,d,q1⟩=>?_)
 subst ex
 obtain rfl:u=Value.ref a:=rx
 obtain⟨t1,t2,_⟩:=qfe i d
 refine⟨t1,t2,?_⟩
 rw[m.trees]
 refine Calls.callWith_builtin rfl (Calls.evalArgs_plain (vU (thn (n pins s1 b q _ i q1) λJ s2 ⟨y,H2,r,v,q2⟩ =>
  vU (thn (p pins s2 b H2 _ r q2) λK L ⟨z,H3,w,B,M,g,C⟩=>uI ?_))))
 exact qjK j w g v B λN O E c=>⟨_,H3,E,c,C⟩
end
end L2
namespace Att
open PySem PySem.W PySem.Calls PyProof.Rows
theorem jA{P:Params}{h:Heap}:∀(ns:List Int) (vs:List Value),WellAll P h vs (ns.map WData.int)->IntsAre vs ns:=by
 intro ns
 induction ns with
 |nil =>
  intro vs w
  rw[xK]at w
  cases w
  exact .nil
 |cons n ns c =>
  intro vs w
  rw[wI]at w
  cases w with
  |cons a b =>
   cases a
   exact .cons _ _ (c _ b)
theorem qeo{l:OpenLaw}{n:Nat}(hn:l.most=some n){P:Params}{h:Heap}{args:List WData}{b:List Value}(c:l.row.toRowW.claim.pre args=true)(m:WellAll P h b args):
  ∃a vs ns,b=[Value.ref a]/\args=[WData.list (ns.map WData.int)]/\h.get? a=some {cls:=.type "list",data:=.seq vs.toArray}/\IntsAre vs ns/\ns.length<=n:=by
 have o:WShape.hasAll [] args [.list .int]=true:=(pre_splitW c).1
 have p:l.pre.holds [] {args:=args}=true:=(pre_splitW c).2
 obtain⟨d,r,rfl,s,u⟩:=hasAllW_cons o
 obtain rfl:=hasAllW_nil u
 obtain⟨xs,rfl,v⟩:=hasW_list s
 obtain⟨ns,rfl⟩:=items_int v
 have e:ns.length<=n:=by
  unfold OpenLaw.pre at p
  have i:(WTm.not (.lt (.lit (.int (n:Int))) (.len (.arg 0)))).holds [] {args:=[.list (ns.map .int)]}=true:=by
   have i:=(holds_andW p).1
   rw[hn]at i
   exact i
  have j:=condW_of i (w_not (w_lt w_lit (w_len_list (w_arg rfl))))
  rw[wG]at j
  refine Nat.le_of_not_lt λq=>?_
  have w:(n:Int)<((ns.length:Nat):Int):=by omega
  first
   | (rw[vK w]at j;exact absurd j (by decide))
   | (simp at j;omega)
 cases m with
 |cons x y =>
  cases y
  cases x with
  |list z f=>exact⟨_,_,ns,rfl,rfl,z,jA ns _ f,e⟩
theorem qep(l:OpenLaw)(args:List WData):l.row.toRowW.claim.post args (.bool true) args=true :=
 postW_of (r:=l.row.toRowW) (X:=(true == true))
  (show WShape.has [] (.bool true) .bool=true by first|rfl|decide|simp[WShape.has,WShape.arms,WShape.armsAll])
  (show(WTm.eq .res (.lit (.bool true))).value [] {args:=args,res:=some (.bool true),after:=args}=some (.bool (true == true))from w_eq_bool (w_res rfl) w_lit) rfl
theorem attach_call{l:OpenLaw}{n:Nat}{q:Program}{c:List Str}{y:(Str->Option Value)->Heap->Prop}{z:World->Heap->Prop}{d:DefRec}(hn:l.most=some n)(s:d.params.defaults=[])(call:∀(w:World) (s₀ b:Shared) (mg mb:Str->Option Value) (h:Addr) (o:Obj) (pm p doc:Value) (a:Addr) (vs:List Value) (ns:List Int),
   Ground q c [] y w s₀ mg mb b.heap->z w b.heap ->
   b.heap.get? h=some o->o.data=.func (docDef d.name d.params d.body d.scope pm p doc)->b.heap.CodeRec p d.name->mg d.name=some (.ref h) ->
   b.heap.get? a=some {cls:=.type "list",data:=.seq vs.toArray}->IntsAre vs ns->ns.length<=n->b.gens=#[] ->
   codeAny (model l.prog w) callerA (.call (.ref h) ⟨[.ref a],[]⟩) (λr s'=>r=.ok (.ret (.bool true))/\OldK b.heap s'.heap/\s'.os=b.os/\AllBare s'.gens) b):
  WalkO q c y z l.row.toRowW d [] (λf vs=>PySem.call f vs):=by
 intro w s₀ b mg mb G Y h o pm p doc E kV F hd u A v H args B O i C I x J
 obtain rfl:E=.none:=Dflts.none A s
 obtain rfl:kV=.none:=Dflts.noKw A
 obtain⟨a,vs,ns,rfl,rfl,j,e,m⟩:=qeo hn i x
 refine enter_call (xI (call w s₀ b mg mb h o pm p doc a vs ns G Y F (fd_plain hd) u v j e m H) λr s' K=>?_)
 obtain⟨rfl,L,M,N⟩:=K
 exact⟨.inl ⟨.bool true,.bool true,[],rfl,λ_=>rfl,.bool true,qep l _,λ_=>⟨List.Pairwise.nil,λ_ hm=>(nomatch hm)⟩⟩,L,M,N⟩
end Att
namespace L2
open PySem PySem.Spec PyProof.Rows
theorem qaG:∀{vs:List Value} {ns:List Int},IntsAre vs ns->Vals (ns.map V.int) vs
 |_,_,.nil=>.nil
 |_,_,.cons n t h=>.cons ⟨t,rfl⟩ (qaG h)
end L2
namespace L2
open PySem PySem.Spec PyProof.Rows
noncomputable def defArgs(s:Stmt):Arguments:=match s with
 | .FunctionDef _ a _ _ _ _ _ _ _ _=>a
 |_=>{posonlyargs:=[],args:=[],vararg:=none,kwonlyargs:=[],kw_defaults:=[],kwarg:=none,defaults:=[]}
noncomputable def defBody(s:Stmt):List Stmt:=match s with
 | .FunctionDef _ _ b _ _ _ _ _ _ _=>b
 |_=>[]
noncomputable def defScope(s:Stmt):Scope:=match s with
 | .FunctionDef _ _ _ _ _ _ sc _ _ _=>sc
 |_=>{kind:=.function,names:=[],isGenerator:=false,isCoroutine:=false}
noncomputable abbrev CX0:CXT:=λ_ _ _ _ _ _=>False
noncomputable abbrev E0:XK:=λ_ _ _=>False
theorem pass0{X:Cx}:Passes CX0 X E0:=λ_ _ _ _ _ _ _ h=>h.elim
theorem qbO{A:Around}{k:Nat}(a:Room k A):A.units+1<cLine:=Nat.lt_of_le_of_lt (Nat.add_le_add_left (by decide:1<=64) _) a.units
end L2
namespace HT
open PySem PySem.Spec PyProof.Rows
section
variable{prog:Program}{w:World}{A:Around}{E:Value->Shared->Prop}{s:Shared}
theorem qaw{t:Addr}{items:Array Value}{Q:Bool->Shared->Prop}(a:IsTup s.heap t items)(h:Q true s):wpAny (model prog w) A (Builtin.Tuple.tupleIsExact (.ref t)) Q E s:=by
 unfold Builtin.Tuple.tupleIsExact
 refine wA (uV a.typeIs ?_)
 exact wD h
theorem yE{t sl:Addr}{items:Array Value}{f i:Value}{lo hi:Option Int}{Q:Value->Shared->Prop}(a:IsTup s.heap t items)(j:s.heap.IsSliceOf sl f i .none)(pl:IsPart f lo)(m:IsPart i hi)(l:sIx items.size 0 lo=0/\sIx items.size items.size hi=items.size)(h:Q (.ref t) s):wpAny (model prog w) A (getItem (.ref t) (.ref sl)) Q E s:=by
 obtain⟨os,c,d,n⟩:=id j
 have e:s.TypeIs (.ref sl) "slice":=⟨os,c,d⟩
 unfold getItem
 try with_reducible refine wv ?_
 first|refine wA (wD ?_)|skip
 refine wA (wpAny_sequenceKey a.typeIs (by decide) ?_)
 refine wA (wq (name:=Str.ofString "__getitem__") a.typeIs vG
  (wz vG a.typeIs entry_tuple_getitem ?_ (args_tuple_getitem _ _)))
 show wpAny _ _ (Builtin.Tuple.tupleItemsOf (.ref t) >>= _) _ _ s
 refine wA (tupleItemsOf_ a ?_)
 refine wA (uV e ?_)
 rw[wM (by decide)]
 refine wA (zJ j pl m ?_)
 have b:(((sIx items.size 0 lo:Nat):Int) == 0&&(1:Int) == 1&&(sIx items.size items.size hi-sIx items.size 0 lo) == items.size)=true:=by
  rw[l.1,l.2];simp
 show wpAny _ _ (if(((sIx items.size 0 lo:Nat):Int) == 0&&(1:Int) == 1&&(sIx items.size items.size hi-sIx items.size 0 lo) == items.size)=true then _ else _) _ _ s
 rw[wM b]
 refine wA (qaw a ?_)
 rw[wM rfl]
 refine wA (uE ?_)
 exact wA (wD (wD ⟨_,rfl,wD h⟩))
end
end HT
namespace HT
open PySem PySem.Spec PyProof.Rows
theorem jd:fillsNumberSlot (.type "tuple") "mul"=pure false :=
 PySem.fillsNumberSlot_seq (id:="tuple.__mul__") (r:=some (.builtin "tuple.__rmul__")) F.slot_tuple_mul.lookup (by decide +kernel) F.slot_tuple_rmul.lookup (by decide +kernel)
theorem qaZ:seqRepeat? (.type "tuple")=pure (some (.builtin "tuple.__mul__")):=by
 unfold seqRepeat?
 rw[PySem.seqSlot_of (T:="tuple") (name:="__mul__") (id:="tuple.__mul__") F.slot_tuple_mul.lookup (by decide +kernel),PySem.seqSlot_of (T:="tuple") (name:="__rmul__") (id:="tuple.__rmul__") F.slot_tuple_rmul.lookup (by decide +kernel)]
 rfl
section
variable{prog:Program}{w:World}{A:Around}{E:Value->Shared->Prop}{s:Shared}
theorem qfg{a:Int}{t:Tok}{l:Addr}{items:Array Value}{Q:_->Shared->Prop}(b:IsTup s.heap l items)(h:Q (.done (.ret Value.notImplemented)) s):wpAny (model prog w) A (Builtin.«int.__rmul__» ⟨[.int a t,.ref l],[]⟩) Q E s:=by
 obtain⟨o,f,e,n,hd⟩:=b
 obtain⟨i,g,d,tk,os⟩:=s
 obtain⟨c,j,m,sl⟩:=o
 cases e
 cases hd
 wp_walk
 exact h
theorem qhK{l:Addr}{items:Array Value}{k:Int}{t:Tok}{Q:_->Shared->Prop}(p:IsTup s.heap l items)(H:-(2^63)<=k)(I:k<2^63)(r:items.size*k.toNat<=sizeLine)(u:(items=#[]\/k=1)->Q (.done (.ret (.ref l))) s)(hn:(¬(items=#[]\/k=1))->Q (.done (.ret (.ref s.heap.objs.size))) {s with heap:=s.heap.push {cls:=.type "tuple",data:=.seq ((List.replicate k.toNat items.toList).flatten).toArray}}):
  wpAny (model prog w) A (Builtin.«tuple.__mul__» ⟨[.ref l,.int k t],[]⟩) Q E s:=by
 obtain⟨o,J,v,n,hd⟩:=p
 obtain⟨K,g,d,tk,os⟩:=s
 obtain⟨c,L,M,sl⟩:=o
 cases v
 cases hd
 have b:(decide (k < -(2^63)) || decide (k>=2^63))=false:=by simp;lia
 by_cases z:items=#[]\/k=1
 .have f:(items.isEmpty || k == 1)=true:=by
   rcases z with z|z
   .rw [z];rfl
   .rw [z];simp
  wp_walk
  rw[wO (by rw[b];exact wU)]
  wp_walk
  exact u z
 .have f:(items.isEmpty || k == 1)=false:=by
   simp only[Bool.or_eq_false_iff,vB]
   exact⟨by rw[<-Bool.not_eq_true];intro q;exact z (.inl (by simpa using q)),λq=>z (.inr q)⟩
  wp_walk
  rw[wO (by rw[b];exact wU)]
  wp_walk
  have ne:items.isEmpty=false:=(Bool.or_eq_false_iff.mp f).1
  by_cases h:k<=0
  .have a:(decide (k<=0) || items.isEmpty)=true:=by rw[vK h];rfl
   rw[wM a]
   wp_walk
   have e:k.toNat=0:=by lia
   have:=hn z
   rw[e]at this
   exact this
  .have a:(decide (k<=0) || items.isEmpty)=false:=by rw[wt h,ne];rfl
   rw[wO (by rw[a];exact wU)]
   have i:(items.size:Int)*k=((items.size*k.toNat:Nat):Int):=by
    rw[Int.natCast_mul];congr 1;lia
   have x:¬((items.size:Int)*k>(2^63-1) / 8):=by
    rw[i]
    have:((sizeLine:Nat):Int)<=(2^63-1) / 8:=by decide
    lia
   have y:Builtin.Tuple.tupleTooMany ((items.size:Int)*k)=false:=by
    unfold Builtin.Tuple.tupleTooMany
    rw[i,wt]
    lia
   have B:List.foldl (λC F=>C++F) #[] (List.replicate k.toNat items)=(List.replicate k.toNat items.toList).flatten.toArray:=by
    have:=L2.jc items.toList k.toNat []
    rw[List.nil_append]at this
    simpa using this
   rw[wO x]
   wp_walk
   rw[B]
   rw[wO (by rw[y];exact wU)]
   have j:sizeOk (.seq (List.replicate k.toNat items.toList).flatten.toArray):=by
    show(List.replicate k.toNat items.toList).flatten.toArray.size<=sizeLine
    rw[wL,L2.qaX,vb,Nat.mul_comm]
    exact r
   show wpAny _ _ (Builtin.Tuple.tupleExact _ >>= _) _ _ _
   first
    |exact wA (m:=Builtin.Tuple.tupleExact _) (w9 (wD (hn z)) j)
    |exact wA (m:=Builtin.Tuple.tupleExact _) (w9 (hn z) j)
end
end HT
namespace L2
open PySem PySem.Spec PyProof.Rows
section
variable{X:Cx}
def rSlW(K:PySem.W.Frag):V->Option Int->Option Int->Hp->VK->Prop:=λx lo hi H Q=>∃a xs,x=.ref a/\SqT K H a xs /\
 (HT.sIx xs.length 0 lo=0/\HT.sIx xs.length xs.length hi=xs.length)/\Q x H
theorem qhL:SlR X (rSlW X.K):=by
 intro pins s j H x v l m lo hi sl Q I rx d pl e h
 obtain⟨a,xs,rfl,f,i,q⟩:=h
 cases rx
 obtain⟨its,r,c,n⟩:=I.tuple f
 have b:its.toArray.size=xs.length:=by rw[wL];exact r.length.symm
 refine⟨"tuple",_,vG.lookup,c.typeIs,?_⟩
 exact HT.yE c d pl e (by rw[b];exact i) ⟨.ref a,H,I,rfl,q⟩
noncomputable def rRepT(K:PySem.W.Frag):R2:=λx y H Q=>∃a k xs,x=.ref a/\y=.int k/\SqT K H a xs/\-(2^63)<=k/\k<2^63/\xs.length*k.toNat<=sizeLine /\
 ((xs=[]\/k=1)->Q x H)/\((¬(xs=[]\/k=1))->∀p,H p=none->Q (.ref p) (upd H p (.tup (List.replicate k.toNat xs).flatten)))
theorem qhM:OpR X (binaryOp .Mult) (rRepT X.K):=by
 intro pins s p H x y v u Q I rx i h
 obtain⟨a,k,xs,rfl,rfl,j,l,m,f,q1,q2⟩:=h
 cases rx
 obtain⟨t,rfl⟩:=i
 obtain⟨its,r,e,n⟩:=I.tuple j
 have c:its.length=xs.length:=r.length.symm
 have d:(its.toArray=#[]\/k=1) ↔ (xs=[]\/k=1):=by
  constructor
  .rintro (z|z)
   .left
    have:its=[]:=by simpa using z
    rw[this]at c;exact wa.mp (by simpa using c.symm)
   .exact .inr z
  .rintro (z|z)
   .left
    rw[z]at c
    have:its=[]:=wa.mp (by simpa using c)
    rw[this]
   .exact .inr z
 refine wpAny_binaryOp_repeat_ref (T:="tuple") (U:="int") (by decide) e.typeIs (λs'=>u9 s' k t) HT.jd F.fills_int_mul xP HT.qaZ F.slot_int_index.lookup ?_
 refine wz xP (u9 s k t) F.entry_int_rmul (HT.qfg e ⟨_,rfl,rfl,e.typeIs,?_⟩) (F.args_int_rmul_2 _ _)
 refine wz F.slot_tuple_mul e.typeIs F.entry_tuple_mul (HT.qhK e l m (by rw[wL,c];exact f) (λz=>⟨_,rfl,.ref a,H,I,rfl,q1 (d.mp z)⟩) λz=>⟨_,rfl,?_⟩) (F.args_tuple_mul_2 _ _)
 refine⟨.ref s.heap.objs.size,_,I.laid (t':=s.toks) (o:=.tup (List.replicate k.toNat xs).flatten) (λb ob q=>wB _ q) (wK _) ?_,rfl,q2 (λy=>z (d.mpr y)) _ (I.hok.fresh (wK _))⟩
 exact⟨by rw[qaX,Nat.mul_comm];exact f,_,r.rep k.toNat,IsTup.new _ _,yw _ _⟩
end
end L2
namespace HT
open PySem PyProof.Rows
theorem qfh(A:Around)(s:Shared)(a:Int)(t:Tok)(c:Int)(u:Tok)(prog:Program)(w:World)(E:Value->Shared->Prop)(Q:Value->Shared->Prop)(h:Q (.bool (decide (c<=a))) s):
  wpAny (model prog w) A (richCompare .GtE (.int a t) (.int c u)) Q E s :=
 (PyProof.Rows.ge_int h:wpAny (model prog w) A (compareOp .GtE (.int a t) (.int c u)) Q E s)
theorem qfi(a c:Int):(!decide (a<c))=decide (c<=a):=by rw[vP];simp
theorem qfj(a c:Nat):(!decide (a<c))=decide (c<=a):=by rw[vP];simp
section
open PySem.SeqAt
open PySem.AutoSeq1 (wpAny_loadPart')
open PySem.MeetsSeq PySem.MeetsSeq2 PySem.MeetsSeq3
theorem qax(l b:Addr)(items f:Array Value)(n P:Nat)(Q J:Option Addr)(sl K:Array (Option Value))(ns F:List Int)(hi:IntsAre items.toList ns)(N:IntsAre f.toList F):
  Meets (Builtin.«tuple.__ge__» ⟨[.ref l,.ref b],[]⟩)
   (λ_ R s=>s.heap.get? l=some {cls:=.type "tuple",dict:=Q,data:=.seq items n,slots:=sl}/\s.heap.get? b=some {cls:=.type "tuple",dict:=J,data:=.seq f P,slots:=K} /\
    R (.ok (.ret (.bool (!lexLt ns F)))) s) :=
 .of_wp λprog w A R s h=>by
  obtain⟨H,g,d,tk,os⟩:=s;obtain⟨S,U,h⟩:=h
  have Z:=AutoSeq1.sub_tuple_tuple
  have z1:items.size=ns.length:=by rw[<-hi.length];simp
  have z2:f.size=F.length:=by rw[<-N.length];simp
  wp_walk using wpAny_loadPart' S,wpAny_loadPart' U,wpAny_forIn_list _ (λrest b s'=>b.1=none/\s'=⟨H,g,d,tk,os⟩/\∃(vs I:List Value) (j m:List Int),rest=vs.zip I /\
   IntsAre vs j/\IntsAre I m/\j.length+f.size=m.length+items.size/\R (.ok (.ret (.bool (!lexLt j m)))) ⟨H,g,d,tk,os⟩) _
  case turn =>
   rintro⟨y,x⟩ rest b s' ⟨z,rfl,vs,I,j,m,o,B,p,i,r⟩
   cases B with
   |nil=>rw[List.zip_nil_left]at o;cases o
   |cons a t C =>
    cases p with
    |nil=>rw[List.zip_nil_right]at o;cases o
    |cons c u E =>
     rw[vw]at o
     injection o with L hrest
     injection L with W hx
     subst W hx
     rw[za]at r
     simp only[w4]at i
     obtain⟨e,X,v⟩:=qbG A.in1 ⟨H,g,d,tk,os⟩ a t c u
     refine wA (X prog w _ _ ?_)
     cases e with
     |true =>
      rw[wM (v.mp rfl)]at r
      wp_walk
      exact⟨rfl,rfl,_,_,_,_,hrest,C,E,by lia,r⟩
     |false =>
      rw[wO (λq=>absurd (v.mpr q) wU)]at r
      have M:=qfh A.in1 ⟨H,g,d,tk,os⟩ a t c u prog w
      rw[qfi]at r
      wp_walk using M
      exact⟨_,rfl,by simpa using r⟩
  case fin =>
   rintro⟨b1,b2⟩ s' ⟨z,rfl,vs,I,j,m,o,B,p,i,r⟩
   simp only at z
   subst z
   have O:lexLt j m=decide (items.size<f.size):=by
    cases B with
    |nil =>
     cases p with
     |nil =>
      simp only[vN]at i
      rw[yF]
      exact(wt (by lia)).symm
     |cons c u Y =>
      simp only[vN,w4]at i
      rw[yd]
      exact(vK (by lia)).symm
    |cons a t O =>
     cases p with
     |nil =>
      simp only[vN,w4]at i
      rw[ye]
      exact(wt (by lia)).symm
     |cons c u Y =>
      rw[vw]at o
      cases o
   rw[O,qfj]at r
   wp_walk
   exact⟨_,rfl,by simpa[Builtin.Tuple.tupleCompareSizes]using r⟩
  case h =>
   exact⟨rfl,rfl,items.toList,f.toList,ns,F,rfl,hi,N,by lia,h⟩
end
section
variable{prog:Program}{w:World}{A:Around}{E:Value->Shared->Prop}{s:Shared}
theorem qcD{l b:Addr}{items a:Array Value}{ns c:List Int}{Q:Value->Shared->Prop}(r:IsTup s.heap l items)(u:IsTup s.heap b a)(hi:IntsAre items.toList ns)(v:IntsAre a.toList c)(y:A.units<cLine)(h:Q (.bool (!lexLt ns c)) s):wpAny (model prog w) A (compareOp .GtE (.ref l) (.ref b)) Q E s:=by
 obtain⟨⟨cls,z,data,sl⟩,o,p,n,hd⟩:=id r
 obtain⟨⟨q,i,j,m⟩,d,e,B,f⟩:=id u
 simp only at p hd e f
 subst p hd e f
 exact richCompare_meets_room (op:=.GtE) ⟨_,o,rfl⟩ ⟨_,d,rfl⟩ PySem.F.slot_tuple_ge PySem.F.entry_tuple_ge (PySem.F.args_tuple_ge_2 _ _) (qax l b items a n B z i sl m ns c hi v)
  ⟨o,d,show Value.bool (!lexLt ns c)≠Value.notImplemented/\Q (.bool (!lexLt ns c)) s from⟨(λx=>nomatch x),h⟩⟩ y
end
end HT
namespace L2
open PySem PySem.Spec PyProof.Rows
section
variable{X:Cx}{e:Expr}{te:TE}{pos p2 p3 p4:Pos}
noncomputable def rGeT(K:PySem.W.Frag):R2:=λx y H Q=>∃a b ns c,x=.ref a/\y=.ref b/\SqT K H a (ns.map V.int)/\SqT K H b (c.map V.int)/\Q (.bl (!HT.lexLt ns c)) H
theorem qjL(f:X.A.units<cLine):OpR X (compareOp .GtE) (rGeT X.K):=by
 intro pins s o H x y v u Q I rx i h
 obtain⟨a,b,ns,d,rfl,rfl,ha,j,q⟩:=h
 cases rx
 cases i
 obtain⟨its,l,m,_⟩:=I.tuple ha
 obtain⟨c,n,p2,_⟩:=I.tuple j
 have i1:IntsAre its.toArray.toList ns:=zb l
 have i2:IntsAre c.toArray.toList d:=zb n
 exact HT.qcD m p2 i1 i2 f ⟨.bl (!HT.lexLt ns d),H,I,rfl,q⟩
end
end L2
namespace HT
open PySem PyProof.Rows
section
variable{prog:Program}{w:World}{A:Around}{E:Value->Shared->Prop}{s:Shared}
def Many(h:Heap)(d:Addr)(n:Nat):Prop:=∃o es a,h.get? d=some o/\o.data=.dict es a/\es.size=n
theorem qcE{d:Addr}{n:Nat}(hd:(d == sysModules)=false):
  MeetsIn prog w (Builtin.«dict.__len__» ⟨[.ref d],[]⟩) (λ_ R s=>Many s.heap d n/\R (.ok (.ret (.int n s.toks))) {s with toks:=s.toks+1}):=by
 refine .of_wp λA R s b=>?_
 obtain⟨⟨o,es,f,c,a,rfl⟩,h⟩:=b
 have size:∀{A:Around} {E:Value->Shared->Prop},wpAny (model prog w) A (dictSize d) (λk s'=>k=es.size/\s'=s) E s:=by
  intro A E;unfold dictSize;exact wA (uq c a (wD ⟨rfl,rfl⟩))
 refine wA (m:=dictSize d) (vQ size (λk s' ks=>?_) λ_ _ z=>z)
 obtain⟨e1,e⟩:=ks
 subst e1 e
 exact wA (wpAny_pendingCount_other hd (wpAny_ret_mkInt h))
theorem qeq{d:Addr}{n:Nat}{Q:Value->Shared->Prop}(hd:(d == sysModules)=false)(hm:Many s.heap d n)(b:s.TypeIs (.ref d) "dict")(c:(n:Int)<2^63)(h:Q (.int n (s.toks+1)) {s with toks:=s.toks+1+1}):wpAny (model prog w) A (call (.builtin "len") [.ref d]) Q E s:=by
 have low:¬((n:Nat):Int)<0:=by lia
 have a:¬((n:Nat):Int)>=2^63:=by lia
 have slot:∀{A:Around} {Q:Value->Shared->Prop},Q (.int n s.toks) {s with toks:=s.toks+1}->wpAny (model prog w) A (call (.builtin "dict.__len__") [.ref d]) Q E s:=λq =>
  call_meetsIn F.slot_dict_len b F.entry_dict_len (F.args_dict_len_1 _) (qcE (n:=n) hd) ⟨hm,q⟩
 refine Calls.call_function_entry kind_len plain_len entry_len (args_len1 _) ?_
 unfold Builtin.«len»
 refine wA (m:=oneArg "len" _) (wD (wA (wq (name:=Str.ofString "__len__") b F.slot_dict_len (slot ?_))))
 refine wA (wv (wD (wA (ub ?_))))
 show wpAny _ _ (if((n:Nat):Int)<0 then _ else if((n:Nat):Int)>=2^63 then _ else _) _ _ _
 rw[wO low,wO a];exact wA (wpAny_mkInt (wD ⟨_,rfl,h⟩))
end
end HT
namespace L2
open PySem PySem.Spec PyProof.Rows
section
variable{X:Cx}
theorem qer:CallR X (.builtin "len") (λxs H Q=>∃a kvs,xs=[V.ref a]/\H a=some (.dT kvs)/\Q (.int kvs.length) H):=by
 intro pins s l H xs us Q I r h
 obtain⟨a,kvs,rfl,ha,q⟩:=h
 obtain⟨u,rfl,d⟩:=vals1 r
 cases d
 obtain⟨z,y,ys,c,o,es,e,f,m,i,j,n⟩:=(show ObjOk X.prog X.w H s.heap a (.dT kvs)from I.hok a _ ha)
 have hn:es.size=kvs.length:=by
  have e1:=congrArg List.length j
  rw[wG,vb]at e1
  rw[e1,c.length]
 have b:((kvs.length:Nat):Int)<2^63:=by rw[vL]at z;lia
 exact HT.qeq y ⟨o,es,e,f,i,hn⟩ (qfe I (.inr ⟨kvs,.inl ha⟩)).1 b ⟨.int kvs.length,H,I.tok _,⟨_,rfl⟩,q⟩
end
end L2
namespace R
open PySem PySem.Spec L2
open PyProof.Rows hiding St
namespace DN
theorem jN:mroOf (.type "dict")=pure [.type "dict",.type "object"]:=by rw[mroOf_type];kernel_rfl
theorem qcF:typeLookup (.type "dict") "__new__"=pure (some (.builtin "dict.__new__")):=by rw[typeLookup_type,builtinLookup_eq_fast];kernel_rfl
theorem called:TypeCalled "dict" "dict.__new__" "dict.__init__":=⟨by decide +kernel,by decide +kernel,⟨_,_,jN⟩,madeBy_type jN qcF (by decide +kernel),by decide +kernel,by rw[isSubtype_type];kernel_rfl,F.slot_dict_init⟩
theorem typeCall1(a:Value):checkTypeCall "dict" ⟨[a],[]⟩=pure ():=by kernel_rfl
theorem newCall1(a:Value):checkBuiltinCall "dict.__new__" ⟨[.type "dict",a],[]⟩=pure ():=by kernel_rfl
theorem qes:entryFor table "dict.__new__"=some Builtin.«dict.__new__»:=entryFor_of_tree (by kernel_rfl)
theorem qaH:plainId "dict.__new__"=true:=by decide +kernel
theorem jO:entryFor table "dict.update.loop"=some Builtin.«dict.update.loop»:=entryFor_of_tree (by kernel_rfl)
theorem zR:plainId "dict.update.loop"=true:=by decide +kernel
theorem sub_self:isSubtype (.type "dict") (.type "dict")=pure true:=by rw[isSubtype_type];kernel_rfl
theorem qet:typeLookup (.type "tuple") "keys"=pure none:=am_miss_of_fast (by decide +kernel)
section
variable{prog:Program}{w:World}{A:Around}{E:Value->Shared->Prop}{s:Shared}
theorem qfk(a:Value){Q₁:Value->Shared->Prop}(h:Q₁ (.ref s.heap.objs.size) {s with heap:=s.heap.push {cls:=.type "dict",data:=.dict #[]}}):
  codeAny (model prog w) A (.call (.builtin "dict.__new__") ⟨[.type "dict",a],[]⟩) (wants Q₁ E) s:=by
 refine xH ?_
 show wpAny _ A.in1 (do checkBuiltinCall "dict.__new__" ⟨[.type "dict",a],[]⟩;again (.builtin "dict.__new__" ⟨[.type "dict",a],[]⟩)) _ _ s
 refine wA (ua (newCall1 a) (wD ⟨vA qaH _,wx qes ?_⟩))
 rw[wg qaH _]
 unfold Builtin.«dict.__new__»
 have b:=sub_self
 have hm:=jN
 obtain⟨c,g,d,tk,os⟩:=s
 dsimp only
 wp_walk
 exact h
theorem qhN{a:Addr}{o:Obj}{xs:Array Value}{k:Nat}{Q:Option Value->Shared->Prop}(j:s.heap.get? a=some o)(l:o.cls=.type "tuple")(b:o.data=.seq xs k)(hd:o.dict=none)(n:A.handled=none)(h:∀h' tk e,Heap.NewExcOf s.heap h' e "AttributeError"->Q none {s with heap:=h',toks:=tk}):
  wpAny (model prog w) A (getAttr? (.ref a) "keys") Q E s:=by
 obtain⟨c,p,q,sl⟩:=o
 simp only at l b hd
 subst l b hd
 obtain⟨r,g,d,tk,os⟩:=s
 have m:∀f,(⟨r,g,d,f,os⟩:Shared).TypeIs (.ref a) "tuple":=λ_=>⟨_,j,rfl⟩
 have u:=sub_AttributeError
 have v:=uo.lookup
 have x:=uo.bind (.ref a)
 have y:=am_tuple_getattr_none
 unfold getAttr? getAttrBy? getAttrBy
 repeat (any_goals (first|assumption|exact m _|((with_reducible show wpAny _ _ (call (Value.builtin "tuple.__getattribute__") _ _) _ _ _);refine xS uo (m _) am_entry_tuple_getattribute (F.args_tuple_getattribute_2 _ _) (meets_getattribute_miss_tuple a xs k sl "keys" _ qet (by decide +kernel) (by size_fits)) ⟨j,n,λh' f e i=>?_⟩)|wp_step))
 obtain⟨t',z,B⟩:=i.there
 show wpAny _ _ (getattributeRaised _ _ _ _ _ _ _) _ _ _
 unfold getattributeRaised
 repeat (any_goals (first|assumption|wp_step))
 exact h _ _ _ i.of
theorem qcG{K:Type}[DecidableEq K]{P:K->Addr->Prop}{xs:List (K×Addr×Value)}{k:K}{a:Addr}{v:Value}(h:∀x∈xs,P x.1 x.2.1)(d:P k a):∀x∈storedH xs k a v,P x.1 x.2.1:=by
 intro x b
 unfold storedH at b
 split at b
 .obtain ⟨y,c,rfl⟩:=wX.mp b
  unfold putAt
  split
  .exact h y c
  .exact h y c
 .rcases wu.mp b with z|z
  .exact h x z
  .simp at z;subst z;exact d
noncomputable abbrev Kp(h0 h:Heap):Prop:=∀b o,h0.get? b=some o->h.get? b=some o
noncomputable def dOf{K:Type}[DecidableEq K](its:List (K×Addr×Value)):List (K×Addr×Value):=its.foldl (λxs p=>storedH xs p.1 p.2.1 p.2.2) []
theorem qfl{K:Type}[DecidableEq K](its:List (K×Addr×Value))(p:K×Addr×Value):dOf (its++[p])=storedH (dOf its) p.1 p.2.1 p.2.2:=by unfold dOf;rw[List.foldl_append];rfl
theorem qdh{K:Type}[DecidableEq K]{P:K->Addr->Prop}:∀(its xs:List (K×Addr×Value)),(∀x∈its,P x.1 x.2.1)->(∀x∈xs,P x.1 x.2.1)->∀x∈its.foldl (λxs p=>storedH xs p.1 p.2.1 p.2.2) xs,P x.1 x.2.1
 |[],xs,_,h=>h
 |p::r,xs,h1,h=>qdh r _ (λx a=>h1 x (wH _ a)) (qcG h (h1 p wE))
theorem qcH{K:Type}[DecidableEq K](xs:List (K×Addr×Value))(k:K)(a:Addr)(v:Value):(storedH xs k a v).length<=xs.length+1:=by
 unfold storedH
 split <;> simp
theorem qhO{K:Type}[DecidableEq K](its:List (K×Addr×Value)):(dOf its).length<=its.length:=by
 have a:∀(its xs:List (K×Addr×Value)),(its.foldl (λxs p=>storedH xs p.1 p.2.1 p.2.2) xs).length<=xs.length+its.length:=by
  intro its
  induction its with
  |nil=>intro xs;simp
  |cons p r b =>
   intro xs
   have:=b (storedH xs p.1 p.2.1 p.2.2)
   have:=qcH xs p.1 p.2.1 p.2.2
   rw[vT,w4];lia
 have:=a its []
 rw[vN,Nat.zero_add]at this
 exact this
variable{K:Type}[DecidableEq K]{knd:HeapKind prog w K}
noncomputable def Raw(knd:HeapKind prog w K)(h:Heap)(d:Addr)(xs:List (K×Addr×Value)):Prop :=
 ∃o es a,h.get? d=some o/\o.ExactDict/\o.data=.dict es a/\es.toList=xs.map (entryOfKey knd)/\(xs.map (·.1)).Nodup
theorem Raw.full{h:Heap}{d:Addr}{xs:List (K×Addr×Value)}(r:Raw knd h d xs)(a:∀x∈xs,knd.is h x.1 x.2.1):h.DictOfH knd d xs :=
 let ⟨o,es,b,c,e,f,i,j⟩:=r;⟨o,es,b,c,e,f,i,a,j⟩
theorem Raw.of{h:Heap}{d:Addr}{xs:List (K×Addr×Value)}(r:h.DictOfH knd d xs):Raw knd h d xs :=
 let ⟨o,es,a,b,c,e,f,_,i⟩:=r;⟨o,es,a,b,c,e,f,i⟩
theorem Raw.stay{h h':Heap}{d:Addr}{xs:List (K×Addr×Value)}(r:Raw knd h d xs)(k:∀o,h.get? d=some o->h'.get? d=some o):Raw knd h' d xs :=
 let ⟨o,es,a,b,c⟩:=r;⟨o,es,a,k o b,c⟩
theorem loop{h0:Heap}{R:Result->Shared->Prop}{d I t:Addr}{items:Array Value}{its:List (K×Addr×Value)}(hh:A.in1.handled=none)(hu:knd.room A.in1)(J:t≠I)(m:d≠I)(L:d≠t)(M:h0.get? d=none)(u:h0.get? I=none)(hl:its.length=items.size)(hz:items.size<=sizeLine)(hv:∀(i:Nat) (p:K×Addr×Value),its[i]?=some p->∃b,items[i]?=some (.ref b)/\h0.IsTuple b #[.ref p.2.1,p.2.2])(hk:∀p∈its,∀h,Kp h0 h->knd.is h p.1 p.2.1){tk:Tok}:
  ∀(k i:Nat) (s:Shared) (tk:Tok),items.size-i=k->i<=items.size->s.heap.IsTupleIter I t i->s.heap.IsTuple t items->Kp h0 s.heap->Raw knd s.heap d (dOf (its.take i)) ->
   (∀h' f,Kp h0 h'->Raw knd h' d (dOf its)->R (.ok (.ret .none)) {s with heap:=h',toks:=f}) ->
   codeAny (model prog w) A (.builtin "dict.update.loop" ⟨[.ref d,.ref I,.int i tk,.none],[]⟩) R s:=by
 intro k
 have W:=Walks.tuple (prog:=prog) (w:=w) hh I t J items
 induction k with
 |zero =>
  intro i s tk N hi n O q F Q
  have S:i=items.size:=by lia
  subst S
  refine wx jO ?_
  rw[wg zR _]
  show wpAny _ A.in1 (pyNext (.ref I) >>= _) _ _ s
  refine wA (W.done s _ _ ⟨n,O⟩ λh' f hm=>?_)
  show wpAny _ A.in1 (Builtin.Dict.addKeywords d [] >>= _) _ _ _
  unfold Builtin.Dict.addKeywords
  refine wA ?_
  have e:its.take items.size=its:=List.take_of_length_le (by lia)
  rw[e]at F
  have fin:=Q h' f (λb o e=>hm b o (by simp;rintro rfl;rw[u]at e;cases e) (q b o e)) (F.stay λo e=>hm d o (by simpa using m) e)
  exact wD (wD fin)
 |succ k ih =>
  intro i s tk N hi n O q F Q
  have U:i<items.size:=by lia
  refine wx jO ?_
  rw[wg zR _]
  show wpAny _ A.in1 (pyNext (.ref I) >>= _) _ _ s
  refine wA (W.item i s _ _ U ⟨n,O⟩ λv h' f H y hm=>?_)
  obtain⟨p,X⟩:∃p,its[i]?=some p:=⟨_,wC (by lia)⟩
  obtain⟨b,hb,Y⟩:=hv i p X
  have H:items[i]?=some v:=H
  rw[hb]at H
  cases H
  have j:Kp h0 h':=λb o e=>hm b o (by simp;rintro rfl;rw[u]at e;cases e) (q b o e)
  have Z:Raw knd h' d (dOf (its.take i)):=F.stay λo e=>hm d o (by simpa using m) e
  obtain⟨ob,a0,a1,nb,a2⟩:=Y
  have l:=j _ _ a0
  have a3:p∈its:=wo X
  have z:∀x∈dOf (its.take i),∀h,Kp h0 h->knd.is h x.1 x.2.1:=qdh (P:=λk a=>∀h,Kp h0 h->knd.is h k a) _ [] (λx B=>hk x (vY B)) (λx B=>by simp at B)
  have C:=qhO (its.take i)
  rw[vE]at C
  show wpAny _ A.in1 (holding [Value.ref b] _ >>= _) _ _ _
  refine wA (wv (wA (wpAny_tryCatch ?_)))
  unfold Builtin.Dict.pairItems
  refine wA (uV (T:="tuple") ⟨ob,l,a1⟩ ?_)
  rw[wM (by decide)]
  refine wA (v4 l a2 (wD ?_))
  show wpAny _ A.in1 (holding [Value.ref p.2.1,p.2.2] (dictSet d (.ref p.2.1) p.2.2)) _ _ _
  refine wv (wpAny_dictSet_heap (hsz:=by lia) hu (hk p a3 h' j) (Z.full λx B=>z x B h' j) λh2 a4 r=>?_)
  refine wD ⟨vA zR _,?_⟩
  have a5:Kp h0 h2:=λc o e=>by
   rw[r.2 c (by rintro rfl;rw[M]at e;cases e)];exact j c o e
  have e1:its.take (i+1)=its.take i++[p]:=by rw[List.take_add_one,X];rfl
  have r2:=Raw.of a4
  rw[<-qfl,<-e1]at r2
  obtain⟨⟨oi,i1,i2⟩,⟨ot,t1,t2⟩⟩:=y
  have:=ih (i+1) {s with heap:=h2,toks:=f+knd.draws p.1} 0 (by lia) (by lia) ⟨oi,(r.2 I (Ne.symm m)).trans i1,i2⟩ ⟨ot,(r.2 t (Ne.symm L)).trans t1,t2⟩ a5 r2 Q
  exact this
set_option maxHeartbeats 4000000 in
theorem call_pairs{t:Addr}{o:Obj}{items:Array Value}{n:Nat}{its:List (K×Addr×Value)}{Q:Value->Shared->Prop}(hh:A.handled=none)(hu:knd.room A.in1.in1)(x:s.heap.get? t=some o)(C:o.cls=.type "tuple")(f:o.data=.seq items n)(hd:o.dict=none)(hl:its.length=items.size)(hz:items.size<=sizeLine)(hv:∀(i:Nat) (p:K×Addr×Value),its[i]?=some p->∃b,items[i]?=some (.ref b)/\s.heap.IsTuple b #[.ref p.2.1,p.2.2])(hk:∀p∈its,∀h,Kp s.heap h->knd.is h p.1 p.2.1)(h:∀h' tk,Kp s.heap h'->Raw knd h' s.heap.objs.size (dOf its)->Q (.ref s.heap.objs.size) {s with heap:=h',toks:=tk}):
  wpAny (model prog w) A (call (.type "dict") [.ref t]) Q E s:=by
 obtain⟨c,tl,a2⟩:=called.mro
 have H:=called.made
 have a3:=called.sub
 refine wpAny_call (xH ?_)
 show wpAny _ _ (callAny (.type "dict") _) _ _ _
 refine wD ⟨Code.quiet_builtin _ (by decide +kernel),wx F.entry_type_call ?_⟩
 rw[Around.under_plain (weight_type_call_type "dict" [.ref t] []) rfl]
 have h1:=called.notType
 have h2:=called.canCreate
 have a4:=typeCall1 (.ref t)
 repeat (any_goals (first|assumption|wp_step))
 refine xI (qfk (.ref t) (E:=E) (Q₁:=λobj l=>obj=.ref s.heap.objs.size/\l={s with heap:=s.heap.push {cls:=.type "dict",data:=.dict #[]}}) ⟨rfl,rfl⟩) λr l J=>?_
 cases r with
 |error e=>exact J
 |ok fl =>
  cases fl with
  |ret obj =>
   obtain⟨rfl,rfl⟩:=J
   have hS:(s.heap.push {cls:=.type "dict",data:=.dict #[]}).get? s.heap.objs.size=some {cls:=.type "dict",data:=.dict #[]}:=wF _ rfl
   have hT:Shared.TypeIs {s with heap:=s.heap.push {cls:=.type "dict",data:=.dict #[]}} (.ref s.heap.objs.size) "dict":=⟨_,hS,rfl⟩
   have a5:=called.init.lookup
   have a6:=called.init.bind (.ref s.heap.objs.size)
   repeat (any_goals (first|assumption|wp_step))
   refine xI (codeAny_call_builtin (R:=wants (λr m=>r=.none/\∃h' tk,m={s with heap:=h',toks:=tk}/\Kp s.heap h'/\Raw knd h' s.heap.objs.size (dOf its)) E) called.init.plain F.entry_dict_init (F.slot_dict_init.check _ _ _ _ _ _ _ _ hT (F.args_dict_init_2 _ _) ?_)) λy m a=>?_
   .have z:(s.heap.push {cls:=.type "dict",data:=.dict #[]}).get? t=some o:=wB _ x
    have L:∀tk:Nat,Shared.TypeIs {s with heap:=s.heap.push {cls:=.type "dict",data:=.dict #[]},toks:=tk} (.ref t) "tuple":=λ_=>⟨o,z,C⟩
    have a7:=L s.toks
    have a8:(Value.type "tuple" != Value.type "dict")=true:=by decide
    unfold Builtin.«dict.__init__» Builtin.Dict.updateCommon Builtin.Dict.updateFrom Builtin.Dict.selfAndRest
    generalize M:pyIter=PI
    generalize N:getAttr?=GA
    repeat (any_goals (first|assumption|wp_step))
    subst N
    subst M
    have B:A.in1.in1.handled=none:=by simp[hh]
    refine qhN (s:={s with heap:=s.heap.push {cls:=.type "dict",data:=.dict #[]}}) z C f hd B λh' tk e O=>?_
    have j:Kp s.heap h':=λb o e=>O.keeps _ _ (wB _ e)
    have P:h'.IsTuple t items:=⟨o,j _ _ x,C,n,f⟩
    have S:t≠h'.objs.size:=wc (wJ (j _ _ x))
    have U:s.heap.objs.size≠h'.objs.size:=wc (wJ (O.keeps _ _ hS))
    have W:s.heap.objs.size≠t:=ws (wJ x)
    have X:s.heap.get? s.heap.objs.size=none:=by
     cases q:s.heap.get? s.heap.objs.size with
     |none=>rfl
     |some u=>exact absurd (wJ q) (vH _)
    have Y:s.heap.get? h'.objs.size=none:=by
     cases q:s.heap.get? h'.objs.size with
     |none=>rfl
     |some u=>exact absurd (wJ (j _ _ q)) (vH _)
    rw[wM (show(Option.none:Option Value).isNone=true from rfl)]
    refine wA (uE ?_)
    refine wA (ug (s:={s with heap:=h',toks:=tk}) P ?_)
    refine wD ⟨vA zR _,?_⟩
    refine loop (A:=A.in1) (knd:=knd) (h0:=s.heap) (d:=s.heap.objs.size) (I:=h'.objs.size) (t:=t) (items:=items) (its:=its) (tk:=0) B hu S U W X Y hl hz hv hk (items.size-0) 0 _ 0 (by lia) (wh _) ⟨_,wF _ rfl,rfl,rfl⟩ ⟨o,wB _ (j _ _ x),C,n,f⟩ (λb o e=>wB _ (j b o e)) ((Raw.of (knd:=knd) (Heap.DictOfH.new s.heap)).stay λo e=>wB _ (O.keeps _ _ e)) λh2 Z k2 r2=>⟨rfl,h2,Z,rfl,k2,r2⟩
   .cases y with
    |error e=>exact a
    |ok v =>
     cases v with
     |ret r =>
      obtain⟨rfl,h',tk,rfl,a0,a1⟩:=a
      repeat (any_goals (first|assumption|wp_step))
      exact h _ _ a0 a1
     |_=>exact a.elim
  |_=>exact J.elim
end
end DN
end R
namespace R
open PySem PySem.Spec PyProof.Rows L2
inductive D where
 |non|bl (b:Bool)|int (i:Int)|str (x:Str)
 |tup (l:List D)|lst (l:List D)|emp
 |ref (n:Nat)
mutual
def Den(ι:List Addr)(H:Hp):D->V->Prop
 | .non,v=>v=.non
 | .bl b,v=>v=.bl b
 | .int i,v=>v=.int i
 | .str x,v=>v=.str x
 | .tup ds,v=>∃a xs,v=.ref a/\a∉ι/\H a=some (.tup xs)/\Dens ι H ds xs
 | .lst ds,v=>∃a xs,v=.ref a/\a∉ι/\Rd H a (.lst xs)/\Dens ι H ds xs
 | .emp,v=>∃a,v=.ref a/\a∉ι/\H a=some (.dK [])
 | .ref n,v=>∃a,v=.ref a/\ι[n]?=some a
def Dens(ι:List Addr)(H:Hp):List D->List V->Prop
 |[],xs=>xs=[]
 |d::ds,xs=>∃x r,xs=x::r/\Den ι H d x/\Dens ι H ds r
end
def NT:HO->Prop
 | .tbl _=>False
 |_=>True
structure Stp (ι:List Addr) (H:Hp) (ι':List Addr) (H':Hp):Prop where
 pre:ι <+: ι'
 new:∀a∈ι',a∈ι\/H a=none
 keep:∀a o,H a=some o->a∉ι->NT o->H' a=some o
 there:∀a,H a≠none->H' a≠none
theorem Stp.refl(ι:List Addr)(H:Hp):Stp ι H ι H:=⟨uX _,λ_ h=>.inl h,λ_ _ h _ _=>h,λ_ h=>h⟩
theorem Stp.notin{ι b:List Addr}{H H':Hp}(s:Stp ι H b H'){a:Addr}{o:HO}(h:H a=some o)(n:a∉ι):a∉b:=λm=>by
 rcases s.new a m with z|z
 .exact n z
 .rw [h]at z;cases z
theorem Stp.trans{ι b c:List Addr}{H d H2:Hp}(s:Stp ι H b d)(t:Stp b d c H2):Stp ι H c H2 where
 pre:=s.pre.trans t.pre
 new:=λa m=>by
  rcases t.new a m with z|z
  .exact s.new a z
  .cases q:H a with
   |none=>exact .inr rfl
   |some o=>exact absurd z (s.there a (by rw[q];simp))
 keep:=λa o h n z=>t.keep a o (s.keep a o h n z) (s.notin h n) z
 there:=λa h=>t.there a (s.there a h)
theorem Stp.get{ι b:List Addr}{H H':Hp}(s:Stp ι H b H'){n:Nat}{a:Addr}(h:ι[n]?=some a):b[n]?=some a:=by
 obtain⟨t,rfl⟩:=s.pre
 rw[wY (wP.mp h).1]
 exact h
theorem Stp.rd{ι b:List Addr}{H H':Hp}(s:Stp ι H b H'){a:Addr}{u:HO}(h:Rd H a u)(n:a∉ι)(z:NT u:=by trivial):Rd H' a u/\a∉b:=by
 rcases h with h|⟨o,h⟩
 .exact ⟨.inl (s.keep _ _ h n z),s.notin h n⟩
 .exact ⟨.inr ⟨o,s.keep _ _ h n trivial⟩,s.notin h n⟩
mutual
theorem Den.mono{ι ι':List Addr}{H H':Hp}(s:Stp ι H ι' H'):∀(d:D) {v:V},Den ι H d v->Den ι' H' d v
 | .non,_,h=>h
 | .bl _,_,h=>h
 | .int _,_,h=>h
 | .str _,_,h=>h
 | .tup ds,_,h=>by
  obtain⟨a,xs,e,n,ha,r⟩:=h
  exact⟨a,xs,e,s.notin ha n,s.keep _ _ ha n trivial,Dens.mono s ds r⟩
 | .lst ds,_,h=>by
  obtain⟨a,xs,e,n,ha,r⟩:=h
  exact⟨a,xs,e,(s.rd ha n).2,(s.rd ha n).1,Dens.mono s ds r⟩
 | .emp,_,h=>by
  obtain⟨a,e,n,ha⟩:=h
  exact⟨a,e,s.notin ha n,s.keep _ _ ha n trivial⟩
 | .ref _,_,h=>by
  obtain⟨a,e,ha⟩:=h
  exact⟨a,e,s.get ha⟩
theorem Dens.mono{ι ι':List Addr}{H H':Hp}(s:Stp ι H ι' H'):∀(ds:List D) {xs:List V},Dens ι H ds xs->Dens ι' H' ds xs
 |[],_,h=>h
 |d::ds,_,h=>by
  obtain⟨x,r,e,h1,h2⟩:=h
  exact⟨x,r,e,Den.mono s d h1,Dens.mono s ds h2⟩
end
theorem Dens.length{ι:List Addr}{H:Hp}:∀{ds:List D} {xs:List V},Dens ι H ds xs->ds.length=xs.length
 |[],_,h=>by cases (show _=[]from h);rfl
 |d::ds,_,h=>by
  obtain⟨x,r,rfl,_,a⟩:=h
  simp[Dens.length a]
theorem Dens.append{ι:List Addr}{H:Hp}:∀{ds es:List D} {xs ys:List V},Dens ι H ds xs->Dens ι H es ys->Dens ι H (ds++es) (xs++ys)
 |[],_,_,_,h,k=>by cases (show _=[]from h);exact k
 |d::ds,_,_,_,h,k=>by
  obtain⟨x,r,rfl,a,b⟩:=h
  exact⟨x,_,rfl,a,Dens.append b k⟩
theorem Dens.get{ι:List Addr}{H:Hp}:∀{ds:List D} {xs:List V} {i:Nat} {d:D},Dens ι H ds xs->ds[i]?=some d->∃x,xs[i]?=some x/\Den ι H d x
 |[],_,_,_,_,e=>by simp at e
 |d::ds,_,0,_,h,e=>by
  obtain⟨x,r,rfl,a,b⟩:=h
  simp at e;subst e
  exact⟨x,rfl,a⟩
 |d::ds,_,i+1,_,h,e=>by
  obtain⟨x,r,rfl,a,b⟩:=h
  obtain⟨y,e1,c⟩:=Dens.get (i:=i) b (by simpa using e)
  exact⟨y,by simpa using e1,c⟩
theorem Dens.take{ι:List Addr}{H:Hp}:∀{ds:List D} {xs:List V} (n:Nat),Dens ι H ds xs->Dens ι H (ds.take n) (xs.take n)
 |_,_,0,_=>by simp[Dens]
 |[],_,n+1,h=>by cases (show _=[]from h);simp[Dens]
 |d::ds,_,n+1,h=>by
  obtain⟨x,r,rfl,a,b⟩:=h
  exact⟨x,_,rfl,a,Dens.take n b⟩
theorem Dens.drop{ι:List Addr}{H:Hp}:∀{ds:List D} {xs:List V} (n:Nat),Dens ι H ds xs->Dens ι H (ds.drop n) (xs.drop n)
 |_,_,0,h=>by simpa using h
 |[],_,n+1,h=>by cases (show _=[]from h);simp[Dens]
 |d::ds,_,n+1,h=>by
  obtain⟨x,r,rfl,b,a⟩:=h
  exact Dens.drop n a
theorem Dens.set{ι:List Addr}{H:Hp}{d:D}{x:V}(hd:Den ι H d x):∀{ds:List D} {xs:List V} (i:Nat),Dens ι H ds xs->Dens ι H (ds.set i d) (xs.set i x)
 |[],_,_,h=>by cases (show _=[]from h);simp[Dens]
 |d::ds,_,0,h=>by
  obtain⟨x,r,rfl,b,a⟩:=h
  exact⟨_,_,rfl,hd,a⟩
 |d::ds,_,i+1,h=>by
  obtain⟨x,r,rfl,b,a⟩:=h
  exact⟨_,_,rfl,b,Dens.set hd i a⟩
theorem Dens.snoc{ι:List Addr}{H:Hp}{d:D}{x:V}{ds:List D}{xs:List V}(h:Dens ι H ds xs)(hd:Den ι H d x):Dens ι H (ds++[d]) (xs++[x]) :=
 h.append ⟨x,[],rfl,hd,rfl⟩
mutual
noncomputable def refsLt(n:Nat):D->Bool
 | .ref k=>decide (k<n)
 | .tup l=>refsLts n l
 | .lst l=>refsLts n l
 |_=>true
noncomputable def refsLts(n:Nat):List D->Bool
 |[]=>true
 |d::r=>refsLt n d&&refsLts n r
end
theorem yh(n:Nat):∀(a b:List D),refsLts n (a++b)=(refsLts n a&&refsLts n b)
 |[],b=>by simp[refsLts]
 |d::r,b=>by simp only[List.cons_append,refsLts,yh n r b,Bool.and_assoc]
theorem zu{n:Nat}:∀{l:List D} {d:D},refsLts n l=true->d∈l->refsLt n d=true
 |[],_,_,h=>by cases h
 |x::r,d,h,m=>by
  simp only[refsLts,wW]at h
  rcases wR.mp m with z|z
  .rw [z];exact h.1
  .exact zu h.2 z
theorem zS{n:Nat}:∀{l:List D},(∀d∈l,refsLt n d=true)->refsLts n l=true
 |[],_=>rfl
 |x::r,h=>by
  simp only[refsLts,wW]
  exact⟨h x wE,zS λd m=>h d (wH _ m)⟩
mutual
theorem Den.less{ι:List Addr}{H:Hp}{n:Nat}:∀(d:D) {v:V},refsLt n d=true->Den ι H d v->Den (ι.take n) H d v
 | .non,_,_,h=>h
 | .bl _,_,_,h=>h
 | .int _,_,_,h=>h
 | .str _,_,_,h=>h
 | .tup ds,_,r,h=>by
  obtain⟨a,xs,e,m,ha,q⟩:=h
  exact⟨a,xs,e,λz=>m (vY z),ha,Dens.less ds r q⟩
 | .lst ds,_,r,h=>by
  obtain⟨a,xs,e,m,ha,q⟩:=h
  exact⟨a,xs,e,λz=>m (vY z),ha,Dens.less ds r q⟩
 | .emp,_,_,h=>by
  obtain⟨a,e,m,ha⟩:=h
  exact⟨a,e,λz=>m (vY z),ha⟩
 | .ref k,_,r,h=>by
  obtain⟨a,e,ha⟩:=h
  exact⟨a,e,by rw[uP (vF r)];exact ha⟩
theorem Dens.less{ι:List Addr}{H:Hp}{n:Nat}:∀(ds:List D) {xs:List V},refsLts n ds=true->Dens ι H ds xs->Dens (ι.take n) H ds xs
 |[],_,_,h=>h
 |d::ds,_,r,h=>by
  obtain⟨x,t,e,h1,h2⟩:=h
  simp only[refsLts,wW]at r
  exact⟨x,t,e,Den.less d r.1 h1,Dens.less ds r.2 h2⟩
end
mutual
theorem zv{n:Nat}:∀(d:D),refsLt 0 d=true->refsLt n d=true
 | .non,_=>rfl
 | .bl _,_=>rfl
 | .int _,_=>rfl
 | .str _,_=>rfl
 | .tup ds,h=>qQ ds h
 | .lst ds,h=>qQ ds h
 | .emp,_=>rfl
 | .ref k,h=>absurd (vF (show decide (k<0)=true from h)) (Nat.not_lt_zero _)
theorem qQ{n:Nat}:∀(ds:List D),refsLts 0 ds=true->refsLts n ds=true
 |[],_=>rfl
 |d::ds,h=>by
  simp only[refsLts,wW]at h ⊢
  exact⟨zv d h.1,qQ ds h.2⟩
end
mutual
theorem qeu{m n:Nat}(h:m<=n):∀(d:D),refsLt m d=true->refsLt n d=true
 | .non,_=>rfl
 | .bl _,_=>rfl
 | .int _,_=>rfl
 | .str _,_=>rfl
 | .tup ds,q=>zT h ds q
 | .lst ds,q=>zT h ds q
 | .emp,_=>rfl
 | .ref k,q=>vK (w6 (vF (show decide (k<m)=true from q)) h)
theorem zT{m n:Nat}(h:m<=n):∀(ds:List D),refsLts m ds=true->refsLts n ds=true
 |[],_=>rfl
 |d::ds,q=>by
  simp only[refsLts,wW]at q ⊢
  exact⟨qeu h d q.1,zT h ds q.2⟩
end
inductive SO where
 |lst (l:List D)
 |dic (l:List (List Int×D))
 |dis (l:List (Key×D))
noncomputable def keyT(k:List Int):List Key:=k.map Sum.inl
noncomputable def DGs{κ K:Type}(f:κ->K)(ι:List Addr)(H:Hp):List (κ×D)->List (K×V)->Prop
 |[],kvs=>kvs=[]
 |p::l,kvs=>∃v r,kvs=(f p.1,v)::r/\Den ι H p.2 v/\DGs f ι H l r
theorem DGs.mono{κ K:Type}{f:κ->K}{ι a:List Addr}{H H':Hp}(s:Stp ι H a H'):∀{l:List (κ×D)} {kvs:List (K×V)},DGs f ι H l kvs->DGs f a H' l kvs
 |[],_,h=>h
 |_::_,_,h=>let ⟨v,r,e,b,c⟩:=h;⟨v,r,e,Den.mono s _ b,DGs.mono s c⟩
theorem DGs.length{κ K:Type}{f:κ->K}{ι:List Addr}{H:Hp}:∀{l:List (κ×D)} {kvs:List (K×V)},DGs f ι H l kvs->l.length=kvs.length
 |[],_,h=>by cases (show _=[]from h);rfl
 |_::_,_,h=>by obtain⟨v,r,rfl,_,a⟩:=h;simp[DGs.length a]
theorem DGs.less{κ K:Type}{f:κ->K}{ι:List Addr}{H:Hp}{n:Nat}:∀{l:List (κ×D)} {kvs:List (K×V)},refsLts n (l.map (·.2))=true->DGs f ι H l kvs->DGs f (ι.take n) H l kvs
 |[],_,_,h=>h
 |_::_,_,r,h=>by
  obtain⟨v,t,e,a,b⟩:=h
  simp only[wI,refsLts,wW]at r
  exact⟨v,t,e,Den.less _ r.1 a,DGs.less r.2 b⟩
def SOk(ι:List Addr)(H:Hp)(a:Addr):SO->Prop
 | .lst ds=>(∃j,ι[j]?=some a/\refsLts j ds=true)/\∃xs,H a=some (.lst xs)/\Dens ι H ds xs
 | .dic l=>refsLts 0 (l.map (·.2))=true/\∃kvs,H a=some (.dT kvs)/\DGs keyT ι H l kvs
 | .dis l=>refsLts 0 (l.map (·.2))=true/\∃kvs,H a=some (.dK kvs)/\DGs id ι H l kvs
structure Sto (ι:List Addr) (H:Hp) (S:List SO):Prop where
 len:ι.length=S.length
 nd:ι.Nodup
 obj:∀(n:Nat) (a:Addr) (so:SO),ι[n]?=some a->S[n]?=some so->SOk ι H a so
theorem SOk.some{ι:List Addr}{H:Hp}{a:Addr}:∀{so:SO},SOk ι H a so->H a≠none
 | .lst _,⟨_,_,h,_⟩=>by rw[h];simp
 | .dic _,⟨_,_,h,_⟩=>by rw[h];simp
 | .dis _,⟨_,_,h,_⟩=>by rw[h];simp
theorem Sto.there{ι:List Addr}{H:Hp}{S:List SO}(s:Sto ι H S){a:Addr}(m:a∈ι):H a≠none:=by
 obtain⟨n,hn,e⟩:=va m
 have b:n<S.length:=by rw[<-s.len];exact hn
 exact(s.obj n a S[n] (by rw[wC hn,e]) (wC b)).some
theorem Sto.fresh{ι:List Addr}{H:Hp}{S:List SO}(s:Sto ι H S){a:Addr}(h:H a=none):a∉ι:=λm=>s.there m h
theorem SOk.mono{ι b:List Addr}{H H':Hp}(s:Stp ι H b H'){a:Addr}(c:H' a=H a):∀{so:SO},SOk ι H a so->SOk b H' a so
 | .lst ds,⟨⟨j,e,f⟩,xs,h,r⟩=>⟨⟨j,s.get e,f⟩,xs,by rw[c];exact h,Dens.mono s _ r⟩
 | .dic l,⟨f,vs,h,r⟩=>⟨f,vs,by rw[c];exact h,DGs.mono s r⟩
 | .dis l,⟨f,vs,h,r⟩=>⟨f,vs,by rw[c];exact h,DGs.mono s r⟩
theorem Stp.laid{ι:List Addr}{H:Hp}{p:Addr}(h:H p=none)(o:HO):Stp ι H ι (upd H p o) where
 pre:=uX _
 new:=λ_ m=>.inl m
 keep:=λa u e _ _=>by rw[qk (zm e h)];exact e
 there:=λa e=>by
  by_cases z:a=p
  .subst z;rw[qv];simp
  .rw [qk z];exact e
theorem Sto.laid{ι:List Addr}{H:Hp}{S:List SO}(s:Sto ι H S){p:Addr}(h:H p=none)(o:HO):Sto ι (upd H p o) S where
 len:=s.len
 nd:=s.nd
 obj:=λn a so e1 b=>(s.obj n a so e1 b).mono (Stp.laid h o) (by
  rw[qk];intro z;subst z;exact s.there (wo e1) h)
theorem Stp.grow{ι:List Addr}{H:Hp}{p:Addr}(h:H p=none)(o:HO):Stp ι H (ι++[p]) (upd H p o) where
 pre:=List.prefix_append _ _
 new:=λa m=>by
  rcases wu.mp m with z|z
  .exact .inl z
  .rw [wf.mp z];exact .inr h
 keep:=(Stp.laid (ι:=ι) h o).keep
 there:=(Stp.laid (ι:=ι) h o).there
theorem Sto.grow{ι:List Addr}{H:Hp}{S:List SO}(s:Sto ι H S){p:Addr}(h:H p=none){o:HO}{so:SO}(k:SOk (ι++[p]) (upd H p o) p so):Sto (ι++[p]) (upd H p o) (S++[so]) where
 len:=by simp[s.len]
 nd:=by
  rw[v7]
  refine⟨s.nd,by simp,λa ha b d e=>?_⟩
  rw[wf.mp d]at e;subst e
  exact s.fresh h ha
 obj:=λn a x e1 c=>by
  by_cases hn:n<ι.length
  .rw [wY hn]at e1
   rw[wY (by rw[<-s.len];exact hn)]at c
   exact(s.obj n a x e1 c).mono (Stp.grow h o) (by
    rw[qk];intro z;subst z;exact s.there (wo e1) h)
  .rw [w8 (by lia)]at e1
   rw[w8 (by rw[<-s.len];lia)]at c
   have z:n-ι.length=0:=by
    have:=(wP.mp e1).1
    simp at this;lia
   rw[z]at e1
   rw[<-s.len,z]at c
   simp at e1 c
   subst e1 c
   exact k
theorem Stp.put{ι:List Addr}{H:Hp}{p:Addr}(m:p∈ι)(o:HO):Stp ι H ι (upd H p o) where
 pre:=uX _
 new:=λ_ m=>.inl m
 keep:=λa u e n _=>by rw[qk (λz=>n (by rw[z];exact m))];exact e
 there:=λa e=>by
  by_cases z:a=p
  .subst z;rw[qv];simp
  .rw [qk z];exact e
theorem zo{ι:List Addr}(c:ι.Nodup){i j:Nat}{x:Addr}(a:ι[i]?=some x)(b:ι[j]?=some x):i=j:=by
 obtain⟨e,e1⟩:=wP.mp a
 obtain⟨f,d⟩:=wP.mp b
 exact(xD c).mp (e1.trans d.symm)
theorem Sto.put{ι:List Addr}{H:Hp}{S:List SO}(s:Sto ι H S){n:Nat}{p:Addr}(b:ι[n]?=some p){o:HO}{so:SO}(k:SOk ι (upd H p o) p so):Sto ι (upd H p o) (S.set n so) where
 len:=by rw[List.length_set];exact s.len
 nd:=s.nd
 obj:=λj a x e1 c=>by
  by_cases d:j=n
  .subst d
   rw[b]at e1
   obtain rfl:=Option.some.inj e1
   have e:j<S.length:=by rw[<-s.len];exact(wP.mp b).1
   rw[vc e]at c
   obtain rfl:=Option.some.inj c
   exact k
  .rw [u6 (Ne.symm d)]at c
   refine(s.obj j a x e1 c).mono (Stp.put (wo b) o) ?_
   rw[qk]
   intro z;subst z
   exact d (zo s.nd e1 b)
theorem Sto.less{ι:List Addr}{H:Hp}{S:List SO}(s:Sto ι H S)(n:Nat):Sto (ι.take n) H (S.take n) where
 len:=by rw[vE,vE,s.len]
 nd:=s.nd.sublist (List.take_sublist _ _)
 obj:=λj a so e1 b=>by
  have c:ι[j]?=some a:=by
   have:=(wP.mp e1).1
   rw[vE]at this
   rw[uP (by lia)]at e1;exact e1
  have d:S[j]?=some so:=by
   have:=(wP.mp b).1
   rw[vE]at this
   rw[uP (by lia)]at b;exact b
  have k:=s.obj j a so c d
  cases so with
  |lst ds =>
   obtain⟨⟨i,e,f⟩,xs,h,r⟩:=k
   have m:j<(ι.take n).length:=(wP.mp e1).1
   rw[vE]at m
   obtain rfl:i=j:=zo s.nd e c
   exact⟨⟨i,e1,f⟩,xs,h,Dens.less ds (zT (by lia) ds f) r⟩
  |dic l =>
   obtain⟨f,kvs,h,r⟩:=k
   exact⟨f,kvs,h,DGs.less (qQ _ f) r⟩
  |dis l =>
   obtain⟨f,kvs,h,r⟩:=k
   exact⟨f,kvs,h,DGs.less (qQ _ f) r⟩
theorem Stp.less{ι a:List Addr}{H H':Hp}(s:Stp ι H a H'):Stp ι H (a.take ι.length) H':=by
 have e:a.take ι.length=ι:=by
  obtain⟨t,rfl⟩:=s.pre
  simp
 rw[e]
 exact⟨uX _,λ_ m=>.inl m,s.keep,s.there⟩
theorem Stp.take_eq{ι a:List Addr}{H H':Hp}(s:Stp ι H a H'):a.take ι.length=ι:=by
 obtain⟨t,rfl⟩:=s.pre
 simp
end R
namespace R
open PySem PySem.Spec PyProof.Rows L2
noncomputable abbrev Sr:=List SO
noncomputable abbrev En:=List (Option D)
inductive Res (α:Type) where
 |ok (a:α) (S:Sr)|err (x:D) (S:Sr)|no
@[reducible] noncomputable def Res.bind{α β:Type}(r:Res α)(f:α->Sr->Res β):Res β:=match r with
 | .ok a S=>f a S
 | .err x S=>.err x S
 | .no=>.no
@[simp] theorem Res.bind_ok{α β:Type}(a:α)(S:Sr)(f:α->Sr->Res β):(Res.ok a S).bind f=f a S:=rfl
@[simp] theorem Res.bind_err{α β:Type}(x:D)(S:Sr)(f:α->Sr->Res β):(Res.err x S).bind f=.err x S:=rfl
@[simp] theorem Res.bind_no{α β:Type}(f:α->Sr->Res β):(Res.no:Res α).bind f=.no:=rfl
noncomputable def ofO{b:Type}(o:Option b)(S:Sr):Res b:=match o with
 |some a=>.ok a S
 |none=>.no
@[simp] theorem qlc{α:Type}(a:α)(S:Sr):ofO (some a) S=.ok a S:=rfl
@[simp] theorem qld{α:Type}(S:Sr):(ofO none S:Res α)=.no:=rfl
inductive BOp where|add|sub|mul|fdiv|mod|pow|shl|shr|band
inductive COp where|eq|ne|lt|le|gt|ge|is|isn|inn|nin
inductive Ty where|int|bool|tuple|list|str|dict
noncomputable def Ty.nm:Ty->String
 | .int=>"int" | .bool=>"bool" | .tuple=>"tuple" | .list=>"list" | .str=>"str" | .dict=>"dict"
noncomputable def mulOk(a b:Int):Bool:=!((decide (Builtin.Int.intBits a>shortFactorBits)&&decide (Builtin.Int.intBits b>shortFactorBits)&&Builtin.Int.intTooBig (Builtin.Int.intBits a+Builtin.Int.intBits b)))
noncomputable def divOk(a b:Int):Bool:=!(b == 0)&&!(Builtin.divisionGoesByPylong a b)
noncomputable def lstOf(S:Sr):D->Option (List D)
 | .lst l=>some l
 | .ref n=>match S[n]? with|some (.lst l)=>some l|_=>none
 |_=>none
noncomputable def binI:BOp->Int->Int->Option Int
 | .add,i,j=>some (i+j)
 | .sub,i,j=>some (i-j)
 | .mul,i,j=>if mulOk i j then some (i*j)else none
 | .fdiv,i,j=>if divOk i j then some (i.fdiv j)else none
 | .mod,i,j=>if j=0 then none else some (i.fmod j)
 | .pow,i,j=>if 0<=j/\j<=1000000/\i.natAbs<2^64 then some (i^j.toNat)else none
 | .shl,i,j=>if 0<=j/\j<=1000000/\i.natAbs<2^64 then some (i*2^j.toNat)else none
 | .shr,i,j=>if 0<=j then some (i / 2^j.toNat)else none
 | .band,i,j=>some (Builtin.bitAnd i j)
noncomputable def catOk{c:Type}(a b:List c):Bool:=decide (a.length+b.length<=sizeLine)
noncomputable def repOk{b:Type}(a:List b)(k:Int):Bool:=decide (-(2^63)<=k/\k<2^63/\a.length*k.toNat<=sizeLine)
noncomputable def rep{b:Type}(a:List b)(k:Int):List b:=(List.replicate k.toNat a).flatten
noncomputable def binD(o:BOp)(x y:D)(S:Sr):Option D :=
 match x,y with
 | .int i,.int j=>(binI o i j).map .int
 | .str a,.str b=>match o with
  | .add=>if a.length+b.length<=sizeLine then some (.str (a++b))else none
  |_=>none
 | .tup a,.tup b=>match o with
  | .add=>if catOk a b then some (.tup (a++b))else none
  |_=>none
 | .tup a,.int k=>match o with
  | .mul=>if repOk a k then some (.tup (rep a k))else none
  |_=>none
 |x,.int k=>match o with
  | .mul=>match lstOf S x with
   |some a=>if repOk a k then some (.lst (rep a k))else none
   |none=>none
  |_=>none
 |x,y=>match o with
  | .add=>match lstOf S x,lstOf S y with
   |some a,some b=>if catOk a b then some (.lst (a++b))else none
   |_,_=>none
  |_=>none
noncomputable def eqL(f:D->D->Option Bool):List D->List D->Option Bool
 |[],[]=>some true
 |[],_::_=>some false
 |_::_,[]=>some false
 |a::r,b::t=>match f a b,eqL f r t with
  |some x,some y=>some (x&&y)
  |_,_=>none
noncomputable def eqD:Nat->D->D->Option Bool
 |0,_,_=>none
 |n+1,x,y=>match x,y with
  | .non,.non=>some true
  | .bl a,.bl b=>some (a == b)
  | .int a,.int b=>some (a == b)
  | .str a,.str b=>some (a == b)
  | .bl a,.int b=>some ((if a then 1 else 0) == b)
  | .int a,.bl b=>some (a == (if b then 1 else 0))
  | .tup a,.tup b=>eqL (eqD n) a b
  | .lst a,.lst b=>if a.length=b.length then eqL (eqD n) a b else some false
  | .emp,_=>none
  |_,.emp=>none
  | .ref _,_=>none
  |_,.ref _=>none
  |_,_=>some false
noncomputable def intsOf:List D->Option (List Int)
 |[]=>some []
 | .int i::r=>(intsOf r).map (i::·)
 |_=>none
noncomputable def flatD:D->Bool
 | .non|.bl _|.int _|.str _=>true
 |_=>false
noncomputable def eqF:D->D->Bool
 | .non,.non=>true
 | .bl a,.bl b=>decide (a=b)
 | .int i,.int j=>decide (i=j)
 | .bl a,.int j=>decide ((if a then 1 else 0)=j)
 | .int i,.bl b=>decide (i=(if b then 1 else 0))
 | .str a,.str b=>decide (a=b)
 |_,_=>false
noncomputable def inD(x:D)(l:List D):Option Bool:=if flatD x&&l.all flatD then some (l.any λy=>eqF y x)else none
noncomputable def seqOf(S:Sr):D->Option (List D)
 | .tup l=>some l
 |d=>lstOf S d
noncomputable def cmpD(o:COp)(x y:D)(S:Sr):Option Bool:=match o with
 | .eq=>eqD 20 x y
 | .ne=>(eqD 20 x y).map (!·)
 | .lt=>match x,y with
  | .int i,.int j=>some (decide (i<j))
  | .tup a,.tup b=>match intsOf a,intsOf b with
   |some m,some n=>some (HT.lexLt m n)
   |_,_=>none
  |_,_=>none
 | .le=>match x,y with|.int i,.int j=>some (decide (i<=j))|_,_=>none
 | .gt=>match x,y with|.int i,.int j=>some (decide (j<i))|_,_=>none
 | .ge=>match x,y with
  | .int i,.int j=>some (decide (j<=i))
  | .tup a,.tup b=>match intsOf a,intsOf b with
   |some m,some n=>some (!HT.lexLt m n)
   |_,_=>none
  |_,_=>none
 | .is=>match y with
  | .non=>some (match x with|.non=>true|_=>false)
  | .bl b=>match x with|.bl a=>some (a == b)|.non=>some false|_=>none
  |_=>none
 | .isn=>match y with
  | .non=>some (match x with|.non=>false|_=>true)
  | .bl b=>match x with|.bl a=>some (!(a == b))|.non=>some true|_=>none
  |_=>none
 | .inn=>(seqOf S y).bind (inD x)
 | .nin=>(seqOf S y).bind λl=>(inD x l).map (!·)
noncomputable def truD(S:Sr):D->Option Bool
 | .non=>some false
 | .bl b=>some b
 | .int i=>some (i != 0)
 | .str x=>if x.length<=sizeLine then some ((x.length:Int) != 0)else none
 | .tup l=>some (!l.isEmpty)
 | .emp=>some false
 |d=>(lstOf S d).map λl=>!l.isEmpty
noncomputable def isiD(S:Sr)(t:Ty):D->Option Bool
 | .non=>some false
 | .bl _=>some (match t with|.int=>true|.bool=>true|_=>false)
 | .int _=>some (match t with|.int=>true|_=>false)
 | .str _=>some (match t with|.str=>true|_=>false)
 | .tup _=>some (match t with|.tuple=>true|_=>false)
 | .lst _=>some (match t with|.list=>true|_=>false)
 | .emp=>some (match t with|.dict=>true|_=>false)
 | .ref n=>match S[n]? with
  |some (.lst _)=>some (match t with|.list=>true|_=>false)
  |some (.dic _)=>some (match t with|.dict=>true|_=>false)
  |some (.dis _)=>some (match t with|.dict=>true|_=>false)
  |none=>none
noncomputable def keyD:D->Option Key
 | .int i=>some (.inl i)
 | .str x=>some (.inr x)
 |_=>none
noncomputable def lookT{κ:Type}[DecidableEq κ](k:κ):List (κ×D)->Option D
 |[]=>none
 | (j,d)::r=>if j=k then some d else lookT k r
noncomputable def putT{κ:Type}[DecidableEq κ](k:κ)(d:D)(l:List (κ×D)):List (κ×D) :=
 if l.any (λp=>decide (p.1=k))then l.map (λp=>if p.1=k then(p.1,d)else p)else l++[(k,d)]
noncomputable def idxD(S:Sr)(x i:D):Option D:=match i with
 | .int k=>(seqOf S x).bind λl=>atI l k
 | .tup ks=>match x with
  | .ref n=>match S[n]? with
   |some (.dic l)=>(intsOf ks).bind λk=>lookT k l
   |_=>none
  |_=>none
 |_=>none
noncomputable def cutD(l:List D)(lo hi:Option Int):List D:=(l.drop (HT.sIx l.length 0 lo)).take (HT.sIx l.length l.length hi-HT.sIx l.length 0 lo)
noncomputable def slcD(S:Sr)(x:D)(lo hi:Option Int):Option D:=match x with
 | .tup l=>some (.tup (cutD l lo hi))
 |d=>(lstOf S d).map λl=>.lst (cutD l lo hi)
noncomputable def rngL(a b s:Int):List D:=(List.range ((b-a+s-1) / s).toNat).map λ(k:Nat)=>D.int (a+s*k)
noncomputable def insI(x:Int):List Int->List Int
 |[]=>[x]
 |y::r=>if x<=y then x::y::r else y::insI x r
noncomputable def sortI(l:List Int):List Int:=l.foldr insI []
noncomputable def insT(x:List Int):List (List Int)->List (List Int)
 |[]=>[x]
 |y::r=>if HT.lexLt y x then y::insT x r else x::y::r
noncomputable def sortT(l:List (List Int)):List (List Int):=l.foldr insT []
noncomputable def tupsOf:List D->Option (List (List Int))
 |[]=>some []
 | .tup a::r=>(intsOf a).bind λm=>(tupsOf r).map (m::·)
 |_=>none
noncomputable def tupI(m:List Int):D:=.tup (m.map .int)
noncomputable def sortL(l:List D):Option (List D) :=
 if l.length<64 then
  match intsOf l with
  |some ns=>some ((sortI ns).map .int)
  |none=>(tupsOf l).bind λts=>if ts.Nodup/\∀t∈ts,t≠[]then some ((sortT ts).map tupI)else none
 else none
noncomputable def walkD(S:Sr):D->Option (List D)
 | .lst l=>some l
 | .emp=>some []
 | .ref n=>match S[n]? with
  |some (.lst l)=>some l
  |some (.dic l)=>some (l.map λp=>tupI p.1)
  |_=>none
 |_=>none
inductive Blt where|len|abs|min2|max2|divmod|list (m:Bool)|tuple|sorted (m:Bool)|all|any|sum|str|int|sortp (m:Bool)|dict
noncomputable def newL(m:Bool)(l:List D)(S:Sr):Res D:=if m then(if refsLts 0 l then .ok (.ref S.length) (S++[.lst l])else .no)else .ok (.lst l) S
noncomputable def binM(o:BOp)(x y:D)(S:Sr):Res D:=match o with
 | .add=>match lstOf S x,lstOf S y with
  |some a,some b=>if catOk a b then newL true (a++b) S else .no
  |_,_=>.no
 | .mul=>match lstOf S x,y with
  |some a,.int k=>if repOk a k then newL true (rep a k) S else .no
  |_,_=>.no
 |_=>.no
noncomputable def lenD(S:Sr):D->Option Nat
 | .str x=>if x.length<=sizeLine then some x.length else none
 | .ref n=>match S[n]? with
  |some (.lst l)=>some l.length
  |some (.dic l)=>some l.length
  |some (.dis _)=>none
  |none=>none
 | .tup l=>some l.length
 | .lst l=>some l.length
 |_=>none
noncomputable def boolsOf:List D->Option (List Bool)
 |[]=>some []
 | .bl b::r=>(boolsOf r).map (b::·)
 |_=>none
noncomputable def one(f:D->Sr->Res D)(xs:List D)(S:Sr):Res D:=match xs with
 |[x]=>f x S
 |_=>.no
noncomputable def two(f:D->D->Sr->Res D)(xs:List D)(S:Sr):Res D:=match xs with
 |[x,y]=>f x y S
 |_=>.no
noncomputable def bLen(x:D)(S:Sr):Res D:=ofO ((lenD S x).map λn=>.int n) S
noncomputable def bAbs(x:D)(S:Sr):Res D:=match x with
 | .int i=>.ok (.int (if i<0 then -i else i)) S
 |_=>.no
noncomputable def bMin(x y:D)(S:Sr):Res D:=match x,y with
 | .int i,.int j=>.ok (.int (if j<i then j else i)) S
 |_,_=>.no
noncomputable def bMax(x y:D)(S:Sr):Res D:=match x,y with
 | .int i,.int j=>.ok (.int (if j>i then j else i)) S
 |_,_=>.no
noncomputable def bDivmod(x y:D)(S:Sr):Res D:=match x,y with
 | .int i,.int j=>if divOk i j then .ok (.tup [.int (i.fdiv j),.int (i.fmod j)]) S else .no
 |_,_=>.no
noncomputable def bList(m:Bool)(x:D)(S:Sr):Res D:=match seqOf S x with
 |some l=>newL m l S
 |none=>.no
noncomputable def bTuple(x:D)(S:Sr):Res D:=ofO ((seqOf S x).map .tup) S
noncomputable def bSorted(m:Bool)(x:D)(S:Sr):Res D:=match(walkD S x).bind sortL with
 |some l=>newL m l S
 |none=>.no
noncomputable def pairsD:List D->Option (List (List Int×Int))
 |[]=>some []
 | .tup [.tup a,.int i]::r=>(intsOf a).bind λm=>(pairsD r).map ((m,i)::·)
 |_=>none
noncomputable def pairD(p:List Int×Int):D:=.tup [tupI p.1,.int p.2]
noncomputable def atP(k:List Int):List (List Int×Int)->Int
 |[]=>0
 |p::r=>if p.1=k then p.2 else atP k r
noncomputable def sortP(ps:List (List Int×Int)):List (List Int×Int):=(sortT (ps.map (·.1))).map λk=>(k,atP k ps)
noncomputable def bSortp(m:Bool)(x:D)(S:Sr):Res D:=match(lstOf S x).bind pairsD with
 |some ps=>if ps.length<64/\(ps.map (·.1)).Nodup then newL m ((sortP ps).map pairD) S else .no
 |none=>.no
noncomputable def bAll(x:D)(S:Sr):Res D:=ofO (((seqOf S x).bind boolsOf).map λl=>.bl (l.all id)) S
noncomputable def bAny(x:D)(S:Sr):Res D:=ofO (((seqOf S x).bind boolsOf).map λl=>.bl (l.any id)) S
noncomputable def bSum(x:D)(S:Sr):Res D:=ofO (((seqOf S x).bind intsOf).map λl=>.int l.sum) S
noncomputable def bStr(x:D)(S:Sr):Res D:=match x with
 | .int i=>if i.natAbs.log2<1920 then .ok (.str (toString i)) S else .no
 |_=>.no
noncomputable def joinD(x y z:D):Option D:=match x,y,z with
 | .str a,.str b,.str c=>if a.length+b.length+c.length<=sizeLine then some (.str (a++b++c))else none
 |_,_,_=>none
noncomputable def bInt(x:D)(S:Sr):Res D:=match x with
 | .bl b=>.ok (.int (if b then 1 else 0)) S
 |_=>.no
noncomputable def pairsV:List D->Option (List (List Int×D))
 |[]=>some []
 | .tup [.tup a,v]::r=>if refsLt 0 v then(intsOf a).bind λm=>(pairsV r).map ((m,v)::·)else none
 |_=>none
noncomputable def dicL(ps:List (List Int×D)):List (List Int×D):=ps.foldl (λl p=>putT p.1 p.2 l) []
noncomputable def bDict(x:D)(S:Sr):Res D:=match x with
 | .tup l=>match pairsV l with
  |some ps=>.ok (.ref S.length) (S++[.dic (dicL ps)])
  |none=>.no
 |_=>.no
noncomputable def bltD:Blt->List D->Sr->Res D
 | .len=>one bLen|.abs=>one bAbs|.min2=>two bMin|.max2=>two bMax|.divmod=>two bDivmod|.list m=>one (bList m)|.tuple=>one bTuple
 | .sorted m=>one (bSorted m)|.all=>one bAll|.any=>one bAny|.sum=>one bSum|.str=>one bStr|.int=>one bInt|.sortp m=>one (bSortp m)|.dict=>one bDict
noncomputable def walkF:D->Option (List D)
 | .tup l=>some l
 | .lst l=>some l
 |_=>none
inductive GW where|all|any|sum|tuple
mutual
inductive CE where
 |var (i:Nat)|cst (d:D)
 |bin (o:BOp) (a b:CE)|neg (a:CE)
 |cmp (o:COp) (a b:CE)|chain (o o':COp) (a b c:CE)
 |and (a b:CE)|or (a b:CE)|not (a:CE)|ife (c:CB) (a b:CE)
 |tup (es:CEs)|lst (m:Bool) (es:CEs)|dic (m:Bool)|dis|fmt (a:CE)|join3 (a b c:CE)
 |call (f:Nat) (es:CEs)|blt (b:Blt) (es:CEs)|isi (t:Ty) (a:CE)
 |popAt (o i:CE)|neF (a b:CE)|rem (o e:CE)|dcK (d:Int) (e:CE)|idk (a i:CE)|lls (e:CE)|app (o e:CE)|ext (o e:CE)|binM (o:BOp) (a b:CE)|get (o k e:CE)
 |idx (a i:CE)|slc (a:CE) (lo hi:CO)|rev (a:CE)
 |rng (k:Option Bool) (es:CEs)
 |lc (m:Bool) (fr:List Nat) (nt:Nat) (elt:CE) (tg:CT) (it:CI) (ifs:CBs)
 |lcR (m:Bool) (fr:List Nat) (nt:Nat) (elt:CE) (tg:CT) (e:CE) (ifs:CBs)
 |gen (w:GW) (fr:List Nat) (nt:Nat) (elt:CE) (tg:CT) (it:CI) (ifs:CBs)
 |lcX (m:Bool) (fr:List Nat) (nt:Nat) (elt:CE) (tg:CT) (e:CE) (ifs:CBs)
 |genX (w:GW) (fr:List Nat) (nt:Nat) (elt:CE) (tg:CT) (e:CE) (ifs:CBs)
inductive CEs where|nil|cons (e:CE) (r:CEs)
inductive CB where|val (e:CE)|and (a b:CB)|or (a b:CB)|not (a:CB)
inductive CBs where|nil|cons (e:CB) (r:CBs)
inductive CO where|none|some (e:CE)
inductive CI where|seq (e:CE)|rng (es:CEs)|zip (a b:CE)
inductive CT where|var (i:Nat)|tup (r:CTs)|sub (o i:CE)
inductive CTs where|nil|cons (t:CT) (r:CTs)
end
noncomputable abbrev Fs:=Nat->List D->Sr->Res D
noncomputable def varE(ρ:En)(i:Nat)(S:Sr):Res D:=match ρ[i]? with|some (some d)=>.ok d S|_=>.no
noncomputable def putN(S:Sr)(n:Nat)(i v:D):Option Sr:=match S[n]? with
 |some (.lst l)=>match i with
  | .int k=>(ixN l.length k).map λj=>S.set n (.lst (l.set j v))
  |_=>none
 |some (.dic l)=>match i with
  | .tup ks=>(intsOf ks).bind λk=>if l.length<1000 then some (S.set n (.dic (putT k v l)))else none
  |_=>none
 |some (.dis l)=>(keyD i).bind λk=>if l.length<1000 then some (S.set n (.dis (putT k v l)))else none
 |none=>none
noncomputable def putE(S:Sr)(o i v:D):Option Sr:=if refsLt 0 v then(match o with
 | .ref n=>putN S n i v
 |_=>none)else none
noncomputable def isLst(S:Sr):D->Bool
 | .ref n=>match S[n]? with|some (.lst _)=>true|_=>false
 |_=>false
noncomputable def isDic(S:Sr):D->Bool
 | .ref n=>match S[n]? with|some (.dic _)=>true|some (.dis _)=>true|_=>false
 |_=>false
noncomputable def getD(S:Sr)(x y z:D):Option D:=match x,y with
 | .ref n,.tup ks=>match S[n]? with
  |some (.dic l)=>(intsOf ks).map λk=>(lookT k l).getD z
  |_=>none
 | .ref n,.str t=>match S[n]? with
  |some (.dis l)=>some ((lookT (.inr t) l).getD z)
  |_=>none
 |_,_=>none
noncomputable def popD(S:Sr)(o i:D):Res D:=match o,i with
 | .ref n,.int k=>match S[n]? with
  |some (.lst l)=>if 0<=k/\k<2^62 then(match l[k.toNat]? with
   |some d=>.ok d (S.set n (.lst (l.eraseIdx k.toNat)))
   |none=>.no)else .no
  |_=>.no
 |_,_=>.no
noncomputable def appD(S:Sr)(o e:D):Res D:=match o with
 | .ref n=>match S[n]? with
  |some (.lst l)=>if l.length<sizeLine/\refsLt 0 e=true then .ok .non (S.set n (.lst (l++[e])))else .no
  |_=>.no
 |_=>.no
noncomputable def remD(S:Sr)(o i:D):Res D:=match o,i with
 | .ref n,.int k=>match S[n]? with
  |some (.lst l)=>match intsOf l with
   |some ns=>if k∈ns then .ok .non (S.set n (.lst ((ns.erase k).map .int)))else .no
   |none=>.no
  |_=>.no
 |_,_=>.no
noncomputable def neFD(S:Sr)(x y:D):Option Bool:=match x with
 | .ref n=>match S[n]? with
  |some (.lst l)=>if refsLt n y then(eqD 20 (.lst l) y).map (!·)else none
  |_=>none
 |_=>none
noncomputable def idkD(S:Sr)(x i:D):Option D:=match x with
 | .ref n=>match S[n]? with
  |some (.dis l)=>(keyD i).bind λk=>lookT k l
  |_=>none
 |_=>none
noncomputable def dcKL(d:Int)(ns:List Int):List (Key×D):=ns.foldl (λl k=>putT (.inl k:Key) (.int d) l) []
noncomputable def extD(S:Sr)(o e:D):Res D:=match o,e with
 | .ref n,.lst z=>match S[n]? with
  |some (.lst l)=>if l.length+z.length<=sizeLine/\refsLts 0 z=true then .ok .non (S.set n (.lst (l++z)))else .no
  |_=>.no
 |_,_=>.no
noncomputable def rngD:List D->Option (List D)
 |[.int b]=>if -(2^62)<=b/\b<2^62 then some (rngL 0 b 1)else none
 |[.int a,.int b]=>if -(2^62)<=a/\a<2^62/\-(2^62)<=b/\b<2^62 then some (rngL a b 1)else none
 |[.int a,.int b,.int s]=>if -(2^62)<=a/\a<2^62/\-(2^62)<=b/\b<2^62/\0<s/\s<2^62 then some (rngL a b s)else none
 |_=>none
noncomputable def frE(ρ:En)(fr:List Nat)(nt:Nat):En:=fr.map (λi=>(ρ[i]?).getD none)++List.replicate nt none
noncomputable def lcLoop(n:Nat)(bind:D->En->Sr->Res En)(test:En->Sr->Res Bool)(elt:En->Sr->Res D):List D->En->Sr->Res En
 |[],ρ,S=>.ok ρ S
 |d::r,ρ,S=>(bind d ρ S).bind λρ1 S1=>(test ρ1 S1).bind λb S2 =>
   if b then(elt ρ1 S2).bind λv a=>(appD a (.ref n) v).bind λ_ c=>lcLoop n bind test elt r ρ1 c
   else lcLoop n bind test elt r ρ1 S2
noncomputable def lcEnd(m:Bool)(n:Nat)(S:Sr):Res D :=
 if m then .ok (.ref n) S
 else if S.length=n+1 then(match S[n]? with
  |some (.lst l)=>.ok (.lst l) (S.take n)
  |_=>.no)else .no
def own(n:Nat)(l:List D)(S:Sr):Prop:=S[n]?=some (.lst l)
noncomputable def grd{a:Type}(gd:Sr->Prop)(S:Sr)(r:Res a):Res a:=@ite _ (gd S) (Classical.propDecidable _) r .no
theorem zy{a:Type}{gd:Sr->Prop}{S:Sr}(h:gd S)(r:Res a):grd gd S r=r:=wM h
theorem yi{a:Type}{gd:Sr->Prop}{S:Sr}(h:¬gd S)(r:Res a):grd gd S r=.no:=wO h
noncomputable def refX(x:D)(S:Sr):Option (List D×(Sr->Prop)):=match x with
 | .ref n=>match S[n]? with
  |some (.lst l)=>some (l,own n l)
  |_=>none
 | .tup l=>some (l,λ_=>True)
 | .lst l=>some (l,λ_=>True)
 |_=>none
noncomputable def refL(x:D)(S:Sr):Option (Nat×List D):=match x with
 | .ref n=>match S[n]? with
  |some (.lst l)=>some (n,l)
  |_=>none
 |_=>none
noncomputable def genLoop{a:Type}(bind:D->En->Sr->Res En)(test:En->Sr->Res Bool)(elt:En->Sr->Res D)(step:a->D->Option (a ⊕ D))(fin:a->Option D):List D->En->a->Sr->Res D
 |[],_,b,S=>ofO (fin b) S
 |d::r,ρ,b,S=>(bind d ρ S).bind λρ1 S1=>(test ρ1 S1).bind λt S2 =>
   if t then(elt ρ1 S2).bind λv c=>match step b v with
    |some (.inl b')=>genLoop bind test elt step fin r ρ1 b' c
    |some (.inr x)=>.ok x c
    |none=>.no
   else genLoop bind test elt step fin r ρ1 b S2
noncomputable def genLoopG{a:Type}(gd:Sr->Prop)(bind:D->En->Sr->Res En)(test:En->Sr->Res Bool)(elt:En->Sr->Res D)(step:a->D->Option (a ⊕ D))(fin:a->Option D):List D->En->a->Sr->Res D
 |[],_,b,S=>grd gd S (ofO (fin b) S)
 |d::r,ρ,b,S=>grd gd S ((bind d ρ S).bind λρ1 S1=>(test ρ1 S1).bind λt S2 =>
   if t then(elt ρ1 S2).bind λv c=>match step b v with
    |some (.inl b')=>genLoopG gd bind test elt step fin r ρ1 b' c
    |some (.inr x)=>.ok x c
    |none=>.no
   else genLoopG gd bind test elt step fin r ρ1 b S2)
theorem yj{a:Type}{bind:D->En->Sr->Res En}{test:En->Sr->Res Bool}{elt:En->Sr->Res D}{step:a->D->Option (a ⊕ D)}{fin:a->Option D}:∀(l:List D) (ρ:En) (b:a) (S:Sr),genLoopG (λ_=>True) bind test elt step fin l ρ b S=genLoop bind test elt step fin l ρ b S
 |[],_,_,_=>zy trivial _
 |d::r,ρ,b,S=>by
  unfold genLoopG genLoop
  rw[zy trivial]
  congr 1;funext ρ1 S1
  congr 1;funext t S2
  cases t
  .exact yj r ρ1 b S2
  .simp only[wr]
   congr 1;funext v S3
   cases step b v with
   |none=>rfl
   |some x=>cases x with
    |inl c=>exact yj r ρ1 c S3
    |inr x=>rfl
noncomputable def newLls(k:Nat)(S:Sr):Res D:=if k<=sizeLine then .ok (.ref (S.length+k)) (S++List.replicate k (.lst [])++[.lst ((List.range k).map λi=>.ref (S.length+i))])else .no
noncomputable def stepG(w:GW)(b:D)(v:D):Option (D ⊕ D):=match w,b,v with
 | .all,_,.bl true=>some (.inl .non)
 | .all,_,.bl false=>some (.inr (.bl false))
 | .any,_,.bl false=>some (.inl .non)
 | .any,_,.bl true=>some (.inr (.bl true))
 | .sum,.int i,.int j=>some (.inl (.int (i+j)))
 | .tuple,.tup l,v=>if l.length<sizeLine then some (.inl (.tup (l++[v])))else none
 |_,_,_=>none
noncomputable def startG:GW->D
 | .all=>.non|.any=>.non|.sum=>.int 0|.tuple=>.tup []
noncomputable def finG(w:GW)(b:D):Option D:=match w with
 | .all=>some (.bl true)
 | .any=>some (.bl false)
 | .sum=>some b
 | .tuple=>some b
mutual
noncomputable def ev(F:Fs):CE->En->Sr->Res D
 | .var i,ρ,S=>varE ρ i S
 | .cst d,_,S=>.ok d S
 | .bin o a b,ρ,S=>(ev F a ρ S).bind λx S1=>(ev F b ρ S1).bind λy S2=>ofO (binD o x y S2) S2
 | .neg a,ρ,S=>(ev F a ρ S).bind λx S1=>match x with|.int i=>.ok (.int (-i)) S1|_=>.no
 | .cmp o a b,ρ,S=>(ev F a ρ S).bind λx S1=>(ev F b ρ S1).bind λy S2=>ofO ((cmpD o x y S2).map .bl) S2
 | .chain o o' a b c,ρ,S=>(ev F a ρ S).bind λx S1=>(ev F b ρ S1).bind λy S2=>match cmpD o x y S2 with
  |some true=>(ev F c ρ S2).bind λz S3=>ofO ((cmpD o' y z S3).map .bl) S3
  |some false=>.ok (.bl false) S2
  |none=>.no
 | .and a b,ρ,S=>(ev F a ρ S).bind λx S1=>match x with
  | .bl true=>ev F b ρ S1
  | .bl false=>.ok (.bl false) S1
  |_=>.no
 | .or a b,ρ,S=>(ev F a ρ S).bind λx S1=>match x with
  | .bl true=>.ok (.bl true) S1
  | .bl false=>ev F b ρ S1
  |_=>.no
 | .not a,ρ,S=>(ev F a ρ S).bind λx S1=>match x with
  | .bl b=>.ok (.bl (!b)) S1
  |_=>.no
 | .ife c a b,ρ,S=>(tst F c ρ S).bind λt S1=>if t then ev F a ρ S1 else ev F b ρ S1
 | .tup es,ρ,S=>(evs F es ρ S).bind λl S1=>if l.length<=sizeLine then .ok (.tup l) S1 else .no
 | .lst m es,ρ,S=>(evs F es ρ S).bind λl S1=>if l.length<=sizeLine then newL m l S1 else .no
 | .dic m,_,S=>if m then .ok (.ref S.length) (S++[.dic []])else .ok .emp S
 | .dis,_,S=>.ok (.ref S.length) (S++[.dis []])
 | .fmt a,ρ,S=>(ev F a ρ S).bind λx S1=>bStr x S1
 | .join3 a b c,ρ,S=>(ev F a ρ S).bind λx S1=>(ev F b ρ S1).bind λy S2=>(ev F c ρ S2).bind λz S3=>ofO (joinD x y z) S3
 | .call f es,ρ,S=>(evs F es ρ S).bind λl S1=>F f l S1
 | .blt b es,ρ,S=>(evs F es ρ S).bind λl S1=>bltD b l S1
 | .isi t a,ρ,S=>(ev F a ρ S).bind λx S1=>ofO ((isiD S1 t x).map .bl) S1
 | .binM o a b,ρ,S=>(ev F a ρ S).bind λx S1=>(ev F b ρ S1).bind λy S2=>R.binM o x y S2
 | .popAt o i,ρ,S=>(ev F o ρ S).bind λx S1=>if isLst S1 x then(ev F i ρ S1).bind λy S2=>popD S2 x y else .no
 | .app o e,ρ,S=>(ev F o ρ S).bind λx S1=>if isLst S1 x then(ev F e ρ S1).bind λy S2=>appD S2 x y else .no
 | .ext o e,ρ,S=>(ev F o ρ S).bind λx S1=>if isLst S1 x then(ev F e ρ S1).bind λy S2=>extD S2 x y else .no
 | .get o k e,ρ,S=>(ev F o ρ S).bind λx S1=>if isDic S1 x then(ev F k ρ S1).bind λy S2=>(ev F e ρ S2).bind λz S3=>ofO (getD S3 x y z) S3 else .no
 | .idx a i,ρ,S=>(ev F a ρ S).bind λx S1=>(ev F i ρ S1).bind λy S2=>ofO (idxD S2 x y) S2
 | .slc a lo hi,ρ,S=>(ev F a ρ S).bind λx S1=>(evO F lo ρ S1).bind λl S2=>(evO F hi ρ S2).bind λh S3=>ofO (slcD S3 x l h) S3
 | .rev a,ρ,S=>(ev F a ρ S).bind λx S1=>match x with
  | .tup l=>.ok (.tup l.reverse) S1
  |_=>.no
 | .rng k es,ρ,S=>(evs F es ρ S).bind λl S1=>match rngD l with
  |some ds=>if ds.length<=1000000 then(match k with
   |some m=>newL m ds S1
   |none=>.ok (.tup ds) S1)else .no
  |none=>.no
 | .lc m fr nt elt tg it ifs,ρ,S=>(evI F it ρ S).bind λds S1 =>
   (lcLoop S1.length (λd ρ S=>asg F tg d ρ S) (λρ S=>tsts F ifs ρ S) (λρ S=>ev F elt ρ S) ds (frE ρ fr nt) (S1++[.lst []])).bind λ_ S2=>lcEnd m S1.length S2
 | .lcR m fr nt elt tg e ifs,ρ,S=>(ev F e ρ S).bind λx S1=>match refL x S1 with
  |some p=>(lcLoop S1.length (λd ρ S=>grd (own p.1 p.2) S (asg F tg d ρ S)) (λρ S=>tsts F ifs ρ S) (λρ S=>ev F elt ρ S) p.2 (frE ρ fr nt) (S1++[.lst []])).bind λ_ S2=>grd (own p.1 p.2) S2 (lcEnd m S1.length S2)
  |none=>.no
 | .lcX m fr nt elt tg e ifs,ρ,S=>(ev F e ρ S).bind λx S1=>match refX x S1 with
  |some p=>(lcLoop S1.length (λd ρ S=>grd p.2 S (asg F tg d ρ S)) (λρ S=>tsts F ifs ρ S) (λρ S=>ev F elt ρ S) p.1 (frE ρ fr nt) (S1++[.lst []])).bind λ_ S2=>grd p.2 S2 (lcEnd m S1.length S2)
  |none=>.no
 | .genX w fr nt elt tg e ifs,ρ,S=>(ev F e ρ S).bind λx S1=>match refX x S1 with
  |some p=>genLoopG p.2 (λd ρ S=>asg F tg d ρ S) (λρ S=>tsts F ifs ρ S) (λρ S=>ev F elt ρ S) (stepG w) (finG w) p.1 (frE ρ fr nt) (startG w) S1
  |none=>.no
 | .neF a b,ρ,S=>(ev F a ρ S).bind λx S1=>(ev F b ρ S1).bind λy S2=>ofO ((neFD S2 x y).map .bl) S2
 | .rem o i,ρ,S=>(ev F o ρ S).bind λx S1=>if isLst S1 x then(ev F i ρ S1).bind λy S2=>remD S2 x y else .no
 | .idk a i,ρ,S=>(ev F a ρ S).bind λx S1=>(ev F i ρ S1).bind λy S2=>ofO (idkD S2 x y) S2
 | .dcK d e,ρ,S=>(ev F e ρ S).bind λx S1=>match refX x S1 with
  |some p=>match intsOf p.1 with
   |some ns=>if ns.length<1000 then .ok (.ref S1.length) (S1++[.dis (dcKL d ns)])else .no
   |none=>.no
  |none=>.no
 | .lls e,ρ,S=>(ev F e ρ S).bind λx S1=>match x with
  | .tup l=>newLls l.length S1
  |_=>.no
 | .gen w fr nt elt tg it ifs,ρ,S=>(evI F it ρ S).bind λds S1 =>
   genLoop (λd ρ S=>asg F tg d ρ S) (λρ S=>tsts F ifs ρ S) (λρ S=>ev F elt ρ S) (stepG w) (finG w) ds (frE ρ fr nt) (startG w) S1
noncomputable def evs(F:Fs):CEs->En->Sr->Res (List D)
 | .nil,_,S=>.ok [] S
 | .cons e r,ρ,S=>(ev F e ρ S).bind λx S1=>(evs F r ρ S1).bind λl S2=>.ok (x::l) S2
noncomputable def evO(F:Fs):CO->En->Sr->Res (Option Int)
 | .none,_,S=>.ok none S
 | .some e,ρ,S=>(ev F e ρ S).bind λx S1=>match x with|.int i=>.ok (some i) S1|_=>.no
noncomputable def evI(F:Fs):CI->En->Sr->Res (List D)
 | .seq e,ρ,S=>(ev F e ρ S).bind λx S1=>match x with
  | .tup l=>.ok l S1
  | .lst l=>.ok l S1
  |_=>.no
 | .rng es,ρ,S=>(evs F es ρ S).bind λl S1=>ofO (rngD l) S1
 | .zip a b,ρ,S=>(ev F a ρ S).bind λx S1=>(ev F b ρ S1).bind λy S2=>match walkF x,walkF y with
  |some l,some m=>.ok ((l.zip m).map λp=>.tup [p.1,p.2]) S2
  |_,_=>.no
noncomputable def asg(F:Fs):CT->D->En->Sr->Res En
 | .var i,d,ρ,S=>.ok (ρ.set i (some d)) S
 | .tup r,d,ρ,S=>match d with
  | .tup l=>asgs F r l ρ S
  |_=>.no
 | .sub o i,d,ρ,S=>(ev F o ρ S).bind λx S1=>(ev F i ρ S1).bind λy S2=>match putE S2 x y d with
  |some S3=>.ok ρ S3
  |none=>.no
noncomputable def asgs(F:Fs):CTs->List D->En->Sr->Res En
 | .nil,l,ρ,S=>match l with|[]=>.ok ρ S|_=>.no
 | .cons t r,l,ρ,S=>match l with
  |d::m=>(asg F t d ρ S).bind λρ1 S1=>asgs F r m ρ1 S1
  |[]=>.no
noncomputable def tst(F:Fs):CB->En->Sr->Res Bool
 | .val e,ρ,S=>(ev F e ρ S).bind λx S1=>ofO (truD S1 x) S1
 | .and a b,ρ,S=>(tst F a ρ S).bind λt S1=>if t then tst F b ρ S1 else .ok false S1
 | .or a b,ρ,S=>(tst F a ρ S).bind λt S1=>if t then .ok true S1 else tst F b ρ S1
 | .not a,ρ,S=>(tst F a ρ S).bind λt S1=>.ok (!t) S1
noncomputable def tsts(F:Fs):CBs->En->Sr->Res Bool
 | .nil,_,S=>.ok true S
 | .cons e r,ρ,S=>(tst F e ρ S).bind λt S1=>if t then tsts F r ρ S1 else .ok false S1
end
mutual
inductive CS where
 |expr (e:CE)|ret (e:CE)|retN|set (t:CT) (e:CE)|par (i j:Nat) (a b:CE)
 |aug (i:Nat) (o:BOp) (e:CE)|augK (o i e:CE)
 |ifs (c:CB) (a b:CSs)|forS (t:CT) (it:CI) (body:CSs)|forR (t:CT) (e:CE) (body:CSs)|forX (t:CT) (e:CE) (body:CSs)|whileS (c:CB) (body:CSs)
 |pass|brk|cont|never
inductive CSs where|nil|cons (s:CS) (r:CSs)
end
inductive Fl where|nx (ρ:En)|bk (ρ:En)|ct (ρ:En)|rt (d:D)
noncomputable def forLoop(body:D->En->Sr->Res Fl):List D->En->Sr->Res Fl
 |[],ρ,S=>.ok (.nx ρ) S
 |d::r,ρ,S=>(body d ρ S).bind λf S1=>match f with
  | .nx ρ1=>forLoop body r ρ1 S1
  | .ct ρ1=>forLoop body r ρ1 S1
  | .bk ρ1=>.ok (.nx ρ1) S1
  | .rt d=>.ok (.rt d) S1
noncomputable def endG(gd:Sr->Prop)(r:Res Fl):Res Fl:=r.bind λf S=>match f with
 | .rt d=>.ok (.rt d) S
 |f=>grd gd S (.ok f S)
noncomputable def whileLoop(test:En->Sr->Res Bool)(body:En->Sr->Res Fl):Nat->En->Sr->Res Fl
 |0,_,_=>.no
 |n+1,ρ,S=>(test ρ S).bind λt S1=>if t then(body ρ S1).bind λf S2=>(match f with
   | .nx ρ1=>whileLoop test body n ρ1 S2
   | .ct ρ1=>whileLoop test body n ρ1 S2
   | .bk ρ1=>.ok (.nx ρ1) S2
   | .rt d=>.ok (.rt d) S2)
  else .ok (.nx ρ) S1
mutual
noncomputable def ex(F:Fs)(N:Nat):CS->En->Sr->Res Fl
 | .expr e,ρ,S=>(ev F e ρ S).bind λ_ S1=>.ok (.nx ρ) S1
 | .ret e,ρ,S=>(ev F e ρ S).bind λd S1=>.ok (.rt d) S1
 | .retN,_,S=>.ok (.rt .non) S
 | .set t e,ρ,S=>(ev F e ρ S).bind λd S1=>(asg F t d ρ S1).bind λρ1 S2=>.ok (.nx ρ1) S2
 | .par i j a b,ρ,S=>(ev F a ρ S).bind λx S1=>(ev F b ρ S1).bind λy S2=>.ok (.nx ((ρ.set i (some x)).set j (some y))) S2
 | .aug i o e,ρ,S=>(varE ρ i S).bind λx S0=>(ev F e ρ S0).bind λy S1=>match x,y with
  | .int a,.int b=>match o with
   | .add=>.ok (.nx (ρ.set i (some (.int (a+b))))) S1
   | .sub=>.ok (.nx (ρ.set i (some (.int (a-b))))) S1
   |_=>.no
  |_,_=>.no
 | .augK o i e,ρ,S=>(ev F o ρ S).bind λx S1=>(ev F i ρ S1).bind λy S2=>match idkD S2 x y with
  |some (.int a)=>(ev F e ρ S2).bind λz S3=>match z with
   | .int b=>match putE S3 x y (.int (a+b))with
    |some S4=>.ok (.nx ρ) S4
    |none=>.no
   |_=>.no
  |_=>.no
 | .ifs c a b,ρ,S=>(tst F c ρ S).bind λt S1=>if t then exs F N a ρ S1 else exs F N b ρ S1
 | .forS t it body,ρ,S=>(evI F it ρ S).bind λds S1=>forLoop (λd ρ S=>(asg F t d ρ S).bind λρ1 S1=>exs F N body ρ1 S1) ds ρ S1
 | .forX t e body,ρ,S=>(ev F e ρ S).bind λx S1=>match refX x S1 with
  |some p=>endG p.2 (forLoop (λd ρ S=>(grd p.2 S (asg F t d ρ S)).bind λρ1 S1=>exs F N body ρ1 S1) p.1 ρ S1)
  |none=>.no
 | .forR t e body,ρ,S=>(ev F e ρ S).bind λx S1=>match refL x S1 with
  |some p=>endG (own p.1 p.2) (forLoop (λd ρ S=>(grd (own p.1 p.2) S (asg F t d ρ S)).bind λρ1 S1=>exs F N body ρ1 S1) p.2 ρ S1)
  |none=>.no
 | .whileS c body,ρ,S=>whileLoop (λρ S=>tst F c ρ S) (λρ S=>exs F N body ρ S) N ρ S
 | .pass,ρ,S=>.ok (.nx ρ) S
 | .brk,ρ,S=>.ok (.bk ρ) S
 | .cont,ρ,S=>.ok (.ct ρ) S
 | .never,_,_=>.no
noncomputable def exs(F:Fs)(N:Nat):CSs->En->Sr->Res Fl
 | .nil,ρ,S=>.ok (.nx ρ) S
 | .cons s r,ρ,S=>(ex F N s ρ S).bind λf S1=>match f with
  | .nx ρ1=>exs F N r ρ1 S1
  |f=>.ok f S1
end
structure CF where
 np:Nat
 nn:Nat
 keeps:Bool
 body:CSs
mutual
noncomputable def frz(S:Sr)(n:Nat):D->Option D
 | .tup l=>(frzs S n l).map .tup
 | .lst l=>(frzs S n l).map .lst
 | .ref m=>if m<n then some (.ref m)else match S[m]? with
  |some (.lst l)=>if refsLts n l then some (.lst l)else none
  |_=>none
 | .non=>some .non|.bl b=>some (.bl b)|.int i=>some (.int i)|.str x=>some (.str x)|.emp=>some .emp
noncomputable def frzs(S:Sr)(n:Nat):List D->Option (List D)
 |[]=>some []
 |d::r=>match frz S n d,frzs S n r with
  |some d',some r'=>some (d'::r')
  |_,_=>none
end
noncomputable def leave(keeps:Bool)(n:Nat)(d:D)(S:Sr):Res D :=
 if keeps then .ok d S
 else if S.length=n then .ok d S
 else if refsLt n d then .ok d (S.take n)else match frz S n d with
  |some d'=>.ok d' (S.take n)
  |none=>.no
noncomputable def callC(F:Fs)(N:Nat)(c:CF)(l:List D)(S:Sr):Res D :=
 if l.length=c.np then
  (exs F N c.body (l.map some++List.replicate (c.nn-c.np) none) S).bind λf S1=>match f with
   | .nx _=>leave c.keeps S.length .non S1
   | .rt d=>leave c.keeps S.length d S1
   |_=>.no
 else .no
noncomputable def run(P:List CF)(N:Nat):Nat->Fs
 |0,_,_,_=>.no
 |k+1,f,l,S=>match P[f]? with
  |some c=>callC (run P N k) N c l S
  |none=>.no
end R
namespace R
open PySem PySem.Spec L2
open PyProof.Rows hiding St
structure EnR (ι:List Addr) (H:Hp) (ρ:En) (σ:St):Prop where
 len:ρ.length=σ.length
 get:∀(i:Nat) (d:D),ρ[i]?=some (some d)->∃v,σ[i]?=some (some v)/\Den ι H d v
theorem EnR.mono{ι c:List Addr}{H H':Hp}{ρ:En}{f:St}(e:EnR ι H ρ f)(s:Stp ι H c H'):EnR c H' ρ f :=
 ⟨e.len,λi d h=>let ⟨v,a,b⟩:=e.get i d h;⟨v,a,Den.mono s d b⟩⟩
theorem EnR.set{ι:List Addr}{H:Hp}{ρ:En}{a:St}(e:EnR ι H ρ a){i:Nat}{d:D}{v:V}(h:Den ι H d v):EnR ι H (ρ.set i (some d)) (a.set i (some v)):=by
 refine⟨by simp[e.len],λj x q=>?_⟩
 by_cases z:i=j
 .subst z
  have b:i<ρ.length:=by
   have:=(wP.mp q).1
   simpa using this
  rw[vc b]at q
  cases q
  exact⟨v,vc (by rw[<-e.len];exact b),h⟩
 .rw [u6 z]at q ⊢
  exact e.get j x q
def Pst{d e:Type}(R:List Addr->Hp->d->e->Prop)(r:Res d)(ι:List Addr)(H:Hp)(Q:e->Hp->Prop):Prop:=match r with
 | .ok a f=>∀b c H',Stp ι H c H'->Sto c H' f->R c H' a b->Q b H'
 | .err _ _=>False
 | .no=>False
theorem Pst.from{e f:Type}{R:List Addr->Hp->e->f->Prop}{r:Res e}{ι c:List Addr}{H H':Hp}{Q:f->Hp->Prop}(h:Pst R r ι H Q)(s:Stp ι H c H'):Pst R r c H' Q:=by
 cases r with
 |ok a S=>exact λb d H2 t st q=>h b d H2 (s.trans t) st q
 |err=>exact h
 |no=>exact h
theorem Pst.bind{d i j l:Type}{R:List Addr->Hp->d->i->Prop}{m:List Addr->Hp->j->l->Prop}{r:Res d}{f:d->Sr->Res j}{ι:List Addr}{H:Hp}{Q:l->Hp->Prop}{K:i->Hp->Prop}(h:Pst m (r.bind f) ι H Q)(k:∀a n c H' b,Stp ι H c H'->Sto c H' n->R c H' a b->Pst m (f a n) c H' Q->K b H'):Pst R r ι H K:=by
 cases r with
 |ok a S=>exact λb e H2 t st q=>k a S e H2 b t st q (Pst.from h t)
 |err=>exact h
 |no=>exact h
theorem Pst.ofO{d e:Type}{R:List Addr->Hp->d->e->Prop}{o:Option d}{S:Sr}{ι:List Addr}{H:Hp}{Q:e->Hp->Prop}(h:Pst R (ofO o S) ι H Q)(st:Sto ι H S):∃a,o=some a/\∀b c H',Stp ι H c H'->Sto c H' S->R c H' a b->Q b H':=by
 cases o with
 |none=>exact h.elim
 |some a=>exact⟨a,rfl,h⟩
noncomputable def TG{a b:Type}(R:List Addr->Hp->a->b->Prop)(m:En->Sr->Res a):St->Hp->(b->Hp->Prop)->Prop:=λc H Q=>∃ι S ρ,EnR ι H ρ c/\Sto ι H S/\Pst R (m ρ S) ι H Q
noncomputable abbrev T(m:En->Sr->Res D):TE:=TG Den m
noncomputable abbrev TL(m:En->Sr->Res (List D)):TA:=TG Dens m
def EqR{c:Type}(_:List Addr)(_:Hp)(a b:c):Prop:=a=b
noncomputable abbrev TB(m:En->Sr->Res Bool):TT:=TG EqR m
noncomputable abbrev TOp(m:En->Sr->Res (Option Int)):TO:=TG EqR m
theorem TG.b1{d l n o:Type}{R:List Addr->Hp->d->l->Prop}{q:List Addr->Hp->n->o->Prop}{m:En->Sr->Res d}{f:En->d->Sr->Res n}{e:St}{H:Hp}{Q:o->Hp->Prop}{K:l->Hp->Prop}(h:TG q (λρ S=>(m ρ S).bind λa S1=>f ρ a S1) e H Q)(k:∀ι S ρ a b c,EnR ι c ρ e->Sto ι c S->R ι c a b->Pst q (f ρ a S) ι c Q->K b c):TG R m e H K:=by
 obtain⟨ι,S,ρ,r,st,h⟩:=h
 exact⟨ι,S,ρ,r,st,Pst.bind h λa u i H' b s j v p=>k i u ρ a b H' (r.mono s) j v p⟩
theorem Pst.tg{e l n o:Type}{R:List Addr->Hp->e->l->Prop}{q:List Addr->Hp->n->o->Prop}{m:En->Sr->Res e}{ρ:En}{S:Sr}{f:e->Sr->Res n}{ι:List Addr}{i:St}{H:Hp}{Q:o->Hp->Prop}{K:l->Hp->Prop}(h:Pst q ((m ρ S).bind f) ι H Q)(r:EnR ι H ρ i)(st:Sto ι H S)(k:∀a d c H' b,Stp ι H c H'->EnR c H' ρ i->Sto c H' d->R c H' a b->Pst q (f a d) c H' Q->K b H'):TG R m i H K :=
 ⟨ι,S,ρ,r,st,Pst.bind h λa d c H' b s j u p=>k a d c H' b s (r.mono s) j u p⟩
theorem PEimp{X:Cx}{e:Expr}{t t':TE}(h:PE X e t)(k:∀a H Q,t' a H Q->t a H Q):PE X e t':=λpins s a H Q I b=>h pins s a H Q I (k a H Q b)
theorem PTimp{X:Cx}{e:Expr}{t t':TT}(h:PT X e t)(k:∀a H Q,t' a H Q->t a H Q):PT X e t':=λpins s a H Q I b=>h pins s a H Q I (k a H Q b)
theorem PAimp{X:Cx}{e:List Expr}{t t':TA}(h:PA X e t)(k:∀a H Q,t' a H Q->t a H Q):PA X e t':=λpos pins s a H Q I b=>h pos pins s a H Q I (k a H Q b)
section
variable{ι:List Addr}{H:Hp}{S:Sr}{v:V}
theorem qM(st:Sto ι H S):∀{d:D} {l:List D},lstOf S d=some l->Den ι H d v->∃a xs,v=.ref a/\Rd H a (.lst xs)/\Dens ι H l xs
 | .lst b,l,h,hd=>by
  cases h
  obtain⟨a,xs,e,_,r,q⟩:=hd
  exact⟨a,xs,e,r,q⟩
 | .ref n,l,h,hd=>by
  obtain⟨a,e,ha⟩:=hd
  simp only[lstOf]at h
  split at h
  .rename_i b c
   cases h
   obtain⟨_,xs,f,i⟩:=st.obj n a _ ha c
   exact⟨a,xs,e,.inl f,i⟩
  .cases h
 | .non,_,h,_=>by cases h
 | .bl _,_,h,_=>by cases h
 | .int _,_,h,_=>by cases h
 | .str _,_,h,_=>by cases h
 | .tup _,_,h,_=>by cases h
 | .emp,_,h,_=>by cases h
theorem qX{m:Bool}{l:List D}{xs:List V}{Q:V->Hp->Prop}(st:Sto ι H S)(c:Dens ι H l xs)(h:Pst Den (newL m l S) ι H Q):∀p,H p=none->Q (.ref p) (upd H p (.lst xs)):=by
 intro p a
 unfold newL at h
 cases m with
 |true =>
  rw[wM rfl]at h
  by_cases b:refsLts 0 l=true
  .rw [wM b]at h
   have g:=Stp.grow (ι:=ι) a (.lst xs)
   have d:(ι++[p])[ι.length]?=some p:=by simp
   refine h (.ref p) _ _ g (st.grow a ⟨⟨_,d,qQ l b⟩,xs,qv,Dens.mono g l c⟩) ⟨p,rfl,?_⟩
   rw[<-st.len];exact d
  .rw [wO b]at h;exact h.elim
 |false =>
  have g:=Stp.laid (ι:=ι) a (.lst xs)
  exact h (.ref p) _ _ g (st.laid a _) ⟨p,xs,rfl,st.fresh a,.inl qv,Dens.mono g l c⟩
theorem zd{l:List D}{xs:List V}{Q:V->Hp->Prop}(st:Sto ι H S)(c:Dens ι H l xs)(h:∀v a H',Stp ι H a H'->Sto a H' S->Den a H' (.tup l) v->Q v H'):∀p,H p=none->Q (.ref p) (upd H p (.tup xs)):=by
 intro p b
 have g:=Stp.laid (ι:=ι) b (.tup xs)
 exact h (.ref p) _ _ g (st.laid b _) ⟨p,xs,rfl,st.fresh b,qv,Dens.mono g l c⟩
end
section
variable{X:Cx}
theorem qle{i:Nat}{x:Str}{pos:Pos}(h:PE X (.Name x pos) (tVar i)):PE X (.Name x pos) (T λρ S=>varE ρ i S):=PEimp h λf H Q a=>by
 obtain⟨ι,S,ρ,b,st,p⟩:=a
 dsimp only[varE]at p
 split at p
 .rename_i d hd
  obtain⟨v,c,e⟩:=b.get i d hd
  exact⟨v,c,p v ι H (Stp.refl _ _) st e⟩
 .exact p.elim
theorem qfm{e:Expr}{d:D}{v:V}(h:PE X e (tC v))(hd:∀ι H,Den ι H d v):PE X e (T λ_ S=>.ok d S):=PEimp h λb H Q a=>by
 obtain⟨ι,S,ρ,c,st,p⟩:=a
 exact p v ι H (Stp.refl _ _) st (hd ι H)
theorem qjM{e:Expr}{d:D}{v:V}(h:PE X e (λ_ H Q=>Q v H))(hd:∀ι H,Den ι H d v):PE X e (T λ_ S=>.ok d S):=qfm h hd
theorem qlf:PA X [] (TL λ_ S=>.ok [] S):=PAimp qcz λb H Q a=>by
 obtain⟨ι,S,ρ,c,st,p⟩:=a
 exact p [] ι H (Stp.refl _ _) st rfl
theorem qjN{e:Expr}{es:List Expr}{m:En->Sr->Res D}{f:En->Sr->Res (List D)}(h:PE X e (T m))(i:PA X es (TL f))(j:starEach (e::es) X.env=(false,eval e X.env)::starEach es X.env):
  PA X (e::es) (TL λρ S=>(m ρ S).bind λx S1=>(f ρ S1).bind λl S2=>.ok (x::l) S2):=PAimp (jB h i j) λv H Q n=>by
 refine TG.b1 n λι S ρ a b w o st q p=>Pst.tg p o st λl S2 c H2 xs s2 r d s u=>?_
 exact u _ c H2 (Stp.refl _ _) d ⟨b,xs,rfl,Den.mono s2 a q,s⟩
noncomputable def G2(g:D->D->Sr->Res D):R2:=λx y H Q=>∃ι S dx a,Sto ι H S/\Den ι H dx x/\Den ι H a y/\Pst Den (g dx a S) ι H Q
theorem T2{f mb:En->Sr->Res D}{g:D->D->Sr->Res D}{i:St}{H:Hp}{Q:VK}(h:T (λρ S=>(f ρ S).bind λx S1=>(mb ρ S1).bind λy S2=>g x y S2) i H Q):tOp (G2 g) (T f) (T mb) i H Q :=
 TG.b1 h λι S ρ a b q j st l p=>Pst.tg p j st λm S2 c H2 b2 s2 n d e o=>⟨c,S2,a,m,d,Den.mono s2 a l,e,o⟩
theorem qiW{a b:Expr}{op:Operator}{pos:Pos}{c mb:En->Sr->Res D}{g:D->D->Sr->Res D}(d:OpR X (binaryOp op) (G2 g))(ha:PE X a (T c))(e:PE X b (T mb)):
  PE X (.BinOp a op b pos) (T λρ S=>(c ρ S).bind λx S1=>(mb ρ S1).bind λy S2=>g x y S2):=PEimp (qk3 d ha e) λf H Q=>T2
theorem qlg{a b:Expr}{op:CmpOp}{pos:Pos}{c mb:En->Sr->Res D}{g:D->D->Sr->Res D}(d:OpR X (compareOp op) (G2 g))(ha:PE X a (T c))(e:PE X b (T mb))(hm:behindInMarks op b=false):
  PE X (.Compare a [op] [b] pos) (T λρ S=>(c ρ S).bind λx S1=>(mb ρ S1).bind λy S2=>g x y S2):=PEimp (qhA d ha e hm) λf H Q=>T2
theorem qcI{pins:List (Addr×Obj)}{a:St}{H:Hp}{s:Shared}{l:Addr}{xs:List V}(I:Inv X pins a H s)(b:Rd H l (.lst xs)):xs.length<=sizeLine/\∃(its:List Value) (n:Nat),Vals xs its/\xs.length=its.length/\s.heap.get? l=some {cls:=.type "list",data:=.seq its.toArray n}:=by
 obtain⟨z,its,n,r,e⟩:=b.ok I.hok
 exact⟨z,its,n,r,r.length,e⟩
theorem qdi:OpR X (binaryOp .Add) (λx y H Q=>∃l b xs c,x=.ref l/\y=.ref b/\Rd H l (.lst xs)/\Rd H b (.lst c)/\xs.length+c.length<=sizeLine/\∀p,H p=none->Q (.ref p) (upd H p (.lst (xs++c)))):=by
 intro pins s A H x y v u Q I rx d h
 obtain⟨l,b,xs,c,rfl,rfl,f,i,B,q⟩:=h
 cases rx
 cases d
 obtain⟨z,its,n,r,C,e⟩:=qcI I f
 obtain⟨E,a,F,j,m,o⟩:=qcI I i
 refine PySem.P.add_list e o ?_ (by rw[wL,wL];lia)
 have w:its.toArray++a.toArray=(its++a).toArray:=by simp
 rw[w]
 exact⟨.ref _,_,I.lnew (t':=s.toks) (r.append j) (by rw[wd];lia),rfl,q _ I.fresh⟩
theorem qdj:OpR X (binaryOp .Mult) (λx y H Q=>∃l k xs,x=.ref l/\y=.int k/\Rd H l (.lst xs)/\-(2^63)<=k/\k<2^63/\xs.length*k.toNat<=sizeLine /\
 ∀p,H p=none->Q (.ref p) (upd H p (.lst (List.replicate k.toNat xs).flatten))):=by
 intro pins s L H x y v u Q I rx A h
 obtain⟨l,k,xs,rfl,rfl,B,C,E,w,q⟩:=h
 cases rx
 obtain⟨t,rfl⟩:=A
 obtain⟨z,its,n,r,J,e⟩:=qcI I B
 have c:its.toArray.size*k.toNat<=sizeLine:=by rw[wL,<-J];exact w
 have d:¬its.toArray.size*k.toNat>(2^63-1) / 8:=by
  have:(sizeLine:Nat)<=(2^63-1) / 8:=by decide
  lia
 have f:¬(!Builtin.List.listFitsIndex k)=true:=by
  rw[fitsIndex_both C E]
  exact wU
 have b:¬Builtin.List.listTooLong (its.toArray.size*k.toNat)=true:=by
  rw[notLongL c]
  exact wU
 have i:List.foldl (λj o=>j++o) #[] (List.replicate (if its.toArray.isEmpty=true then 0 else k.toNat) its.toArray)=(List.replicate k.toNat its).flatten.toArray:=by
  have K:∀m:Nat,List.foldl (λj o=>j++o) #[] (List.replicate m its.toArray)=(List.replicate m its).flatten.toArray:=λm=>by
   have:=jc its m []
   rw[List.nil_append]at this
   exact this
  rw[K]
  cases its with
  |nil=>simp
  |cons a r'=>rw[wO (by simp)]
 refine wpAny_binaryOp_repeat_ref (T:="list") (U:="int") (by decide) ⟨_,e,rfl⟩ (λs'=>u9 s' k t) noFill_list_mul F.fills_int_mul xP repeat_list F.slot_int_index.lookup
  (xS xP (u9 s k t) F.entry_int_rmul (F.args_int_rmul_2 _ _) (int___rmul___int_list k t l its.toArray n)
   ⟨e,rfl,⟨_,e,rfl⟩,xS F.slot_list_mul ⟨_,e,rfl⟩ F.entry_list_mul (F.args_list_mul_2 _ _) (AutoListH.list___mul___list_int_3 l its.toArray n k t f d b) ⟨e,?_⟩⟩)
 rw[i]
 exact⟨.ref _,_,I.lnew (t':=s.toks) (r.rep k.toNat) (by rw[qaX,Nat.mul_comm];exact w),rfl,q _ I.fresh⟩
noncomputable def opOf:BOp->Operator
 | .add=>.Add|.sub=>.Sub|.mul=>.Mult|.fdiv=>.FloorDiv|.mod=>.Mod|.pow=>.Pow|.shl=>.LShift|.shr=>.RShift|.band=>.BitAnd
theorem qjO(o:BOp):OpR X (binaryOp (opOf o)) (λx y H Q=>∃i j r,x=.int i/\y=.int j/\binI o i j=some r/\Q (.int r) H):=by
 intro pins s a H x y v u Q I rx b h
 obtain⟨i,j,r,rfl,rfl,e,q⟩:=h
 have fin:∀{r':Int} {t:Tok} {tk:Nat},r=r'->EP X pins a Q (.int r' t) {s with toks:=tk}:=λ{r' t tk} z=>by subst z;exact⟨.int r,H,I.tok _,⟨_,rfl⟩,q⟩
 obtain⟨c,rfl⟩:=rx
 obtain⟨d,rfl⟩:=b
 cases o with
 |add=>exact add_int (fin (by cases e;rfl))
 |sub=>exact sub_int (fin (by cases e;rfl))
 |mul =>
  simp only[binI]at e
  split at e
  .rename_i hm
   exact mul_int (fin (by cases e;rfl)) (by unfold mulOk at hm;unfold IntMulOk;intro z;rw[z]at hm;exact absurd hm (by decide))
  .cases e
 |fdiv =>
  simp only[binI]at e
  split at e
  .rename_i hm
   simp only[divOk,wW,ux,vB]at hm
   exact floordiv_int hm.1 (fin (by cases e;rfl)) (.inl hm.2)
  .cases e
 |mod =>
  simp only[binI]at e
  split at e
  .cases e
  .rename_i hm
   exact mod_int' hm (fin (by cases e;rfl))
 |pow =>
  simp only[binI]at e
  split at e
  .rename_i hm
   exact pow_int_small hm.1 hm.2.1 hm.2.2 (fin (by cases e;rfl))
  .cases e
 |shl =>
  simp only[binI]at e
  split at e
  .rename_i hm
   exact lshift_int_small hm.1 hm.2.1 hm.2.2 (fin (by cases e;rfl))
  .cases e
 |shr =>
  simp only[binI]at e
  split at e
  .rename_i hm
   exact qjx pins s a H (.int i) (.int j) _ _ Q I ⟨c,rfl⟩ ⟨d,rfl⟩ ⟨i,j,rfl,rfl,hm,by cases e;exact q⟩
  .cases e
 |band=>exact and_int (fin (by cases e;rfl))
end
end R
namespace R
open PySem PySem.Spec L2 SeqAt
open PyProof.Rows hiding St
theorem qbP{f:D->D->Option Bool}:∀{a b:List D} {r:Bool},eqL f a b=some r ->
  (∀(j:Nat) (x y:D),a[j]?=some x->b[j]?=some y->∃c,f x y=some c) /\
  r=((List.range (min a.length b.length)).all (λj=>match a[j]?,b[j]? with|some x,some y=>(f x y).getD false|_,_=>false)&&a.length == b.length)
 |[],[],r,h=>by cases h;exact⟨λj x y h _=>by simp at h,by simp⟩
 |[],_::_,r,h=>by cases h;exact⟨λj x y h _=>by simp at h,by simp⟩
 |_::_,[],r,h=>by cases h;exact⟨λj x y _ h=>by simp at h,by simp⟩
 |a::p,b::q,r,h=>by
  simp only[eqL]at h
  split at h
  .rename_i x y n o
   obtain⟨d,i⟩:=qbP o
   cases h
   refine⟨λj z w l m=>?_,?_⟩
   .cases j with
    |zero=>simp at l m;subst l m;exact⟨x,n⟩
    |succ j=>exact d j z w (by simpa using l) (by simpa using m)
   .have e:min (a::p).length (b::q).length=min p.length q.length+1:=by simp only[w4];lia
    rw[e,List.range_succ_eq_map,u8,List.all_map]
    simp only[vZ,n,Option.getD_some]
    rw[i,Bool.and_assoc]
    congr 1
    congr 1
    simp only[w4]
    rw[vP,vt,vt];lia
  .cases h
section
variable{ι:List Addr}{H:Hp}
theorem jP{a:Addr}{xs ys:List V}(h:H a=some (.tup xs))(k:Rd H a (.lst ys)):False:=by
 rcases k with k|⟨o,k⟩ <;> (rw[h]at k;cases k)
theorem rd_inj{a:Addr}{xs ys:List V}(h:Rd H a (.lst xs))(k:Rd H a (.lst ys)):xs=ys:=by
 rcases h with h|⟨o,h⟩ <;> rcases k with k|⟨o',k⟩ <;> (rw[h]at k;first|(cases k;done)|(cases k;rfl))
theorem jQ{f:D->D->Option Bool}(c:∀x y v b,Den ι H x v->Den ι H y v->f x y=some b->b=true):∀{a b:List D} {xs:List V} {r:Bool},Dens ι H a xs->Dens ι H b xs->eqL f a b=some r->r=true
 |[],[],_,r,_,_,h=>by cases h;rfl
 |[],_::_,_,r,h1,h2,h=>by
  cases (show _=[]from h1)
  obtain⟨x,r,e,_⟩:=h2
  cases e
 |_::_,[],_,r,h1,h2,h=>by
  cases (show _=[]from h2)
  obtain⟨x,r,e,_⟩:=h1
  cases e
 |a::p,b::q,_,r,h1,h2,h=>by
  obtain⟨x,t,rfl,d1,e1⟩:=h1
  obtain⟨l,t',e,d2,d⟩:=h2
  cases e
  simp only[eqL]at h
  split at h
  .rename_i y z i j
   cases h
   rw[c a b x y d1 d2 i,jQ c e1 d j]
   all_goals rfl
  .cases h
theorem jR:∀(n:Nat) (x y:D) (v:V) (b:Bool),Den ι H x v->Den ι H y v->eqD n x y=some b->b=true
 |0,_,_,_,_,_,_,h=>by cases h
 |n+1,x,y,v,b,hx,hy,h=>by
  cases x <;> cases y <;> simp only[eqD,Den]at h hx hy <;> first
   | (cases h;rfl)
   | (cases h;subst hx;first|(cases hy;done)|(cases hy;simp;done))
   | (obtain⟨a,xs,rfl,_⟩:=hx;cases hy;done)
   | (obtain⟨a,xs,rfl,_⟩:=hy;cases hx;done)
   | (obtain⟨a,rfl,_⟩:=hx;cases h;done)
   | (obtain⟨a,rfl,_⟩:=hy;cases h;done)
   | (obtain⟨a,xs,rfl,_,ha,r⟩:=hx
      obtain⟨i,d,e,_,c,r'⟩:=hy
      cases e
      first
        | (rw[ha]at c;cases c;exact jQ (λx y v b=>jR n x y v b) r r' h)
        | (cases rd_inj ha c
           have f:_=_:=r.length.trans r'.length.symm
           rw[wM f]at h
           exact jQ (λx y v b=>jR n x y v b) r r' h)
        |exact(jP ha c).elim
        |exact(jP c ha).elim)
end
section
variable{X:Cx}{pins:List (Addr×Obj)}{σ:St}{H:Hp}{s:Shared}{ι:List Addr}
theorem Vals.at{xs:List V}{us:List Value}(r:Vals xs us){j:Nat}(h:j<us.length):∃x,xs[j]?=some x/\RelV x us[j]:=by
 have c:=r.length
 obtain⟨u,a,b⟩:=r.get (i:=j) (x:=xs[j]'(by lia)) (wC (by lia))
 rw[wC h]at a
 cases a
 exact⟨_,wC (by lia),b⟩
theorem Dens.at{ds:List D}{xs:List V}{j:Nat}{x:V}(h:Dens ι H ds xs)(e:xs[j]?=some x):∃d,ds[j]?=some d/\Den ι H d x:=by
 have c:=h.length
 have f:=(wP.mp e).1
 obtain⟨y,a,b⟩:=h.get (i:=j) (d:=ds[j]'(by lia)) (wC (by lia))
 rw[e]at a;cases a
 exact⟨_,wC (by lia),b⟩
theorem yH(I:Inv X pins σ H s){a:Addr}{xs:List V}(h:H a=some (.tup xs)):∃its:List Value,Vals xs its/\IsTup s.heap a its.toArray/\xs.length<=sizeLine:=by
 obtain⟨z,its,r,p,_⟩:=I.hok a _ h
 exact⟨its,r,p,z⟩
theorem qa0(I:Inv X pins σ H s){a:Addr}{xs:List V}(h:Rd H a (.lst xs)):∃its:List Value,Vals xs its/\s.heap.IsList a its.toArray/\xs.length<=sizeLine:=by
 obtain⟨z,its,n,r,e⟩:=h.ok I.hok
 exact⟨its,r,⟨_,e,rfl,n,rfl⟩,z⟩
def EqAll(A:Around)(s:Shared)(v u:Value)(b:Bool):Prop:=RcAt A s v u b/\RcNeAt A s v u (!b)/\EqAt A s v u b
theorem yI{v:V}{i:Int}{u:Value}(h:Den ι H (.int i) v)(r:RelV v u):∃t,u=.int i t:=by cases (show v=_ from h);exact r
theorem yJ{v:V}{i:Str}{u:Value}(h:Den ι H (.str i) v)(r:RelV v u):∃t,u=.str i t:=by cases (show v=_ from h);exact r
theorem vs_bl{v:V}{i:Bool}{u:Value}(h:Den ι H (.bl i) v)(r:RelV v u):u=.bool i:=by cases (show v=_ from h);exact r
theorem vs_non{v:V}{u:Value}(h:Den ι H .non v)(r:RelV v u):u=.none:=by cases (show v=_ from h);exact r
theorem yK(I:Inv X pins σ H s){v:V}{l:List D}{u:Value}(h:Den ι H (.tup l) v)(r:RelV v u):∃a its xs,v=.ref a/\u=.ref a/\Vals xs its/\Dens ι H l xs/\s.heap.IsTuple a its.toArray/\H a=some (.tup xs):=by
 obtain⟨a,xs,rfl,_,ha,d⟩:=h
 cases r
 obtain⟨its,b,p,_⟩:=yH I ha
 exact⟨a,its,xs,rfl,rfl,b,d,p,ha⟩
theorem yL(I:Inv X pins σ H s){v:V}{l:List D}{u:Value}(h:Den ι H (.lst l) v)(r:RelV v u):∃a its xs,v=.ref a/\u=.ref a/\Vals xs its/\Dens ι H l xs/\s.heap.IsList a its.toArray/\Rd H a (.lst xs):=by
 obtain⟨a,xs,rfl,_,ha,d⟩:=h
 cases r
 obtain⟨its,b,p,_⟩:=qa0 I ha
 exact⟨a,its,xs,rfl,rfl,b,d,p,ha⟩
theorem qfn{f:D->D->Option Bool}{A:Around}{a b:List D}{xs ys:List V}{its d:List Value}{r:Bool}(K:∀x y c v u i l,f x y=some c->Den ι H x v->Den ι H y u->RelV v i->RelV u l->EqAt A s i l c)(h:eqL f a b=some r)(m:Dens ι H a xs)(n:Dens ι H b ys)(o:Vals xs its)(p:Vals ys d):
  ∃e:Nat->Bool,(∀j (q:j<its.toArray.size) (w:j<d.toArray.size),EqAt A s its.toArray[j] d.toArray[j] (e j))/\r=((List.range (min its.toArray.size d.toArray.size)).all e&&its.toArray.size == d.toArray.size) /\
   a.length=its.length/\b.length=d.length:=by
 obtain⟨q,w⟩:=qbP h
 have z:a.length=its.length:=m.length.trans o.length
 have B:b.length=d.length:=n.length.trans p.length
 refine⟨_,λj C E=>?_,by rw[wL,wL,<-z,<-B];exact w,z,B⟩
 simp only[wL]at C E
 obtain⟨x,e1,L⟩:=Vals.at o C
 obtain⟨y,M,N⟩:=Vals.at p E
 obtain⟨d1,F,O⟩:=m.at e1
 obtain⟨d2,I,P⟩:=n.at M
 obtain⟨c,J⟩:=q j d1 d2 F I
 simp only[F,I,J,Option.getD_some,xU]
 exact K d1 d2 c x y _ _ J O P L N
theorem qcJ(I:Inv X pins σ H s):∀(n:Nat) (A:Around) (x y:D) (b:Bool) (v u:V) (m o:Value),eqD n x y=some b->Den ι H x v->Den ι H y u->RelV v m->RelV u o->A.units+n<cLine->EqAll A s m o b
 |0,_,_,_,_,_,_,_,_,h,_,_,_,_,_=>by cases h
 |n+1,A,x,y,b,v,u,m,o,h,hx,hy,rx,ry,hu=>by
  have f:A.units<cLine:=by lia
  have q:=jR (ι:=ι) (H:=H) (n+1) x y
  have M:∀x y c v u m o,eqD n x y=some c->Den ι H x v->Den ι H y u->RelV v m->RelV u o->EqAt A.in1 s m o c:=λx y c v u m o P Q S U W =>
   (qcJ I n A.in1 x y c v u m o P Q S U W (by show A.units+1+n<cLine;lia)).2.2
  cases x with
  |ref k=>cases y <;> cases h
  |emp=>cases y <;> cases h
  |non =>
   cases vs_non hx rx
   cases y with
   |ref k=>cases h
   |emp=>cases h
   |non=>cases vs_non hy ry;cases h;exact⟨RcAt.none_none,RcNeAt.none_none,EqAt.same _⟩
   |bl c=>cases vs_bl hy ry;cases h;exact⟨RcAt.none_bool _,RcNeAt.none_bool _,EqAt.none_bool _⟩
   |int c=>obtain⟨t,rfl⟩:=yI hy ry;cases h;exact⟨RcAt.none_int _ _,RcNeAt.none_int _ _,EqAt.none_int _ _⟩
   |str c=>obtain⟨t,rfl⟩:=yJ hy ry;cases h;exact⟨RcAt.none_str _ _,RcNeAt.none_str _ _,EqAt.none_str _ _⟩
   |tup l=>obtain⟨a,its,xs,_,rfl,_,_,p,_⟩:=yK I hy ry;cases h;exact⟨RcAt.none_tuple p f,RcNeAt.none_tuple p f,EqAt.none_tuple p f⟩
   |lst l=>obtain⟨a,its,xs,_,rfl,_,_,p,_⟩:=yL I hy ry;cases h;exact⟨RcAt.none_list p f,RcNeAt.none_list p f,EqAt.none_list p f⟩
  |bl d =>
   cases vs_bl hx rx
   cases y with
   |ref k=>cases h
   |emp=>cases h
   |non=>cases vs_non hy ry;cases h;exact⟨RcAt.bool_none _,RcNeAt.bool_none _,EqAt.bool_none _⟩
   |bl c=>cases vs_bl hy ry;cases h;exact⟨RcAt.bool_bool _ _,RcNeAt.bool_bool _ _,EqAt.bool_bool _ _⟩
   |int c=>obtain⟨t,rfl⟩:=yI hy ry;cases h;exact⟨RcAt.bool_int _ _ _,RcNeAt.bool_int _ _ _,EqAt.bool_int _ _ _⟩
   |str c=>obtain⟨t,rfl⟩:=yJ hy ry;cases h;exact⟨RcAt.bool_str _ _ _,RcNeAt.bool_str _ _ _,EqAt.bool_str _ _ _⟩
   |tup l=>obtain⟨a,its,xs,_,rfl,_,_,p,_⟩:=yK I hy ry;cases h;exact⟨RcAt.bool_tuple _ p f,RcNeAt.bool_tuple _ p f,EqAt.bool_tuple _ p f⟩
   |lst l=>obtain⟨a,its,xs,_,rfl,_,_,p,_⟩:=yL I hy ry;cases h;exact⟨RcAt.bool_list _ p f,RcNeAt.bool_list _ p f,EqAt.bool_list _ p f⟩
  |int d =>
   obtain⟨Y,rfl⟩:=yI hx rx
   cases y with
   |ref k=>cases h
   |emp=>cases h
   |non=>cases vs_non hy ry;cases h;exact⟨RcAt.int_none _ _,RcNeAt.int_none _ _,EqAt.int_none _ _⟩
   |bl c=>cases vs_bl hy ry;cases h;exact⟨RcAt.int_bool _ _ _,RcNeAt.int_bool _ _ _,EqAt.int_bool _ _ _⟩
   |int c=>obtain⟨t,rfl⟩:=yI hy ry;cases h;exact⟨RcAt.int_int _ _ _ _,RcNeAt.int_int _ _ _ _,EqAt.int_int _ _ _ _⟩
   |str c=>obtain⟨t,rfl⟩:=yJ hy ry;cases h;exact⟨RcAt.int_str _ _ _ _,RcNeAt.int_str _ _ _ _,EqAt.int_str _ _ _ _⟩
   |tup l=>obtain⟨a,its,xs,_,rfl,_,_,p,_⟩:=yK I hy ry;cases h;exact⟨RcAt.int_tuple _ _ p f,RcNeAt.int_tuple _ _ p f,EqAt.int_tuple _ _ p f⟩
   |lst l=>obtain⟨a,its,xs,_,rfl,_,_,p,_⟩:=yL I hy ry;cases h;exact⟨RcAt.int_list _ _ p f,RcNeAt.int_list _ _ p f,EqAt.int_list _ _ p f⟩
  |str d =>
   obtain⟨Y,rfl⟩:=yJ hx rx
   cases y with
   |ref k=>cases h
   |emp=>cases h
   |non=>cases vs_non hy ry;cases h;exact⟨RcAt.str_none _ _,RcNeAt.str_none _ _,EqAt.str_none _ _⟩
   |bl c=>cases vs_bl hy ry;cases h;exact⟨RcAt.str_bool _ _ _,RcNeAt.str_bool _ _ _,EqAt.str_bool _ _ _⟩
   |int c=>obtain⟨t,rfl⟩:=yI hy ry;cases h;exact⟨RcAt.str_int _ _ _ _,RcNeAt.str_int _ _ _ _,EqAt.str_int _ _ _ _⟩
   |str c=>obtain⟨t,rfl⟩:=yJ hy ry;cases h;exact⟨RcAt.str_str _ _ _ _,RcNeAt.str_str _ _ _ _,EqAt.str_str _ _ _ _⟩
   |tup l=>obtain⟨a,its,xs,_,rfl,_,_,p,_⟩:=yK I hy ry;cases h;exact⟨RcAt.str_tuple _ _ p f,RcNeAt.str_tuple _ _ p f,EqAt.str_tuple _ _ p f⟩
   |lst l=>obtain⟨a,its,xs,_,rfl,_,_,p,_⟩:=yL I hy ry;cases h;exact⟨RcAt.str_list _ _ p f,RcNeAt.str_list _ _ p f,EqAt.str_list _ _ p f⟩
  |tup d =>
   obtain⟨j,its',J,e1,rfl,w,B,i,ha⟩:=yK I hx rx
   cases y with
   |ref k=>cases h
   |emp=>cases h
   |non=>cases vs_non hy ry;cases h;exact⟨RcAt.tuple_none i f,RcNeAt.tuple_none i f,EqAt.tuple_none i f⟩
   |bl c=>cases vs_bl hy ry;cases h;exact⟨RcAt.tuple_bool _ i f,RcNeAt.tuple_bool _ i f,EqAt.tuple_bool _ i f⟩
   |int c=>obtain⟨t,rfl⟩:=yI hy ry;cases h;exact⟨RcAt.tuple_int _ _ i f,RcNeAt.tuple_int _ _ i f,EqAt.tuple_int _ _ i f⟩
   |str c=>obtain⟨t,rfl⟩:=yJ hy ry;cases h;exact⟨RcAt.tuple_str _ _ i f,RcNeAt.tuple_str _ _ i f,EqAt.tuple_str _ _ i f⟩
   |tup l =>
    obtain⟨a,its,xs,K,rfl,C,E,p,Z⟩:=yK I hy ry
    have h0:eqL (eqD n) d l=some b:=h
    obtain⟨e,r,F,_⟩:=qfn M h0 B E w C
    have N:RcAt A s (.ref j) (.ref a) b:=by rw[F];exact RcAt.tuples i p f r
    have R2:RcNeAt A s (.ref j) (.ref a) (!b):=by rw[F];exact RcNeAt.tuples i p f r
    refine⟨N,R2,?_⟩
    by_cases z:j=a
    .subst z
     rw[q (.ref j) b (e1 ▸ hx) (K ▸ hy) h]
     exact EqAt.same _
    .exact EqAt.of_refs z N
   |lst l=>obtain⟨a,its,xs,_,rfl,_,_,p,_⟩:=yL I hy ry;cases h;exact⟨RcAt.tuple_list i p f,RcNeAt.tuple_list i p f,EqAt.tuple_list i p f⟩
  |lst d =>
   obtain⟨j,its',J,e1,rfl,w,B,i,ha⟩:=yL I hx rx
   cases y with
   |ref k=>cases h
   |emp=>cases h
   |non=>cases vs_non hy ry;cases h;exact⟨RcAt.list_none i f,RcNeAt.list_none i f,EqAt.list_none i f⟩
   |bl c=>cases vs_bl hy ry;cases h;exact⟨RcAt.list_bool _ i f,RcNeAt.list_bool _ i f,EqAt.list_bool _ i f⟩
   |int c=>obtain⟨t,rfl⟩:=yI hy ry;cases h;exact⟨RcAt.list_int _ _ i f,RcNeAt.list_int _ _ i f,EqAt.list_int _ _ i f⟩
   |str c=>obtain⟨t,rfl⟩:=yJ hy ry;cases h;exact⟨RcAt.list_str _ _ i f,RcNeAt.list_str _ _ i f,EqAt.list_str _ _ i f⟩
   |tup l=>obtain⟨a,its,xs,_,rfl,_,_,p,_⟩:=yK I hy ry;cases h;exact⟨RcAt.list_tuple i p f,RcNeAt.list_tuple i p f,EqAt.list_tuple i p f⟩
   |lst l =>
    obtain⟨a,its,xs,K,rfl,C,E,p,Z⟩:=yL I hy ry
    have h0:(if d.length=l.length then eqL (eqD n) d l else some false)=some b:=h
    have la:d.length=its'.length:=B.length.trans w.length
    have lb:l.length=its.length:=E.length.trans C.length
    have R:RcAt A s (.ref j) (.ref a) b/\RcNeAt A s (.ref j) (.ref a) (!b):=by
     by_cases O:d.length=l.length
     .rw [wM O]at h0
      obtain⟨e,r,F,_⟩:=qfn M h0 B E w C
      have hsz:its'.toArray.size=its.toArray.size:=by rw[wL,wL];lia
      have L:b=(List.range its'.toArray.size).all e:=by
       rw[F,hsz];simp
      rw[L]
      exact⟨RcAt.lists i p hsz f r,RcNeAt.lists i p hsz f r⟩
     .rw [wO O]at h0
      cases h0
      have hsz:(its'.toArray.size != its.toArray.size)=true:=by
       rw[wL,wL];simp;lia
      exact⟨RcAt.lists_lengths i p hsz f,RcNeAt.lists_lengths i p hsz f⟩
    refine⟨R.1,R.2,?_⟩
    by_cases z:j=a
    .subst z
     rw[q (.ref j) b (e1 ▸ hx) (K ▸ hy) h]
     exact EqAt.same _
    .exact EqAt.of_refs z R.1
end
end R
namespace R
open PySem PySem.Spec L2 SeqAt
open PyProof.Rows hiding St
section
variable{X:Cx}
theorem Dens.rep{ι:List Addr}{H:Hp}{ds:List D}{xs:List V}(h:Dens ι H ds xs):∀k:Nat,Dens ι H (List.replicate k ds).flatten (List.replicate k xs).flatten
 |0=>by simp[Dens]
 |k+1=>by
  simp only[vC,vi]
  exact h.append (Dens.rep h k)
theorem qfo:OpR X (binaryOp .Add) (λx y H Q=>∃a b xs ys,x=.ref a/\y=.ref b/\H a=some (.tup xs)/\H b=some (.tup ys)/\xs.length+ys.length<=sizeLine /\
  (xs=[]->Q (.ref b) H)/\(xs≠[]->ys=[]->Q (.ref a) H)/\(xs≠[]->ys≠[]->∀p,H p=none->Q (.ref p) (upd H p (.tup (xs++ys))))):=by
 intro pins s A H x y v u Q I rx o h
 obtain⟨a,b,xs,ys,rfl,rfl,ha,q,B,C,q1,q2⟩:=h
 by_cases i:xs=[]
 .subst i
  cases rx
  cases o
  obtain⟨its,E,J,_⟩:=yH I ha
  obtain⟨c,O,K,_⟩:=yH I q
  obtain⟨⟨cls,L,data,sl⟩,r,w,n,hd⟩:=id J
  obtain⟨⟨z,j,l,m⟩,d,e,M,f⟩:=id K
  simp only at w hd e f
  subst w hd e f
  have N:its=[]:=E.nil_iff.mpr rfl
  subst N
  exact concat_meets ⟨_,r,rfl⟩ ⟨_,d,rfl⟩ noFill_tuple_add seq_tuple_add xE uz (ur _ _)
   (tuple_addW0 a b _ c.toArray n M L j sl m (by simp)) ⟨r,d,⟨.ref b,H,I,rfl,C rfl⟩⟩
 .exact qhH pins s A H _ _ v u Q I rx o ⟨a,b,xs,ys,rfl,rfl,.inl (.inl ha),.inl (.inl q),i,B,q1 i,q2 i⟩
theorem qhP(o:BOp):OpR X (binaryOp (opOf o)) (G2 λx y S=>ofO (binD o x y S) S):=by
 intro pins s n H x y v u Q I rx w h
 obtain⟨ι,S,dx,O,st,A,B,p⟩:=h
 obtain⟨d,e,q⟩:=Pst.ofO p st
 have C:∀v,Den ι H d v->Q v H:=λv L=>q v ι H (Stp.refl _ _) st L
 unfold binD at e
 split at e
 .rename_i i j
  cases (show x=_ from A)
  cases (show y=_ from B)
  cases E:binI o i j with
  |none=>rw[E]at e;cases e
  |some r =>
   rw[E]at e;cases e
   exact qjO o pins s n H _ _ v u Q I rx w ⟨i,j,r,rfl,rfl,E,C _ rfl⟩
 .rename_i a b
  cases o <;> try (cases e;done)
  dsimp only at e
  split at e
  .rename_i c
   cases e
   cases (show x=_ from A)
   cases (show y=_ from B)
   exact qcy pins s n H _ _ v u Q I rx w ⟨a,b,rfl,rfl,c,C _ rfl⟩
  .cases e
 .rename_i a b
  cases o <;> try (cases e;done)
  dsimp only at e
  split at e
  .rename_i c
   cases e
   obtain⟨l,xs,rfl,J,f,d1⟩:=A
   obtain⟨m,ys,rfl,M,F,d2⟩:=B
   have K:xs.length+ys.length<=sizeLine:=by
    have:=vF c
    rw[d1.length,d2.length]at this;exact this
   refine qfo pins s n H _ _ v u Q I rx w ⟨l,m,xs,ys,rfl,rfl,f,F,K,λz=>?_,λ_ z=>?_,λ_ _=>zd st (d1.append d2) q⟩
   .subst z
    have:a=[]:=wa.mp (by rw[d1.length];rfl)
    subst this
    exact C _ ⟨m,ys,rfl,M,F,by simpa using d2⟩
   .subst z
    have:b=[]:=wa.mp (by rw[d2.length];rfl)
    subst this
    exact C _ ⟨l,xs,rfl,J,f,by simpa using d1⟩
  .cases e
 .rename_i a k
  cases o <;> try (cases e;done)
  dsimp only at e
  split at e
  .rename_i c
   cases e
   obtain⟨l,xs,rfl,J,f,d1⟩:=A
   cases (show y=_ from B)
   obtain⟨c1,c2,c3⟩:=vF c
   refine qhM pins s n H _ _ v u Q I rx w ⟨l,k,xs,rfl,rfl,.inl (.inl f),c1,c2,by rw[<-d1.length];exact c3,λz=>?_,λ_=>zd st (d1.rep _) q⟩
   have N:rep a k=a:=by
    unfold rep
    rcases z with z|z
    .subst z
     have:a=[]:=wa.mp (by rw[d1.length];rfl)
     subst this
     simp
    .subst z;simp
   rw[N]at C
   exact C _ ⟨l,xs,rfl,J,f,d1⟩
  .cases e
 .rename_i k _ _
  cases o <;> try (cases e;done)
  dsimp only at e
  split at e
  .rename_i a ha
   split at e
   .rename_i c
    cases e
    obtain⟨l,xs,rfl,f,d1⟩:=qM st ha A
    cases (show y=_ from B)
    obtain⟨c1,c2,c3⟩:=vF c
    exact qdj pins s n H _ _ v u Q I rx w ⟨l,k,xs,rfl,rfl,f,c1,c2,by rw[<-d1.length];exact c3,qX (m:=false) st (d1.rep _) q⟩
   .cases e
  .cases e
 .cases o <;> try (cases e;done)
  dsimp only at e
  split at e
  .rename_i a b ha E
   split at e
   .rename_i c
    cases e
    obtain⟨l,xs,rfl,f,d1⟩:=qM st ha A
    obtain⟨m,ys,rfl,F,d2⟩:=qM st E B
    have K:xs.length+ys.length<=sizeLine:=by
     have:=vF c
     rw[d1.length,d2.length]at this;exact this
    exact qdi pins s n H _ _ v u Q I rx w ⟨l,m,xs,ys,rfl,rfl,f,F,K,qX (m:=false) st (d1.append d2) q⟩
   .cases e
  .cases e
theorem qhQ(o:BOp):OpR X (binaryOp (opOf o)) (G2 λx y S=>binM o x y S):=by
 intro pins s e H x y v u Q I rx f h
 obtain⟨ι,S,dx,w,st,i,j,q⟩:=h
 dsimp only at q
 unfold binM at q
 split at q
 .split at q
  .rename_i a b ha n
   split at q
   .rename_i c
    obtain⟨l,xs,rfl,d,d1⟩:=qM st ha i
    obtain⟨m,ys,rfl,p,d2⟩:=qM st n j
    have r:xs.length+ys.length<=sizeLine:=by
     have:=vF c
     rw[d1.length,d2.length]at this;exact this
    exact qdi pins s e H _ _ v u Q I rx f ⟨l,m,xs,ys,rfl,rfl,d,p,r,qX (m:=true) st (d1.append d2) q⟩
   .exact q.elim
  .exact q.elim
 .split at q
  .rename_i a k ha
   split at q
   .rename_i c
    obtain⟨l,xs,rfl,d,d1⟩:=qM st ha i
    cases (show y=_ from j)
    obtain⟨c1,c2,c3⟩:=vF c
    exact qdj pins s e H _ _ v u Q I rx f ⟨l,k,xs,rfl,rfl,d,c1,c2,by rw[<-d1.length];exact c3,qX (m:=true) st (d1.rep _) q⟩
   .exact q.elim
  .exact q.elim
 .exact q.elim
theorem intsOf_eq:∀{l:List D} {m:List Int},intsOf l=some m->l=m.map .int
 |[],m,h=>by cases h;rfl
 | .int i::r,m,h=>by
  simp only[intsOf]at h
  cases e:intsOf r with
  |none=>rw[e]at h;cases h
  |some a=>rw[e]at h;cases h;rw[intsOf_eq e];rfl
 | .non::_,_,h=>by cases h
 | .bl _::_,_,h=>by cases h
 | .str _::_,_,h=>by cases h
 | .tup _::_,_,h=>by cases h
 | .lst _::_,_,h=>by cases h
 | .emp::_,_,h=>by cases h
 | .ref _::_,_,h=>by cases h
theorem dens_ints{ι:List Addr}{H:Hp}:∀{m:List Int} {xs:List V},Dens ι H (m.map .int) xs->xs=m.map .int
 |[],xs,h=>h
 |i::m,xs,h=>by
  obtain⟨x,r,rfl,a,b⟩:=h
  rw[dens_ints b,show x=_ from a];rfl
noncomputable def cOf:COp->CmpOp
 | .eq=>.Eq|.ne=>.NotEq|.lt=>.Lt|.le=>.LtE|.gt=>.Gt|.ge=>.GtE|.is=>.Is|.isn=>.IsNot|.inn=>.In|.nin=>.NotIn
theorem jS{ι:List Addr}{H:Hp}:∀{d:D} {v:V},flatD d=true->Den ι H d v->flatV v=true
 | .non,_,_,h=>by cases (show _=_ from h);rfl
 | .bl _,_,_,h=>by cases (show _=_ from h);rfl
 | .int _,_,_,h=>by cases (show _=_ from h);rfl
 | .str _,_,_,h=>by cases (show _=_ from h);rfl
 | .tup _,_,h,_=>by cases h
 | .lst _,_,h,_=>by cases h
 | .emp,_,h,_=>by cases h
 | .ref _,_,h,_=>by cases h
theorem qhR{ι:List Addr}{H:Hp}{d e:D}{v u:V}(fd:flatD d=true)(a:flatD e=true)(h:Den ι H d v)(k:Den ι H e u):eqV v u=eqF d e:=by
 cases d <;> cases e <;> first
  | (cases fd;done)
  | (cases a;done)
  | (cases (show v=_ from h);cases (show u=_ from k);simp[eqV,eqF,Bool.beq_eq_decide_eq];done)
theorem qcK{ι:List Addr}{H:Hp}{x:D}{v:V}(a:flatD x=true)(b:Den ι H x v):∀{l:List D} {xs:List V},l.all flatD=true->Dens ι H l xs->xs.all flatV=true/\inV v xs=l.any λy=>eqF y x
 |[],xs,_,h=>by cases (show _=[]from h);exact⟨rfl,rfl⟩
 |d::l,xs,hf,h=>by
  obtain⟨y,r,rfl,c,e⟩:=h
  simp only[u8,wW]at hf
  obtain⟨i1,i2⟩:=qcK a b hf.2 e
  refine⟨by simp[jS hf.1 c,i1],?_⟩
  unfold inV at i2 ⊢
  rw[vn,vn,qhR hf.1 a c b,i2]
theorem yx{ι:List Addr}{H:Hp}{S:Sr}{v:V}(st:Sto ι H S){d:D}{l:List D}(h:seqOf S d=some l)(hd:Den ι H d v):∃a xs,v=.ref a/\(Rd H a (.lst xs)\/H a=some (.tup xs))/\Dens ι H l xs:=by
 unfold seqOf at h
 split at h
 .cases h
  obtain⟨a,xs,e,_,ha,r⟩:=hd
  exact⟨a,xs,e,.inr ha,r⟩
 .obtain ⟨a,xs,e,ha,r⟩:=qM st h hd
  exact⟨a,xs,e,.inl ha,r⟩
theorem qhS{a b:Bool}{M:Model}{A:Around}{E:Value->Shared->Prop}{s:Shared}{Q:Value->Shared->Prop}(h:Q (.bool (a == b)) s):wpAny M A (compareOp .Is (.bool a) (.bool b)) Q E s :=
 wpAny_is_plain (by rfl) (by cases a <;> cases b <;> exact h)
theorem qfp{a b:Bool}{M:Model}{A:Around}{E:Value->Shared->Prop}{s:Shared}{Q:Value->Shared->Prop}(h:Q (.bool (!(a == b))) s):wpAny M A (compareOp .IsNot (.bool a) (.bool b)) Q E s :=
 wpAny_isNot_plain (by rfl) (by cases a <;> cases b <;> exact h)
theorem yy(o:COp)(O:X.A.units+30<cLine):OpR X (compareOp (cOf o)) (G2 λx y S=>ofO ((cmpD o x y S).map .bl) S):=by
 intro pins s w H x y v u Q I rx i h
 obtain⟨ι,S,dx,C,st,f,j,p⟩:=h
 obtain⟨d,e,q⟩:=Pst.ofO p st
 obtain⟨b,N,rfl⟩:∃b,cmpD o dx C S=some b/\d=.bl b:=by
  cases z:cmpD o dx C S with
  |none=>rw[z]at e;cases e
  |some b=>rw[z]at e;cases e;exact⟨b,rfl,rfl⟩
 clear e p
 have e:=N
 clear N
 have r:Q (.bl b) H:=q (.bl b) ι H (Stp.refl _ _) st rfl
 have fin:EP X pins w Q (.bool b) s:=⟨.bl b,H,I,rfl,r⟩
 cases o with
 |eq=>exact(qcJ I 20 X.A dx C b x y v u e f j rx i (by lia)).1 _ _ _ _ fin
 |ne =>
  cases z:eqD 20 dx C with
  |none=>simp only[cmpD,z]at e;cases e
  |some c =>
   simp only[cmpD,z]at e;cases e
   exact(qcJ I 20 X.A dx C c x y v u z f j rx i (by lia)).2.1 _ _ _ _ fin
 |lt =>
  simp only[cmpD]at e
  split at e
  .cases (show x=_ from f);cases (show y=_ from j);cases e
   exact qk5 pins s w H _ _ v u Q I rx i ⟨_,_,rfl,rfl,r⟩
  .split at e
   .rename_i m n hm hn
    cases e
    cases intsOf_eq hm
    cases intsOf_eq hn
    obtain⟨E,xs,rfl,_,F,d1⟩:=f
    obtain⟨J,ys,rfl,_,K,d2⟩:=j
    cases dens_ints d1
    cases dens_ints d2
    exact qjG (by lia) pins s w H _ _ v u Q I rx i ⟨E,J,m,n,rfl,rfl,.inl (.inl F),.inl (.inl K),r⟩
   .cases e
  .cases e
 |le =>
  simp only[cmpD]at e
  split at e
  .cases (show x=_ from f);cases (show y=_ from j);cases e
   exact qk6 pins s w H _ _ v u Q I rx i ⟨_,_,rfl,rfl,r⟩
  .cases e
 |gt =>
  simp only[cmpD]at e
  split at e
  .cases (show x=_ from f);cases (show y=_ from j);cases e
   exact qk7 pins s w H _ _ v u Q I rx i ⟨_,_,rfl,rfl,r⟩
  .cases e
 |ge =>
  simp only[cmpD]at e
  split at e
  .cases (show x=_ from f);cases (show y=_ from j);cases e
   exact qk8 pins s w H _ _ v u Q I rx i ⟨_,_,rfl,rfl,r⟩
  .split at e
   .rename_i m n hm hn
    cases e
    cases intsOf_eq hm
    cases intsOf_eq hn
    obtain⟨E,xs,rfl,_,F,d1⟩:=f
    obtain⟨J,ys,rfl,_,K,d2⟩:=j
    cases dens_ints d1
    cases dens_ints d2
    exact qjL (by lia) pins s w H _ _ v u Q I rx i ⟨E,J,m,n,rfl,rfl,.inl (.inl F),.inl (.inl K),r⟩
   .cases e
  .cases e
 |is =>
  simp only[cmpD]at e
  split at e
  .cases (show y=_ from j)
   refine qjz pins s w H _ _ v u Q I rx i ⟨rfl,?_⟩
   cases dx <;> simp only[Option.some.injEq]at e <;> subst e <;> first
    | (cases (show x=_ from f);exact r)
    | (obtain⟨a,_,rfl,_⟩:=f;exact r)
    | (obtain⟨a,rfl,_⟩:=f;exact r)
  .split at e
   .cases (show x=_ from f);cases (show y=_ from j);cases e
    cases rx;cases i
    exact qhS fin
   .cases (show x=_ from f);cases (show y=_ from j);cases e
    cases rx;cases i
    exact wpAny_is_other (by rfl) (by intro z;cases z) fin
   .cases e
  .cases e
 |isn =>
  simp only[cmpD]at e
  split at e
  .cases (show y=_ from j)
   refine qhz pins s w H _ _ v u Q I rx i ⟨rfl,?_⟩
   cases dx <;> simp only[Option.some.injEq]at e <;> subst e <;> first
    | (cases (show x=_ from f);exact r)
    | (obtain⟨a,_,rfl,_⟩:=f;exact r)
    | (obtain⟨a,rfl,_⟩:=f;exact r)
  .split at e
   .cases (show x=_ from f);cases (show y=_ from j);cases e
    cases rx;cases i
    exact qfp fin
   .cases (show x=_ from f);cases (show y=_ from j);cases e
    cases rx;cases i
    exact wpAny_isNot_other (by rfl) (by intro z;cases z) fin
   .cases e
  .cases e
 |inn =>
  simp only[cmpD]at e
  cases z:seqOf S C with
  |none=>rw[z]at e;cases e
  |some l =>
   rw[z]at e
   have e:inD dx l=some b:=e
   unfold inD at e
   split at e
   .rename_i B
    simp only[wW]at B
    cases e
    obtain⟨a,xs,rfl,L,M⟩:=yx st z j
    obtain⟨i1,i2⟩:=qcK B.1 f B.2 M
    refine qem pins s w H _ _ v u Q I rx i ⟨a,xs,rfl,L.elim (λz=>.inl (.inl z)) (λz=>.inr (.inl (.inl z))),jS B.1 f,i1,?_⟩
    rw[wO (by decide),i2];exact r
   .cases e
 |nin =>
  simp only[cmpD]at e
  cases z:seqOf S C with
  |none=>rw[z]at e;cases e
  |some l =>
   rw[z]at e
   have e:(inD dx l).map (!·)=some b:=e
   unfold inD at e
   split at e
   .rename_i B
    simp only[wW]at B
    cases e
    obtain⟨a,xs,rfl,L,M⟩:=yx st z j
    obtain⟨i1,i2⟩:=qcK B.1 f B.2 M
    refine qaW pins s w H _ _ v u Q I rx i ⟨a,xs,rfl,L.elim (λz=>.inl (.inl z)) (λz=>.inr (.inl (.inl z))),jS B.1 f,i1,?_⟩
    rw[wM (by decide),i2];exact r
   .cases e
end
end R
namespace R
open PySem PySem.Spec L2 SeqAt
open PyProof.Rows hiding St
section
variable{X:Cx}{pos:Pos}
theorem qhT{ι:List Addr}{H:Hp}{S:Sr}{K:PySem.W.Frag}(st:Sto ι H S){d:D}{v:V}{b:Bool}(h:truD S d=some b)(hd:Den ι H d v):TruV K v H b:=by
 have e:∀{l:List D},lstOf S d=some l->b=(!l.isEmpty)->TruV K v H b:=λ{l} hl hb=>by
  obtain⟨a,xs,rfl,j,f⟩:=qM st hl hd
  refine .inl ⟨xs,.inl j,?_⟩
  rw[hb];have:=f.length
  cases l <;> cases xs <;> first|rfl|(simp at this;done)
 cases d with
 |non=>cases h;cases (show v=_ from hd);exact(rfl:false=false)
 |bl c=>cases h;cases (show v=_ from hd);exact(show b=b from rfl)
 |int i=>cases h;cases (show v=_ from hd);exact(rfl:(i != 0)=(i != 0))
 |str x =>
  cases (show v=_ from hd)
  simp only[truD]at h
  split at h
  .cases h;exact⟨by assumption,rfl⟩
  .cases h
 |tup l =>
  cases h
  obtain⟨a,xs,rfl,_,ha,f⟩:=hd
  refine .inr (.inl ⟨xs,.inl (.inl ha),?_⟩)
  have:=f.length
  cases l <;> cases xs <;> first|rfl|(simp at this;done)
 |emp =>
  cases h
  obtain⟨a,rfl,_,ha⟩:=hd
  exact .inr (.inr ⟨[],ha,rfl⟩)
 |lst l =>
  simp only[truD,lstOf,wZ,Option.some.injEq]at h
  exact e rfl h.symm
 |ref n =>
  simp only[truD]at h
  cases z:lstOf S (.ref n)with
  |none=>rw[z]at h;cases h
  |some l=>rw[z]at h;cases h;exact e z rfl
noncomputable def mVal(m:En->Sr->Res D):En->Sr->Res Bool:=λρ S=>(m ρ S).bind λx S1=>ofO (truD S1 x) S1
theorem qjP{e:Expr}{m:En->Sr->Res D}(h:PE X e (T m))(d:∀c,isTrue e X.env c=(do let v <-c;standAt e.pos;holding [v] (truthy v))):PT X e (TB (mVal m)) :=
 PTimp (qe2 h d) λl H Q f=>TG.b1 f λι S ρ a b i n st j p=>by
  obtain⟨k,e1,q⟩:=Pst.ofO p st
  exact⟨k,qhT st e1 j,q k ι i (Stp.refl _ _) st rfl⟩
def IsB(m:En->Sr->Res D):Prop:=∀ρ S d a,m ρ S=.ok d a->∃c,d=.bl c
theorem toTest{m:En->Sr->Res D}(j:IsB m){h:St}{H:Hp}{Q:Bool->Hp->Prop}(l:TB (mVal m) h H Q):tTest (T m) h H Q:=by
 obtain⟨ι,S,ρ,n,st,p⟩:=l
 refine⟨ι,S,ρ,n,st,?_⟩
 dsimp only[mVal]at p ⊢
 cases z:m ρ S with
 |no=>rw[z]at p;exact p
 |err x i=>rw[z]at p;exact p
 |ok d i =>
  rw[z]at p
  obtain⟨c,rfl⟩:=j ρ S d i z
  intro b a H' s' e f
  cases (show b=_ from f)
  exact⟨c,rfl,p c a H' s' e rfl⟩
theorem qhU{a mb:En->Sr->Res D}{g:D->D->Sr->Option Bool}:IsB (λρ S=>(a ρ S).bind λx S1=>(mb ρ S1).bind λy S2=>ofO ((g x y S2).map D.bl) S2):=by
 intro ρ S d b z
 dsimp only at z
 cases z1:a ρ S with
 |no=>rw[z1]at z;cases z
 |err=>rw[z1]at z;cases z
 |ok x S1 =>
  rw[z1,Res.bind_ok]at z
  cases z2:mb ρ S1 with
  |no=>rw[z2]at z;cases z
  |err=>rw[z2]at z;cases z
  |ok y S2 =>
   rw[z2,Res.bind_ok]at z
   cases z3:g x y S2 with
   |none=>rw[z3]at z;cases z
   |some c=>rw[z3]at z;cases z;exact⟨c,rfl⟩
theorem qjQ{a b:Expr}{op:CmpOp}{c mb:En->Sr->Res D}{g:D->D->Sr->Option Bool}(d:OpR X (compareOp op) (G2 λx y S=>ofO ((g x y S).map D.bl) S))(ha:PE X a (T c))(e:PE X b (T mb))(hm:behindInMarks op b=false):
  PT X (.Compare a [op] [b] pos) (TB (mVal λρ S=>(c ρ S).bind λx S1=>(mb ρ S1).bind λy S2=>ofO ((g x y S2).map D.bl) S2)) :=
 PTimp (qhB d ha e hm) λh H Q f=>T2 (toTest qhU f)
noncomputable def mChain(g g':D->D->Sr->Option Bool)(b mb c:En->Sr->Res D):En->Sr->Res D:=λρ S=>(b ρ S).bind λx S1=>(mb ρ S1).bind λy S2=>match g x y S2 with
 |some true=>(c ρ S2).bind λz a=>ofO ((g' y z a).map D.bl) a
 |some false=>.ok (.bl false) S2
 |none=>.no
theorem qdk{u mb w:En->Sr->Res D}{g g':D->D->Sr->Option Bool}{A:St}{H:Hp}{Q:VK}(h:T (mChain g g' u mb w) A H Q):
  tChain (G2 λx y S=>ofO ((g x y S).map D.bl) S) (G2 λx y S=>ofO ((g' x y S).map D.bl) S) (T u) (T mb) (T w) A H Q:=by
 refine TG.b1 h λι S ρ a b M B st C p=>Pst.tg p B st λd S2 l H2 b2 s2 m n e f=>?_
 refine⟨l,S2,a,d,n,Den.mono s2 a C,e,?_⟩
 cases z:g a d S2 with
 |none=>rw[z]at f;exact f.elim
 |some c =>
  rw[z]at f
  show Pst Den (ofO (Option.map D.bl (g a d S2)) S2) _ _ _
  rw[z]
  intro v o H3 j i E
  cases (show v=_ from E)
  refine⟨c,rfl,?_⟩
  cases c with
  |false=>rw[wO (by decide)];exact f _ o H3 j i rfl
  |true =>
   rw[wM rfl]
   refine Pst.tg (ρ:=ρ) (Pst.from f j) (m.mono j) i λF I q N O J K r s L=>?_
   exact⟨q,I,d,F,r,Den.mono (j.trans J) d e,s,L⟩
theorem qev{a mb b:En->Sr->Res D}{g g':D->D->Sr->Option Bool}:IsB (mChain g g' a mb b):=by
 intro ρ S d f z
 dsimp only[mChain]at z
 cases z1:a ρ S with
 |no=>rw[z1]at z;cases z
 |err=>rw[z1]at z;cases z
 |ok x S1 =>
  rw[z1,Res.bind_ok]at z
  cases z2:mb ρ S1 with
  |no=>rw[z2]at z;cases z
  |err=>rw[z2]at z;cases z
  |ok y S2 =>
   rw[z2,Res.bind_ok]at z
   cases z3:g x y S2 with
   |none=>rw[z3]at z;cases z
   |some c =>
    rw[z3]at z
    cases c with
    |false=>cases z;exact⟨_,rfl⟩
    |true =>
     dsimp only at z
     cases z4:b ρ S2 with
     |no=>rw[z4]at z;cases z
     |err=>rw[z4]at z;cases z
     |ok w e =>
      rw[z4,Res.bind_ok]at z
      cases z5:g' y w e with
      |none=>rw[z5]at z;cases z
      |some c=>rw[z5]at z;cases z;exact⟨_,rfl⟩
theorem qhV{a b c:Expr}{op d:CmpOp}{f mb h:En->Sr->Res D}{g g':D->D->Sr->Option Bool}(i:OpR X (compareOp op) (G2 λx y S=>ofO ((g x y S).map D.bl) S))(e:OpR X (compareOp d) (G2 λx y S=>ofO ((g' x y S).map D.bl) S))(ha:PE X a (T f))(j:PE X b (T mb))(l:PE X c (T h))(hm:lastMarks [op,d] [b,c]=false):PE X (.Compare a [op,d] [b,c] pos) (T (mChain g g' f mb h)) :=
 PEimp (qe0 i e ha j l hm) λm H Q=>qdk
theorem qfq{a b c:Expr}{op d:CmpOp}{f mb h:En->Sr->Res D}{g g':D->D->Sr->Option Bool}(i:OpR X (compareOp op) (G2 λx y S=>ofO ((g x y S).map D.bl) S))(e:OpR X (compareOp d) (G2 λx y S=>ofO ((g' x y S).map D.bl) S))(ha:PE X a (T f))(j:PE X b (T mb))(l:PE X c (T h))(hm:lastMarks [op,d] [b,c]=false):PT X (.Compare a [op,d] [b,c] pos) (TB (mVal (mChain g g' f mb h))) :=
 PTimp (qe1 i e ha j l hm) λn H Q m=>qdk (toTest qev m)
theorem qlh{a:Expr}{b:Expr}{rest:List Expr}{c mb:En->Sr->Res Bool}(ha:PT X a (TB c))(d:PW X (.BoolOp .Or (b::rest) pos) (TB mb)):
  PW X (.BoolOp .Or (a::b::rest) pos) (TB λρ S=>(c ρ S).bind λt S1=>if t then .ok true S1 else mb ρ S1):=λe pins s f H Q I h=>by
 refine qk1 ha d e pins s f H Q I (TG.b1 h λι S ρ x y i j st l p=>?_)
 cases (show x=y from l)
 cases x with
 |true=>rw[wM rfl];exact p true ι i (Stp.refl _ _) st rfl
 |false=>rw[wO (by decide)];exact⟨ι,S,ρ,j,st,p⟩
theorem qjR{a:Expr}{b:En->Sr->Res Bool}(ha:PT X a (TB b)):PT X (.UnaryOp .Not a pos) (TB λρ S=>(b ρ S).bind λt S1=>.ok (!t) S1) :=
 PTimp (qjl ha) λf H Q c=>TG.b1 c λι S ρ x y d h st e p=>by
  cases (show x=y from e)
  exact p _ ι d (Stp.refl _ _) st rfl
theorem qli{a:Expr}{b:Expr}{rest:List Expr}{d mb:En->Sr->Res D}(ha:PE X a (T d))(e:PE X (.BoolOp .And (b::rest) pos) (T mb)):
  PE X (.BoolOp .And (a::b::rest) pos) (T λρ S=>(d ρ S).bind λx S1=>match x with|.bl true=>mb ρ S1|.bl false=>.ok (.bl false) S1|_=>.no) :=
 PEimp (qjn ha e) λl H Q f=>TG.b1 f λι S ρ x y h i st j p=>by
  cases x with
  |bl c =>
   cases (show y=_ from j)
   refine⟨c,rfl,?_⟩
   cases c with
   |true=>rw[wM rfl];exact⟨ι,S,ρ,i,st,p⟩
   |false=>rw[wO (by decide)];exact p _ ι h (Stp.refl _ _) st rfl
  |_=>exact p.elim
theorem qlj{a:Expr}{d:En->Sr->Res D}(ha:PE X a (T d)):PE X (.UnaryOp .Not a pos) (T λρ S=>(d ρ S).bind λx S1=>match x with|.bl b=>.ok (.bl (!b)) S1|_=>.no) :=
 PEimp (qjo ha) λi H Q e=>TG.b1 e λι S ρ x y f j st h p=>by
  cases x with
  |bl c =>
   cases (show y=_ from h)
   exact⟨c,rfl,p _ ι f (Stp.refl _ _) st rfl⟩
  |_=>exact p.elim
theorem qlk{a:Expr}{b:En->Sr->Res D}(ha:PE X a (T b)):PE X (.UnaryOp .USub a pos) (T λρ S=>(b ρ S).bind λx S1=>match x with|.int i=>.ok (.int (-i)) S1|_=>.no) :=
 PEimp (qk4 qjy ha) λf H Q c=>TG.b1 c λι S ρ x y d h st e p=>by
  cases x with
  |int i =>
   cases (show y=_ from e)
   exact⟨i,rfl,p _ ι d (Stp.refl _ _) st rfl⟩
  |_=>exact p.elim
theorem qll{es:List Expr}{k:Nat}{b:En->Sr->Res (List D)}(h:PA X es (TL b)):PE X (.Tuple es k pos) (T λρ S=>(b ρ S).bind λl S1=>if l.length<=sizeLine then .ok (.tup l) S1 else .no) :=
 PEimp (qjB h) λe H Q d=>TG.b1 d λι S ρ x y f i st c p=>by
  by_cases a:x.length<=sizeLine
  .rw [wM a]at p
   exact⟨by rw[<-c.length];exact a,zd st c p⟩
  .rw [wO a]at p;exact p.elim
theorem qlm{es:List Expr}{m:Bool}{b:En->Sr->Res (List D)}(h:PA X es (TL b)):PE X (.List es pos) (T λρ S=>(b ρ S).bind λl S1=>if l.length<=sizeLine then newL m l S1 else .no) :=
 PEimp (qjC h) λe H Q d=>TG.b1 d λι S ρ x y f i st c p=>by
  by_cases a:x.length<=sizeLine
  .rw [wM a]at p
   exact⟨by rw[<-c.length];exact a,qX st c p⟩
  .rw [wO a]at p;exact p.elim
theorem qln{m:Bool}:PE X (.Dict [] [] pos) (T λ_ S=>if m then .ok (.ref S.length) (S++[.dic []])else .ok .emp S):=by
 cases m with
 |true =>
  refine PEimp qfd λc H Q b=>?_
  obtain⟨ι,S,ρ,d,st,p⟩:=b
  intro q a
  have g:=Stp.grow (ι:=ι) a (.dT [])
  refine p (.ref q) _ _ g (st.grow a ⟨rfl,[],qv,rfl⟩) ⟨q,rfl,?_⟩
  rw[<-st.len];simp
 |false =>
  refine PEimp qbN λc H Q b=>?_
  obtain⟨ι,S,ρ,d,st,p⟩:=b
  intro q a
  have g:=Stp.laid (ι:=ι) a (.dK [])
  exact p (.ref q) _ _ g (st.laid a _) ⟨q,rfl,st.fresh a,qv⟩
theorem qlo:PE X (.Dict [] [] pos) (T λ_ S=>.ok (.ref S.length) (S++[.dis []])):=by
 refine PEimp qbN λc H Q b=>?_
 obtain⟨ι,S,ρ,d,st,p⟩:=b
 intro q a
 have g:=Stp.grow (ι:=ι) a (.dK [])
 refine p (.ref q) _ _ g (st.grow a ⟨rfl,[],qv,rfl⟩) ⟨q,rfl,?_⟩
 rw[<-st.len];simp
theorem key_den{ι:List Addr}{H:Hp}{d:D}{v:V}{k:Key}(h:keyD d=some k)(hd:Den ι H d v):v=kV k:=by
 cases d <;> simp only[keyD]at h <;> cases h <;> exact hd
theorem qhW{ι:List Addr}{H:Hp}{l:List D}{xs:List V}{k:Int}{d:D}(a:Dens ι H l xs)(h:atI l k=some d):∃v,atI xs k=some v/\Den ι H d v:=by
 unfold atI at h ⊢
 rw[<-a.length]
 cases z:ixN l.length k with
 |none=>rw[z]at h;cases h
 |some j =>
  rw[z]at h
  exact a.get h
theorem yk{a b:List Int}:keyT a=keyT b ↔ a=b:=by
 refine⟨λh=>?_,λh=>by rw[h]⟩
 unfold keyT at h
 exact(List.map_inj_right (λx y h=>Sum.inl.inj h)).mp h
theorem jC(k:List Int):(keyT k).map kV=k.map V.int:=by
 unfold keyT;rw[wS];rfl
theorem ym{κ K:Type}[DecidableEq κ][DecidableEq K]{f:κ->K}(c:∀{a b},f a=f b ↔ a=b){ι:List Addr}{H:Hp}{k:κ}:∀{l:List (κ×D)} {kvs:List (K×V)} {d:D},DGs f ι H l kvs->lookT k l=some d->∃v,valV kvs (f k)=some v/\Den ι H d v
 |[],_,_,_,h=>by cases h
 |p::l,_,d,hk,h=>by
  obtain⟨v,r,rfl,i,m⟩:=hk
  obtain⟨j,e⟩:=p
  simp only[lookT]at h
  by_cases z:j=k
  .rw [wM z]at h;cases h
   exact⟨v,yQ (by simp[z]),i⟩
  .rw [wO z]at h
   obtain⟨w,e1,n⟩:=ym c m h
   exact⟨w,by rw[yg (by simpa[c]using z)];exact e1,n⟩
theorem qdl{κ K:Type}[DecidableEq κ][DecidableEq K]{f:κ->K}(c:∀{a b},f a=f b ↔ a=b){ι:List Addr}{H:Hp}{k:κ}:∀{l:List (κ×D)} {kvs:List (K×V)},DGs f ι H l kvs->(kvs.any λd=>decide (d.1=f k))=l.any λp=>decide (p.1=k)
 |[],_,h=>by cases (show _=[]from h);rfl
 |p::l,_,h=>by
  obtain⟨v,r,rfl,i,e⟩:=h
  rw[vn,vn,qdl c e]
  simp[c]
theorem yR{κ:Type}[DecidableEq κ]{k:κ}{d:D}(hd:refsLt 0 d=true):∀{l:List (κ×D)},refsLts 0 (l.map (·.2))=true->refsLts 0 ((putT k d l).map (·.2))=true:=by
 intro l c
 refine zS λx f=>?_
 obtain⟨p,a,rfl⟩:=wX.mp f
 unfold putT at a
 split at a
 .obtain ⟨q,h,e⟩:=wX.mp a
  have b:=zu c (wX.mpr ⟨q,h,rfl⟩)
  split at e
  .subst e;exact hd
  .subst e;exact b
 .rcases wu.mp a with z|z
  .exact zu c (wX.mpr ⟨p,z,rfl⟩)
  .rw [wf.mp z];exact hd
theorem jD{κ K:Type}[DecidableEq κ][DecidableEq K]{f:κ->K}(m:∀{a b},f a=f b ↔ a=b){ι:List Addr}{H:Hp}{k:κ}{d:D}{v:V}(hd:Den ι H d v){l:List (κ×D)}{kvs:List (K×V)}(h:DGs f ι H l kvs):DGs f ι H (putT k d l) (putK kvs (f k) v):=by
 unfold putT putK
 rw[qdl m h]
 split
 .rename_i i
  clear i
  induction l generalizing kvs with
  |nil=>cases (show _=[]from h);exact(rfl:_=_)
  |cons p l c =>
   obtain⟨w,r,rfl,j,e⟩:=h
   rw[wI,wI]
   by_cases z:p.1=k
   .rw [wM z,wM (by simp[z])]
    exact⟨v,_,rfl,hd,c e⟩
   .rw [wO z,wO (by simpa[m]using z)]
    exact⟨w,_,rfl,j,c e⟩
 .rename_i i
  clear i
  induction l generalizing kvs with
  |nil=>cases (show _=[]from h);exact⟨v,[],rfl,hd,rfl⟩
  |cons p l c =>
   obtain⟨w,r,rfl,j,e⟩:=h
   exact⟨w,_,rfl,j,c e⟩
theorem qdm(i:X.A.units+1<cLine):IxR X (λx y H Q=>∃a v,x=.ref a/\DGet H a y (some v)/\Q v H):=by
 intro b c pins s j H x y v u Q I rx l h m
 obtain⟨a,z,rfl,g,q⟩:=h
 cases rx
 have f:=qbL I g
 unfold subscriptTail
 refine wA ?_
 rw[getitemInPython_of_ne f.not_modules]
 refine wA (wpAny_specialOf f PySem.F.slot_dict_getitem.lookup ?_)
 have fin:wpAny (model X.prog X.w) X.A (subscripted c false (.ref a) u) (λr d=>wpAny (model X.prog X.w) X.A (letTemporaryGo b (.ref a) r >>= λ_=>pure r) (EP X pins j Q) X.xe d) X.xe s:=by
  rw[m]
  exact wpAny_operating (qaF i I g l λo p n e=>wA (wpAny_letTemporaryGo (wD ⟨z,H,n,e,q⟩)))
 first
  |exact wD (wA fin)
  |exact wA fin
theorem qlp{a b:Expr}{o mb:En->Sr->Res D}(s:X.A.units+1<cLine)(ha:PE X a (T o))(j:PE X b (T mb))(f:PlainIx b):
  PE X (.Subscript a b pos) (T λρ S=>(o ρ S).bind λx S1=>(mb ρ S1).bind λy S2=>ofO (idxD S2 x y) S2) :=
 PEimp (qiT (qhI.or (qjH.or (qdm s))) ha j f) λM H Q u=>by
  refine TG.b1 u λι S ρ a b N w st r p=>Pst.tg p w st λO S2 h H2 b2 s2 B c i C=>?_
  obtain⟨d,e,q⟩:=Pst.ofO C c
  unfold idxD at e
  split at e
  .rename_i k
   cases (show b2=_ from i)
   cases z:seqOf S2 a with
   |none=>rw[z]at e;cases e
   |some l =>
    rw[z]at e
    obtain⟨p,xs,rfl,f,E⟩:=yx c z (Den.mono s2 a r)
    obtain⟨v,e1,m⟩:=qhW E e
    have fin:=q v h H2 (Stp.refl _ _) c m
    rcases f with f|f
    .exact .inl ⟨p,xs,k,v,rfl,rfl,.inl f,e1,fin⟩
    .exact .inr (.inl ⟨p,xs,k,v,rfl,rfl,.inl (.inl f),e1,fin⟩)
  .rename_i ks
   split at e
   .rename_i n
    split at e
    .rename_i l F
     cases z:intsOf ks with
     |none=>rw[z]at e;cases e
     |some k =>
      rw[z]at e
      cases intsOf_eq z
      obtain⟨p,I,hn⟩:=Den.mono s2 _ r
      subst I
      obtain⟨_,kvs,J,K⟩:=c.obj n p _ hn F
      obtain⟨v,e1,m⟩:=ym yk K e
      obtain⟨b,xs,rfl,_,j,L⟩:=i
      cases dens_ints L
      refine .inr (.inr ⟨p,v,rfl,?_,q v h H2 (Stp.refl _ _) c m⟩)
      rw[<-e1]
      exact DGet.t J (by rw[jC];exact j)
    .cases e
   .cases e
  .cases e
end
end R
namespace R
open PySem PySem.Spec L2 SeqAt
open PyProof.Rows hiding St
section
variable{X:Cx}{pos:Pos}
theorem qjS{ι:List Addr}{H:Hp}{S:Sr}{K:PySem.W.Frag}(st:Sto ι H S)(t:Ty):∀{d:D} {v:V} {b:Bool},isiD S t d=some b->Den ι H d v->∃ty,TyOf K H v ty/\PySem.W.kitOne K ty (.type t.nm)=some b
 | .non,v,b,h,hd=>by
  cases (show v=_ from hd);cases h
  exact⟨_,.non,by cases t <;> (first|rfl|decide +kernel)⟩
 | .bl c,v,b,h,hd=>by
  cases (show v=_ from hd)
  cases t <;> cases h <;> exact⟨_,.bl c,by first|rfl|decide +kernel⟩
 | .int c,v,b,h,hd=>by
  cases (show v=_ from hd)
  cases t <;> cases h <;> exact⟨_,.int c,by first|rfl|decide +kernel⟩
 | .str c,v,b,h,hd=>by
  cases (show v=_ from hd)
  cases t <;> cases h <;> exact⟨_,.str c,by first|rfl|decide +kernel⟩
 | .tup l,v,b,h,hd=>by
  obtain⟨a,xs,rfl,_,ha,_⟩:=hd
  cases t <;> cases h <;> exact⟨_,.tup ha,by first|rfl|decide +kernel⟩
 | .lst l,v,b,h,hd=>by
  obtain⟨a,xs,rfl,_,ha,_⟩:=hd
  rcases ha with ha|⟨o,ha⟩
  .cases t <;> cases h <;> exact⟨_,.lst ha,by first|rfl|decide +kernel⟩
  .cases t <;> cases h <;> exact⟨_,.frz ha,by first|rfl|decide +kernel⟩
 | .emp,v,b,h,hd=>by
  obtain⟨a,rfl,_,ha⟩:=hd
  cases t <;> cases h <;> exact⟨_,.dK ha,by first|rfl|decide +kernel⟩
 | .ref n,v,b,h,hd=>by
  obtain⟨a,rfl,ha⟩:=hd
  simp only[isiD]at h
  split at h
  .rename_i l e
   obtain⟨_,xs,f,_⟩:=st.obj n a _ ha e
   cases t <;> cases h <;> exact⟨_,.lst f,by first|rfl|decide +kernel⟩
  .rename_i l e
   obtain⟨_,xs,f,_⟩:=st.obj n a _ ha e
   cases t <;> cases h <;> exact⟨_,.dT f,by first|rfl|decide +kernel⟩
  .rename_i l e
   obtain⟨_,xs,f,_⟩:=st.obj n a _ ha e
   cases t <;> cases h <;> exact⟨_,.dK f,by first|rfl|decide +kernel⟩
  .cases h
theorem qfr:CallR X (.builtin "isinstance") (λxs H Q=>∃x n ty b,xs=[x,.ty n]/\TyOf X.K H x ty/\PySem.W.kitOne X.K ty (.type n)=some b/\Q (.bl b) H):=by
 intro pins s f H xs us Q I r h
 obtain⟨x,n,ty,b,rfl,a,c,q⟩:=h
 obtain⟨u,i,rfl,d,e⟩:=vals2 r
 cases e
 exact qej I d a c λtk=>⟨.bl b,H,I.tok _,rfl,q⟩
theorem qhX(t:Ty):bootBuiltins (Str.ofString t.nm)=some (.type t.nm):=by cases t <;> decide +kernel
theorem qfs:bootBuiltins "isinstance"=some (.builtin "isinstance"):=by decide +kernel
theorem qlq{a:Expr}{p f:Pos}{m:En->Sr->Res D}{t:Ty}(o:Gl X "isinstance")(hm:X.mg "isinstance"=none)(h:Gl X (Str.ofString t.nm))(i:X.mg (Str.ofString t.nm)=none)(ha:PE X a (T m))(n:starEach [a,.Name (Str.ofString t.nm) f] X.env=(false,eval a X.env)::starEach [.Name (Str.ofString t.nm) f] X.env)(j:starEach [.Name (Str.ofString t.nm) f] X.env=(false,eval (.Name (Str.ofString t.nm) f) X.env)::starEach [] X.env)(l:(backTo pos (starEach [.Name (Str.ofString t.nm) f] X.env)).any (·.1)=false):
  PE X (.Call (.Name "isinstance" p) [a,.Name (Str.ofString t.nm) f] [] pos) (T λρ S=>(m ρ S).bind λx S1=>ofO ((isiD S1 t x).map .bl) S1):=by
 have hn:(Str.ofString t.nm)≠"__name__":=by cases t <;> decide
 have hd:((Str.ofString t.nm) == ("__debug__":Str))=false:=by cases t <;> decide
 have r:PE X (.Name (Str.ofString t.nm) f) (λ_ H Q=>Q (.ty t.nm) H):=qhu (v:=.ty t.nm) h i (qhX t) rfl hn hd
 refine PEimp (qbF qfr o hm qfs (jB ha (jB r qcz j) n) (by decide) (by decide) n l) λB H Q s=>?_
 refine TG.b1 s λι S ρ a b u C st w p=>?_
 obtain⟨d,e,q⟩:=Pst.ofO p st
 cases z:isiD S t a with
 |none=>rw[z]at e;cases e
 |some c =>
  rw[z]at e;cases e
  obtain⟨ty,y,A⟩:=qjS (K:=X.K) st t z w
  exact⟨b,t.nm,ty,c,rfl,y,A,q _ ι u (Stp.refl _ _) st rfl⟩
theorem Dens.cut{ι:List Addr}{H:Hp}{l:List D}{xs:List V}(h:Dens ι H l xs)(lo hi:Option Int):Dens ι H (cutD l lo hi) (cutV xs lo hi):=by
 unfold cutD cutV
 rw[h.length]
 exact(h.drop _).take _
theorem qft{e:Expr}{m:En->Sr->Res D}(h:PE X e (T m)):PO X (some e) (TOp λρ S=>(m ρ S).bind λx S1=>match x with|.int i=>.ok (some i) S1|_=>.no):=by
 intro pins s c H Q I d
 refine qhG h pins s c H Q I (TG.b1 d λι S ρ a b f l st j p=>?_)
 cases a with
 |int i =>
  cases (show b=_ from j)
  exact⟨i,rfl,p _ ι f (Stp.refl _ _) st rfl⟩
 |_=>exact p.elim
theorem qfu:PO X none (TOp λ_ S=>.ok none S):=by
 intro pins s a H Q I b
 obtain⟨ι,S,ρ,c,st,p⟩:=b
 exact qhF pins s a H Q I (p _ ι H (Stp.refl _ _) st rfl)
theorem qlr{e:Expr}{lo hi:Option Expr}{r:Pos}{m:En->Sr->Res D}{C E:En->Sr->Res (Option Int)}(F:PE X e (T m))(I:PO X lo (TOp C))(J:PO X hi (TOp E)):
  PE X (.Subscript e (.Slice lo hi none r) pos) (T λρ S=>(m ρ S).bind λx S1=>(C ρ S1).bind λl S2=>(E ρ S2).bind λh o=>ofO (slcD o x l h) o) :=
 PEimp (qe7 (qhJ.or (qjF.or qhL)) F I J) λσ H Q K=>by
  refine TG.b1 K λι S ρ a b H1 L st M p=>Pst.tg p L st λs S2 N H2 O s2 u v w r=>Pst.tg r u v λy o A H3 P R U f B W=>?_
  cases (show s=O from w)
  cases (show y=P from B)
  obtain⟨d,e,q⟩:=Pst.ofO W f
  have j:=Den.mono (s2.trans R) a M
  unfold slcD at e
  split at e
  .rename_i l
   cases e
   obtain⟨c,xs,rfl,Y,n,i⟩:=j
   by_cases hn:HT.sIx xs.length 0 s=0/\HT.sIx xs.length xs.length y=xs.length
   .refine .inr (.inr ⟨c,xs,rfl,.inl (.inl n),hn,?_⟩)
    have Z:cutD l s y=l:=by
     unfold cutD
     rw[i.length,hn.1,hn.2,ul,Nat.sub_zero,<-i.length,List.take_length]
    rw[Z]at q
    exact q _ A H3 (Stp.refl _ _) f ⟨c,xs,rfl,Y,n,i⟩
   .exact .inr (.inl ⟨c,xs,rfl,.inl (.inl n),hn,zd f (i.cut _ _) q⟩)
  .cases z:lstOf o a with
   |none=>rw[z]at e;cases e
   |some l =>
    rw[z]at e;cases e
    obtain⟨c,xs,rfl,n,i⟩:=qM f z j
    exact .inl ⟨c,xs,rfl,.inl n,qX (m:=false) f (i.cut _ _) q⟩
def Gn(g:List D->Sr->Res D):List V->Hp->VK->Prop:=λxs H Q=>∃ι S ds,Sto ι H S/\Dens ι H ds xs/\Pst Den (g ds S) ι H Q
theorem qhY{x:Str}{id:String}{e:Expr}{es:List Expr}{p:Pos}{g:List D->Sr->Res D}{f:En->Sr->Res (List D)}(h:CallR X (.builtin id) (Gn g))(i:Gl X x)(hm:X.mg x=none)(j:bootBuiltins x=some (.builtin id))(ha:PA X (e::es) (TL f))(hn:x≠"__name__")(c:(x == ("__debug__":Str))=false)(m:starEach (e::es) X.env=(false,eval e X.env)::starEach es X.env)(d:(backTo pos (starEach es X.env)).any (·.1)=false):
  PE X (.Call (.Name x p) (e::es) [] pos) (T λρ S=>(f ρ S).bind λl S1=>g l S1) :=
 PEimp (qbF h i hm j ha hn c m d) λq H Q n=>TG.b1 n λι S ρ a b r s st o p=>⟨ι,S,a,st,o,p⟩
theorem qfv{x:Str}{ty:String}{e:Expr}{es:List Expr}{p:Pos}{g:List D->Sr->Res D}{f:En->Sr->Res (List D)}(h:CallR X (.type ty) (Gn g))(i:Gl X x)(hm:X.mg x=none)(j:bootBuiltins x=some (.type ty))(ha:PA X (e::es) (TL f))(hn:x≠"__name__")(c:(x == ("__debug__":Str))=false)(m:starEach (e::es) X.env=(false,eval e X.env)::starEach es X.env)(d:(backTo pos (starEach es X.env)).any (·.1)=false):
  PE X (.Call (.Name x p) (e::es) [] pos) (T λρ S=>(f ρ S).bind λl S1=>g l S1) :=
 PEimp (qel h i hm j ha hn c m d) λq H Q n=>TG.b1 n λι S ρ a b r s st o p=>⟨ι,S,a,st,o,p⟩
noncomputable def SpD(np:Nat)(g:List D->Sr->Res D):Sp:=λvs H Q _=>vs.length=np/\∃ι S ds,Sto ι H S/\Dens ι H ds vs/\Pst Den (g ds S) ι H Q
theorem qjT{CX:CXT}{k:Nat}{f:Addr}{fd:FuncData}{ps:List Str}{g:List D->Sr->Res D}{x:Str}{p:Pos}{e:Expr}{es:List Expr}{b:En->Sr->Res (List D)}{E:XK}(F:FnOk X.prog X.w X.K X.mg X.base CX k f fd ps (SpD ps.length g))(m:Room k X.A)(n:Gl X x)(hm:X.mg x=some (.ref f))(o:PySem.W.keepIn X.K (.ref f)=true)(q:Binds X.K fd ps [])(r:Passes CX X E)(ha:PA X (e::es) (TL b))(a:∀ρ S l s,b ρ S=.ok l s->l.length=ps.length)(c:(x == ("__debug__":Str))=false)(u:starEach (e::es) X.env=(false,eval e X.env)::starEach es X.env)(d:(backTo pos (starEach es X.env)).any (·.1)=false):
  PE X (.Call (.Name x p) (e::es) [] pos) (T λρ S=>(b ρ S).bind λl S1=>g l S1) :=
 PEimp (qhD F m n hm o q (dvs:=[]) .nil r ha c u d) λB H Q v=>by
  obtain⟨ι,S,ρ,y,st,p⟩:=v
  refine⟨ι,S,ρ,y,st,?_⟩
  dsimp only at p ⊢
  cases z:b ρ S with
  |no=>rw[z]at p;exact p
  |err=>rw[z]at p;exact p
  |ok l S1 =>
   rw[z]at p
   intro xs h C s1 i j
   refine⟨?_,h,S1,l,i,by simpa using j,Pst.from p s1⟩
   rw[uC,<-j.length]
   exact a ρ S l S1 z
end
end R
namespace R
open PySem PySem.Spec L2 SeqAt
open PyProof.Rows hiding St
section
variable{X:Cx}{pos:Pos}
theorem dens1{ι:List Addr}{H:Hp}{d:D}{xs:List V}(h:Dens ι H [d] xs):∃x,xs=[x]/\Den ι H d x:=by
 obtain⟨x,r,rfl,a,b⟩:=h
 cases (show r=[]from b)
 exact⟨x,rfl,a⟩
theorem dens2{ι:List Addr}{H:Hp}{d e:D}{xs:List V}(h:Dens ι H [d,e] xs):∃x y,xs=[x,y]/\Den ι H d x/\Den ι H e y:=by
 obtain⟨x,r,rfl,a,b⟩:=h
 obtain⟨y,rfl,c⟩:=dens1 b
 exact⟨x,y,rfl,a,c⟩
theorem CallRimp{f:Value}{r r':List V->Hp->VK->Prop}(h:CallR X f r)(k:∀xs H Q,r' xs H Q->r xs H Q):CallR X f r':=λpins s a H xs us Q I b q=>h pins s a H xs us Q I b (k xs H Q q)
theorem qa1{g:D->Sr->Res D}{ds:List D}{S:Sr}{ι:List Addr}{H:Hp}{Q:VK}(p:Pst Den (one g ds S) ι H Q):∃d,ds=[d]/\Pst Den (g d S) ι H Q:=by
 cases ds with
 |nil=>exact(show False from p).elim
 |cons d r =>
  cases r with
  |nil=>exact⟨d,rfl,p⟩
  |cons e r=>exact(show False from p).elim
theorem qjU{g:D->D->Sr->Res D}{ds:List D}{S:Sr}{ι:List Addr}{H:Hp}{Q:VK}(p:Pst Den (two g ds S) ι H Q):∃d e,ds=[d,e]/\Pst Den (g d e S) ι H Q:=by
 cases ds with
 |nil=>exact(show False from p).elim
 |cons d r =>
  cases r with
  |nil=>exact(show False from p).elim
  |cons e r =>
   cases r with
   |nil=>exact⟨d,e,rfl,p⟩
   |cons f r=>exact(show False from p).elim
theorem qdn{f:Value}{g:D->Sr->Res D}{r:V->Hp->VK->Prop}(h:CallR X f (λxs H Q=>∃x,xs=[x]/\r x H Q))(k:∀ι S d x H Q,Sto ι H S->Den ι H d x->Pst Den (g d S) ι H Q->r x H Q):CallR X f (Gn (one g)):=CallRimp h λxs H Q a=>by
 obtain⟨ι,S,ds,st,hd,p⟩:=a
 obtain⟨d,rfl,p⟩:=qa1 p
 .skip
  obtain⟨x,rfl,b⟩:=dens1 hd
  exact⟨x,rfl,k ι S d x H Q st b p⟩
theorem qfw{f:Value}{g:D->D->Sr->Res D}{r:V->V->Hp->VK->Prop}(h:CallR X f (λxs H Q=>∃x y,xs=[x,y]/\r x y H Q))(k:∀ι S d e x y H Q,Sto ι H S->Den ι H d x->Den ι H e y->Pst Den (g d e S) ι H Q->r x y H Q):CallR X f (Gn (two g)):=CallRimp h λxs H Q a=>by
 obtain⟨ι,S,ds,st,hd,p⟩:=a
 obtain⟨d,e,rfl,p⟩:=qjU p
 .skip
  obtain⟨x,y,rfl,b,c⟩:=dens2 hd
  exact⟨x,y,rfl,k ι S d e x y H Q st b c p⟩
theorem qls:CallR X (.builtin "len") (Gn (one bLen)) :=
 qdn (r:=λx H Q=>(∃n,LenV X.K x H n/\Q (.int n) H)\/∃a kvs,x=V.ref a/\H a=some (.dT kvs)/\Q (.int kvs.length) H) (CallRimp (qe4.or qer) λxs H Q ⟨x,e,h⟩=>h.elim (λ⟨n,b,i⟩=>.inl ⟨x,n,e,b,i⟩) λ⟨a,kvs,b,i,m⟩=>.inr ⟨a,kvs,by rw[e,b],i,m⟩) λι S d x H Q st f p=>by
  obtain⟨r,e,q⟩:=Pst.ofO p st
  cases z:lenD S d with
  |none=>rw[z]at e;cases e
  |some n =>
   rw[z]at e;cases e
   have fin:=q _ ι H (Stp.refl _ _) st rfl
   cases d with
   |str y =>
    cases (show x=_ from f)
    simp only[lenD]at z
    split at z
    .cases z;exact .inl ⟨_,⟨by assumption,rfl⟩,fin⟩
    .cases z
   |tup l =>
    cases z
    obtain⟨a,xs,rfl,_,ha,c⟩:=f
    exact .inl ⟨_,.inr ⟨xs,.inl (.inl ha),c.length⟩,fin⟩
   |lst l =>
    cases z
    obtain⟨a,xs,rfl,_,ha,c⟩:=f
    exact .inl ⟨_,.inl ⟨xs,.inl ha,c.length⟩,fin⟩
   |ref k =>
    simp only[lenD]at z
    split at z
    .rename_i l j
     cases z
     obtain⟨a,rfl,ha⟩:=f
     obtain⟨_,xs,b,c⟩:=st.obj k a _ ha j
     exact .inl ⟨_,.inl ⟨xs,.inl (.inl b),c.length⟩,fin⟩
    .rename_i l j
     cases z
     obtain⟨a,rfl,ha⟩:=f
     obtain⟨_,kvs,b,c⟩:=st.obj k a _ ha j
     exact .inr ⟨a,kvs,rfl,b,by rw[<-c.length];exact fin⟩
    .cases z
    .cases z
   |_=>cases z
theorem qlt:CallR X (.builtin "abs") (Gn (one bAbs)) :=
 qdn (r:=λx H Q=>∃i,x=.int i/\Q (.int (if i<0 then -i else i)) H) (CallRimp qe3 λxs H Q ⟨x,e,i,a,b⟩=>⟨i,by rw[e,a],b⟩) λι S d x H Q st c p=>by
  cases d with
  |int i=>cases (show x=_ from c);exact⟨i,rfl,p _ ι H (Stp.refl _ _) st rfl⟩
  |_=>exact p.elim
theorem qlu(a:X.calm=true):CallR X (.builtin "min") (Gn (two bMin)) :=
 qfw (r:=λx y H Q=>∃i j,x=.int i/\y=.int j/\Q (.int (if j<i then j else i)) H) (CallRimp (qeh a) λxs H Q ⟨x,y,e,i,j,b,c,f⟩=>⟨i,j,by rw[e,b,c],f⟩) λι S d e x y H Q st h l p=>by
  cases d with
  |int i =>
   cases e with
   |int j=>cases (show x=_ from h);cases (show y=_ from l);exact⟨i,j,rfl,rfl,p _ ι H (Stp.refl _ _) st rfl⟩
   |_=>exact p.elim
  |_=>exact p.elim
theorem qlv(a:X.calm=true):CallR X (.builtin "max") (Gn (two bMax)) :=
 qfw (r:=λx y H Q=>∃i j,x=.int i/\y=.int j/\Q (.int (if j>i then j else i)) H) (CallRimp (qeg a) λxs H Q ⟨x,y,e,i,j,b,c,f⟩=>⟨i,j,by rw[e,b,c],f⟩) λι S d e x y H Q st h l p=>by
  cases d with
  |int i =>
   cases e with
   |int j=>cases (show x=_ from h);cases (show y=_ from l);exact⟨i,j,rfl,rfl,p _ ι H (Stp.refl _ _) st rfl⟩
   |_=>exact p.elim
  |_=>exact p.elim
theorem qa2:CallR X (.builtin "divmod") (λxs H Q=>∃x y,xs=[x,y]/\∃i j,x=.int i/\y=.int j/\divOk i j=true/\∀p,H p=none->Q (.ref p) (upd H p (.tup [.int (i.fdiv j),.int (i.fmod j)]))):=by
 intro pins s a H xs us Q I r h
 obtain⟨x,y,rfl,i,j,rfl,rfl,hd,q⟩:=h
 obtain⟨u,c,rfl,⟨t,rfl⟩,⟨t',rfl⟩⟩:=vals2 r
 simp only[divOk,wW,ux,vB]at hd
 refine divmod_int hd.1 ?_ (.inl hd.2)
 have hn:H s.heap.objs.size=none:=I.hok.fresh (wK _)
 refine⟨.ref s.heap.objs.size,_,?_,rfl,q _ hn⟩
 refine I.laid (λb o e=>wB _ e) (wK _) ⟨by simp only[w4,vN];rw[vL];decide,[.int (i.fdiv j) s.toks,.int (i.fmod j) (s.toks+1)],.cons ⟨_,rfl⟩ (.cons ⟨_,rfl⟩ .nil),?_⟩
 exact⟨⟨_,wF s.heap rfl,rfl,0,rfl⟩,yw _ _⟩
theorem qfx:CallR X (.builtin "divmod") (Gn (two bDivmod)) :=
 qfw qa2 λι S d e x y H Q st a b p=>by
  cases d with
  |int i =>
   cases e with
   |int j =>
    cases (show x=_ from a);cases (show y=_ from b)
    simp only[bDivmod]at p
    split at p
    .rename_i hd
     exact⟨i,j,rfl,rfl,hd,zd (l:=[.int (i.fdiv j),.int (i.fmod j)]) (xs:=[.int (i.fdiv j),.int (i.fmod j)]) st ⟨_,_,rfl,rfl,_,_,rfl,rfl,rfl⟩ p⟩
    .exact p.elim
   |_=>exact p.elim
  |_=>exact p.elim
theorem qhZ:CallR X (.type "tuple") (Gn (one bTuple)) :=
 qdn (r:=λx H Q=>∃p ys,x=.ref p/\((SqL X.K H p ys/\∀l,H l=none->Q (.ref l) (upd H l (.tup ys)))\/(SqT X.K H p ys/\Q (.ref p) H))) (CallRimp qav λxs H Q ⟨x,e,p,ys,f,h⟩=>⟨p,ys,by rw[e,f],h⟩) λι S d x H Q st c p=>by
  obtain⟨r,e,q⟩:=Pst.ofO p st
  cases z:seqOf S d with
  |none=>rw[z]at e;cases e
  |some l =>
   rw[z]at e;cases e
   cases d with
   |tup i =>
    cases z
    obtain⟨a,xs,rfl,hn,ha,b⟩:=c
    exact⟨a,xs,rfl,.inr ⟨.inl (.inl ha),q _ ι H (Stp.refl _ _) st ⟨a,xs,rfl,hn,ha,b⟩⟩⟩
   |lst i =>
    cases z
    obtain⟨a,xs,rfl,hn,ha,b⟩:=c
    exact⟨a,xs,rfl,.inl ⟨.inl ha,zd st b q⟩⟩
   |ref k =>
    obtain⟨a,xs,rfl,j,b⟩:=qM st (show lstOf S (.ref k)=some l from z) c
    exact⟨a,xs,rfl,.inl ⟨.inl j,zd st b q⟩⟩
   |_=>cases z
theorem qfy{pins:List (Addr×Obj)}{p:St}{H:Hp}{s:Shared}{A:Around}{a:Addr}{xs:List V}(I:Inv X pins p H s)(r:A.handled=none)(j:Rd H a (.lst xs)\/H a=some (.tup xs)):
  ∃its:List Value,Vals xs its/\∀(E:Value->Shared->Prop) (Q:Value->Shared->Prop),
   (∀(It:Addr) (fp y:List Addr) (l:Nat->Heap->Prop) (c:Shared),Walks X.prog X.w A It fp y its.length (λi v=>its[i]?=some v) l->l 0 c.heap->(∀b∈fp,b<c.heap.objs.size) ->
    (∀h' tk,(∀b o,b∉y->c.heap.get? b=some o->h'.get? b=some o)->Inv X pins p H {c with heap:=h',toks:=tk})->Q (.ref It) c) ->
   wpAny (model X.prog X.w) A (pyIter (.ref a)) Q E s:=by
 have base:∀(o:Obj) (h':Heap) (tk:Nat),(∀b x,b∉[s.heap.objs.size]->(s.heap.push o).get? b=some x->h'.get? b=some x)->Inv X pins p H {s with heap:=h',toks:=tk}:=λo h' tk m =>
  I.kept λb u e=>m b u (λhm=>by rw[wf.mp hm]at e;exact vH _ (wJ e)) (wB _ e)
 rcases j with j|j
 .obtain ⟨its,q,f,z⟩:=qa0 I j
  refine⟨its,q,λE Q k=>wpAny_pyIter_list f ?_⟩
  have d:a<s.heap.objs.size:=by obtain⟨_,e,_⟩:=f;exact wJ e
  have W:=Walks.list (prog:=X.prog) (w:=X.w) (A:=A) r s.heap.objs.size a (wc d) its.toArray
  refine k s.heap.objs.size [s.heap.objs.size,a] [s.heap.objs.size] (λi h=>h.IsListIter s.heap.objs.size a i/\h.IsList a its.toArray) _ (by simpa using W) ⟨⟨_,wF _ rfl,rfl,rfl⟩,f.push _⟩ (λb n=>?_) (λh' tk m=>base _ h' tk m)
  simp only[wR,vr,or_false]at n
  have e1:=v5 s.heap
  rcases n with rfl|rfl
  .exact uj (xB _) (e1 _).symm
  .exact uj (uF d) (e1 _).symm
 .obtain ⟨its,q,f,z⟩:=yH I j
  refine⟨its,q,λE Q k=>ug f ?_⟩
  have d:a<s.heap.objs.size:=by obtain⟨_,e,_⟩:=f;exact wJ e
  have W:=Walks.tuple (prog:=X.prog) (w:=X.w) (A:=A) r s.heap.objs.size a (wc d) its.toArray
  refine k s.heap.objs.size [s.heap.objs.size,a] [s.heap.objs.size] (λi h=>h.IsTupleIter s.heap.objs.size a i/\h.IsTuple a its.toArray) _ (by simpa using W) ⟨⟨_,wF _ rfl,rfl,rfl⟩,f.push _⟩ (λb n=>?_) (λh' tk m=>base _ h' tk m)
  simp only[wR,vr,or_false]at n
  have e1:=v5 s.heap
  rcases n with rfl|rfl
  .exact uj (xB _) (e1 _).symm
  .exact uj (uF d) (e1 _).symm
theorem qaI{ι:List Addr}{H:Hp}:∀{l:List D} {xs:List V} {its:List Value} {bs:List Bool},boolsOf l=some bs->Dens ι H l xs->Vals xs its->its=bs.map .bool
 |[],xs,its,b,h,hd,r=>by
  cases h;cases (show xs=[]from hd);cases r;rfl
 | .bl c::l,xs,its,b,h,hd,r=>by
  obtain⟨x,t,rfl,a,d⟩:=hd
  cases (show x=_ from a)
  simp only[boolsOf]at h
  cases z:boolsOf l with
  |none=>rw[z]at h;cases h
  |some bs =>
   rw[z]at h;cases h
   cases r with
   |cons e rt=>cases e;rw[qaI z d rt];rfl
 | .non::_,_,_,_,h,_,_=>by cases h
 | .int _::_,_,_,_,h,_,_=>by cases h
 | .str _::_,_,_,_,h,_,_=>by cases h
 | .tup _::_,_,_,_,h,_,_=>by cases h
 | .lst _::_,_,_,_,h,_,_=>by cases h
 | .emp::_,_,_,_,h,_,_=>by cases h
 | .ref _::_,_,_,_,h,_,_=>by cases h
theorem qcL(bs:List Bool):((List.range bs.length).any λi=>(bs[i]?).getD false)=bs.any id:=by
 rw[vP,vd,vd]
 constructor
 .rintro ⟨i,hi,h⟩
  have a:=vg.mp hi
  exact⟨_,uY a,by simpa[wC a]using h⟩
 .rintro ⟨b,c,h⟩
  obtain⟨i,hi,e⟩:=va c
  exact⟨i,vg.mpr hi,by simpa[wC hi,e]using h⟩
theorem qbQ{prog:Program}{w:World}{A:Around}{bs:List Bool}{its:List Value}(e:its=bs.map .bool)(d:Bool):TruthOf prog w A (λi v=>its[i]?=some v) (λi=>(bs[i]?).getD d):=λi v s Q E a f=>by
 subst e
 rw[wb]at a
 cases z:bs[i]? with
 |none=>rw[z]at a;cases a
 |some b =>
  have c:Q ((bs[i]?).getD d) s:=f
  rw[z]at a c
  cases a
  exact vR c
theorem qlw(i:X.calm=true):CallR X (.builtin "any") (Gn (one bAny)):=by
 intro pins s F H xs us Q I r h
 obtain⟨ι,S,ds,st,hd,p⟩:=h
 obtain⟨d,rfl,p⟩:=qa1 p
 .skip
  obtain⟨x,rfl,j⟩:=dens1 hd
  obtain⟨u,rfl,m⟩:=vals1 r
  obtain⟨J,e,q⟩:=Pst.ofO p st
  cases z:seqOf S d with
  |none=>rw[z]at e;cases e
  |some l =>
   rw[z]at e
   cases z2:boolsOf l with
   |none=>rw[wQ,z2]at e;cases e
   |some bs =>
    rw[wQ,z2]at e;cases e
    obtain⟨a,xs,rfl,n,o⟩:=yx st z j
    cases m
    obtain⟨its,v,w⟩:=qfy (A:=X.A.in1) I (I.ok.hd i) n
    have c:=qaI z2 o v
    refine call_any_walk (w _ _ λIt fp y b f W h0 K B=>⟨It,fp,y,_,_,b,_,rfl,W,h0,qbQ c false,λh' tk C=>?_⟩)
    have E:its.length=bs.length:=by rw[c,wG]
    rw[E,qcL]
    exact⟨.bl (bs.any id),H,B h' tk C,rfl,q _ ι H (Stp.refl _ _) st rfl⟩
end
end R
namespace R
open PySem PySem.Spec L2 SeqAt
open PyProof.Rows hiding St
section
variable{X:Cx}{pos:Pos}
theorem Dens.erase{ι:List Addr}{H:Hp}:∀{ds:List D} {xs:List V} (i:Nat),Dens ι H ds xs->Dens ι H (ds.eraseIdx i) (xs.eraseIdx i)
 |[],_,_,h=>by cases (show _=[]from h);exact(rfl:_=_)
 |d::ds,_,0,h=>by
  obtain⟨x,r,rfl,b,a⟩:=h
  exact a
 |d::ds,_,i+1,h=>by
  obtain⟨x,r,rfl,b,a⟩:=h
  exact⟨x,_,rfl,b,Dens.erase i a⟩
theorem put_lst{ι:List Addr}{H:Hp}{S:Sr}{n:Nat}{a:Addr}{l:List D}{xs:List V}(st:Sto ι H S)(ha:ι[n]?=some a)(f:refsLts n l=true)(b:Dens ι H l xs):Stp ι H ι (upd H a (.lst xs))/\Sto ι (upd H a (.lst xs)) (S.set n (.lst l)):=by
 have g:=Stp.put (H:=H) (wo ha) (.lst xs)
 exact⟨g,st.put ha ⟨⟨n,ha,f⟩,xs,qv,Dens.mono g l b⟩⟩
theorem qew{ι:List Addr}{H:Hp}{S:Sr}{x:D}{v:V}{K:PySem.W.Frag}(st:Sto ι H S)(h:isLst S x=true)(b:Den ι H x v):tyV K "list" v H:=by
 cases x with
 |ref n =>
  obtain⟨a,rfl,ha⟩:=b
  simp only[isLst]at h
  split at h
  .rename_i l c
   obtain⟨_,xs,d,_⟩:=st.obj n a _ ha c
   exact .inl ⟨rfl,xs,.inl (.inl d)⟩
  .cases h
 |_=>cases h
theorem qcM{o e:Expr}{name:Str}{id:String}{apos:Pos}{mo me:En->Sr->Res D}{g:Sr->D->D->Res D}{r:V->List V->Hp->VK->Prop}(slot:Slot "list" name id)(h:typeOf (.builtin id)=pure (.type "method_descriptor"))(hm:MtM X id r)(m:∀ι S x y v u H Q,Sto ι H S->Den ι H x v->Den ι H y u->Pst Den (g S x y) ι H Q->r v [u] H Q)(n:PE X o (T mo))(q:PE X e (T me))(d:starEach [e] X.env=(false,eval e X.env)::starEach [] X.env)(b:attributeBase o name X.env (eval o X.env)=eval o X.env)(c:(apos.endLine == pos.line)=true)(f:((backTo pos (starEach [e] X.env)).all (λx=>!x.1)&&(backToKw pos (keywordEach [] X.env)).all (λx=>x.1.isSome)&&decide ([e].length+([]:List Keyword).length+(if([]:List Keyword).isEmpty then 0 else 1)<30))=true)(a:(backTo pos (starEach [] X.env)).any (·.1)=false):
  PE X (.Call (.Attribute o name apos) [e] [] pos) (T λρ S=>(mo ρ S).bind λx S1=>if isLst S1 x then(me ρ S1).bind λy S2=>g S2 x y else .no) :=
 PEimp (qla PySem.F.plainAttrs_list slot h hm n (jB q qcz d) b f c d a) λC H Q s=>by
  refine TG.b1 s λι S ρ x v E w st rx p=>?_
  by_cases i:isLst S x=true
  .rw [wM i]at p
   refine⟨qew st i rx,Pst.tg p w st λy S2 j H2 u s2 z l A B=>?_⟩
   exact m j S2 x y v u H2 Q l (Den.mono s2 x rx) A B
  .rw [wO i]at p;exact p.elim
theorem qlx{ι:List Addr}{S:Sr}{x y:D}{v u:V}{H:Hp}{Q:VK}(st:Sto ι H S)(e:Den ι H x v)(f:Den ι H y u)(p:Pst Den (popD S x y) ι H Q):rPopAt v [u] H Q:=by
 unfold popD at p
 split at p
 .rename_i n k
  split at p
  .rename_i l h
   split at p
   .rename_i i
    split at p
    .rename_i d hd
     obtain⟨a,rfl,ha⟩:=e
     cases (show u=_ from f)
     obtain⟨⟨j,o,q⟩,xs,r,c⟩:=st.obj n a _ ha h
     obtain rfl:j=n:=zo st.nd o ha
     obtain⟨z,e1,s⟩:=c.get hd
     have w:k.toNat<xs.length:=(wP.mp e1).1
     obtain⟨g,b⟩:=put_lst st ha (zS λd m=>zu q (List.mem_of_mem_eraseIdx m)) (Dens.erase k.toNat c)
     refine⟨a,xs,k,k.toNat,z,rfl,rfl,r,?_,?_,?_,e1,p z ι _ g b (Den.mono g d s)⟩
     .lia
     .lia
     .exact seqIndex_of i.1 (by lia)
    .exact p.elim
   .exact p.elim
  .exact p.elim
 .exact p.elim
theorem qiX{ι:List Addr}{S:Sr}{x y:D}{v u:V}{H:Hp}{Q:VK}(st:Sto ι H S)(e:Den ι H x v)(f:Den ι H y u)(p:Pst Den (appD S x y) ι H Q):rAppend v [u] H Q:=by
 unfold appD at p
 split at p
 .rename_i n
  split at p
  .rename_i l h
   split at p
   .rename_i c
    obtain⟨a,rfl,ha⟩:=e
    obtain⟨⟨i,j,m⟩,xs,o,d⟩:=st.obj n a _ ha h
    obtain rfl:i=n:=zo st.nd j ha
    obtain⟨g,b⟩:=put_lst st ha (by rw[yh,m];simp[refsLts,zv _ c.2]) (d.snoc f)
    exact⟨a,xs,u,rfl,rfl,o,by rw[<-d.length];exact c.1,p .non ι _ g b rfl⟩
   .exact p.elim
  .exact p.elim
 .exact p.elim
theorem qex{ι:List Addr}{H:Hp}{S:Sr}{x:D}{v:V}(st:Sto ι H S)(h:isDic S x=true)(d:Den ι H x v):∃a,v=.ref a/\IsD H a:=by
 cases x with
 |ref n =>
  obtain⟨a,rfl,ha⟩:=d
  simp only[isDic]at h
  split at h
  .rename_i l b
   obtain⟨_,kvs,c,_⟩:=st.obj n a _ ha b
   exact⟨a,rfl,.inr ⟨kvs,.inl c⟩⟩
  .rename_i l b
   obtain⟨_,kvs,c,_⟩:=st.obj n a _ ha b
   exact⟨a,rfl,.inl ⟨kvs,.inl c⟩⟩
  .cases h
 |_=>cases h
theorem je{κ K:Type}[DecidableEq κ][DecidableEq K]{f:κ->K}(c:∀{a b},f a=f b ↔ a=b){ι:List Addr}{H:Hp}{k:κ}:∀{l:List (κ×D)} {kvs:List (K×V)},DGs f ι H l kvs->lookT k l=none->valV kvs (f k)=none
 |[],kvs,hk,_=>by cases (show kvs=[]from hk);rfl
 |p::l,kvs,hk,h=>by
  obtain⟨v,r,rfl,i,d⟩:=hk
  obtain⟨j,e⟩:=p
  simp only[lookT]at h
  by_cases z:j=k
  .rw [wM z]at h;cases h
  .rw [wO z]at h
   rw[yg (by simpa[c]using z)]
   exact je c d h
theorem qly{o k e:Expr}{apos:Pos}{mo mk me:En->Sr->Res D}(M:X.A.units+1<cLine)(N:PE X o (T mo))(O:PE X k (T mk))(P:PE X e (T me))(m:M2 X o "get" apos k e pos):
  PE X (.Call (.Attribute o "get" apos) [k,e] [] pos) (T λρ S=>(mo ρ S).bind λx S1=>if isDic S1 x then(mk ρ S1).bind λy S2=>(me ρ S2).bind λz s=>ofO (getD s x y z) s else .no) :=
 PEimp (qff M N O P m) λσ H Q R=>by
  refine TG.b1 R λι S ρ x v H1 U st rx p=>?_
  by_cases i:isDic S x=true
  .rw [wM i]at p
   obtain⟨a,rfl,ha⟩:=qex st i rx
   refine⟨a,rfl,ha,Pst.tg p U st λy S2 W H2 u s2 B C J Y=>Pst.tg Y B C λz s h H3 w r Z c K p3=>?_⟩
   obtain⟨d,e,q⟩:=Pst.ofO p3 c
   unfold getD at e
   split at e
   .rename_i n ks
    split at e
    .rename_i l i
     cases zk:intsOf ks with
     |none=>rw[zk]at e;cases e
     |some L =>
      rw[zk]at e;cases e
      cases intsOf_eq zk
      obtain⟨a',E,hn⟩:=Den.mono (s2.trans r) _ rx
      cases E
      obtain⟨_,kvs,F,j⟩:=c.obj n a _ hn i
      obtain⟨b,xs,rfl,_,hb,db⟩:=Den.mono r _ J
      cases dens_ints db
      refine⟨valV kvs (keyT L),DGet.t F (by rw[jC];exact hb),?_⟩
      dsimp only at q
      cases zl:lookT L l with
      |none=>rw[je yk j zl];rw[zl]at q;exact q _ h H3 (Stp.refl _ _) c K
      |some dd =>
       obtain⟨v,e1,I⟩:=ym yk j zl
       rw[e1];rw[zl]at q
       exact q v h H3 (Stp.refl _ _) c I
    .cases e
   .rename_i n t
    split at e
    .rename_i l i
     cases e
     obtain⟨a',E,hn⟩:=Den.mono (s2.trans r) _ rx
     cases E
     obtain⟨_,kvs,F,j⟩:=c.obj n a _ hn i
     cases (show u=V.str t from Den.mono r _ J)
     refine⟨valV kvs (.inr t),DGet.k (k:=.inr t) F,?_⟩
     cases zl:lookT (Sum.inr t:Key) l with
     |none=>rw[show valV kvs (Sum.inr t)=none from je (f:=id) Iff.rfl j zl];rw[zl]at q;exact q _ h H3 (Stp.refl _ _) c K
     |some dd =>
      obtain⟨v,e1,I⟩:=ym (f:=id) Iff.rfl j zl
      rw[show valV kvs (Sum.inr t)=some v from e1];rw[zl]at q
      exact q v h H3 (Stp.refl _ _) c I
    .cases e
   .cases e
  .rw [wO i]at p;exact p.elim
noncomputable def TGt(m:D->En->Sr->Res En):L2.TG:=λv a H Q=>∃ι S ρ d,EnR ι H ρ a/\Sto ι H S/\Den ι H d v/\Pst EnR (m d ρ S) ι H Q
noncomputable def TGts(m:List D->En->Sr->Res En):TGs:=λvs a H Q=>∃ι S ρ ds,EnR ι H ρ a/\Sto ι H S/\Dens ι H ds vs/\Pst EnR (m ds ρ S) ι H Q
theorem PGimp{tg:Expr}{t t':L2.TG}(h:PG X tg t)(k:∀v a H Q,t' v a H Q->t v a H Q):PG X tg t':=λpins s a H v u Q I r b=>h pins s a H v u Q I r (k v a H Q b)
theorem PGsimp{ts:List Expr}{t t':TGs}(h:PGs X ts t)(k:∀v a H Q,t' v a H Q->t v a H Q):PGs X ts t':=λpins s a H v u Q I r b=>h pins s a H v u Q I r (k v a H Q b)
theorem qlz{i:Nat}{tg:Expr}(h:PG X tg (gName i)):PG X tg (TGt λd ρ S=>.ok (ρ.set i (some d)) S):=PGimp h λv c H Q a=>by
 obtain⟨ι,S,ρ,d,b,st,hd,p⟩:=a
 exact p _ ι H (Stp.refl _ _) st (b.set hd)
theorem qlA:PGs X [] (TGts λl ρ S=>match l with|[]=>.ok ρ S|_=>.no):=PGsimp qhx λvs c H Q a=>by
 obtain⟨ι,S,ρ,ds,b,st,hd,p⟩:=a
 cases ds with
 |nil=>exact⟨hd,p _ ι H (Stp.refl _ _) st b⟩
 |cons=>exact p.elim
theorem qjV{e:Expr}{es:List Expr}{m:D->En->Sr->Res En}{f:List D->En->Sr->Res En}(h:PG X e (TGt m))(i:PGs X es (TGts f))(j:(assignEach (e::es) X.env).map (·.2)=assign e X.env::(assignEach es X.env).map (·.2)):
  PGs X (e::es) (TGts λl ρ S=>match l with|d::r=>(m d ρ S).bind λρ1 S1=>f r ρ1 S1|[]=>.no):=PGsimp (qeW h i j) λvs y H Q n=>by
 obtain⟨ι,S,ρ,ds,o,st,hd,p⟩:=n
 cases ds with
 |nil=>exact p.elim
 |cons d r =>
  obtain⟨v,q,rfl,s,u⟩:=hd
  refine⟨v,q,rfl,ι,S,ρ,d,o,st,s,Pst.bind p λρ1 S1 a z w s1 b c x=>?_⟩
  exact⟨a,S1,ρ1,r,c,b,Dens.mono s1 r u,x⟩
theorem qlB{es:List Expr}{k n:Nat}{c:List D->En->Sr->Res En}(j:X.calm=true)(h:PGs X es (TGts c))(hn:(assignEach es X.env).length=n)(e:(assignEach es X.env).findIdx? (·.1)=none)(m:∀l ρ S b f,c l ρ S=.ok b f->l.length=n):PG X (.Tuple es k pos) (TGt λd ρ S=>match d with|.tup l=>c l ρ S|_=>.no):=PGimp (qjq j h hn e) λv r H Q o=>by
 obtain⟨ι,S,ρ,d,q,st,hd,p⟩:=o
 cases d with
 |tup l =>
  obtain⟨a,xs,rfl,_,ha,i⟩:=hd
  refine⟨a,xs,rfl,.inl (.inl ha),?_,ι,S,ρ,l,q,st,i,p⟩
  rw[<-i.length]
  cases z:c l ρ S with
  |ok b f=>exact m l ρ S b f z
  |no=>simp only[z]at p;exact p.elim
  |err=>simp only[z]at p;exact p.elim
 |_=>exact p.elim
theorem qbR(b:X.A.units+1<cLine):PSet X (λo i v H Q=>∃a H',o=.ref a/\DPut H a i v H'/\Q H'):=by
 intro pins s f H o i v j l u Q I c ri d h
 obtain⟨a,H',rfl,g,q⟩:=h
 cases c
 exact qen b I g ri d λm e=>⟨H',e,q⟩
theorem qfz(P:X.A.units+1<cLine){pins:List (Addr×Obj)}{s:Shared}{p:St}{H:Hp}{a:Addr}{i v:V}{r B u:Value}{Q:Hp->Prop}{ι:List Addr}{S R:Sr}{n:Nat}{y d:D}(I:Inv X pins p H s)(K:RelV (.ref a) r)(ri:RelV i B)(L:RelV v u)(st:Sto ι H S)(ha:ι[n]?=some a)(h:refsLt 0 d=true)(M:Den ι H y i)(hd:Den ι H d v)(e:putN S n y d=some R)(q:∀C H',Stp ι H C H'->Sto C H' R->Q H'):wpAny (model X.prog X.w) X.A (setItem r B u) (λ_ s'=>∃H',Inv X pins p H' s'/\Q H') X.xe s:=by
 unfold putN at e
 split at e
 .rename_i l E
  obtain⟨⟨U,W,F⟩,xs,J,c⟩:=st.obj n a _ ha E
  obtain rfl:U=n:=zo st.nd W ha
  split at e
  .rename_i k
   cases (show i=_ from M)
   cases z:ixN l.length k with
   |none=>rw[z]at e;cases e
   |some j =>
    rw[z]at e;cases e
    obtain⟨g,N⟩:=put_lst st ha (zS λx m=>(List.mem_or_eq_of_mem_set m).elim (λz=>zu F z) λz=>z ▸ zv _ h) (c.set hd j)
    exact qe8 pins s p H _ _ v r B u Q I K ri L ⟨a,xs,k,j,rfl,rfl,J,by rw[<-c.length];exact z,q ι _ g N⟩
  .cases e
 .rename_i l E
  obtain⟨F,kvs,J,c⟩:=st.obj n a _ ha E
  split at e
  .rename_i ks
   cases z:intsOf ks with
   |none=>rw[z]at e;cases e
   |some k =>
    rw[z,wQ]at e
    split at e
    .rename_i o
     cases e
     cases intsOf_eq z
     obtain⟨b,ys,rfl,_,Y,Z⟩:=M
     cases dens_ints Z
     have g:=Stp.put (H:=H) (wo ha) (.dT (putK kvs (keyT k) v))
     refine qbR P pins s p H _ _ v r B u Q I K ri L ⟨a,_,rfl,DPut.t (k:=keyT k) J (by rw[jC];exact Y) ?_,q ι _ g (st.put ha ⟨yR h F,_,qv,jD yk (Den.mono g d hd) (DGs.mono g c)⟩)⟩
     have O:kvs.length<1000:=by rw[<-c.length];exact o
     exact w6 O (by rw[vL];decide)
    .cases e
  .cases e
 .rename_i l E
  obtain⟨F,kvs,J,c⟩:=st.obj n a _ ha E
  cases z:keyD y with
  |none=>rw[z]at e;cases e
  |some k =>
   rw[z,wQ]at e
   split at e
   .rename_i o
    cases e
    cases key_den z M
    have g:=Stp.put (H:=H) (wo ha) (.dK (putK kvs k v))
    refine qbR P pins s p H _ _ v r B u Q I K ri L ⟨a,_,rfl,DPut.k (k:=k) J ?_,q ι _ g (st.put ha ⟨yR h F,_,qv,jD (f:=id) Iff.rfl (Den.mono g d hd) (DGs.mono g c)⟩)⟩
    have O:kvs.length<1000:=by rw[<-c.length];exact o
    exact w6 O (by rw[vL];decide)
   .cases e
 .cases e
theorem qdo(j:X.A.units+1<cLine):PSet X (λo i v H Q=>∃ι S x y d f,Sto ι H S/\Den ι H x o/\Den ι H y i/\Den ι H d v/\putE S x y d=some f/\∀c H',Stp ι H c H'->Sto c H' f->Q H'):=by
 intro pins s w H o i v z B u Q I l ri m h
 obtain⟨ι,S,x,y,d,f,st,p,r,hd,e,q⟩:=h
 unfold putE at e
 by_cases b:refsLt 0 d=true
 .rw [wM b]at e
  split at e
  .rename_i n
   obtain⟨a,rfl,ha⟩:=p
   exact qfz j I l ri m st ha b r hd e q
  .cases e
 .rw [wO b]at e;cases e
theorem qlC{o i:Expr}{mo mi:En->Sr->Res D}(r:X.A.units+1<cLine)(s:PE X o (T mo))(hi:PE X i (T mi))(ha:∀v,assign (.Subscript o i pos) X.env v=(do
   let a <-holding [v] (eval o X.env)
   let c <-holding [v,a] (eval i X.env)
   standAt pos
   holding [v,a,c] (setItem a c v)
   release [v,a,c] [])):
  PG X (.Subscript o i pos) (TGt λd ρ S=>(mo ρ S).bind λx S1=>(mi ρ S1).bind λy S2=>match putE S2 x y d with|some e=>.ok ρ e|none=>.no):=PGimp (qjr s hi (qdo r) ha) λv u H Q w=>by
 obtain⟨ι,S,ρ,d,B,st,hd,p⟩:=w
 refine Pst.tg (ρ:=ρ) p B st λx S1 C I J s1 f h rx E=>Pst.tg (ρ:=ρ) E f h λy S2 j H2 K s2 l m F b=>?_
 cases z:putE S2 x y d with
 |none=>rw[z]at b;exact b.elim
 |some e =>
  rw[z]at b
  exact⟨j,S2,x,y,d,e,m,Den.mono s2 x rx,F,Den.mono (s1.trans s2) d hd,z,λn H' g q=>b u n H' g q (l.mono g)⟩
def FlOk(f:Fl)(ι:List Addr)(H:Hp)(D:Ends):Prop:=match f with
 | .nx ρ=>∀a,EnR ι H ρ a->D.nx a H
 | .bk ρ=>∀a,EnR ι H ρ a->D.bk a H
 | .ct ρ=>∀a,EnR ι H ρ a->D.ct a H
 | .rt d=>∀v,Den ι H d v->D.rt v H
def PsF(r:Res Fl)(ι:List Addr)(H:Hp)(D:Ends):Prop:=match r with
 | .ok f b=>∀a H',Stp ι H a H'->Sto a H' b->FlOk f a H' D
 | .err _ _=>False
 | .no=>False
theorem PsF.from{r:Res Fl}{ι a:List Addr}{H H':Hp}{D:Ends}(h:PsF r ι H D)(s:Stp ι H a H'):PsF r a H' D:=by
 cases r with
 |ok f S=>exact λb H2 t st=>h b H2 (s.trans t) st
 |err=>exact h
 |no=>exact h
theorem PsF.bind{d i:Type}{R:List Addr->Hp->d->i->Prop}{r:Res d}{f:d->Sr->Res Fl}{ι:List Addr}{H:Hp}{D:Ends}{K:i->Hp->Prop}(h:PsF (r.bind f) ι H D)(k:∀a j c H' b,Stp ι H c H'->Sto c H' j->R c H' a b->PsF (f a j) c H' D->K b H'):Pst R r ι H K:=by
 cases r with
 |ok a S=>exact λb e H2 t st q=>k a S e H2 b t st q (PsF.from h t)
 |err=>exact h
 |no=>exact h
noncomputable def TSm(m:En->Sr->Res Fl):TS:=λD a H=>∃ι S ρ,EnR ι H ρ a/\Sto ι H S/\PsF (m ρ S) ι H D
theorem PSimp{st:Stmt}{t t':TS}(h:PS X st t)(k:∀D a H,t' D a H->t D a H):PS X st t':=λpins s a H D I b=>h pins s a H D I (k D a H b)
theorem PSsimp{st:List Stmt}{t t':TS}(h:PSs X st t)(k:∀D a H,t' D a H->t D a H):PSs X st t':=λpins s a H D I b=>h pins s a H D I (k D a H b)
theorem qlD:PSs X [] (TSm λρ S=>.ok (.nx ρ) S):=PSsimp qhv λD a H b=>by
 obtain⟨ι,S,ρ,c,st,p⟩:=b
 exact p ι H (Stp.refl _ _) st a c
theorem qjW{st:Stmt}{rest:List Stmt}{m i:En->Sr->Res Fl}(j:PS X st (TSm m))(l:PSs X rest (TSm i)):
  PSs X (st::rest) (TSm λρ S=>(m ρ S).bind λf S1=>match f with|.nx ρ1=>i ρ1 S1|f=>.ok f S1):=PSsimp (qeU j l) λD r H n=>by
 obtain⟨ι,S,ρ,o,st,p⟩:=n
 refine⟨ι,S,ρ,o,st,?_⟩
 dsimp only at p
 cases z:m ρ S with
 |no=>rw[z]at p;exact p
 |err=>rw[z]at p;exact p
 |ok f S1 =>
  rw[z]at p
  intro b h s1 c
  cases f with
  |nx ρ1=>exact λe a=>⟨b,S1,ρ1,a,c,PsF.from p s1⟩
  |bk ρ1=>exact λe a=>p b h s1 c e a
  |ct ρ1=>exact λe a=>p b h s1 c e a
  |rt d=>exact λv q=>p b h s1 c v q
theorem qjX{e:Expr}{m:En->Sr->Res D}(h:PE X e (T m))(i:swapsWith e none pos.line X.env=pure false):PS X (.Expr e pos) (TSm λρ S=>(m ρ S).bind λ_ S1=>.ok (.nx ρ) S1):=PSimp (qhw h i) λD j H l=>by
 obtain⟨ι,S,ρ,f,st,p⟩:=l
 exact⟨ι,S,ρ,f,st,PsF.bind p λa S1 c n b s1 d q o=>o c n (Stp.refl _ _) d j (f.mono s1)⟩
theorem qlE{e:Expr}{m:En->Sr->Res D}(h:PE X e (T m)):PS X (.Return (some e) pos) (TSm λρ S=>(m ρ S).bind λd S1=>.ok (.rt d) S1):=PSimp (qjp h) λD q H i=>by
 obtain⟨ι,S,ρ,j,st,p⟩:=i
 exact⟨ι,S,ρ,j,st,PsF.bind p λa S1 c l b s1 f n o=>o c l (Stp.refl _ _) f b n⟩
theorem qh0{st:Stmt}:PS X st (TSm λ_ _=>.no):=PSimp qeV λD b H a=>by
 obtain⟨ι,S,ρ,c,st,p⟩:=a
 exact p
theorem s_if{c:Expr}{a b:List Stmt}{h:En->Sr->Res Bool}{i mb:En->Sr->Res Fl}(l:PT X c (TB h))(ha:PSs X a (TSm i))(m:PSs X b (TSm mb)):
  PS X (.If c a b pos) (TSm λρ S=>(h ρ S).bind λt S1=>if t then i ρ S1 else mb ρ S1):=PSimp (qk2 l ha m) λD q H n=>by
 obtain⟨ι,S,ρ,f,st,p⟩:=n
 refine⟨ι,S,ρ,f,st,PsF.bind p λa S1 d r b s1 e o j=>?_⟩
 cases (show a=b from o)
 cases a with
 |true=>rw[wM rfl];exact⟨d,S1,ρ,f.mono s1,e,j⟩
 |false=>rw[wO (by decide)];exact⟨d,S1,ρ,f.mono s1,e,j⟩
theorem qiY{tg e:Expr}{m:En->Sr->Res D}{g:D->En->Sr->Res En}(h:PS X (.Assign [tg] e pos) (tAsg (T m) (TGt g))):
  PS X (.Assign [tg] e pos) (TSm λρ S=>(m ρ S).bind λd S1=>(g d ρ S1).bind λρ1 S2=>.ok (.nx ρ1) S2):=PSimp h λD r H n=>by
 obtain⟨ι,S,ρ,l,st,p⟩:=n
 refine⟨ι,S,ρ,l,st,PsF.bind p λd S1 a s v s1 b rd o=>?_⟩
 refine⟨a,S1,ρ,d,l.mono s1,b,rd,PsF.bind o λρ1 S2 c H2 f s2 i j q=>?_⟩
 exact q c H2 (Stp.refl _ _) i f j
theorem qh1{c:Expr}{body:List Stmt}{n:En->Sr->Res Bool}{mb:En->Sr->Res Fl}{N:Nat}(x:PassesOwn (model X.prog X.w) X.A X.env X.xe)(y:PT X c (TB n))(B:PSs X body (TSm mb)):
  PS X (.While c body [] pos) (TSm λρ S=>whileLoop n mb N ρ S):=PSimp (qeX x y B) λD u H C=>by
 obtain⟨ι,S,ρ,o,st,p⟩:=C
 refine⟨λm u H=>∃ι S ρ,EnR ι H ρ u/\Sto ι H S/\PsF (whileLoop n mb m ρ S) ι H D,⟨N,ι,S,ρ,o,st,p⟩,?_⟩
 rintro m u H ⟨ι,S,ρ,o,st,p⟩
 cases m with
 |zero=>exact p.elim
 |succ m =>
  refine⟨ι,S,ρ,o,st,PsF.bind (show PsF ((n ρ S).bind _) ι H D from p) λa S1 q E b s1 r F h=>?_⟩
  cases (show a=b from F)
  cases a with
  |false=>exact h q E (Stp.refl _ _) r u (o.mono s1)
  |true =>
   refine⟨λs H'=>∃ι S ρ,EnR ι H' ρ s/\Sto ι H' S/\PsF (whileLoop n mb m ρ S) ι H' D,λs H' h'=>⟨m,xB _,h'⟩,q,S1,ρ,o.mono s1,r,?_⟩
   cases z:mb ρ S1 with
   |no=>simp only[z,wr]at h;exact h
   |err=>simp only[z,wr]at h;exact h
   |ok f S2 =>
    simp only[z,wr,Res.bind_ok]at h
    intro i H2 s2 j
    cases f with
    |nx ρ1=>exact λl e=>⟨i,S2,ρ1,e,j,PsF.from h s2⟩
    |ct ρ1=>exact λl e=>⟨i,S2,ρ1,e,j,PsF.from h s2⟩
    |bk ρ1=>exact λl e=>h i H2 s2 j l e
    |rt d=>exact λv I=>h i H2 s2 j v I
end
end R
namespace R
open PySem PySem.Spec L2 SeqAt
open PyProof.Rows hiding St
structure ItOk (ι:List Addr) (H:Hp) (J:It) (ds:List D):Prop where
 go:∀(i:Nat) (d:D) (ι2:List Addr) (H2:Hp),Stp ι H ι2 H2->ds[i]?=some d->J.go i H2/\∀x H3,J.yld i H2 x H3->Stp ι2 H2 ι2 H3/\∀S,Sto ι2 H2 S->Sto ι2 H3 S/\Den ι2 H3 d x
 stop:∀(ι2:List Addr) (H2:Hp),Stp ι H ι2 H2->J.stop ds.length H2
theorem qfA{ι:List Addr}{H:Hp}{K:PySem.W.Frag}{a:Addr}{xs:List V}{ds:List D}(n:a∉ι)(h:Rd H a (.lst xs))(f:Dens ι H ds xs):ItOk ι H (Itl K a) ds where
 go:=λi d b H2 s e=>by
  obtain⟨x,e1,l⟩:=(Dens.mono s ds f).get e
  obtain⟨j,m⟩:=s.rd h n
  refine⟨⟨xs,x,.inl j,e1⟩,λy H3 c=>?_⟩
  obtain⟨rfl,c⟩:=c
  have:=c xs (.inl j)
  rw[e1]at this;cases this
  exact⟨Stp.refl _ _,λ_ z=>⟨z,l⟩⟩
 stop:=λb H2 s=>⟨xs,.inl (s.rd h n).1,Nat.le_of_eq f.length.symm⟩
theorem qfB{ι:List Addr}{H:Hp}{K:PySem.W.Frag}{a:Addr}{xs:List V}{ds:List D}(n:a∉ι)(h:H a=some (.tup xs))(f:Dens ι H ds xs):ItOk ι H (Itt K a) ds where
 go:=λi d b H2 s e=>by
  obtain⟨x,e1,l⟩:=(Dens.mono s ds f).get e
  have j:=s.keep _ _ h n trivial
  refine⟨⟨xs,x,.inl (.inl j),e1⟩,λy H3 c=>?_⟩
  obtain⟨rfl,c⟩:=c
  have:=c xs (.inl (.inl j))
  rw[e1]at this;cases this
  exact⟨Stp.refl _ _,λ_ z=>⟨z,l⟩⟩
 stop:=λb H2 s=>⟨xs,.inl (.inl (s.keep _ _ h n trivial)),Nat.le_of_eq f.length.symm⟩
structure ItG (ι:List Addr) (H:Hp) (J:It) (ds:List D) (gd:Sr->Prop):Prop where
 go:∀(i:Nat) (d:D) (ι2:List Addr) (H2:Hp) (S2:Sr),Stp ι H ι2 H2->Sto ι2 H2 S2->gd S2->ds[i]?=some d->J.go i H2/\∀x H3,J.yld i H2 x H3->Stp ι2 H2 ι2 H3/\∀S,Sto ι2 H2 S->Sto ι2 H3 S/\Den ι2 H3 d x
 stop:∀(ι2:List Addr) (H2:Hp) (S2:Sr),Stp ι H ι2 H2->Sto ι2 H2 S2->gd S2->J.stop ds.length H2
theorem ItG.mono{ι b:List Addr}{H H':Hp}{J:It}{ds:List D}{gd:Sr->Prop}(h:ItG ι H J ds gd)(s:Stp ι H b H'):ItG b H' J ds gd :=
 ⟨λi d a H2 S2 t st g e=>h.go i d a H2 S2 (s.trans t) st g e,λa H2 S2 t st g=>h.stop a H2 S2 (s.trans t) st g⟩
theorem ItOk.g{ι:List Addr}{H:Hp}{J:It}{ds:List D}(h:ItOk ι H J ds):ItG ι H J ds λ_=>True :=
 ⟨λi d a H2 _ t _ _ e=>h.go i d a H2 t e,λa H2 _ t _ _=>h.stop a H2 t⟩
theorem qh2{ι:List Addr}{H:Hp}{K:PySem.W.Frag}{a:Addr}{n:Nat}{l:List D}(h:ι[n]?=some a):ItG ι H (Itl K a) l (own n l) where
 go:=λi d b H2 S2 s st g e=>by
  obtain⟨_,xs,ha,c⟩:=st.obj n a _ (s.get h) g
  obtain⟨x,e1,j⟩:=c.get e
  refine⟨⟨xs,x,.inl (.inl ha),e1⟩,λy H3 f=>?_⟩
  obtain⟨rfl,f⟩:=f
  have:=f xs (.inl (.inl ha))
  rw[e1]at this;cases this
  exact⟨Stp.refl _ _,λ_ z=>⟨z,j⟩⟩
 stop:=λb H2 S2 s st g=>by
  obtain⟨_,xs,ha,c⟩:=st.obj n a _ (s.get h) g
  exact⟨xs,.inl (.inl ha),Nat.le_of_eq c.length.symm⟩
noncomputable def TIg(m:En->Sr->Res (List D×(Sr->Prop))):TI:=λb H R=>∃ι S ρ,EnR ι H ρ b/\Sto ι H S/\match m ρ S with
 | .ok p c=>∀a H' J,Stp ι H a H'->Sto a H' c->ItG a H' J p.1 p.2->R J H'
 | .err _ _=>False
 | .no=>False
noncomputable def TIt(m:En->Sr->Res (List D)):TI:=λb H R=>∃ι S ρ,EnR ι H ρ b/\Sto ι H S/\match m ρ S with
 | .ok ds c=>∀a H' J,Stp ι H a H'->Sto a H' c->ItOk a H' J ds->R J H'
 | .err _ _=>False
 | .no=>False
section
variable{X:Cx}{pos:Pos}{tg:Expr}
theorem PIimp{iter:Expr}{t t':TI}(h:PI X tg iter t)(k:∀a H R,t' a H R->t a H R):PI X tg iter t':=λpins s a H R I b=>h pins s a H R I (k a H R b)
theorem qcN{l:Expr}{tl:TE}(n:PE X l tl):PI X tg l (λf H R=>tl f H λx d=>(∃a,x=.ref a/\(∃xs,SqL X.K d a xs)/\R (Itl X.K a) d)\/(∃a,x=.ref a/\(∃xs,SqT X.K d a xs)/\R (Itt X.K a) d)):=by
 intro pins s f H R I h
 refine thn (n pins s f H _ I h) λv s1 ⟨x,d,c,m,q1⟩=>?_
 rcases q1 with ⟨a,e,⟨xs,i⟩,q⟩|⟨a,e,⟨xs,i⟩,q⟩
 .subst e
  cases m
  obtain⟨its,r,p,u⟩:=c.list i
  refine wpAny_pyIter_list p.isList ?_
  refine⟨s1.heap.objs.size,[s1.heap.objs.size],_,_,d,rfl,c.kept (t':=s1.toks) λb o e=>wB _ e,qee a _,⟨_,wF _ rfl,rfl,rfl⟩,λb j=>?_,q⟩
  have e:b=s1.heap.objs.size:=by simpa using j
  subst e
  exact c.fpOk (wK _) (c.hok.fresh (wK _))
 .subst e
  cases m
  obtain⟨its,r,p,u⟩:=c.tuple i
  refine ug (show s1.heap.IsTuple a its.toArray from p) ?_
  refine⟨s1.heap.objs.size,[s1.heap.objs.size],_,_,d,rfl,c.kept (t':=s1.toks) λb o e=>wB _ e,qcv a _,⟨_,wF _ rfl,rfl,rfl⟩,λb j=>?_,q⟩
  have e:b=s1.heap.objs.size:=by simpa using j
  subst e
  exact c.fpOk (wK _) (c.hok.fresh (wK _))
noncomputable def mSeq(m:En->Sr->Res D):En->Sr->Res (List D):=λρ S=>(m ρ S).bind λx S1=>match x with
 | .tup l=>.ok l S1
 | .lst l=>.ok l S1
 |_=>.no
theorem qlF{e:Expr}{m:En->Sr->Res D}(h:PE X e (T m)):PI X tg e (TIt (mSeq m)):=PIimp (qcN h) λq H R n=>by
 obtain⟨ι,S,ρ,o,st,p⟩:=n
 refine⟨ι,S,ρ,o,st,?_⟩
 dsimp only[mSeq]at p
 cases z:m ρ S with
 |no=>rw[z]at p;exact p
 |err=>rw[z]at p;exact p
 |ok d S1 =>
  rw[z,Res.bind_ok]at p
  intro v b i s1 c j
  cases d with
  |tup l =>
   obtain⟨a,xs,rfl,hn,ha,f⟩:=j
   exact .inr ⟨a,rfl,⟨xs,.inl (.inl ha)⟩,p b i _ s1 c (qfB hn ha f)⟩
  |lst l =>
   obtain⟨a,xs,rfl,hn,ha,f⟩:=j
   exact .inl ⟨a,rfl,⟨xs,.inl ha⟩,p b i _ s1 c (qfA hn ha f)⟩
  |_=>exact p.elim
theorem qjY{iter:Expr}{body:List Stmt}{mi:En->Sr->Res (List D×(Sr->Prop))}{g:D->En->Sr->Res En}{mb:En->Sr->Res Fl}(hp:PassesOwn (model X.prog X.w) X.A X.env X.xe)(hc:X.calm=true)(hi:PI X tg iter (TIg mi))(hg:PG X tg (TGt g))(hb:PSs X body (TSm mb))(hs:∀x,foldedSetIterable iter X.env x=pure x):
  PS X (.For tg iter body [] pos) (TSm λρ S=>(mi ρ S).bind λp S1=>endG p.2 (forLoop (λd ρ S=>(grd p.2 S (g d ρ S)).bind λρ1 S1=>mb ρ1 S1) p.1 ρ S1)):=PSimp (qjw hp hc hi hg hb hs) λD K H hw=>by
 obtain⟨ι,S,ρ,U,st,p⟩:=hw
 refine⟨ι,S,ρ,U,st,?_⟩
 dsimp only at p
 cases z:mi ρ S with
 |no=>rw[z]at p;exact p
 |err=>rw[z]at p;exact p
 |ok dg S1 =>
  obtain⟨ds,gd⟩:=dg
  rw[z,Res.bind_ok]at p
  dsimp only at p
  intro q W J s1 L y
  refine⟨λi m K H=>m=ds.length-i/\i<=ds.length/\∃ι S ρ,Stp q W ι H/\EnR ι H ρ K/\Sto ι H S/\PsF (endG gd (forLoop (λd ρ S=>(grd gd S (g d ρ S)).bind λρ1 S1=>mb ρ1 S1) (ds.drop i) ρ S)) ι H D,
   ⟨_,rfl,wh _,q,S1,ρ,Stp.refl _ _,U.mono s1,L,by simpa using PsF.from p s1⟩,?_⟩
  rintro i m K H ⟨rfl,hi,ι,S,ρ,s2,B,h,j⟩
  by_cases r:i<ds.length
  .have hd:ds[i]?=some ds[i]:=wC r
   rw[um r]at j
   have b:gd S:=by
    apply Classical.byContradiction
    intro hn
    simp only[forLoop,yi hn,Res.bind_no,endG]at j
    exact j
   obtain⟨go,yl⟩:=y.go i _ ι H S s2 h b hd
   refine .inr ⟨go,λC H'=>∃ι S ρ,Stp q W ι H'/\EnR ι H' ρ C/\Sto ι H' S/\PsF (endG gd (forLoop (λd ρ S=>(grd gd S (g d ρ S)).bind λρ1 S1=>mb ρ1 S1) (ds.drop (i+1)) ρ S)) ι H' D,λC H' h'=>⟨_,by omega,rfl,r,h'⟩,λx H3 hy=>?_⟩
   obtain⟨M,N⟩:=yl x H3 hy
   obtain⟨k3,d3⟩:=N S h
   refine⟨ι,S,ρ,ds[i],B.mono M,k3,d3,?_⟩
   have s:=PsF.from j M
   simp only[forLoop,zy b]at s
   cases z2:g ds[i] ρ S with
   |no=>simp only[z2,endG,Res.bind_no]at s;exact s
   |err=>simp only[z2,endG,Res.bind_err]at s;exact s
   |ok E Y =>
    rw[z2,Res.bind_ok]at s
    intro a0 O H4 Z P Q
    refine⟨O,Y,E,Q,P,?_⟩
    have a:=PsF.from s Z
    cases z3:mb E Y with
    |no=>simp only[z3,endG,Res.bind_no]at a;exact a
    |err=>simp only[z3,endG,Res.bind_err]at a;exact a
    |ok f R =>
     rw[z3,Res.bind_ok]at a
     intro l H5 F n
     have tot:=((s2.trans M).trans Z).trans F
     cases f with
     |nx o=>exact λu c=>⟨l,R,o,tot,c,n,PsF.from a F⟩
     |ct o=>exact λu c=>⟨l,R,o,tot,c,n,PsF.from a F⟩
     |bk o =>
      by_cases I:gd R
      .simp only[endG,Res.bind_ok,zy I]at a
       exact λu c=>a l H5 F n u c
      .simp only[endG,Res.bind_ok,yi I]at a
       exact a.elim
     |rt d=>exact λv hv=>a l H5 F n v hv
  .have e:i=ds.length:=by omega
   subst e
   rw[uT (wK _)]at j
   have b:gd S:=by
    apply Classical.byContradiction
    intro hn
    simp only[forLoop,Res.bind_ok,endG,yi hn]at j
    exact j
   simp only[forLoop,Res.bind_ok,endG,zy b]at j
   refine .inl ⟨y.stop ι H S s2 h b,?_⟩
   exact j ι H (Stp.refl _ _) h K B
theorem pi_g{iter:Expr}{mi:En->Sr->Res (List D)}(h:PI X tg iter (TIt mi)):PI X tg iter (TIg λρ S=>(mi ρ S).bind λds S1=>.ok (ds,λ_=>True) S1):=PIimp h λe H R c=>by
 obtain⟨ι,S,ρ,d,st,p⟩:=c
 refine⟨ι,S,ρ,d,st,?_⟩
 dsimp only at p
 cases z:mi ρ S with
 |no=>rw[z]at p;exact p
 |err=>rw[z]at p;exact p
 |ok ds S1 =>
  rw[z,Res.bind_ok]at p
  exact λa H' J s1 b ok=>p a H' J s1 b ok.g
theorem qcO{a:Type}(S:Sr)(r:Res a):grd (λ_=>True) S r=r:=zy (gd:=λ_=>True) trivial r
theorem qh3(r:Res Fl):endG (λ_=>True) r=r:=by
 cases r with
 |ok f S=>cases f <;> simp only[endG,Res.bind_ok,qcO]
 |err=>rfl
 |no=>rfl
theorem qlG{iter:Expr}{body:List Stmt}{mi:En->Sr->Res (List D)}{g:D->En->Sr->Res En}{mb:En->Sr->Res Fl}(a:PassesOwn (model X.prog X.w) X.A X.env X.xe)(b:X.calm=true)(hi:PI X tg iter (TIt mi))(c:PG X tg (TGt g))(f:PSs X body (TSm mb))(i:∀x,foldedSetIterable iter X.env x=pure x):
  PS X (.For tg iter body [] pos) (TSm λρ S=>(mi ρ S).bind λds S1=>forLoop (λd ρ S=>(g d ρ S).bind λρ1 S1=>mb ρ1 S1) ds ρ S1):=by
 have h:=qjY (pos:=pos) a b (pi_g hi) c f i
 have e:(λ(ρ:En) (S:Sr)=>((mi ρ S).bind λds S1=>.ok (ds,λ_=>True) S1:Res (List D×(Sr->Prop))).bind λp S1=>endG p.2 (forLoop (λd ρ S=>(grd p.2 S (g d ρ S)).bind λρ1 S1=>mb ρ1 S1) p.1 ρ S1))=λρ S=>(mi ρ S).bind λds S1=>forLoop (λd ρ S=>(g d ρ S).bind λρ1 S1=>mb ρ1 S1) ds ρ S1:=by
  funext ρ S
  cases mi ρ S with
  |ok ds S1 =>
   show endG (λ_=>True) (forLoop (λd ρ S=>(grd (λ_=>True) S (g d ρ S)).bind λρ1 S1=>mb ρ1 S1) ds ρ S1)=_
   rw[qh3]
   simp only[qcO]
  |err=>rfl
  |no=>rfl
 rw[<-e];exact h
end
end R
namespace R
open PySem PySem.Spec L2 SeqAt
open PyProof.Rows hiding St
noncomputable def compCx(X:Cx)(sc:Scope)(cl:List (Str×Addr))(C:Addr)(N':List Str)(fp:List Addr)(s:Shared)(H:Hp):Cx :=
 {X with N:=N',s₀:=s,H₀:=H,env:=compEnvC sc cl C X.env,outer:=X.stack,ex:=fp,fn:=λ_=>false,pn:=[],xe:=λ_ _=>False}
structure Clos (X:Cx) (sc:Scope) (cl:List (Str×Addr)):Prop where
 eq:closureFor sc X.env=pure cl
 sub:∀x c,cl.lookup x=some c->X.env.cells.lookup x=some c
 all:∀x,sc.names.lookup x=some .free->∃c,cl.lookup x=some c
theorem qa3{env:Env}:∀(names:List (Str×NameKind)) (b:List (Str×Addr)),(∀x∈names,x.2=.free->∃c,env.cells.lookup x.1=some c) ->
  ∃cl,(forIn names b λ(p:Str×NameKind) (cs:List (Str×Addr))=>(if p.2 == NameKind.free then(do let a <-cellOf env p.1;pure (ForInStep.yield ((p.1,a)::cs)))else pure (ForInStep.yield cs):Sem (ForInStep (List (Str×Addr)))))=pure cl /\
   (∀x c,cl.lookup x=some c->env.cells.lookup x=some c\/b.lookup x=some c)/\(∀x c,b.lookup x=some c->(∃f,cl.lookup x=some f))/\(∀x∈names,x.2=.free->∃c,cl.lookup x.1=some c)
 |[],b,_=>⟨b,rfl,λx c h=>.inr h,λx c h=>⟨c,h⟩,λx h=>by cases h⟩
 | (n,k)::r,b,h=>by
  by_cases j:k=.free
  .subst j
   obtain⟨c,m⟩:=h (n,.free) wE rfl
   obtain⟨cl,e,i1,i2,l⟩:=qa3 r ((n,c)::b) λx d=>h x (wH _ d)
   have e1:cellOf env n=pure c:=by unfold cellOf;rw[m]
   refine⟨cl,?_,λx f d=>?_,λx f d=>?_,λx d i=>?_⟩
   .rw [uB]
    simp only[beq_self_eq_true,wr,e1,pure_bind]
    exact e
   .rcases i1 x f d with z|z
    .exact .inl z
    .rw [vW]at z
     cases q:x == n with
     |true=>rw[q]at z;cases z;rw[vt.mp q];exact .inl m
     |false=>rw[q]at z;exact .inr z
   .cases q:x == n with
    |true=>exact i2 x c (by rw[vW,q])
    |false=>exact i2 x f (by rw[vW,q];exact d)
   .rcases wR.mp d with z|z
    .subst z;exact i2 n c (by simp[vW])
    .exact l x z i
  .have o:(k == NameKind.free)=false:=by simpa using j
   obtain⟨cl,e,i1,i2,l⟩:=qa3 r b λx d=>h x (wH _ d)
   refine⟨cl,?_,i1,i2,λx d i=>?_⟩
   .rw [uB]
    simp only[o,vV,uN,pure_bind]
    exact e
   .rcases wR.mp d with z|z
    .subst z;exact absurd i j
    .exact l x z i
theorem qa4{X:Cx}{sc:Scope}(h:∀x∈sc.names,x.2=.free->∃c,X.env.cells.lookup x.1=some c):∃cl,Clos X sc cl:=by
 obtain⟨cl,e,i1,i2,b⟩:=qa3 (env:=X.env) sc.names [] h
 refine⟨cl,⟨?_,λx c a=>?_,λx a=>?_⟩⟩
 .unfold closureFor
  show(forIn sc.names [] _ >>= λr=>pure r)=_
  rw[bind_pure]
  exact e
 .rcases i1 x c a with z|z
  .exact z
  .cases z
 .exact b (x,.free) (w5 a) rfl
theorem zC{env:Env}:∀{names:List (Str×NameKind)} {x:Str},(names.map λ(n,k)=>if(k == NameKind.free&&env.scope.kind == .function&&env.kindOf n == some .cell)then(n,NameKind.cell)else(n,k)).lookup x =
  (names.lookup x).map λk=>if(k == NameKind.free&&env.scope.kind == .function&&env.kindOf x == some .cell)then NameKind.cell else k
 |[],_=>rfl
 | (n,k)::r,x=>by
  show List.lookup x ((if(k == NameKind.free&&env.scope.kind == .function&&env.kindOf n == some .cell)=true then(n,NameKind.cell)else(n,k))::_)=_
  have c:=@zC env r x
  cases hx:x == n with
  |true =>
   have b:=vt.mp hx
   subst b
   by_cases a:(k == NameKind.free&&env.scope.kind == .function&&env.kindOf x == some .cell)=true
   .rw [wM a];simp only[vW,hx,wZ,wM a]
   .rw [wO a];simp only[vW,hx,wZ,wO a]
  |false =>
   by_cases a:(k == NameKind.free&&env.scope.kind == .function&&env.kindOf n == some .cell)=true
   .rw [wM a];simp only[vW,hx];exact c
   .rw [wO a];simp only[vW,hx];exact c
section
variable{X:Cx}{pos:Pos}
theorem qey{sc:Scope}{cl:List (Str×Addr)}{N':List Str}{fp:List Addr}{pins:List (Addr×Obj)}{l:St}{H:Hp}{s:Shared}(I:Inv X pins l H s)(n:sc.kind=.function)(a:∀y∈sc.names,y.2≠.cell)(i:Clos X sc cl)(j:∀b∈fp,FpOk X pins H b)(p:∀b∈fp,b<s.heap.objs.size):(compCx X sc cl s.heap.objs.size N' fp s H).Ok where
 mod:=I.ok.mod
 kind:=n
 glob:=I.ok.glob
 blt:=I.ok.blt
 above:=wK _
 inj:=λx y c q r=>I.ok.inj x y c (i.sub x c q) (i.sub y c r)
 has:=λx d=>by
  have d:(relabel sc X.env).names.lookup x=some .cell\/(relabel sc X.env).names.lookup x=some .free:=d
  have e:(relabel sc X.env).names.lookup x=_:=zC (env:=X.env) (names:=sc.names) (x:=x)
  rw[e]at d
  cases z:sc.names.lookup x with
  |none=>rw[z]at d;simp at d
  |some k =>
   cases k with
   |free=>exact i.all x z
   |cell=>exact absurd rfl (a _ (w5 z))
   |_=>rw[z]at d;simp at d
 cab:=λx c h _=>by cases h
 hd:=I.ok.hd
 frames:=I.ok.frames
 stk:=.inl rfl
 exf:=λb f=>⟨wc (p b f),λx c h=>(j b f).2.2.2.2.1 x c (i.sub x c h)⟩
 bs:=I.bs
 bsz:=vI I.ok.bsz I.sz
 noex:=λb o e f=>by
  rcases(j b f).2.2.2.1 with z|z
  .exact I.ok.noex b o e z
  .exact absurd (w6 (wJ e) (vI I.ok.bsz z)) (vH _)
 exfs:=λb f u=>by
  rcases wR.mp (I.stkSub b u)with z|z
  .exact (j b f).2.1 z
  .exact (j b f).2.2.1 z
 funs:=I.stack
 frf:=I.stkFree
 tab:=λc T z=>let ⟨ps,e⟩:=I.ok.tab c T z;let ⟨m,v⟩:=I.base.tbls _ _ e;⟨_,v⟩
structure Frs (X:Cx) (sc:Scope) (fr:List Nat) (xs ts:List Str):Prop where
 len:fr.length=xs.length
 at':∀(i j:Nat) (x:Str),fr[i]?=some j->xs[i]?=some x->X.N[j]?=some x
 kd:∀x∈xs,sc.names.lookup x=some .free/\(X.env.kindOf x=some .cell\/X.env.kindOf x=some .free)
 tl:∀x∈ts,sc.names.lookup x=some .local
 nd:(xs++ts).Nodup
noncomputable def frS(a:St)(fr:List Nat)(nt:Nat):St:=fr.map (λi=>(a[i]?).getD none)++List.replicate nt none
theorem qdp{ι:List Addr}{H:Hp}{ρ:En}{a:St}(e:EnR ι H ρ a)(fr:List Nat)(nt:Nat):EnR ι H (frE ρ fr nt) (frS a fr nt):=by
 refine⟨by simp[frE,frS],λi d h=>?_⟩
 unfold frE at h
 unfold frS
 by_cases hi:i<fr.length
 .rw [wY (by simpa using hi),wb,wC hi]at h
  rw[wY (by simpa using hi),wb,wC hi]
  simp only[wZ,Option.some.injEq]at h ⊢
  cases z:ρ[fr[i]]? with
  |none=>rw[z]at h;cases h
  |some o =>
   rw[z]at h
   cases h
   obtain⟨v,b,c⟩:=e.get _ d z
   exact⟨v,by rw[b];rfl,c⟩
 .rw [w8 (by simpa using hi),vm]at h
  split at h <;> cases h
theorem jT{sc:Scope}{cl:List (Str×Addr)}{fp:List Addr}{pins:List (Addr×Obj)}{h:St}{H:Hp}{s:Shared}{fr:List Nat}{xs ts:List Str}(I:Inv X pins h H s)(M:sc.kind=.function)(f:∀y∈sc.names,y.2≠.cell)(j:Clos X sc cl)(N:∀b∈fp,FpOk X pins H b)(O:∀b∈fp,b<s.heap.objs.size)(F:Frs X sc fr xs ts){h':Heap}{m:Str->Option Value}{tk:Nat}(hn:h'.Ns s.heap.objs.size m)(a:∀b o,s.heap.get? b=some o->h'.get? b=some o):
  Inv (compCx X sc cl s.heap.objs.size (xs++ts) fp s H) [] (frS h fr ts.length) H {s with heap:=h',toks:=tk}:=by
 refine⟨qey I M f j N O,rfl,GK.refl I.bare.bare,Un.kept a,⟨m,hn,λi x v n d Y=>?_⟩,λx c e=>?_,I.hok.fresh (wK _),λx c e=>I.freeC x c (j.sub x c e),λp P=>absurd (show p∈([]:List (Addr×Obj))from P) (by simp),I.hok.kept a,?_⟩
 .have n:(xs++ts)[i]?=some x:=n
  have d:(frS h fr ts.length)[i]?=some (some v):=d
  unfold frS at d
  by_cases hi:i<fr.length
  .rw [wY (by simpa using hi),wb,wC hi]at d
   rw[wY (by rw[<-F.len];exact hi)]at n
   simp only[wZ,Option.some.injEq]at d
   have Q:=F.at' i fr[i] x (wC hi) n
   have B:h[fr[i]]?=some (some v):=by
    cases z:h[fr[i]]? with
    |none=>rw[z]at d;cases d
    |some o=>rw[z]at d;simp at d;rw[d]
   obtain⟨E,J⟩:=F.kd x (wo n)
   obtain⟨Z,R,C⟩:=I.loc
   have w:Vis X.env.scope x:=by
    rcases J with z|z
    .exact .inr (.inl z)
    .exact .inr (.inr z)
   obtain⟨u,r,l⟩:=C fr[i] x v Q B w
   refine⟨u,r,.inr ?_⟩
   have S:∃c,X.env.cells.lookup x=some c/\s.heap.IsCell c (some u):=by
    rcases l with ⟨z,_⟩|⟨_,c,e1,A⟩
    .rcases J with q|q <;> (rw[z]at q;cases q)
    .exact ⟨c,e1,A⟩
   obtain⟨c,e1,o,A,U⟩:=S
   obtain⟨W,K⟩:=j.all x E
   have L:=j.sub x W K
   rw[e1]at L;cases L
   refine⟨?_,c,K,o,a _ _ A,U⟩
   have e:(relabel sc X.env).names.lookup x=_:=zC (env:=X.env) (names:=sc.names) (x:=x)
   show(relabel sc X.env).names.lookup x=some .cell\/(relabel sc X.env).names.lookup x=some .free
   rw[e,E]
   simp only[wZ]
   split
   .exact .inl rfl
   .exact .inr rfl
  .rw [w8 (by simpa using hi),vm]at d
   split at d <;> cases d
 .obtain ⟨v,o,e1,A⟩:=I.cell x c (j.sub x c e)
  exact⟨v,o,a _ _ e1,A⟩
 .show (frS h fr ts.length).length=(xs++ts).length
  simp[frS,F.len]
theorem jU{sc:Scope}{cl:List (Str×Addr)}{N':List Str}{fp:List Addr}{pins:List (Addr×Obj)}{l j:St}{H H':Hp}{s s':Shared}{h':Heap}(I:Inv X pins l H s)(f:∀b∈fp,FpOk X pins H b)(J:Inv (compCx X sc cl s.heap.objs.size N' fp s H) [] j H' s')(p:Heap.SameBut s.heap.objs.size s'.heap h'):Inv X pins l H' {s' with heap:=h' }:=by
 have m:H' s.heap.objs.size=none:=J.free
 have u:=J.base
 have h:∀b o,b≠s.heap.objs.size->s'.heap.get? b=some o->h'.get? b=some o:=λb o a e=>p.extBut b o a e
 have ne:∀b o,s.heap.get? b=some o->b≠s.heap.objs.size:=λb o e=>wc (wJ e)
 have un:Un (frs X.stack) fp H H' s.heap h':=⟨λb o e n a d=>h b o (ne b o e) (u.keep b o e n a d),λb o e n a d=>by
   obtain⟨sl,q⟩:=u.slot b o e n a d
   exact⟨sl,h b _ (ne b o e) q⟩,λb o e n d=>u.free b o e n d,λb o e d=>by
   obtain⟨o',q⟩:=u.there b o e d
   exact⟨o',h b o' (ne b o e) q⟩,u.tups,u.frzs,u.tbls⟩
 have hok:HOk X.prog X.w H' h':=λb o e=>(J.hok b o e).stay (λc w r q=>h c w (λz=>by
   subst z
   rcases r with i|i
   .rw [<-i,m]at e;cases e
   .rw [m]at i;cases i) q) (λ_ q=>q) λ_ _ q=>q
 exact I.call' (s':={s' with heap:=h' }) (ch:=fp) J.os un hok J.bare λb a=>⟨(f b a).2.2.2.1,(f b a).2.1,(f b a).2.2.2.2.1,(f b a).2.2.2.2.2⟩
end
end R
namespace R
open PySem PySem.Spec L2 SeqAt
open PyProof.Rows hiding St
theorem thnF{b:Type}{t:Sem b}{Q Q':b->Shared->Prop}{M:Model}{A:Around}{E:Value->Shared->Prop}{s:Shared}(h:wpAny M A t Q (λ_ _=>False) s)(c:∀a s,Q a s->Q' a s):wpAny M A t Q' E s:=vQ h c λ_ _ x=>x.elim
section
variable{X:Cx}{pos:Pos}
def PTl(X:Cx)(ifs:List Expr)(t:TT):Prop:=∀(pins:List (Addr×Obj)) (s:Shared) (a:St) (H:Hp) (Q:Bool->Hp->Prop),Inv X pins a H s->t a H Q ->
 wpAny (model X.prog X.w) X.A (forIn ifs true λc r=>(if r=true then do let ok <-isTrue c X.env (eval c X.env);pure (ForInStep.yield ok)else pure (ForInStep.yield r):Sem (ForInStep Bool))) (TP X pins a Q) X.xe s
theorem qjZ:PTl X [] (TB λ_ S=>.ok true S):=λpins s a H Q I h=>by
 obtain⟨ι,S,ρ,b,st,p⟩:=h
 exact wD ⟨H,I,p true ι H (Stp.refl _ _) st rfl⟩
theorem qbS{M:Model}{A:Around}{E:Value->Shared->Prop}{s:Shared}{env:Env}{Q:Bool->Shared->Prop}:∀(ifs:List Expr),Q false s->wpAny M A (forIn ifs false λc r=>(if r=true then do let ok <-isTrue c env (eval c env);pure (ForInStep.yield ok)else pure (ForInStep.yield r):Sem (ForInStep Bool))) Q E s
 |[],h=>wD h
 |c::r,h=>by
  rw[uB]
  refine wA ?_
  rw[wO (by decide)]
  exact wD (qbS r h)
theorem qh4{c:Expr}{ifs:List Expr}{m h:En->Sr->Res Bool}(o:PT X c (TB m))(q:PTl X ifs (TB h)):PTl X (c::ifs) (TB λρ S=>(m ρ S).bind λt S1=>if t then h ρ S1 else .ok false S1):=λpins s i H Q I r=>by
 rw[uB]
 refine wA ?_
 rw[wM rfl]
 obtain⟨ι,S,ρ,u,st,p⟩:=r
 refine wA (thn (o pins s i H _ I (Pst.tg (ρ:=ρ) p u st (K:=λb d=>if b=true then TB h i d Q else Q false d) λa S1 e d b s1 j f v l=>?_)) λb s1 ⟨d,n,q1⟩=>?_)
 .cases (show a=b from v)
  cases a with
  |true=>rw[wM rfl];exact⟨e,S1,ρ,j,f,l⟩
  |false=>rw[wO (by decide)];exact l false e d (Stp.refl _ _) f rfl
 .refine wD ?_
  cases b with
  |true=>rw[wM rfl]at q1;exact q pins s1 i d Q n q1
  |false=>rw[wO (by decide)]at q1;exact qbS ifs ⟨d,n,q1⟩
theorem qh5{tg elt iter:Expr}{ifs:List Expr}{sc:Scope}{J:It}{fp:List Addr}{it Dl:Addr}{tn:Nat->Heap->Prop}{g:D->En->Sr->Res En}{mt:En->Sr->Res Bool}{me:En->Sr->Res D}{n:Nat}{ds:List D}{gd:Sr->Prop}{R:Result->Shared->Prop}(O:X.xe=λ_ _=>False)(hc:X.calm=true)(a4:X.ex=fp)(a5:X.pn=[])(T':Turn X.prog X.w X.K tg J fp it tn)(hg:PG X tg (TGt g))(ht:PTl X ifs (TB mt))(he:PE X elt (T me))(a6:∀d ρ S,¬gd S->g d ρ S=.no){ι:List Addr}{H:Hp}{S:Sr}{ρ P:En}{Sf:Sr}{σ:St}{s:Shared}(hD:ι[n]?=some Dl)(ok:ItG ι H J ds gd)(I:Inv X [] σ H s)(h0:tn 0 s.heap)(a7:∀b∈fp,H b=none)(er:EnR ι H ρ σ)(st:Sto ι H S)(e:lcLoop n g mt me ds ρ S=.ok P Sf)(a8:gd Sf)(fin:∀(l:St) (H':Hp) (a:List Addr) (s':Shared),Inv X [] l H' s'->Stp ι H a H'->Sto a H' Sf->R (.ok .next) s'):
  codeAny (model X.prog X.w) X.A (.compLoop (.ListComp elt [⟨tg,iter,ifs,0⟩] sc pos) 0 (.ref it) (.ref Dl) X.env) R s:=by
 refine codeAny_loop rfl (λk s'=>∃(i:Nat) (l:St) (H':Hp) (a:List Addr) (S':Sr) (F:En),k=ds.length-i/\i<=ds.length/\Inv X [] l H' s'/\tn i s'.heap/\(∀b∈fp,H' b=none)/\Stp ι H a H'/\EnR a H' F l/\Sto a H' S'/\lcLoop n g mt me (ds.drop i) F S'=.ok P Sf) ?_
  ds.length ⟨0,σ,H,ι,S,ρ,by simp,wh _,I,h0,a7,Stp.refl _ _,er,st,by simpa using e⟩
 rintro k s1 ⟨i,Q,H1,B,S1,ρ1,rfl,hi,I1,t1,f1,p1,a9,U,e1⟩
 have L:∀{H':Hp},(∀b∈fp,H' b=none)->∀b∈fp,FpOk X [] H' b:=λhn b hb=>by
  have W:b∈X.ex:=by rw[a4];exact hb
  exact⟨hn b hb,(I.ok.exf b W).1,λz=>I.ok.exfs b W z,.inl W,(I.ok.exf b W).2,λp hp=>by rw[a5]at hp;exact absurd hp (by simp)⟩
 show wpAny _ X.A ((compTurn (.ListComp elt [⟨tg,iter,ifs,0⟩] sc pos) 0 (.ref it) (.ref Dl) X.env).onRaise (λx=>do noteFrame x X.env;theTreesLotGoes x)) _ _ s1
 refine wpAny_noted ?_
 rw[compTurn_list]
 refine wA (wi (wA ?_))
 by_cases a0:i<ds.length
 .have hd:ds[i]?=some ds[i]:=wC a0
  rw[um a0]at e1
  have aa:gd S1:=by
   apply Classical.byContradiction
   intro hn
   simp only[lcLoop,a6 _ _ _ hn,Res.bind_no]at e1
   cases e1
  obtain⟨go,yl⟩:=ok.go i _ B H1 S1 p1 U aa hd
  refine thnF (T'.item X rfl rfl rfl hc i [] s1 Q H1 _ I1 (L f1) t1 go) λr s2 ⟨u,hr,h2⟩=>?_
  subst hr
  refine wA (thnF h2 λ_ s3 ⟨x,H3,I3,r3,y3,t3,f3⟩=>?_)
  obtain⟨q3,ab⟩:=yl x H3 y3
  obtain⟨k3,d3⟩:=ab S1 U
  have ac:=I3.pinned (L f3) (T'.obj _ _ t3)
  simp only[lcLoop]at e1
  cases z1:g ds[i] ρ1 S1 with
  |no=>rw[z1]at e1;cases e1
  |err=>rw[z1]at e1;cases e1
  |ok f S2 =>
   rw[z1,Res.bind_ok]at e1
   refine wA (vQ (hg _ s3 Q H3 x u (λC H4=>∃h,Stp B H3 h H4/\Sto h H4 S2/\EnR h H4 f C) ac r3 ⟨B,S1,ρ1,ds[i],a9.mono q3,k3,d3,?_⟩) (λ_ s4 ⟨C,H4,I4,h,q4,a1,E⟩=>?_) λ_ _ z=>by rw[O]at z;exact z.elim)
   .rw [z1];exact λC h H4 q4 a1 E=>⟨h,q4,a1,E⟩
   cases z2:mt f S2 with
   |no=>rw[z2]at e1;cases e1
   |err=>rw[z2]at e1;cases e1
   |ok b S3 =>
    rw[z2,Res.bind_ok]at e1
    refine wA (vQ (ht _ s4 C H4 (λb' H5=>b'=b/\∃q,Stp h H4 q H5/\Sto q H5 S3) I4 ⟨h,S2,f,E,a1,?_⟩) (λb' s5 ⟨H5,I5,eb,q,q5,Y⟩=>?_) λ_ _ z=>by rw[O]at z;exact z.elim)
    .rw [z2];exact λb' q H5 q5 Y eb=>⟨(show b=b' from eb).symm,q,q5,Y⟩
    subst eb
    have M:∀{Z:St} {N:Hp} {s7:Shared} {c:List Addr} {S7:Sr},Inv X ([]++pinsAt fp s3.heap) Z N s7->Stp B H1 c N->EnR c N f Z->Sto c N S7->lcLoop n g mt me (ds.drop (i+1)) f S7=.ok P Sf ->
      ∃m,m<ds.length-i/\∃(i:Nat) (l:St) (H':Hp) (a:List Addr) (S':Sr) (F:En),m=ds.length-i/\i<=ds.length/\Inv X [] l H' s7/\tn i s7.heap/\(∀b∈fp,H' b=none)/\Stp ι H a H'/\EnR a H' F l/\Sto a H' S'/\lcLoop n g mt me (ds.drop i) F S'=.ok P Sf:=by
     intro Z N s7 c S7 I7 q7 ad a2 e7
     refine⟨ds.length-(i+1),by omega,i+1,Z,N,c,S7,f,rfl,a0,I7.unpinned,T'.keep _ _ _ t3 λb hb o eo=>(I7.pin (b,o) (wT _ (wT _ (q9 hb eo)))).1,λb hb=>?_,p1.trans q7,ad,a2,e7⟩
     obtain⟨o,eo,_⟩:=T'.obj _ _ t3 b hb
     exact(I7.pin (b,o) (wT _ (wT _ (q9 hb eo)))).2.1
    cases b' with
    |false =>
     rw[wO (by decide)]at e1
     exact wD ⟨rfl,M I5 ((q3.trans q4).trans q5) (E.mono q5) Y e1⟩
    |true =>
     rw[wM rfl]at e1
     cases z3:me f S3 with
     |no=>rw[z3]at e1;cases e1
     |err=>rw[z3]at e1;cases e1
     |ok v S4 =>
      rw[z3,Res.bind_ok]at e1
      refine wA (wA (vQ (he _ s5 C H5 (λy H6=>∃j,Stp q H5 j H6/\Sto j H6 S4/\Den j H6 v y) I5 ⟨q,S3,f,E.mono q5,Y,?_⟩) (λy' s6 ⟨y,H6,I6,ry,j,q6,a3,dv⟩=>?_) λ_ _ z=>by rw[O]at z;exact z.elim))
      .rw [z3];exact λy j H6 q6 a3 dv=>⟨j,q6,a3,dv⟩
      cases z4:appD S4 (.ref n) v with
      |no=>rw[z4]at e1;cases e1
      |err=>rw[z4]at e1;cases e1
      |ok w S5 =>
       rw[z4,Res.bind_ok]at e1
       have tot:=((q3.trans q4).trans q5).trans q6
       have ae:j[n]?=some Dl:=(p1.trans tot).get hD
       refine wA (vQ (qaD (X:=X) _ s6 C H6 (.ref Dl) [y] (.ref Dl) [y'] (λ_ N=>∃c,Stp j H6 c N/\Sto c N S5) I6 rfl (.cons ry .nil) (qiX (x:=.ref n) a3 ⟨Dl,rfl,ae⟩ dv ?_)) (λ_ s7 ⟨_,N,I7,_,c,q7,a2⟩=>?_) λ_ _ z=>by rw[O]at z;exact z.elim)
       .rw [z4];exact λb a H' s' af _=>⟨a,s',af⟩
       .exact wD (wD ⟨rfl,M I7 (tot.trans q7) ((E.mono (q5.trans q6)).mono q7) a2 e1⟩)
 .have ag:i=ds.length:=by omega
  subst ag
  rw[uT (wK _)]at e1
  cases e1
  refine thnF (T'.done X rfl rfl rfl hc _ [] s1 Q H1 _ I1 (L f1) t1 (ok.stop B H1 _ p1 U a8)) λr s2 ⟨hr,I2⟩=>?_
  subst hr
  exact wD (fin Q H1 B s2 I2 p1 U)
structure Blk (X:Cx) (sc:Scope) (N':List Str) (tg:Expr) (ifs:List Expr) (elt:Expr) (g:D->En->Sr->Res En) (mt:En->Sr->Res Bool) (me:En->Sr->Res D):Prop where
 tg:∀cl C fp s H,PG (compCx X sc cl C N' fp s H) tg (TGt g)
 ifs:∀cl C fp s H,PTl (compCx X sc cl C N' fp s H) ifs (TB mt)
 elt:∀cl C fp s H,PE (compCx X sc cl C N' fp s H) elt (T me)
structure CSc (X:Cx) (sc:Scope) (fr:List Nat) (xs ts:List Str):Prop where
 kind:sc.kind=.function
 nocell:∀y∈sc.names,y.2≠.cell
 names:∀x∈sc.names,x.2=.local->sc.names.lookup x.1=some .local
 frees:∀x∈sc.names,x.2=.free->X.env.kindOf x.1=some .cell\/X.env.kindOf x.1=some .free
 frs:Frs X sc fr xs ts
noncomputable def mLc(m:Bool)(fr:List Nat)(nt:Nat)(mi:En->Sr->Res (List D))(g:D->En->Sr->Res En)(mt:En->Sr->Res Bool)(me:En->Sr->Res D):En->Sr->Res D:=λρ S=>(mi ρ S).bind λds S1 =>
 (lcLoop S1.length g mt me ds (frE ρ fr nt) (S1++[.lst []])).bind λ_ S2=>lcEnd m S1.length S2
noncomputable def mLcG(m:Bool)(fr:List Nat)(nt:Nat)(mi:En->Sr->Res (List D×(Sr->Prop)))(g:D->En->Sr->Res En)(mt:En->Sr->Res Bool)(me:En->Sr->Res D):En->Sr->Res D:=λρ S=>(mi ρ S).bind λp S1 =>
 (lcLoop S1.length (λd ρ S=>grd p.2 S (g d ρ S)) mt me p.1 (frE ρ fr nt) (S1++[.lst []])).bind λ_ S2=>grd p.2 S2 (lcEnd m S1.length S2)
theorem qiZ{m:Bool}{fr:List Nat}{nt:Nat}{mi:En->Sr->Res (List D)}{g:D->En->Sr->Res En}{mt:En->Sr->Res Bool}{me:En->Sr->Res D}:mLcG m fr nt (λρ S=>(mi ρ S).bind λds S1=>.ok (ds,λ_=>True) S1) g mt me=mLc m fr nt mi g mt me:=by
 funext ρ S
 unfold mLcG mLc
 dsimp only
 cases mi ρ S with
 |ok ds S1 =>
  show((lcLoop S1.length (λd ρ S=>grd (λ_=>True) S (g d ρ S)) mt me ds (frE ρ fr nt) (S1++[.lst []])).bind λ_ S2=>grd (λ_=>True) S2 (lcEnd m S1.length S2))=_
  simp only[qcO]
 |err=>rfl
 |no=>rfl
theorem qj0{tg:Expr}{g:D->En->Sr->Res En}{gd:Sr->Prop}(h:PG X tg (TGt g)):PG X tg (TGt λd ρ S=>grd gd S (g d ρ S)):=PGimp h λv e H Q b=>by
 obtain⟨ι,S,ρ,d,c,st,hd,p⟩:=b
 refine⟨ι,S,ρ,d,c,st,hd,?_⟩
 dsimp only at p
 by_cases a:gd S
 .rw [zy a]at p;exact p
 .rw [yi a]at p;exact p.elim
theorem qdq{tg elt iter:Expr}{ifs:List Expr}{sc:Scope}{fr:List Nat}{xs ts:List Str}{mi:En->Sr->Res (List D×(Sr->Prop))}{g:D->En->Sr->Res En}{mt:En->Sr->Res Bool}{me:En->Sr->Res D}{mm:Bool}(hc:X.calm=true)(hi:PI X tg iter (TIg mi))(hs:∀x,foldedSetIterable iter X.env x=pure x)(E:CSc X sc fr xs ts)(B:Blk X sc (xs++ts) tg ifs elt g mt me){pins:List (Addr×Obj)}{s:Shared}{L:St}{H:Hp}{Q:VK}{use:Option (Value->Sem Unit)}{Q':Value->Shared->Prop}(I:Inv X pins L H s)(hw:T (mLcG mm fr ts.length mi g mt me) L H Q)(fin:∀(D C:Addr) (H':Hp) (s':Shared) (m:Str->Option Value),s'.heap.Ns C m->C≠X.env.locals->(∀x c,X.env.cells.lookup x=some c->c≠C)->(H' C=none/\X.s₀.heap.objs.size<=C/\∀p∈X.pn++pins,p.1≠C)->(∀h',Heap.SameBut C s'.heap h'->Inv X pins L H' {s' with heap:=h' })->Q (.ref D) H'->compPost (model X.prog X.w) X.A X.xe use Q' (.ref D) C (.ok .next) s'):
  wpAny (model X.prog X.w) X.A (comprehension (.ListComp elt [⟨tg,iter,ifs,0⟩] sc pos) sc X.env (firstIterPos [⟨tg,iter,ifs,0⟩] pos) (newList []) false (eval iter X.env) use) Q' X.xe s:=by
 obtain⟨ι,S,ρ,er,st,p⟩:=hw
 dsimp only[mLcG]at p
 cases z:mi ρ S with
 |no=>rw[z]at p;exact p.elim
 |err=>rw[z]at p;exact p.elim
 |ok dg S1 =>
 obtain⟨ds,gd⟩:=dg
 rw[z,Res.bind_ok]at p
 dsimp only at p
 cases z2:lcLoop S1.length (λd ρ S=>grd gd S (g d ρ S)) mt me ds (frE ρ fr ts.length) (S1++[.lst []])with
 |no=>rw[z2]at p;exact p.elim
 |err=>rw[z2]at p;exact p.elim
 |ok ab Sf =>
 rw[z2,Res.bind_ok]at p
 have M:gd Sf:=by
  apply Classical.byContradiction
  intro hn
  rw[yi hn]at p
  exact p
 rw[zy M]at p
 obtain⟨cl,CL⟩:=qa4 (X:=X) (sc:=sc) λx hx hf=>I.ok.has x.1 (E.frees x hx hf)
 refine wpAny_comprehension_free rfl hs CL.eq E.kind E.names ?_
 refine thn (hi pins s L H (λJ H2=>∃a,Stp ι H a H2/\Sto a H2 S1/\ItG a H2 J ds gd) I ⟨ι,S,ρ,er,st,?_⟩) λxv s1 Z=>thn Z λac s2 h2=>?_
 .rw [z];exact λh H' J q f ok=>⟨h,q,f,ok⟩
 obtain⟨it,fp,tn,J,H2,e,I2,T',t2,f2,a,q2,F,a0⟩:=h2
 subst e
 refine w9 ?_
 have N:H2 s2.heap.objs.size=none:=I2.hok.fresh (wK _)
 have O:∀b∈fp,b<s2.heap.objs.size:=λb i=>by
  obtain⟨o,n,_⟩:=T'.obj _ _ t2 b i
  exact wJ n
 have K:Inv X pins L (upd H2 s2.heap.objs.size (.lst [])) {s2 with heap:=s2.heap.push {cls:=.type "list",dict:=none,data:=.seq ([]:List Value).toArray}} :=
  I2.laid (t':=s2.toks) (λb o e=>wB _ e) (wK _) ⟨wh _,[],0,.nil,wF _ rfl⟩
 have f3:∀b∈fp,FpOk X pins (upd H2 s2.heap.objs.size (.lst [])) b:=λb i=>⟨by rw[qk (wc (O b i))];exact(f2 b i).1,(f2 b i).2⟩
 have Y:=Stp.grow (ι:=a) N (.lst [])
 have a1:Sto (a++[s2.heap.objs.size]) (upd H2 s2.heap.objs.size (.lst [])) (S1++[.lst []]):=F.grow N ⟨⟨a.length,by simp,rfl⟩,[],qv,rfl⟩
 have P:(a++[s2.heap.objs.size])[S1.length]?=some s2.heap.objs.size:=by rw[<-F.len];simp
 generalize R:({s2 with heap:=s2.heap.push {cls:=.type "list",dict:=none,data:=.seq ([]:List Value).toArray}}:Shared)=s3 at K ⊢
 have U:∀b∈fp,b<s3.heap.objs.size:=λb i=>by
  rw[<-R]
  show b<(s2.heap.push _).objs.size
  rw[v5];exact uF (O b i)
 have t3:tn 0 s3.heap:=T'.keep _ _ _ t2 λb i o n=>by rw[<-R];exact wB _ n
 refine wpAny_newFunctionEnv E.nocell (by intro y hy;simp at hy) (λh4 a2 a3=>?_) E.kind
 have r:∀b o,s3.heap.get? b=some o->h4.get? b=some o:=λb o n=>a3.extBut b o (wc (wJ n)) (wB _ n)
 have I4:=jT (tk:=s3.toks+([]:List (Str×Value)).length) K E.kind E.nocell CL f3 U E.frs a2 r
 have t4:tn 0 h4:=T'.keep _ _ _ t3 λb i o n=>r b o n
 have a4:EnR (a++[s2.heap.objs.size]) (upd H2 s2.heap.objs.size (.lst [])) (frE ρ fr ts.length) (frS L fr ts.length):=(qdp er fr ts.length).mono (q2.trans Y)
 have loop:codeAny (model X.prog X.w) X.A (.compLoop (.ListComp elt [⟨tg,iter,ifs,0⟩] sc pos) 0 (.ref it) (.ref s2.heap.objs.size) (compEnvC sc cl s3.heap.objs.size X.env)) (compPost (model X.prog X.w) X.A X.xe use Q' (.ref s2.heap.objs.size) s3.heap.objs.size) {s3 with heap:=h4,toks:=s3.toks+([]:List (Str×Value)).length}:=by
  refine qh5 (X:=compCx X sc cl s3.heap.objs.size (xs++ts) fp s3 (upd H2 s2.heap.objs.size (.lst []))) (pos:=pos) rfl hc rfl rfl T' (qj0 (gd:=gd) (B.tg _ _ _ _ _)) (B.ifs _ _ _ _ _) (B.elt _ _ _ _ _) (λd ρ S hn=>yi hn _) P (a0.mono Y) I4 t4 (λb i=>(f3 b i).1) a4 a1 z2 M λad H' h s' J' q' f=>?_
  obtain⟨m',a5,_⟩:=J'.loc
  refine fin s2.heap.objs.size s3.heap.objs.size H' s' m' a5 (ws K.lt) (λx c ec ez=>?_) ⟨J'.free,K.sz,λq hq ez=>by have:=wJ (K.pin q hq).1;rw[ez]at this;exact absurd this (vH _)⟩ (λh5 a6=>jU K f3 J' a6) ?_
  .obtain ⟨v,o,n,_⟩:=K.cell x c ec
   rw[ez]at n
   exact absurd (wJ n) (vH _)
  .have u:h[S1.length]?=some s2.heap.objs.size:=q'.get P
   unfold lcEnd at p
   cases mm with
   |true =>
    rw[wM rfl]at p
    exact p _ h H' ((q2.trans Y).trans q') f ⟨_,rfl,u⟩
   |false =>
    rw[wO (by decide)]at p
    by_cases hl:Sf.length=S1.length+1
    .rw [wM hl]at p
     split at p
     .rename_i l a7
      obtain⟨⟨n',a8,a9⟩,ys,Z,dl⟩:=f.obj _ _ _ u a7
      obtain rfl:n'=S1.length:=zo f.nd a8 u
      have en:S1.length=a.length:=F.len.symm
      have qq:Stp ι H (h.take S1.length) H':=by rw[en];exact q2.trans (Y.trans q').less
      have W:=f.less S1.length
      refine p (.ref s2.heap.objs.size) _ H' qq W ⟨_,ys,rfl,λhm=>?_,.inl Z,Dens.less l a9 dl⟩
      obtain⟨j,hj,ej⟩:=va hm
      rw[vE]at hj
      have aa:h[j]?=some s2.heap.objs.size:=by
       rw[List.getElem_take]at ej
       rw[wC (by omega),ej]
      have:=zo f.nd aa u
      omega
     .exact p.elim
    .rw [wO hl]at p;exact p.elim
 exact codeAny_compStart_list loop (T'.self _ 0 _ _ _ t4 loop)
theorem qlH{tg elt iter:Expr}{ifs:List Expr}{sc:Scope}{fr:List Nat}{xs ts:List Str}{mi:En->Sr->Res (List D×(Sr->Prop))}{g:D->En->Sr->Res En}{mt:En->Sr->Res Bool}{me:En->Sr->Res D}{b:Bool}(c:X.calm=true)(hi:PI X tg iter (TIg mi))(d:∀x,foldedSetIterable iter X.env x=pure x)(e:CSc X sc fr xs ts)(B:Blk X sc (xs++ts) tg ifs elt g mt me):
  PE X (.ListComp elt [⟨tg,iter,ifs,0⟩] sc pos) (T (mLcG b fr ts.length mi g mt me)):=λpins s i H Q I f=>by
 rw[eval_ListComp]
 refine qdq c hi d e B I f λD C H' s' m hn _ _ _ h q=>⟨m,hn,λh' a=>⟨.ref D,H',h h' a,rfl,q⟩⟩
theorem qfC{tg elt iter:Expr}{ifs:List Expr}{sc:Scope}{fr:List Nat}{xs ts:List Str}{mi:En->Sr->Res (List D×(Sr->Prop))}{g:D->En->Sr->Res En}{mt:En->Sr->Res Bool}{me:En->Sr->Res D}{O:Bool}{i:Nat}{y:Str}{h c:Pos}(U:X.calm=true)(hi:PI X tg iter (TIg mi))(W:∀x,foldedSetIterable iter X.env x=pure x)(Y:CSc X sc fr xs ts)(B:Blk X sc (xs++ts) tg ifs elt g mt me)(Z:X.N.Nodup)(hy:X.N[i]?=some y)(P:X.env.scope.names.lookup y=some .local)(n:swapsWith (.ListComp elt [⟨tg,iter,ifs,0⟩] sc pos) (some (.Name y h)) c.line X.env=pure true):
  PS X (.Assign [.Name y h] (.ListComp elt [⟨tg,iter,ifs,0⟩] sc pos) c) (TSm λρ S=>(mLcG O fr ts.length mi g mt me ρ S).bind λd S1=>.ok (.nx (ρ.set i (some d))) S1):=λpins s r H D I hw=>by
 obtain⟨ι,S,ρ,Q,st,p⟩:=hw
 rw[exec_Assign_Name_used _ _ _ _ n]
 refine wA (wi (wA ?_))
 show wpAny _ X.A (do let _ <-comprehension (.ListComp elt [⟨tg,iter,ifs,0⟩] sc pos) sc X.env _ (newList []) false (eval iter X.env) (some (assign (.Name y h) X.env))) _ _ s
 have hT:T (mLcG O fr ts.length mi g mt me) r H (λv u=>D.nx (r.set i (some v)) u):=⟨ι,S,ρ,Q,st,PsF.bind p λa S1 w u b s1 E ra p1=>p1 w u (Stp.refl _ _) E _ ((Q.mono s1).set ra)⟩
 refine wA (vQ (qdq (use:=some (assign (.Name y h) X.env)) (Q':=λ_ s'=>SP X pins D .next s') U hi W Y B I hT λR C H' s' m hn j l f hI q=>?_) (λ_ s' hq=>wD (wD hq)) λ_ _ e=>e)
 show wpAny _ X.A (assign (.Name y h) X.env (.ref R)) _ _ _
 have I0:Inv X pins r H' s':=by
  have:=hI s'.heap (Heap.SameBut.refl ..)
  exact this
 refine wpAny_assign_Name (jb I0 Z hy (.inl P) (v:=.ref R) rfl (λF J K=>?_) (.inr P))
 obtain⟨a,sb,ha⟩:=K
 have L:C≠a:=by
  rcases ha with z|z
  .rw [z];exact j
  .exact λq=>l y a z q.symm
 refine⟨m,hn.sameBut sb L,λh' M=>?_⟩
 have I3:=J.turned (h':=h') (t':=F.toks) (it:=C) (λb o hb e=>M.extBut b o hb e) f.1 j (.inr f.2.1) l f.2.2
 exact⟨_,H',I3,q⟩
theorem r_lc{tg elt iter:Expr}{ifs:List Expr}{sc:Scope}{fr:List Nat}{xs ts:List Str}{mi:En->Sr->Res (List D)}{g:D->En->Sr->Res En}{mt:En->Sr->Res Bool}{me:En->Sr->Res D}{a:Bool}(b:X.calm=true)(hi:PI X tg iter (TIt mi))(c:∀x,foldedSetIterable iter X.env x=pure x)(d:CSc X sc fr xs ts)(B:Blk X sc (xs++ts) tg ifs elt g mt me):
  PE X (.ListComp elt [⟨tg,iter,ifs,0⟩] sc pos) (T (mLc a fr ts.length mi g mt me)):=by
 rw[<-qiZ];exact qlH b (pi_g hi) c d B
theorem qh6{tg elt iter:Expr}{ifs:List Expr}{sc:Scope}{fr:List Nat}{xs ts:List Str}{mi:En->Sr->Res (List D)}{g:D->En->Sr->Res En}{mt:En->Sr->Res Bool}{me:En->Sr->Res D}{e:Bool}{i:Nat}{y:Str}{c a:Pos}(f:X.calm=true)(hi:PI X tg iter (TIt mi))(h:∀x,foldedSetIterable iter X.env x=pure x)(j:CSc X sc fr xs ts)(B:Blk X sc (xs++ts) tg ifs elt g mt me)(l:X.N.Nodup)(m:X.N[i]?=some y)(n:X.env.scope.names.lookup y=some .local)(b:swapsWith (.ListComp elt [⟨tg,iter,ifs,0⟩] sc pos) (some (.Name y c)) a.line X.env=pure true):
  PS X (.Assign [.Name y c] (.ListComp elt [⟨tg,iter,ifs,0⟩] sc pos) a) (TSm λρ S=>(mLc e fr ts.length mi g mt me ρ S).bind λd S1=>.ok (.nx (ρ.set i (some d))) S1):=by
 rw[<-qiZ];exact qfC f (pi_g hi) h j B l m n b
end
end R
namespace R
open PySem PySem.Spec L2 SeqAt
open PyProof.Rows hiding St
def Sg(M:Model)(B:Around)(a:End->Shared->Prop)(k:Code)(t:Sem Fin)(l:List Frame)(s:Shared):Prop:=∀G p,G.code=k->G.Woken B->∃x z,Runs M G p t l s x z/\a x z
section
variable{M:Model}{B:Around}{Φ:End->Shared->Prop}{k:Code}{l:List Frame}{s:Shared}
theorem qa5{c:Type}{m:Sem c}{f:c->Sem Fin}{e:Value->Sem Fin}{gd:Bool->Bool}{lv:List Value->List Value}(h:wpAny M (B.over k l) m (λa z=>Sg M B Φ k (f a) l z) (λx z=>Sg M B Φ k (e x) l z) s):Sg M B Φ k (m.wrap f e gd lv) l s:=λG p d b=>by
 subst d
 exact runs_wrap_of_wp f e gd lv m (h _ p (b.over l)) (λ_ q _ z=>z G q rfl b) λ_ q _ z=>z G q rfl b
theorem zK{i j:Type}{m:Sem i}{f:i->Sem j}{d:j->Sem Fin}{c:Value->Sem Fin}{gd:Bool->Bool}{lv:List Value->List Value}(h:wpAny M (B.over k l) m (λa z=>Sg M B Φ k ((f a).wrap d c gd lv) l z) (λx z=>Sg M B Φ k (c x) l z) s):Sg M B Φ k ((m >>= f).wrap d c gd lv) l s:=by
 have q:=qa5 (f:=λa=>(f a).wrap d c gd lv) (e:=λx=>(Sem.raise x).wrap d c gd lv) (gd:=λb=>gd (id b)) (lv:=λb=>lv (id b)) h
 rwa [Sem.bind_eq_wrap',Sem.wrap_wrap]
theorem yn{a:Code}(b:a.quiet=true)(h:Sg M B Φ a (M.den a) l s):Sg M B Φ k (.pure (.again a)) l s:=λG p c d=>by
 subst c
 have ⟨x,z,r,q⟩:=h (G.goto a) p rfl (d.goto a)
 exact⟨x,z,Runs.head (c₁:=a) (λ_ _ y=>.again b y) r,q⟩
theorem qj1(r:Result)(h:Φ (.ret r) s):Sg M B Φ k (leafOf r) [] s:=λG p a b=>⟨_,s,Runs.leaf r,h⟩
theorem qlI{a:Pos}{f:Unit->Sem Fin}(h:Sg M B Φ k (f ()) l s):Sg M B Φ k (.at a f) l s:=by
 have q:Sg M B Φ k ((standAt a).wrap f .raise id id) l s:=qa5 (wi h)
 exact q
theorem qfD{v:Value}{vs:List Value}{f:Resume->Sem Fin}(h:∀p,Φ (.susp v false vs f k p []) s):Sg M B Φ k (.yield v false vs f) [] s:=λG p a b=>by
 subst a
 exact⟨_,s,Runs.yield' [] rfl,h p⟩
end
def Go(M:Model)(B:Around)(a:End->Shared->Prop)(s:Shared):GenState->Prop
 | .fresh k=>Sg M B a k (M.den k) [] s
 | .suspended f _ k _ l _=>Sg M B a k (f (.send .none)) l s
 |_=>False
theorem qfE{prog:Program}{w:World}{A:Around}{E:Value->Shared->Prop}{s:Shared}{a:Addr}{n:Nat}{gs:GenState}{h:End->Shared->Prop}{Q:Option Value->Shared->Prop}(C:A.handled=none)(F:s.heap.NoLimit)(hd:A.depth<recursionLimit)(ha:s.heap.IsGen a n)(m:s.gens[n]?=some gs)(c:Go (model prog w) A.in1 h (s.setGen n .running) gs)(u:∀x z,h x z->match x with
   | .ret r=>r=.ok .next/\∀h',(∀b o,z.heap.get? b=some o->h'.get? b=some o)->Q none {z.setGen n .finished with heap:=h' }
   | .susp v g vs f k p l=>(End.susp v g vs f k p l).quiet=true/\Q (some v) (z.setGen n (End.susp v g vs f k p l).genState)):
  wpAny (model prog w) A (pyNext (.ref a)) Q E s:=by
 have d:∀{y:Type} {l:List Value} {f:GenResult->Sem y} {R:y->Shared->Prop} {B:Value->Shared->Prop},(∀x z,h x z->x.quiet=true/\wpAny (model prog w) A.in1 (f x.result) R B (z.setGen n x.genState))->wpAny (model prog w) A.in1 (.resume n (.send .none) l f) R B s:=by
  intro y l f R B i G p j
  rw[Sem.wp_resume]
  cases gs with
  |fresh k =>
   obtain⟨x,z,r,q⟩:=c (G.wake k p) p rfl (j.wake k p)
   exact⟨x.result,z.setGen n x.genState,by unfold Wakes;rw[m];exact⟨x,z,r,(i x z q).1,rfl,rfl⟩,(i x z q).2 G p j⟩
  |suspended L M k H I cl =>
   obtain⟨x,z,r,q⟩:=c (G.wake k p) H rfl (j.wake k p)
   exact⟨x.result,z.setGen n x.genState,by unfold Wakes;rw[m];exact⟨x,z,r,(i x z q).1,rfl,rfl⟩,(i x z q).2 G p j⟩
  |running=>exact c.elim
  |finished=>exact c.elim
 unfold pyNext
 refine wA (uQ ?_)
 refine wq (name:=Str.ofString "__next__") ha.typeIs slot_gen_next ?_
 refine wz slot_gen_next ha.typeIs entry_gen_next (?_:wpAny _ A.in1 (Builtin.Generator.genWake (.ref a) (.send .none)) _ _ s) (args_gen_next _)
 unfold Builtin.Generator.genWake
 refine wA (wv (wpAny_genNumber ha ?_))
 refine wA (wpAny_genState m ?_)
 have go:∀x z,h x z->x.quiet=true:=λx z q=>by
  cases x with
  |ret r=>rfl
  |susp v g vs f k p l=>exact(u _ _ q).1
 cases gs with
 |running=>exact c.elim
 |finished=>exact c.elim
 |_ =>
  refine wA (wpAny_roomToWake F hd (d λx z q=>⟨go x z q,?_⟩))
  cases x with
  |susp v g vs f k p l=>exact wD ⟨v,rfl,wD (u _ _ q).2⟩
  |ret r =>
   obtain⟨e,J⟩:=u _ _ q
   subst e
   show wpAny _ A.in1 (newExc (.type "StopIteration") [] >>= _) _ _ (z.setGen n .finished)
   refine wA ?_
   unfold newExc newTuple
   refine wA (w9 ?_ (by size_fits))
   refine wA (ua (t:=firstArgMember _ _) (a:=Value.none) (by first|rfl|(simp only[firstArgMember];rfl)) ?_)
   refine w9 ?_ (by size_fits)
   unfold raiseNew
   refine wA (wA (wpAny_handled ?_))
   rw[show A.in1.handled=none from C]
   refine wpAny_throw (wA (uM (T:="StopIteration") (b:=true) ⟨_,wF _ rfl,rfl⟩ isSubtype_stop ?_))
   exact wD (J _ λb o K=>wB _ (wB _ K))
end R
namespace R
open PySem PySem.Spec L2 SeqAt
open PyProof.Rows hiding St
inductive GN where
 |fin (S:Sr)|yl (i:Nat) (ρ:En) (v:D) (S:Sr)|bad
noncomputable def grdN(gu:Sr->Prop)(S:Sr)(r:GN):GN:=@ite _ (gu S) (Classical.propDecidable _) r .bad
theorem yz{gu:Sr->Prop}{S:Sr}(h:gu S)(r:GN):grdN gu S r=r:=wM h
theorem yS{gu:Sr->Prop}{S:Sr}{r:GN}(h:grdN gu S r≠.bad):gu S:=Classical.byContradiction λn=>h (wO n)
noncomputable def gnx(gu:Sr->Prop)(g:D->En->Sr->Res En)(mt:En->Sr->Res Bool)(me:En->Sr->Res D):Nat->List D->En->Sr->GN
 |_,[],_,S=>grdN gu S (.fin S)
 |i,d::r,ρ,S=>grdN gu S <| match g d ρ S with
  | .ok ρ1 S1=>match mt ρ1 S1 with
   | .ok true S2=>match me ρ1 S2 with
    | .ok v a=>.yl (i+1) ρ1 v a
    |_=>.bad
   | .ok false S2=>gnx gu g mt me (i+1) r ρ1 S2
   |_=>.bad
  |_=>.bad
section
variable{X:Cx}{pos:Pos}
structure Sus (X:Cx) (J:It) (tn:Nat->Heap->Prop) (fp:List Addr) (ds:List D) (gu:Sr->Prop) (i:Nat) (ρ:En) (S:Sr) (ι:List Addr) (H:Hp) (pins:List (Addr×Obj)) (s:Shared):Prop where
 inv:∃σ,Inv X pins σ H s/\EnR ι H ρ σ
 sto:Sto ι H S
 at':tn i s.heap
 le:i<=ds.length
 fz:∀b∈fp,H b=none
 it:ItG ι H J ds gu
 pf:∀p∈pins,p.1∉fp
def Pw(X:Cx)(J:It)(tn:Nat->Heap->Prop)(fp:List Addr)(ds:List D)(gu:Sr->Prop)(M:Model)(B:Around)(g:D->En->Sr->Res En)(mt:En->Sr->Res Bool)(me:En->Sr->Res D):Nat->GenState->Nat->En->Sr->Prop
 |0,_,_,_,_=>True
 |n+1,gs,i,ρ,S=>∀pins ι H s,Sus X J tn fp ds gu i ρ S ι H pins s->gnx gu g mt me i (ds.drop i) ρ S≠.bad->Go M B (λx z=>match x with
  | .ret r=>r=.ok .next/\∃c a H' e,gnx gu g mt me i (ds.drop i) ρ S=.fin c/\Inv X pins e H' z/\Stp ι H a H'/\Sto a H' c
  | .susp v gd vs f k p l=>(End.susp v gd vs f k p l).quiet=true/\∃h b d c a H' y,gnx gu g mt me i (ds.drop i) ρ S=.yl h b d c/\Stp ι H a H'/\Den a H' d y/\RelV y v/\Sus X J tn fp ds gu h b c a H' pins z /\
   Pw X J tn fp ds gu M B g mt me n (End.susp v gd vs f k p l).genState h b c) s gs
def Pz(X:Cx)(J:It)(tn:Nat->Heap->Prop)(fp:List Addr)(ds:List D)(gu:Sr->Prop)(M:Model)(B:Around)(g:D->En->Sr->Res En)(mt:En->Sr->Res Bool)(me:En->Sr->Res D)(n:Nat)(i:GN)(pins:List (Addr×Obj))(ι:List Addr)(H:Hp):End->Shared->Prop:=λx z=>match x with
  | .ret r=>r=.ok .next/\∃c a H' e,i=.fin c/\Inv X pins e H' z/\Stp ι H a H'/\Sto a H' c
  | .susp v gd vs f k p l=>(End.susp v gd vs f k p l).quiet=true/\∃h b d c a H' y,i=.yl h b d c/\Stp ι H a H'/\Den a H' d y/\RelV y v/\Sus X J tn fp ds gu h b c a H' pins z /\
   Pw X J tn fp ds gu M B g mt me n (End.susp v gd vs f k p l).genState h b c
theorem qfF{tg elt iter:Expr}{ifs:List Expr}{sc:Scope}{J:It}{fp:List Addr}{it:Addr}{tn:Nat->Heap->Prop}{g:D->En->Sr->Res En}{mt:En->Sr->Res Bool}{me:En->Sr->Res D}{ds:List D}{gu:Sr->Prop}{B:Around}(O:X.xe=λ_ _=>False)(hc:X.calm=true)(a0:X.ex=fp)(a1:∀p∈X.pn,p.1∉fp)(hA:X.A=B.over (.compLoop (.GeneratorExp elt [⟨tg,iter,ifs,0⟩] sc pos) 0 (.ref it) .none X.env) [])(a3:X.env.scope.isCoroutine=false)(T':Turn X.prog X.w X.K tg J fp it tn)(hg:PG X tg (TGt g))(ht:PTl X ifs (TB mt))(he:PE X elt (T me)):∀(n m i:Nat) (ρ:En) (S:Sr) (pins:List (Addr×Obj)) (q:List Addr) (H0:Hp) (ι:List Addr) (H:Hp) (s:Shared),ds.length-i=m ->
   Sus X J tn fp ds gu i ρ S ι H pins s->Stp q H0 ι H->gnx gu g mt me i (ds.drop i) ρ S≠.bad ->
   Sg (model X.prog X.w) B (Pz X J tn fp ds gu (model X.prog X.w) B g mt me n (gnx gu g mt me i (ds.drop i) ρ S) pins q H0) (.compLoop (.GeneratorExp elt [⟨tg,iter,ifs,0⟩] sc pos) 0 (.ref it) .none X.env)
    ((model X.prog X.w).den (.compLoop (.GeneratorExp elt [⟨tg,iter,ifs,0⟩] sc pos) 0 (.ref it) .none X.env)) [] s:=by
 intro n
 induction n using Nat.strongRecOn with
 |ind n a4 =>
 intro m
 induction m with
 |zero =>
  intro i ρ S pins q H0 ι H s hm U q0 a
  obtain⟨⟨σ,I,er⟩,st,t1,le,f1,ok,pf⟩:=U
  have hi:i=ds.length:=by omega
  subst hi
  have j:∀{H':Hp},(∀b∈fp,H' b=none)->∀b∈fp,FpOk X pins H' b:=λhn b a=>by
   have c:b∈X.ex:=by rw[a0];exact a
   exact⟨hn b a,(I.ok.exf b c).1,λz=>I.ok.exfs b c z,.inl c,(I.ok.exf b c).2,λp hp z=>(wu.mp hp).elim (λy=>a1 p y (z ▸ a)) λy=>pf p y (z ▸ a)⟩
  show Sg _ B _ _ ((compTurn (.GeneratorExp elt [⟨tg,iter,ifs,0⟩] sc pos) 0 (.ref it) .none X.env).onRaise (leaving X.env)) [] s
  rw[compTurn_gen,Sem.onRaise_eq_wrap]
  refine zK (wi (zK ?_))
  rw[<-hA]
  have C:gu S:=by
   rw[uT (wK _)]at a
   exact yS a
  refine thnF (T'.done X rfl rfl rfl hc _ pins s σ H _ I (j f1) t1 (ok.stop ι H S (Stp.refl _ _) st C)) λr s2 ⟨hr,I2⟩=>?_
  subst hr
  refine qj1 (.ok .next) ⟨rfl,S,ι,H,σ,?_,I2,q0,st⟩
  rw[uT (wK _)];exact yz C _
 |succ m a5 =>
  intro i ρ S pins q H0 ι H s hm U q0 a
  obtain⟨⟨σ,I,er⟩,st,t1,le,f1,ok,pf⟩:=U
  have P:i<ds.length:=by omega
  have j:∀{H':Hp},(∀b∈fp,H' b=none)->∀b∈fp,FpOk X pins H' b:=λhn b a=>by
   have c:b∈X.ex:=by rw[a0];exact a
   exact⟨hn b a,(I.ok.exf b c).1,λz=>I.ok.exfs b c z,.inl c,(I.ok.exf b c).2,λp hp z=>(wu.mp hp).elim (λy=>a1 p y (z ▸ a)) λy=>pf p y (z ▸ a)⟩
  have hd:ds[i]?=some ds[i]:=wC P
  have ed:ds.drop i=ds[i]::ds.drop (i+1):=um P
  have C:gu S:=by
   rw[ed]at a
   exact yS a
  obtain⟨go,yl⟩:=ok.go i _ ι H S (Stp.refl _ _) st C hd
  show Sg _ B _ _ ((compTurn (.GeneratorExp elt [⟨tg,iter,ifs,0⟩] sc pos) 0 (.ref it) .none X.env).onRaise (leaving X.env)) [] s
  rw[compTurn_gen,Sem.onRaise_eq_wrap]
  refine zK (wi (zK ?_))
  rw[<-hA]
  refine thnF (T'.item X rfl rfl rfl hc i pins s σ H _ I (j f1) t1 go) λr s2 ⟨u,hr,h2⟩=>?_
  subst hr
  refine zK ?_
  rw[<-hA]
  refine thnF h2 λ_ s3 ⟨x,H3,I3,r3,y3,t3,f3⟩=>?_
  obtain⟨q3,a6⟩:=yl x H3 y3
  obtain⟨k3,d3⟩:=a6 S st
  have a7:=I3.pinned (j f3) (T'.obj _ _ t3)
  rw[ed]at a ⊢
  unfold gnx at a ⊢
  rw[yz C]at a ⊢
  cases z1:g ds[i] ρ S with
  |no=>rw[z1]at a;exact absurd rfl a
  |err=>rw[z1]at a;exact absurd rfl a
  |ok d S2 =>
   rw[z1]at a
   dsimp only at a ⊢
   refine zK ?_
   rw[<-hA]
   refine vQ (hg _ s3 σ H3 x u (λE Q=>∃e,Stp ι H3 e Q/\Sto e Q S2/\EnR e Q d E) a7 r3 ⟨ι,S,ρ,ds[i],er.mono q3,k3,d3,?_⟩) (λ_ s4 ⟨E,Q,I4,e,q4,R,l⟩=>?_) λ_ _ z=>by rw[O]at z;exact z.elim
   .rw [z1];exact λE e Q q4 R l=>⟨e,q4,R,l⟩
   cases z2:mt d S2 with
   |no=>rw[z2]at a;exact absurd rfl a
   |err=>rw[z2]at a;exact absurd rfl a
   |ok b S3 =>
    rw[z2]at a
    refine zK ?_
    rw[<-hA]
    refine vQ (ht _ s4 E Q (λb' W=>b'=b/\∃f,Stp e Q f W/\Sto f W S3) I4 ⟨e,S2,d,l,R,?_⟩) (λb' s5 ⟨W,I5,eb,f,N,L⟩=>?_) λ_ _ z=>by rw[O]at z;exact z.elim
    .rw [z2];exact λb' f W N L eb=>⟨(show b=b' from eb).symm,f,N,L⟩
    subst eb
    have sus:∀{M:St} {H7:Hp} {s7:Shared} {F:List Addr} {S7:Sr},Inv X (pins++pinsAt fp s3.heap) M H7 s7->Stp ι H F H7->EnR F H7 d M->Sto F H7 S7->Sus X J tn fp ds gu (i+1) d S7 F H7 pins s7:=by
     intro M H7 s7 F S7 I7 q7 a8 a9
     refine⟨⟨M,I7.unpinned,a8⟩,a9,T'.keep _ _ _ t3 λb a o eo=>(I7.pin (b,o) (wT _ (wT _ (q9 a eo)))).1,P,λb a=>?_,ok.mono q7,pf⟩
     obtain⟨o,eo,_⟩:=T'.obj _ _ t3 b a
     exact(I7.pin (b,o) (wT _ (wT _ (q9 a eo)))).2.1
    cases b' with
    |false =>
     dsimp only at a ⊢
     exact yn rfl (a5 (i+1) d S3 pins q H0 f W s5 (by omega) (sus I5 ((q3.trans q4).trans N) (l.mono N) L) (q0.trans ((q3.trans q4).trans N)) a)
    |true =>
     dsimp only at a ⊢
     cases z3:me d S3 with
     |no=>rw[z3]at a;exact absurd rfl a
     |err=>rw[z3]at a;exact absurd rfl a
     |ok v S4 =>
      dsimp only
      have hy:∀v,yieldOut X.env v=yieldValue v:=λv=>by simp only[yieldOut,a3,vV,uN]
      simp only[hy,wr]
      rw[Sem.bind_eq_wrap',Sem.bind_eq_wrap',Sem.wrap_wrap,Sem.wrap_wrap]
      refine qa5 ?_
      rw[<-hA]
      refine vQ (he _ s5 E W (λy H6=>∃h,Stp f W h H6/\Sto h H6 S4/\Den h H6 v y) I5 ⟨f,S3,d,l.mono N,L,?_⟩) (λy' s6 ⟨y,H6,I6,ry,h,q6,Y,dv⟩=>?_) λ_ _ z=>by rw[O]at z;exact z.elim
      .rw [z3];exact λy h H6 q6 Y dv=>⟨h,q6,Y,dv⟩
      have tot:=((q3.trans q4).trans N).trans q6
      refine qlI (qfD λp=>⟨rfl,i+1,d,v,S4,h,H6,y,rfl,q0.trans tot,dv,ry,sus I6 tot (l.mono (N.trans q6)) Y,?_⟩)
      cases n with
      |zero=>trivial
      |succ n' =>
       intro Z a2 H' s' U' c
       exact yn rfl (a4 n' (xB _) _ (i+1) d S4 Z a2 H' a2 H' s' rfl U' (Stp.refl _ _) c)
end
end R
namespace R
open PySem PySem.Spec L2 SeqAt
open PyProof.Rows hiding St
section
variable{gu:Sr->Prop}{g:D->En->Sr->Res En}{mt:En->Sr->Res Bool}{me:En->Sr->Res D}
theorem jf:∀(l:List D) (i:Nat) (ρ:En) (S:Sr) {b:Nat} {a:En} {v:D} {c:Sr},gnx gu g mt me i l ρ S=.yl b a v c->i<b/\b<=i+l.length
 |[],_,_,S,_,_,_,_,h=>by
  rw[show gnx gu g mt me _ [] _ S=grdN gu S (.fin S)from rfl,yz (yS (by rw[show grdN gu S (.fin S)=_ from h];intro z;cases z))]at h
  cases h
 |d::r,i,ρ,S,b,a,v,c,h=>by
  unfold gnx at h
  rw[yz (yS (by rw[h];intro z;cases z))]at h
  split at h
  .split at h
   .split at h
    .cases h;simp
    .cases h
   .have:=jf r (i+1) _ _ h
    simp only[w4]
    lia
   .cases h
  .cases h
noncomputable def gen1{a:Type}(step:a->D->Option (a ⊕ D))(fin:a->Option D)(rest:Nat->En->a->Sr->Res D)(b:a):GN->Res D
 | .fin S=>ofO (fin b) S
 | .yl i ρ v S=>match step b v with
  |some (.inl b')=>rest i ρ b' S
  |some (.inr x)=>.ok x S
  |none=>.no
 | .bad=>.no
theorem qdr{c:Type}{step:c->D->Option (c ⊕ D)}{fin:c->Option D}:∀(l:List D) (i:Nat) (ρ:En) (b:c) (S:Sr) {d:D} {f:Sr},genLoopG gu g mt me step fin l ρ b S=.ok d f ->
  gen1 step fin (λj ρ b S=>genLoopG gu g mt me step fin (l.drop (j-i)) ρ b S) b (gnx gu g mt me i l ρ S)=.ok d f
 |[],_,_,_,S,d,f,h=>by
  have a:gu S:=Classical.byContradiction λn=>by
   unfold genLoopG at h
   rw[yi n]at h;cases h
  unfold genLoopG at h
  rw[zy a]at h
  unfold gnx
  rw[yz a]
  exact h
 |x::r,i,ρ,b,S,d,f,h=>by
  have a:gu S:=Classical.byContradiction λn=>by
   unfold genLoopG at h
   rw[yi n]at h;cases h
  unfold genLoopG at h
  rw[zy a]at h
  unfold gnx
  rw[yz a]
  cases z1:g x ρ S with
  |no=>rw[z1]at h;cases h
  |err=>rw[z1]at h;cases h
  |ok ρ1 S1 =>
   rw[z1,Res.bind_ok]at h
   dsimp only
   cases z2:mt ρ1 S1 with
   |no=>rw[z2]at h;cases h
   |err=>rw[z2]at h;cases h
   |ok t S2 =>
    rw[z2,Res.bind_ok]at h
    cases t with
    |true =>
     rw[wM rfl]at h
     dsimp only
     cases z3:me ρ1 S2 with
     |no=>rw[z3]at h;cases h
     |err=>rw[z3]at h;cases h
     |ok v m =>
      rw[z3,Res.bind_ok]at h
      have e:i+1-i=1:=by lia
      simp only[gen1,e,uc,ul]
      exact h
    |false =>
     rw[wO (by decide)]at h
     dsimp only
     have q:=qdr r (i+1) ρ1 b S2 h
     cases z4:gnx gu g mt me (i+1) r ρ1 S2 with
     |fin m=>rw[z4]at q;exact q
     |bad=>rw[z4]at q;cases q
     |yl j o v m =>
      rw[z4]at q
      have:=jf r (i+1) ρ1 S2 z4
      have e:j-i=j-(i+1)+1:=by lia
      simp only[gen1]at q ⊢
      rw[e,uc]
      exact q
theorem zD{a:Type}{step:a->D->Option (a ⊕ D)}{fin:a->Option D}{ds:List D}{gu:Sr->Prop}{i:Nat}{ρ:En}{b:a}{S:Sr}{d:D}{c:Sr}(h:genLoopG gu g mt me step fin (ds.drop i) ρ b S=.ok d c):
  gen1 step fin (λj ρ b S=>genLoopG gu g mt me step fin (ds.drop j) ρ b S) b (gnx gu g mt me i (ds.drop i) ρ S)=.ok d c:=by
 have q:=qdr _ i ρ b S h
 cases z:gnx gu g mt me i (ds.drop i) ρ S with
 |fin f=>rw[z]at q;exact q
 |bad=>rw[z]at q;cases q
 |yl j l v f =>
  rw[z]at q
  have:=jf _ i ρ S z
  simp only[gen1]at q ⊢
  rw[List.drop_drop]at q
  have e:i+(j-i)=j:=by lia
  rw[e]at q
  exact q
end
theorem qh7{s:Shared}{n:Nat}{x y:GenState}:(s.setGen n x).setGen n y=s.setGen n y:=by
 unfold Shared.setGen
 simp
theorem GK.done{a g:Array GenState}{x:GenState}(h:GK (a.push .running) (g.setIfInBounds a.size .running))(e:g[a.size]?=some x)(b:x.bare=true):GK a g:=by
 refine⟨λy c=>?_,?_,λi hi=>?_⟩
 .obtain ⟨i,hi,rfl⟩:=Array.mem_iff_getElem.mp c
  by_cases q:i=a.size
  .subst q
   rw[uL hi]at e
   cases e;exact b
  .refine h.bare _ ?_
   have:(g.setIfInBounds a.size .running)[i]'(by simpa using hi)=g[i]:=by
    rw[ue]
    rw[wO (Ne.symm q)]
   rw[<-this]
   exact Array.getElem_mem _
 .have:=h.sz
  simp at this
  lia
 .have:=h.old i (by simp;lia)
  rw[Array.getElem?_setIfInBounds_ne (by lia)]at this
  rw[this,Array.getElem?_push_lt hi]
  exact(uL hi).symm
theorem qfG{X:Cx}{pins:List (Addr×Obj)}{a:St}{H:Hp}{s:Shared}(I:Inv X pins a H s){g':Array GenState}(h:GK X.s₀.gens g'):Inv X pins a H {s with gens:=g' } :=
 ⟨I.ok,I.os,h,I.base,I.loc,I.cell,I.free,I.freeC,I.pin,I.hok,I.len⟩
section
variable{X:Cx}
structure Cs (X:Cx) (J:It) (tn:Nat->Heap->Prop) (fp:List Addr) (ds:List D) (gu:Sr->Prop) (B:Around) (g:D->En->Sr->Res En) (mt:En->Sr->Res Bool) (me:En->Sr->Res D) (n k i:Nat) (ρ:En) (S:Sr) (ι:List Addr) (H:Hp) (pins:List (Addr×Obj)) (s:Shared):Prop where
 sus:Sus X J tn fp ds gu i ρ S ι H pins (s.setGen n .running)
 st:∃gs,s.gens[n]?=some gs/\gs.bare=true/\Pw X J tn fp ds gu (model X.prog X.w) B g mt me k gs i ρ S
theorem qa6{J:It}{tn:Nat->Heap->Prop}{fp:List Addr}{ds:List D}{gu:Sr->Prop}{A:Around}{g:D->En->Sr->Res En}{mt:En->Sr->Res Bool}{me:En->Sr->Res D}{n k i:Nat}{ρ:En}{S:Sr}{ι:List Addr}{H:Hp}{pins:List (Addr×Obj)}{s:Shared}{a:Addr}{o:Obj}{F:Array GenState}{Q:Option Value->Shared->Prop}{E:Value->Shared->Prop}(W:A.handled=none)(hd:A.depth<recursionLimit)(Y:(a,o)∈X.pn)(Z:∀h:Heap,h.get? a=some o->h.IsGen a n)(h0:X.s₀.gens=F.push .running)(hn:n=F.size)(C:Cs X J tn fp ds gu A.in1 g mt me n (k+1) i ρ S ι H pins s)(hb:gnx gu g mt me i (ds.drop i) ρ S≠.bad)(fin:∀m c H' b z,gnx gu g mt me i (ds.drop i) ρ S=.fin m->Inv X pins b H' (z.setGen n .running)->GK F z.gens->Stp ι H c H'->Sto c H' m->Q none z)(yl:∀L u d m c H' y v z,gnx gu g mt me i (ds.drop i) ρ S=.yl L u d m->Stp ι H c H'->Den c H' d y->RelV y v->Cs X J tn fp ds gu A.in1 g mt me n k L u m c H' pins z->Q (some v) z):
  wpAny (model X.prog X.w) A (pyNext (.ref a)) Q E s:=by
 obtain⟨U,gs,hs,a0,pw⟩:=C
 obtain⟨⟨σ,I,er⟩,_⟩:=id U
 have hp:s.heap.get? a=some o:=(I.pin (a,o) (wp _ Y)).1
 refine qfE W I.nolimit hd (Z _ hp) hs (pw pins ι H _ U hb) λx z q=>?_
 have hsz:∀{b:St} {H':Hp},Inv X pins b H' z->z.gens[n]?=some .running/\n<z.gens.size:=λ{b H'} J=>by
  have e:=J.bare.old n (by rw[h0,hn];simp)
  rw[h0,hn]at e
  rw[hn]
  have B:(F.push GenState.running)[F.size]?=some .running:=by simp
  rw[B]at e
  exact⟨e,by
   rcases Nat.lt_or_ge F.size z.gens.size with M|M
   .exact M
   .rw [xF M]at e;cases e⟩
 have bk:∀{b:St} {H':Hp} (y:GenState),Inv X pins b H' z->Inv X pins b H' ((z.setGen n y).setGen n .running):=λ{b H'} y J=>by
  rw[qh7]
  have e:(z.gens.setIfInBounds n .running)=z.gens:=by
   obtain⟨e1,B⟩:=hsz J
   apply Array.ext
   .simp
   .intro j h1 h2
    rw[ue]
    split
    .rename_i q
     subst q
     rw[uL B]at e1
     exact(Option.some.inj e1).symm
    .rfl
  have:=qfG J (g':=z.gens.setIfInBounds n .running) (by rw[e];exact J.bare)
  exact this
 cases x with
 |ret r =>
  obtain⟨e,m,c,H',b,e1,J,s1,N⟩:=q
  refine⟨e,λh' hk=>fin m c H' b _ e1 ?_ ?_ s1 N⟩
  .have:=(bk .finished J).kept (h':=h') (t':=z.toks) hk
   exact this
  .refine GK.done (x:=.finished) (g:=(z.gens.setIfInBounds n .finished)) ?_ ?_ rfl
   .have:=(bk .finished J).bare
    rw[h0]at this
    rw[<-hn]
    exact this
   .rw [<-hn]
    obtain⟨_,B⟩:=hsz J
    simp[B]
 |susp v gd vs f k' p l =>
  obtain⟨P,L,u,d,m,c,H',y,e1,s1,dv,ry,R,O⟩:=q
  refine⟨P,yl L u d m c H' y v _ e1 s1 dv ry ⟨?_,_,?_,End.bare_of_quiet P,O⟩⟩
  .obtain ⟨⟨b,J,K⟩,a1,a2,a3,a4,a5,a6⟩:=R
   exact⟨⟨b,bk _ J,K⟩,a1,a2,a3,a4,a5,a6⟩
  .obtain ⟨⟨b,J,K⟩,_⟩:=R
   obtain⟨_,B⟩:=hsz J
   show(z.gens.setIfInBounds n _)[n]?=_
   simp[B]
end
end R
namespace R
open PySem PySem.Spec L2 SeqAt
open PyProof.Rows hiding St
section
variable{X:Cx}{pos:Pos}
theorem qcP{K:PySem.W.Frag}{h:Heap}(kin:K.In h){c T:Addr}{ps:Array Value}(e:codeTab K c T=true)(n:h.get? T=some {cls:=.none,data:=.fields ps})(tr:TriplesOk ps.toList):h.IsCode c T ps/\h.TableAt c T ps:=by
 unfold codeTab at e
 split at e
 .rename_i cls d vs sl p
  simp only[wW,vt]at e
  obtain⟨e1,i⟩:=e
  split at i
  .rename_i a b v w x y x5 x6 z j f l q r m
   simp only[wW,vt,bne_iff_ne]at i
   obtain⟨⟨s,u⟩,ne⟩:=i
   subst s
   subst u
   have o:=kin _ _ p
   exact⟨⟨_,vs,_,_,_,_,_,_,_,_,o,rfl,j,l,q,r,m,n,rfl,tr,ne⟩,⟨_,vs,o,e1,rfl,f⟩,n⟩
  .cases i
 .cases e
theorem qfH{M:Model}{A:Around}{E:Value->Shared->Prop}{pins:List (Addr×Obj)}{J:St}{H:Hp}{s:Shared}{c T:Addr}{q:Str}{sc:Scope}(I:Inv X pins J H s)(Q:X.env.code=.ref c)(R:codeTab X.K c T=true):
  wpAny M A (genexprCode X.env pos q sc) (λ_ s'=>∃H',Inv X pins J H' s'/\s'.gens=s.gens/\(∀ι,Stp ι H ι H')/\(∀ι S,Sto ι H S->Sto ι H' S)/\∀b o,s.heap.get? b=some o->H b=none->s'.heap.get? b=some o/\H' b=none) E s:=by
 obtain⟨p,h0⟩:=I.ok.tab c T R
 obtain⟨mo,B⟩:=I.base.tbls T p h0
 generalize p++mo=ps at B
 obtain⟨Y,tr⟩:=I.hok T _ B
 obtain⟨U,Z⟩:=qcP I.kIn R Y tr
 cases z:codeAmong pos ps.toList with
 |some v=>exact wpAny_genexprCode_hit Q U z ⟨H,I,rfl,λ_=>Stp.refl _ _,λ_ _ x=>x,λb o e n=>⟨e,n⟩⟩
 |none =>
  refine wpAny_genexprCodeX Q U Z z λW h' tk i _ _ C _ h _=>?_
  generalize L:ps++#[rawInt pos.line,rawInt pos.col,.ref W]=ps' at C h
  have f:∀{b:Addr} {u:HO},H b=some u->(∀x,u≠.tbl x)->b≠T:=λ{b u} e n z=>by
   subst z;rw[B]at e;cases e;exact n _ rfl
  have j:∀{b:Addr},H b=none->b≠T:=λ{b} e z=>by subst z;rw[B]at e;cases e
  have N:TriplesOk ps'.toList:=by
   obtain⟨_,_,_,_,_,_,_,_,_,_,_,_,_,_,_,_,_,e1,O,t,_⟩:=C
   exact t
  have P:HOk X.prog X.w (upd H T (.tbl ps')) h':=λb u e=>by
   by_cases q:b=T
   .subst q
    rw[qv]at e;cases e
    exact⟨h.2,N⟩
   .rw [qk q]at e
    refine(I.hok b u e).stay (λd v hd eo=>i d v ?_ eo) (λd F=>by rw[qk (f F (by intro _ z;cases z))];exact F) λd xs F=>by rw[qk (f F (by intro _ z;cases z))];exact F
    rcases hd with y|y
    .subst y;exact q
    .exact f y (by intro _ z;cases z)
  have I':Inv X pins J (upd H T (.tbl ps')) {s with heap:=h',toks:=tk}:=by
   refine I.step (g':=s.gens) (d':=s.drawn) (ch:=[]) (λ_ z=>nomatch z) (λb o _ _ _ e n=>i b o (j n) e) (λb o _ _ _ e n=>⟨o.slots,i b o (j n) e⟩) (λb o _ e n=>by rw[qk (j n)];exact n)
    (λb o _ e=>?_) (λb xs e=>by rw[qk (f e (by intro _ z;cases z))];exact e) (λb o u e=>by rw[qk (f e (by intro _ z;cases z))];exact e) (λb qs e=>?_) (λm hm=>?_) P I.bare.self
   .by_cases q:b=T
    .subst q;exact⟨_,h.2⟩
    .exact ⟨o,i b o q e⟩
   .by_cases q:b=T
    .subst q
     rw[B]at e;cases e
     exact⟨#[rawInt pos.line,rawInt pos.col,.ref W],by rw[qv,<-L]⟩
    .exact ⟨#[],by rw[qk q,e];simp⟩
   .obtain ⟨o,es,ep,ho,r⟩:=hm
    exact⟨o,es,ep,i _ o (j I.free) ho,r⟩
  have sp:∀ι,Stp ι H ι (upd H T (.tbl ps')):=λι=>⟨uX _,λ_ m=>.inl m,λa u e _ nt=>by
    rw[qk (f e (by intro x z;subst z;exact nt))];exact e,λa e=>by
    by_cases q:a=T
    .subst q;rw[qv];simp
    .rw [qk q];exact e⟩
  refine⟨_,I',rfl,sp,λι S st=>⟨st.len,st.nd,λn a so e1 O=>(st.obj n a so e1 O).mono (sp ι) ?_⟩,λb o e n=>⟨i b o (j n) e,by rw[qk (j n)];exact n⟩⟩
  have k:=st.obj n a so e1 O
  cases so with
  |lst l=>obtain⟨_,xs,e,_⟩:=k;rw[qk (f e (by intro _ z;cases z))]
  |dic l=>obtain⟨_,xs,e,_⟩:=k;rw[qk (f e (by intro _ z;cases z))]
  |dis l=>obtain⟨_,xs,e,_⟩:=k;rw[qk (f e (by intro _ z;cases z))]
theorem qh8{M:Model}{A:Around}{E:Value->Shared->Prop}{pins:List (Addr×Obj)}{a:St}{H:Hp}{s:Shared}{Q:Addr->Shared->Prop}(I:Inv X pins a H s)(h:Q builtinsNs s):wpAny M A (builtinsFor X.env.globals X.env.builtins) Q E s:=by
 obtain⟨bm,ob,e1,b,c,d,e,f⟩:=I.ok.mod.bmod
 rw[I.ok.glob]
 exact wpAny_builtinsFor (I.ok.mod.glob.keeps I.bk) e1 b (I.bk _ _ c) d e f h
noncomputable def genCx(X:Cx)(sc:Scope)(cl:List (Str×Addr))(C:Addr)(code:Value)(N':List Str)(fp:List Addr)(ge:Expr)(it:Addr)(o:Addr×Obj)(s:Shared)(H:Hp):Cx :=
 {X with A:=X.A.in4.in1.over (.compLoop ge 0 (.ref it) .none (genEnv sc cl C code builtinsNs X.env)) [],N:=N',s₀:={s with gens:=s.gens.push .running},H₀:=H,env:=genEnv sc cl C code builtinsNs X.env,outer:=X.stack,stack:=genEnv sc cl C code builtinsNs X.env::X.stack,ex:=fp,fn:=λ_=>false,pn:=[o],xe:=λ_ _=>False}
theorem qfI{sc:Scope}{cl:List (Str×Addr)}{code:Value}{N':List Str}{fp:List Addr}{tg elt iter:Expr}{ifs:List Expr}{it:Addr}{o:Addr×Obj}{pins:List (Addr×Obj)}{l:St}{H:Hp}{s:Shared}(I:Inv X pins l H s)(n:sc.kind=.function)(a:∀y∈sc.names,y.2≠.cell)(f:Clos X sc cl)(i:∀b∈fp,FpOk X pins H b)(p:∀b∈fp,b<s.heap.objs.size):(genCx X sc cl s.heap.objs.size code N' fp (.GeneratorExp elt [⟨tg,iter,ifs,0⟩] sc pos) it o s H).Ok where
 mod:=I.ok.mod
 kind:=n
 glob:=I.ok.glob
 blt:=rfl
 above:=wK _
 inj:=λx y c q r=>I.ok.inj x y c (f.sub x c q) (f.sub y c r)
 has:=λx j=>by
  have j:sc.names.lookup x=some .cell\/sc.names.lookup x=some .free:=j
  rcases j with z|z
  .exact absurd rfl (a _ (w5 z))
  .exact f.all x z
 cab:=λx c h _=>by cases h
 hd:=λh=>I.ok.hd h
 frames:=by
  unfold genCx Around.over
  dsimp only[xK,envsOf,List.filter_nil,List.filterMap_nil,pushEnvs]
  rw[I.ok.frames]
  rfl
 stk:=.inr ⟨rfl,rfl⟩
 exf:=λb d=>⟨wc (p b d),λx c h=>(i b d).2.2.2.2.1 x c (f.sub x c h)⟩
 bs:=I.bs
 bsz:=vI I.ok.bsz I.sz
 noex:=λb o e d=>by
  rcases(i b d).2.2.2.1 with z|z
  .exact I.ok.noex b o e z
  .exact absurd (w6 (wJ e) (vI I.ok.bsz z)) (vH _)
 exfs:=λb d u=>by
  rcases wR.mp (I.stkSub b u)with z|z
  .exact (i b d).2.1 z
  .exact (i b d).2.2.1 z
 funs:=I.stack
 frf:=I.stkFree
 tab:=λc T z=>let ⟨ps,e⟩:=I.ok.tab c T z;let ⟨m,v⟩:=I.base.tbls _ _ e;⟨_,v⟩
end
end R
namespace R
open PySem PySem.Spec L2 SeqAt
open PyProof.Rows hiding St
section
variable{X:Cx}{pos:Pos}
theorem qez{tg elt iter:Expr}{ifs:List Expr}{sc:Scope}{J:It}{fp:List Addr}{it:Addr}{tn:Nat->Heap->Prop}{g:D->En->Sr->Res En}{mt:En->Sr->Res Bool}{me:En->Sr->Res D}{ds:List D}{gu:Sr->Prop}{B:Around}(a:X.xe=λ_ _=>False)(f:X.calm=true)(b:X.ex=fp)(c:∀p∈X.pn,p.1∉fp)(h:X.A=B.over (.compLoop (.GeneratorExp elt [⟨tg,iter,ifs,0⟩] sc pos) 0 (.ref it) .none X.env) [])(d:X.env.scope.isCoroutine=false)(T':Turn X.prog X.w X.K tg J fp it tn)(i:PG X tg (TGt g))(j:PTl X ifs (TB mt))(l:PE X elt (T me))(ρ:En)(S:Sr):∀k,Pw X J tn fp ds gu (model X.prog X.w) B g mt me k (.fresh (.compStart (.GeneratorExp elt [⟨tg,iter,ifs,0⟩] sc pos) 0 (.ref it) .none X.env)) 0 ρ S
 |0=>trivial
 |k+1=>by
  intro pins ι H s U n
  have loop:=qfF a f b c h d T' i j l k _ 0 ρ S pins ι H ι H s rfl U (Stp.refl _ _) n
  have e:=U.at'
  show Sg _ B (Pz X J tn fp ds gu _ B g mt me k _ pins ι H) _ ((compStart (.GeneratorExp elt [⟨tg,iter,ifs,0⟩] sc pos) 0 (.ref it) .none X.env).onRaise (leaving X.env)) [] s
  unfold compStart
  rw[Sem.onRaise_eq_wrap]
  refine zK (m:=ask) (wpAny_askSetting ?_)
  split
  .exact yn rfl loop
  .refine zK (uE ?_)
   first
    |exact zK (wi (zK (T'.self _ 0 s _ _ e (yn rfl loop))))
    | (show Sg _ B _ _ ((standAt iter.pos >>= _).wrap _ _ _ _) [] s
       exact zK (wi (zK (T'.self _ 0 s _ _ e (yn rfl loop)))))
structure BlkG (X:Cx) (sc:Scope) (N':List Str) (tg iter:Expr) (ifs:List Expr) (elt:Expr) (pos:Pos) (g:D->En->Sr->Res En) (mt:En->Sr->Res Bool) (me:En->Sr->Res D):Prop where
 rt:∀cl C code fp it o s H,PG (genCx X sc cl C code N' fp (.GeneratorExp elt [⟨tg,iter,ifs,0⟩] sc pos) it o s H) tg (TGt g)
 ri:∀cl C code fp it o s H,PTl (genCx X sc cl C code N' fp (.GeneratorExp elt [⟨tg,iter,ifs,0⟩] sc pos) it o s H) ifs (TB mt)
 re:∀cl C code fp it o s H,PE (genCx X sc cl C code N' fp (.GeneratorExp elt [⟨tg,iter,ifs,0⟩] sc pos) it o s H) elt (T me)
noncomputable def GH(X:Cx)(pins:List (Addr×Obj))(j:St)(ds:List D)(gu:Sr->Prop)(g:D->En->Sr->Res En)(mt:En->Sr->Res Bool)(me:En->Sr->Res D)(a:Addr)(ρ:En)(S:Sr)(ι:List Addr)(H:Hp)(s:Shared):Prop :=
 ∃sc cl C code N' fp ge it o d f J tn,(∀h:Heap,h.get? a=some o->h.IsGen a d.gens.size)/\(∀k,Cs (genCx X sc cl C code N' fp ge it (a,o) d f) J tn fp ds gu X.A.in4.in1 g mt me d.gens.size k 0 ρ S ι H [] s)/\(∀b∈fp,b<s.heap.objs.size) /\
  (∀i h h',tn i h->(∀b∈fp,∀o,h.get? b=some o->h'.get? b=some o)->tn i h') /\
  ∀c e H' z,Inv (genCx X sc cl C code N' fp ge it (a,o) d f) c e H' (z.setGen d.gens.size .running)->GK d.gens z.gens->Inv X pins j H' z
theorem qbT{tg elt iter:Expr}{ifs:List Expr}{sc:Scope}{fr:List Nat}{xs ts:List Str}{mi:En->Sr->Res (List D×(Sr->Prop))}{g:D->En->Sr->Res En}{mt:En->Sr->Res Bool}{me:En->Sr->Res D}{c T:Addr}(hc:X.calm=true)(U:X.A.depth<recursionLimit)(hi:PI X tg iter (TIg mi))(hs:∀x,genFold iter X.env x=pure x)(C':CSc X sc fr xs ts)(hz:sc.names.lookup (".0":Str)=some NameKind.local)(a3:sc.isCoroutine=false)(W:X.env.code=.ref c)(a4:codeTab X.K c T=true)(B:BlkG X sc (xs++ts) tg iter ifs elt pos g mt me){pins:List (Addr×Obj)}{s:Shared}{O:St}{H:Hp}{ι:List Addr}{S:Sr}{ρ:En}(I:Inv X pins O H s)(er:EnR ι H ρ O)(st:Sto ι H S){ds:List D}{gu:Sr->Prop}{S1:Sr}(hm:mi ρ S=.ok (ds,gu) S1):
  wpAny (model X.prog X.w) X.A (eval (.GeneratorExp elt [⟨tg,iter,ifs,0⟩] sc pos) X.env) (λv s'=>∃a P H',v=.ref a/\Stp ι H P H'/\GH X pins O ds gu g mt me a (frE ρ fr ts.length) S1 P H' s') X.xe s:=by
 obtain⟨cl,CL⟩:=qa4 (X:=X) (sc:=sc) λx hx hf=>I.ok.has x.1 (C'.frees x hx hf)
 refine wpAny_GeneratorExp_make a3 CL.eq C'.nocell hz C'.kind U ?_ hs
 refine thn (hi pins s O H (λJ H2=>∃E,Stp ι H E H2/\Sto E H2 S1/\ItG E H2 J ds gu) I ⟨ι,S,ρ,er,st,?_⟩) λxv s1 R=>thn R λam s2 L=>?_
 .rw [hm];exact λP H' J q a9 ok=>⟨P,q,a9,ok⟩
 obtain⟨it,fp,tn,J,H2,e,I2,T',t2,f2,E,q2,aa,ab⟩:=L
 subst e
 refine⟨I2.nolimit,thn (qfH I2 W a4) λcode d ⟨H3,M,eg,Y,ac,Z⟩=>qh8 M ?_⟩
 intro m ad a5
 have a6:∀b∈fp,∃o,s2.heap.get? b=some o/\H2 b=none:=λb C=>by
  obtain⟨o,eo,_⟩:=T'.obj _ _ t2 b C
  exact⟨o,eo,(f2 b C).1⟩
 have f3:∀b∈fp,FpOk X pins H3 b:=λb C=>by
  obtain⟨o,e1,Q⟩:=a6 b C
  exact⟨(Z b o e1 Q).2,(f2 b C).2⟩
 have l3:∀b∈fp,b<d.heap.objs.size:=λb C=>by
  obtain⟨o,e1,Q⟩:=a6 b C
  exact wJ (Z b o e1 Q).1
 have hsz:m.objs.size=d.heap.objs.size+1:=by rw[a5.1,v5]
 have f:∀(u:Obj) b o,d.heap.get? b=some o->(m.push u).get? b=some o:=λu b o e=>wB _ (a5.extBut b o (wc (wJ e)) (wB _ e))
 generalize a0:({cls:=.type "generator",data:=.fields #[.int d.gens.size 0,.str "<genexpr>" (d.toks+1),.str (X.env.qual++"<genexpr>") (d.toks+1+1)]}:Obj)=ob
 have a1:H3 m.objs.size=none:=M.hok.fresh (by rw[hsz];lia)
 have ae:=qfI (code:=code) (N':=xs++ts) (tg:=tg) (elt:=elt) (iter:=iter) (ifs:=ifs) (pos:=pos) (it:=it) (o:=(m.objs.size,ob)) M C'.kind C'.nocell CL f3 l3
 have af:(m.push ob).Ns d.heap.objs.size (λy=>if y=".0" then some (.ref it)else none):=ad.push _
 have ek:∀n,(d.gens.push (GenState.fresh n)).setIfInBounds d.gens.size .running=d.gens.push .running:=λn=>by
  apply Array.ext
  .simp
  .intro j R L
   by_cases q:j=d.gens.size
   .subst q;simp
   .have:j<d.gens.size:=by simp at L;lia
    rw[ue (by simp;lia),wO (Ne.symm q),Array.getElem_push_lt this,Array.getElem_push_lt this]
 have al:∀b:Addr,(m.objs.size)≠b\/b=m.objs.size:=λb=>by
  by_cases q:b=m.objs.size
  .exact .inr q
  .exact .inl (Ne.symm q)
 have a7:(m.push ob).get? m.objs.size=some ob:=by subst a0;exact wF _ rfl
 have F:=C'.frs
 have a8:∀(gg:Array GenState) (tk:Nat),gg=d.gens.push .running->Inv (genCx X sc cl d.heap.objs.size code (xs++ts) fp (.GeneratorExp elt [⟨tg,iter,ifs,0⟩] sc pos) it (m.objs.size,ob) d H3) [] (frS O fr ts.length) H3 {d with heap:=m.push ob,toks:=tk,gens:=gg}:=by
  intro gg tk ag
  refine⟨ae,rfl,?_,Un.kept (f ob),⟨_,af,λi x v R L h3=>?_⟩,λx N e=>?_,M.hok.fresh (wK _),λx N e=>M.freeC x N (CL.sub x N e),λp hp=>?_,M.hok.kept (f ob),?_⟩
  .subst ag
   exact GK.refl (AllBare.push M.bare.bare rfl)
  .have R:(xs++ts)[i]?=some x:=R
   have L:(frS O fr ts.length)[i]?=some (some v):=L
   unfold frS at L
   by_cases hi:i<fr.length
   .rw [wY (by simpa using hi),wb,wC hi]at L
    rw[wY (by rw[<-F.len];exact hi)]at R
    simp only[wZ,Option.some.injEq]at L
    have hN:=F.at' i fr[i] x (wC hi) R
    have ah:O[fr[i]]?=some (some v):=by
     cases z:O[fr[i]]? with
     |none=>rw[z]at L;cases L
     |some o=>rw[z]at L;simp at L;rw[L]
    obtain⟨kf,ko⟩:=F.kd x (wo R)
    obtain⟨m0,an,ai⟩:=M.loc
    obtain⟨u,r,l⟩:=ai fr[i] x v hN ah (.inr ko)
    refine⟨u,r,.inr ?_⟩
    have aj:∃N,X.env.cells.lookup x=some N/\d.heap.IsCell N (some u):=by
     rcases l with ⟨z,_⟩|⟨_,N,e1,Q⟩
     .rcases ko with q|q <;> (rw[z]at q;cases q)
     .exact ⟨N,e1,Q⟩
    obtain⟨N,e1,o,Q,e3⟩:=aj
    obtain⟨c',e4⟩:=CL.all x kf
    have e5:=CL.sub x c' e4
    rw[e1]at e5;cases e5
    exact⟨.inr kf,N,e4,o,f ob _ _ Q,e3⟩
   .rw [w8 (by simpa using hi),vm]at L
    split at L <;> cases L
  .obtain ⟨v,o,e1,Q⟩:=M.cell x N (CL.sub x N e)
   exact⟨v,o,f ob _ _ e1,Q⟩
  .have a2:p=(m.objs.size,ob):=by
    have:p∈[(m.objs.size,ob)]++([]:List (Addr×Obj)):=hp
    simpa using this
   subst a2
   refine⟨a7,a1,(show m.objs.size≠d.heap.objs.size by lia),λz=>?_,λv=>?_⟩
   .have z':m.objs.size∈frs X.stack:=z
    rcases wR.mp (M.stkSub _ z')with q|q
    .have:=M.lt
     rw[<-q,hsz]at this
     exact absurd this (Nat.not_lt.mpr (Nat.le_succ _))
    .exact absurd q (M.nofs (by lia))
   .show ob.data≠_
    rw[<-a0];intro z;cases z
  .show (frS O fr ts.length).length=(xs++ts).length
   simp[frS,F.len]
 refine⟨m.objs.size,E,H3,rfl,q2.trans (Y E),sc,cl,d.heap.objs.size,code,xs++ts,fp,.GeneratorExp elt [⟨tg,iter,ifs,0⟩] sc pos,it,ob,d,H3,J,tn,λh e=>?_,λk=>⟨?_,_,Array.getElem?_push_size ..,rfl,?_⟩,λb C=>?_,T'.keep,λak ao H' z J' gk=>?_⟩
 .rw [<-a0]at e
  exact⟨_,_,_,e,rfl,rfl,rfl⟩
 .refine ⟨⟨frS O fr ts.length,?_,(qdp er fr ts.length).mono (q2.trans (Y E))⟩,ac _ _ aa,T'.keep _ _ _ t2 λb C o eo=>f ob b o (Z b o eo (f2 b C).1).1,wh _,λb C=>(f3 b C).1,ab.mono (Y E),λp hp=>absurd hp (by simp)⟩
  exact a8 _ _ (ek _)
 .exact qez (X:=genCx X sc cl d.heap.objs.size code (xs++ts) fp (.GeneratorExp elt [⟨tg,iter,ifs,0⟩] sc pos) it (m.objs.size,ob) d H3) rfl hc rfl (λp hp C=>by
   have a2:p=(m.objs.size,ob):=by
    have:p∈[(m.objs.size,ob)]:=hp
    simpa using this
   subst a2
   have:=l3 _ C
   have e:m.objs.size<d.heap.objs.size:=this
   lia) rfl a3 T' (B.rt _ _ _ _ _ _ _ _) (B.ri _ _ _ _ _ _ _ _) (B.re _ _ _ _ _ _ _ _) _ _ k
 .have:=l3 b C
  show b<(m.push ob).objs.size
  rw[v5]
  exact w6 (l3 b C) (by lia)
 .have ba:Un (frs X.stack) fp H3 H' d.heap z.heap:=J'.base
  exact M.call' (ch:=fp) J'.os ba J'.hok gk λb C=>⟨(f3 b C).2.2.2.1,(f3 b C).2.1,(f3 b C).2.2.2.2.1,(f3 b C).2.2.2.2.2⟩
end
end R
namespace R
open PySem PySem.Spec L2 SeqAt
open PyProof.Rows hiding St
section
variable{X:Cx}{pos:Pos}
theorem qbU{M:Model}{A:Around}{a:Type}{t:Sem a}{Q:a->Shared->Prop}{E:Value->Shared->Prop}{s:Shared}(h:wpAny M A.in4 t Q E s):wpAny M A.in1 t Q E s:=wpAny_of_in1 (wpAny_of_in1 (wpAny_of_in1 h))
section
variable{sc:Scope}{cl:List (Str×Addr)}{C:Addr}{code:Value}{N':List Str}{fp:List Addr}{ge:Expr}{it a:Addr}{o:Obj}{s4:Shared}{H4:Hp}{J:It}{tn:Nat->Heap->Prop}{ds:List D}{gu:Sr->Prop}{g:D->En->Sr->Res En}{mt:En->Sr->Res Bool}{me:En->Sr->Res D}
theorem qcQ{c:Type}{step:c->D->Option (c ⊕ D)}{fin:c->Option D}{i:Nat}{ρ:En}{b:c}{S e:Sr}{d:D}(h:genLoopG gu g mt me step fin (ds.drop i) ρ b S=.ok d e):gnx gu g mt me i (ds.drop i) ρ S≠.bad:=λz=>by
 have q:=zD h
 rw[z]at q;cases q
theorem qh9{R:Result->Shared->Prop}(P:X.A.handled=none)(hd:X.A.depth<recursionLimit)(Q:∀h:Heap,h.get? a=some o->h.IsGen a s4.gens.size):∀(k i:Nat) (ρ:En) (b:D) (S:Sr) (ι:List Addr) (H:Hp) (s:Shared) {d:D} {l:Sr},ds.length<k+i ->
  Cs (genCx X sc cl C code N' fp ge it (a,o) s4 H4) J tn fp ds gu X.A.in4.in1 g mt me s4.gens.size k i ρ S ι H [] s->genLoopG gu g mt me (stepG .all) (finG .all) (ds.drop i) ρ b S=.ok d l ->
  (∀j f H' z c,d=.bl c->Inv (genCx X sc cl C code N' fp ge it (a,o) s4 H4) [] j H' (z.setGen s4.gens.size .running)->GK s4.gens z.gens->Stp ι H f H'->Sto f H' l->R (.ok (.ret (.bool c))) z) ->
  codeAny (model X.prog X.w) X.A (.builtin "all.loop" ⟨[.ref a],[]⟩) R s:=by
 intro k
 induction k with
 |zero =>
  intro i ρ b S ι H s d l U r _ _
  have:=r.sus.le
  lia
 |succ k W =>
  intro i ρ b S ι H s d l U r e x
  refine wx F.entry_all_loop ?_
  rw[wg F.plain_all_loop]
  refine wA (m:=pyNext (.ref a)) (qbU (qa6 (X:=genCx X sc cl C code N' fp ge it (a,o) s4 H4) (A:=X.A.in4) P hd wE Q rfl rfl r (qcQ e) (λS2 f H' j z n p B q st=>?_) λY E v S2 f H' y u z n q Z ry O=>?_))
  .have q2:=zD e
   rw[n]at q2
   cases q2
   exact wA (uE (wD (x j f H' z true rfl p B q st)))
  .have q2:=zD e
   have hi:=jf _ _ _ _ n
   rw[n]at q2
   simp only[gen1]at q2
   have hv:∃c,v=.bl c:=by
    cases v with
    |bl c=>exact⟨c,rfl⟩
    |_=>simp only[stepG]at q2;cases q2
   obtain⟨c,rfl⟩:=hv
   cases (show y=_ from Z)
   cases (show u=Value.bool c from ry)
   refine wA (wv (vR (wA (ub ?_))))
   cases c with
   |true =>
    simp only[stepG]at q2
    rw[wM rfl]
    exact wD ⟨vA F.plain_all_loop _,W Y E _ S2 f H' z (by lia) O q2 λI K H2 z2 c ec I2 B s2 L=>x I K H2 z2 c ec I2 B (q.trans s2) L⟩
   |false =>
    simp only[stepG]at q2
    cases q2
    rw[wO (by decide)]
    obtain⟨⟨⟨M,p,a0⟩,N,_⟩,gs,eg,bg,_⟩:=O
    exact wA (uE (wD (x M f H' z false rfl p (GK.done p.bare eg bg) q N)))
end
end
end R
namespace R
open PySem PySem.Spec L2 SeqAt
open PyProof.Rows hiding St
section
variable{X:Cx}{J:It}{tn:Nat->Heap->Prop}{fp:List Addr}{ds:List D}{gu:Sr->Prop}{B:Around}{g:D->En->Sr->Res En}{mt:En->Sr->Res Bool}{me:En->Sr->Res D}{n k i:Nat}{ρ:En}{S:Sr}{ι:List Addr}{H:Hp}{s:Shared}
theorem qds(C:Cs X J tn fp ds gu B g mt me n k i ρ S ι H [] s)(tk:∀i h h',tn i h->(∀b∈fp,∀o,h.get? b=some o->h'.get? b=some o)->tn i h')(c:∀b∈fp,b<s.heap.objs.size){u:Obj}(d:(s.heap.push u).get? s.heap.objs.size=some u)(f:∀v,u.data≠.cell v){t:Nat}:
  Cs X J tn fp ds gu B g mt me n k i ρ S ι H [(s.heap.objs.size,u)] {s with heap:=s.heap.push u,toks:=t}:=by
 obtain⟨⟨⟨j,I,l⟩,st,at',le,fz,ok,pf⟩,w⟩:=C
 refine⟨⟨⟨j,?_,l⟩,st,tk _ _ _ at' λb _ o e=>wB _ e,le,fz,ok,λp a m=>?_⟩,w⟩
 .have q:=I.kept (h':=s.heap.push u) (t':=t) λb o e=>wB _ e
  refine q.pins_of λp a=>?_
  obtain rfl:=wf.mp a
  exact⟨d,I.hok.fresh (wK _),ws I.lt,I.nofs (wK _),f⟩
 .obtain rfl:=wf.mp a
  exact absurd (c _ m) (vH _)
theorem qa7{p:Addr}{u f:Obj}{h':Heap}{t:Nat}(C:Cs X J tn fp ds gu B g mt me n k i ρ S ι H [(p,u)] s)(tk:∀i h h',tn i h->(∀b∈fp,∀o,h.get? b=some o->h'.get? b=some o)->tn i h')(F:X.s₀.heap.objs.size<=p)(hn:∀q∈X.pn,q.1≠p)(l:∀b o,b≠p->s.heap.get? b=some o->h'.get? b=some o)(K:h'.get? p=some f)(L:∀v,f.data≠.cell v):Cs X J tn fp ds gu B g mt me n k i ρ S ι H [(p,f)] {s with heap:=h',toks:=t}:=by
 obtain⟨⟨⟨m,I,M⟩,st,at',le,fz,ok,pf⟩,w⟩:=C
 obtain⟨e1,r,y,N,O⟩:=I.pin (p,u) (wT _ (wf.mpr rfl))
 have np:p∉fp:=pf (p,u) (wf.mpr rfl)
 refine⟨⟨⟨m,?_,M⟩,st,tk _ _ _ at' λb j o e=>l b o (λz=>np (z ▸ j)) e,le,fz,ok,λq a j=>?_⟩,w⟩
 .have A:Inv X [] m H (s.setGen n .running):=I.unpinned (pins:=[]) (pl:=[(p,u)])
  have P:=A.turned (h':=h') (t':=t) (it:=p) l r y (.inr F) (λx c Q z=>by
   obtain⟨v,o,E,d⟩:=A.cell x c Q
   rw[z,e1]at E;cases E
   exact O v d) λq a=>hn q (by simpa using a)
  refine P.pins_of λq a=>?_
  obtain rfl:=wf.mp a
  exact⟨K,r,y,N,L⟩
 .obtain rfl:=wf.mp a
  exact np j
end
noncomputable def accO(t:Int)(a:Tok)(c:Nat):Obj:={cls:=.type "list",dict:=none,data:=.seq #[.int t a] c,slots:=#[]}
section
variable{X:Cx}{sc:Scope}{cl:List (Str×Addr)}{C:Addr}{code:Value}{N':List Str}{fp:List Addr}{ge:Expr}{it a:Addr}{o:Obj}{s4:Shared}{H4:Hp}{J:It}{tn:Nat->Heap->Prop}{ds:List D}{gu:Sr->Prop}{g:D->En->Sr->Res En}{mt:En->Sr->Res Bool}{me:En->Sr->Res D}
theorem qia{R:Result->Shared->Prop}(hh:X.A.handled=none)(hd:X.A.depth<recursionLimit)(hg:∀h:Heap,h.get? a=some o->h.IsGen a s4.gens.size)(tk:∀i h h',tn i h->(∀b∈fp,∀o,h.get? b=some o->h'.get? b=some o)->tn i h'){p:Addr}(hp:s4.heap.objs.size<=p)(a0:a≠p):∀(k i:Nat) (ρ:En) (t:Int) (S:Sr) (ι:List Addr) (H:Hp) (s:Shared) (K:Tok) (c:Nat) (P:Int) {d:D} {U:Sr},(P=0\/P=2)->ds.length<k+i ->
  Cs (genCx X sc cl C code N' fp ge it (a,o) s4 H4) J tn fp ds gu X.A.in4.in1 g mt me s4.gens.size k i ρ S ι H [(p,accO t K c)] s->genLoopG gu g mt me (stepG .sum) (finG .sum) (ds.drop i) ρ (.int t) S=.ok d U ->
  (∀j N l H' z r tz,d=.int r->Inv (genCx X sc cl C code N' fp ge it (a,o) s4 H4) j N H' (z.setGen s4.gens.size .running)->GK s4.gens z.gens->Stp ι H l H'->Sto l H' U->R (.ok (.ret (.int r tz))) z) ->
  codeAny (model X.prog X.w) X.A (.builtin "sum.loop" ⟨[.ref a,.ref p,rawInt P,rawInt 0],[]⟩) R s:=by
 intro k
 induction k with
 |zero =>
  intro i ρ t S ι H s K c P d U _ hk W _ _
  have:=W.sus.le
  lia
 |succ k ih =>
  intro i ρ t S ι H s K c P d U a1 hk W e hR
  have hS:s.heap.get? p=some (accO t K c):=by
   obtain⟨σ,I,_⟩:=W.sus.inv
   exact(I.pin (p,accO t K c) (wT _ (wf.mpr rfl))).1
  refine wx F.entry_sum_loop ?_
  rw[wg u5]
  refine wA (m:=seqItems? (.ref p)) (v4 hS rfl ?_)
  refine wA (m:=tryCatch (pyNext (.ref a)) _) (wpAny_tryCatch ?_)
  refine qbU (qa6 (X:=genCx X sc cl C code N' fp ge it (a,o) s4 H4) (A:=X.A.in4) hh hd wE hg rfl rfl W (qcQ e) (λS2 l H' N z Y Iz gk q st=>?_) λi' a2 v S2 l H' y u z Y q dv ry Cz=>?_)
  .have q2:=zD e
   rw[Y]at q2
   cases q2
   exact wD (hR _ N l H' z t K rfl Iz gk q st)
  .have q2:=zD e
   have hi:=jf _ _ _ _ Y
   rw[Y]at q2
   simp only[gen1]at q2
   have hv:∃r,v=.int r:=by
    cases v with
    |int r=>exact⟨r,rfl⟩
    |_=>simp only[stepG]at q2;cases q2
   obtain⟨r,rfl⟩:=hv
   cases (show y=_ from dv)
   obtain⟨tr,rfl⟩:=(show ∃tr,u=Value.int r tr from ry)
   simp only[stepG]at q2
   have L:z.heap.get? p=some (accO t K c):=by
    obtain⟨σ,I,_⟩:=Cz.sus.inv
    exact(I.pin (p,accO t K c) (wT _ (wf.mpr rfl))).1
   have n:=vD (h:=z.heap) (Obj.mapSeq λ_=>#[Value.int (t+r) z.toks]) L rfl
   have fin:∀(Z:Heap) (Q:Nat) (O:Tok) (c2:Nat) (B:Int),(B=0\/B=2)->(∀b o,b≠p->z.heap.get? b=some o->Z.get? b=some o)->Z.get? p=some (accO (t+r) O c2) ->
     codeAny (model X.prog X.w) X.A (.builtin "sum.loop" ⟨[.ref a,.ref p,rawInt B,rawInt 0],[]⟩) R {z with heap:=Z,toks:=Q}:=λZ Q O c2 B a3 a4 a5=>by
    refine ih i' a2 (t+r) S2 l H' _ O c2 B a3 (by lia) (qa7 Cz tk hp (λq hq=>?_) a4 a5 λv z=>by cases z) q2 λj a6 a7 H2 z2 r2 tz ec I2 gk s2 a8=>hR j a6 a7 H2 z2 r2 tz ec I2 gk (q.trans s2) a8
    have a9:q=(a,o):=by
     have:q∈[(a,o)]:=hq
     simpa using this
    subst a9
    exact a0
   have E:∀(f:Obj->Obj) (h1:Heap) (b:Addr) (x:Obj),b≠p->h1.get? b=some x->(h1.update p f).get? b=some x:=λf h1 b x M ex=>(wj _ _ (Ne.symm M)).trans ex
   rcases a1 with rfl|rfl
   .show wpAny _ _ (if(_:Bool)=true then(mkInt (t+r) >>= _)else _) _ _ z
    split
    .refine wA (wpAny_mkInt ?_)
     refine wA (m:=updateSeq p _) (vh L rfl (wD ⟨vA u5 _,?_⟩))
     exact fin _ _ z.toks _ 0 (.inl rfl) (λb x M ex=>E _ _ b x M ex) n
    .refine wA (uE (wA (uQ (wv (wpAny_add_int ?_)))))
     refine wA (m:=updateSeq p _) (vh L rfl (wA (ub ?_)))
     refine wA (m:=updateSeq p _) (vh n rfl (wD ⟨vA u5 _,?_⟩))
     exact fin _ _ z.toks _ 2 (.inr rfl) (λb x M ex=>E _ _ b x M (E _ _ b x M ex)) (vD _ n rfl)
   .refine wA (m:=(holding [Value.int r tr] (binaryOp .Add (.int t K) (.int r tr))).attempt) (uQ (wv (wpAny_add_int ?_)))
    refine wA (m:=updateSeq p _) (vh L rfl (wA (ub ?_)))
    refine wA (m:=updateSeq p _) (vh n rfl (wD ⟨vA u5 _,?_⟩))
    exact fin _ _ z.toks _ 2 (.inr rfl) (λb x M ex=>E _ _ b x M (E _ _ b x M ex)) (vD _ n rfl)
end
end R
namespace R
open PySem PySem.Spec L2 SeqAt
open PyProof.Rows hiding St
noncomputable def mGenG(w:GW)(fr:List Nat)(nt:Nat)(mi:En->Sr->Res (List D×(Sr->Prop)))(g:D->En->Sr->Res En)(mt:En->Sr->Res Bool)(me:En->Sr->Res D):En->Sr->Res D:=λρ S=>(mi ρ S).bind λp S1 =>
 genLoopG p.2 g mt me (stepG w) (finG w) p.1 (frE ρ fr nt) (startG w) S1
noncomputable def mGen(w:GW)(fr:List Nat)(nt:Nat)(mi:En->Sr->Res (List D))(g:D->En->Sr->Res En)(mt:En->Sr->Res Bool)(me:En->Sr->Res D):En->Sr->Res D:=λρ S=>(mi ρ S).bind λds S1 =>
 genLoop g mt me (stepG w) (finG w) ds (frE ρ fr nt) (startG w) S1
theorem qfJ{w:GW}{fr:List Nat}{nt:Nat}{mi:En->Sr->Res (List D)}{g:D->En->Sr->Res En}{mt:En->Sr->Res Bool}{me:En->Sr->Res D}:mGenG w fr nt (λρ S=>(mi ρ S).bind λds S1=>.ok (ds,λ_=>True) S1) g mt me=mGen w fr nt mi g mt me:=by
 funext ρ S
 unfold mGenG mGen
 dsimp only
 cases mi ρ S with
 |ok ds S1=>exact yj _ _ _ _
 |err=>rfl
 |no=>rfl
section
variable{X:Cx}{pos gp:Pos}
def GCall(X:Cx)(w:GW)(f:Value):Prop:=∀(pins:List (Addr×Obj)) (s:Shared) (b:St) (H:Hp) (ι:List Addr) (a:Addr) (ds:List D) (gu:Sr->Prop) (g:D->En->Sr->Res En) (mt:En->Sr->Res Bool) (me:En->Sr->Res D) (ρ:En) (S:Sr) (Q:VK),
 GH X pins b ds gu g mt me a ρ S ι H s->Pst Den (genLoopG gu g mt me (stepG w) (finG w) ds ρ (startG w) S) ι H Q->wpAny (model X.prog X.w) X.A (call f [.ref a]) (EP X pins b Q) X.xe s
theorem qa8{w:GW}{ds:List D}{gu:Sr->Prop}{g:D->En->Sr->Res En}{mt:En->Sr->Res Bool}{me:En->Sr->Res D}{ρ:En}{b:D}{S:Sr}{ι:List Addr}{H:Hp}{Q:VK}(h:Pst Den (genLoopG gu g mt me (stepG w) (finG w) ds ρ b S) ι H Q):
  ∃d c,genLoopG gu g mt me (stepG w) (finG w) (ds.drop 0) ρ b S=.ok d c/\∀y a H',Stp ι H a H'->Sto a H' c->Den a H' d y->Q y H':=by
 rw[ul]
 cases z:genLoopG gu g mt me (stepG w) (finG w) ds ρ b S with
 |no=>rw[z]at h;exact h.elim
 |err=>rw[z]at h;exact h.elim
 |ok d c=>rw[z]at h;exact⟨d,c,rfl,h⟩
theorem qj2(n:X.calm=true)(hd:X.A.depth<recursionLimit)(hok:X.calm=true->X.A.handled=none):GCall X .all (.builtin "all"):=by
 intro pins s w H ι a ds gu g mt me ρ S Q p h
 obtain⟨sc,cl,C,code,N',fp,ge,it,o,x,y,J,tn,l,cs,B,tk,f⟩:=p
 obtain⟨d,E,e,q⟩:=qa8 h
 have ha:s.heap.get? a=some o:=by
  obtain⟨b,I,_⟩:=(cs 0).sus.inv
  exact(I.pin (a,o) (wp _ wE)).1
 refine call_function_tree F.kind_all F.plain_all F.entry_all (F.args_all1 _) ?_
 unfold Builtin.«all»
 refine wA (m:=oneArg "all" _) (wD (wA (wpAny_pyIter_gen (l _ ha) (wD ⟨vA F.plain_all_loop _,?_⟩))))
 exact qh9 (hok n) hd l (ds.length+1) 0 ρ _ S ι H s (by lia) (cs _) e λb i H' z c r u v s1 j=>⟨.bl c,H',f _ b H' z u v,rfl,q _ i H' s1 j (by subst r;rfl)⟩
theorem qfK(u:X.calm=true)(hd:X.A.depth<recursionLimit)(hok:X.calm=true->X.A.handled=none):GCall X .sum (.builtin "sum"):=by
 intro pins s N H ι a ds gu g mt me ρ S Q w h
 obtain⟨sc,cl,C,code,N',fp,ge,it,o,x,O,J,tn,n,cs,y,tk,f⟩:=w
 obtain⟨d,P,e,q⟩:=qa8 h
 have B:=(cs 0).sus.inv
 obtain⟨c,I,_⟩:=B
 have ha:s.heap.get? a=some o:=(I.pin (a,o) (wp _ wE)).1
 refine call_function_tree F.kind_sum F.plain_sum F.entry_sum (F.args_sum1 _) ?_
 unfold Builtin.«sum»
 simp only[w4,vN]
 rw[wO (by decide)]
 refine wA (ua (show Builtin.Builtins.bindParams "sum" ["start"] 0 { }=pure [none]from rfl) (wA (wpAny_pyIter_gen (n _ ha) ?_)))
 refine wA (wpAny_mkInt (wA (wD ?_)))
 simp only[uB,List.forIn_nil]
 refine wA (wA (wA (uM (T:="int") (b:=false) (u9 _ _ _) PySem.sub_int_str ?_)))
 rw[wO wU]
 refine wD (wA (wA (uM (T:="int") (b:=false) (u9 _ _ _) PySem.sub_int_bytes ?_)))
 rw[wO wU]
 refine wD (wA (wA (uM (T:="int") (b:=false) (u9 _ _ _) PySem.sub_int_bytearray ?_)))
 rw[wO wU]
 refine wD (wD (wA (w9 (wD ⟨vA u5 _,?_⟩))))
 have lt:x.heap.objs.size<=s.heap.objs.size:=I.sz
 have i:a≠s.heap.objs.size:=wc (wJ ha)
 refine qia (hok u) hd n tk (p:=s.heap.objs.size) lt i (ds.length+1) 0 ρ 0 S ι H _ s.toks 0 0 (.inl rfl) (by lia) (qds (cs _) tk y (wF _ rfl) λv z=>by cases z) e λj c l H' z r E K L M s1 m=>⟨.int r,H',f _ c H' z L M,⟨E,rfl⟩,q _ l H' s1 m (by subst K;rfl)⟩
theorem qfL{w:GW}{id:String}{f:Str}{p:Pos}{tg elt iter:Expr}{ifs:List Expr}{sc:Scope}{fr:List Nat}{xs ts:List Str}{mi:En->Sr->Res (List D×(Sr->Prop))}{g:D->En->Sr->Res En}{mt:En->Sr->Res Bool}{me:En->Sr->Res D}{c T':Addr}(o:X.calm=true)(b:X.A.depth<recursionLimit)(r:GCall X w (.builtin id))(j:Gl X f)(hm:X.mg f=none)(u:bootBuiltins f=some (.builtin id))(hn:f≠"__name__")(l:(f == ("__debug__":Str))=false)(hi:PI X tg iter (TIg mi))(y:∀x,genFold iter X.env x=pure x)(C:CSc X sc fr xs ts)(E:sc.names.lookup (".0":Str)=some NameKind.local)(m:sc.isCoroutine=false)(d:X.env.code=.ref c)(i:codeTab X.K c T'=true)(B:BlkG X sc (xs++ts) tg iter ifs elt gp g mt me):
  PE X (.Call (.Name f p) [.GeneratorExp elt [⟨tg,iter,ifs,0⟩] sc gp] [] pos) (T (mGenG w fr ts.length mi g mt me)):=by
 intro pins s F H Q I J
 refine uh (z9 I j hm u ?_ hn l)
 obtain⟨ι,S,ρ,L,st,h⟩:=J
 dsimp only[mGenG]at h
 cases z:mi ρ S with
 |no=>rw[z]at h;exact h.elim
 |err=>rw[z]at h;exact h.elim
 |ok M S1 =>
  obtain⟨ds,gu⟩:=M
  rw[z,Res.bind_ok]at h
  refine PyProof.Rows.callWith_builtin1 (e:=.GeneratorExp elt [⟨tg,iter,ifs,0⟩] sc gp) (rest:=[]) ?_ rfl rfl
  refine vU (thn (qbT o b hi y C E m d i B I L st z) λv s' ⟨a,n,H',ev,q,N⟩=>?_)
  subst ev
  exact uI (r pins s' F H' n a ds gu g mt me _ S1 Q N (Pst.from h q))
theorem qlJ{w:GW}{id:String}{f:Str}{p:Pos}{tg elt iter:Expr}{ifs:List Expr}{sc:Scope}{fr:List Nat}{xs ts:List Str}{mi:En->Sr->Res (List D)}{g:D->En->Sr->Res En}{mt:En->Sr->Res Bool}{me:En->Sr->Res D}{c T':Addr}(j:X.calm=true)(a:X.A.depth<recursionLimit)(l:GCall X w (.builtin id))(e:Gl X f)(hm:X.mg f=none)(m:bootBuiltins f=some (.builtin id))(hn:f≠"__name__")(h:(f == ("__debug__":Str))=false)(hi:PI X tg iter (TIt mi))(n:∀x,genFold iter X.env x=pure x)(o:CSc X sc fr xs ts)(q:sc.names.lookup (".0":Str)=some NameKind.local)(i:sc.isCoroutine=false)(b:X.env.code=.ref c)(d:codeTab X.K c T'=true)(B:BlkG X sc (xs++ts) tg iter ifs elt gp g mt me):
  PE X (.Call (.Name f p) [.GeneratorExp elt [⟨tg,iter,ifs,0⟩] sc gp] [] pos) (T (mGen w fr ts.length mi g mt me)):=by
 rw[<-qfJ];exact qfL j a l e hm m hn h (pi_g hi) n o q i b d B
end
end R
namespace R
open PySem PySem.Spec L2 SeqAt
open PyProof.Rows hiding St
theorem qbV{a b c:Int}(d:0<c):Builtin.Range.rangeSize a b c=(((b-a+c-1) / c).toNat:Int):=by
 unfold Builtin.Range.rangeSize
 rw[wM d]
 by_cases h:a<b
 .rw [wM h]
  have e:b-a+c-1=(b-a-1)+c:=by omega
  have q:(b-a-1+c) / c=(b-a-1) / c+1:=Int.add_ediv_of_dvd_right (Int.dvd_refl c) |>.trans (by rw[Int.ediv_self (by omega)])
  rw[e,q]
  have:=Int.ediv_nonneg (a:=b-a-1) (b:=c) (by omega) (by omega)
  omega
 .rw [wO h]
  have:(b-a+c-1) / c<=0:=by
   have i:b-a+c-1<=c-1:=by omega
   have f:=Int.ediv_le_ediv d i
   have j:(c-1) / c=0:=Int.ediv_eq_zero_of_lt (by omega) (by omega)
   rw[j]at f
   exact f
  omega
theorem qeA{a b c:Int}(f:-(2^62)<=a)(i:a<2^62)(j:-(2^62)<=b)(p:b<2^62)(d:0<c)(r:c<2^62):Builtin.Range.small a b c=true:=by
 have l:=qbV (a:=a) (b:=b) d
 have m:(b-a+c-1) / c<=2^63-1:=by
  by_cases h:b-a+c-1<0
  .have:=Int.ediv_neg_of_neg_of_pos h d
   omega
  .have n:(b-a+c-1) / c<=b-a+c-1-(c-1)\/b-a<=0:=by
    by_cases o:b-a<=0
    .exact .inr o
    .left
     have e:b-a+c-1=(b-a-1)+c:=by omega
     have q:(b-a-1+c) / c=(b-a-1) / c+1:=Int.add_ediv_of_dvd_right (Int.dvd_refl c) |>.trans (by rw[Int.ediv_self (by omega)])
     rw[e,q]
     have:=Int.ediv_le_self c (a:=b-a-1) (by omega)
     omega
   rcases n with z|z
   .omega
   .have f:b-a+c-1<=c-1:=by omega
    have i:=Int.ediv_le_ediv d f
    have j:(c-1) / c=0:=Int.ediv_eq_zero_of_lt (by omega) (by omega)
    rw[j]at i
    omega
 unfold Builtin.Range.small
 rw[l]
 simp only[Builtin.Range.rangeFitsLong,wW,Bool.or_eq_true,wk,vt]
 rw[wM d]
 simp only[wW,wk]
 omega
theorem noPy{x c:Int}(a:0<c)(b:c<2^63):Builtin.divisionGoesByPylong x c=false:=by
 refine PyProof.noPylong_of_log2 ?_
 have h:c.natAbs.log2<63:=(Nat.log2_lt (by omega)).mpr (by omega)
 omega
theorem qbW:∀{xs:List V} {us:List Value},xs.length=us.length->(∀(i:Nat) (x:V) (u:Value),xs[i]?=some x->us[i]?=some u->RelV x u)->Vals xs us
 |[],[],_,_=>.nil
 |[],_::_,h,_=>by cases h
 |_::_,[],h,_=>by cases h
 |x::xs,u::us,h,k=>.cons (k 0 x u rfl rfl) (qbW (by simpa using h) λi y w e1 a=>k (i+1) y w (by simpa using e1) (by simpa using a))
section
variable{X:Cx}{pos:Pos}{tg:Expr}
noncomputable def RngAt(X:Cx)(pins:List (Addr×Obj))(d:St)(ds:List D)(H:Hp)(v:Value)(s:Shared):Prop :=
 ∃a b c t u w p,v=.ref p/\IsRange s.heap p a b c t u w/\Inv X pins d H s/\Builtin.Range.small a b c=true/\Builtin.Range.rangeSize a b c=ds.length/\ds=(List.range ds.length).map λ(k:Nat)=>D.int (a+k*c)
theorem qfM{pins:List (Addr×Obj)}{f:St}{H:Hp}{s:Shared}{ι:List Addr}{l ds:List D}{vs:List V}{us:List Value}{E:Value->Shared->Prop}(I:Inv X pins f H s)(r:Vals vs us)(hd:Dens ι H l vs)(e:rngD l=some ds):
  wpAny (model X.prog X.w) X.A (call (.type "range") us) (RngAt X pins f ds H) E s:=by
 have fin:∀{a b c:Int} {t u w:Tok} {tk:Nat},-(2^62)<=a->a<2^62->-(2^62)<=b->b<2^62->0<c->c<2^62->ds=rngL a b c ->
   RngAt X pins f ds H (.ref s.heap.objs.size) {s with heap:=s.heap.push {cls:=.type "range",data:=.fields #[.int a t,.int b u,.int c w]},toks:=tk}:=by
  intro a b c t u w tk v B C F m J n
  have p:ds.length=((b-a+c-1) / c).toNat:=by rw[n];unfold rngL;simp
  refine⟨a,b,c,t,u,w,_,rfl,IsRange.new ..,I.kept λb o e=>wB _ e,qeA v B C F m J,?_,?_⟩
  .rw [qbV m,p]
  .rw [p,n]
   unfold rngL
   exact we λk _=>by rw[Int.mul_comm]
 match l,e,hd with
 |[.int b],e,hd =>
  obtain⟨x,rfl,d⟩:=dens1 hd
  cases (show x=_ from d)
  obtain⟨u,rfl,q,rfl⟩:=vals1 r
  simp only[rngD]at e
  split at e
  .rename_i h
   cases e
   exact call_range_1 (fin (by omega) (by omega) h.1 h.2 (by omega) (by omega) rfl)
  .cases e
 |[.int a,.int b],e,hd =>
  obtain⟨x,y,rfl,d,i⟩:=dens2 hd
  cases (show x=_ from d)
  cases (show y=_ from i)
  obtain⟨u,w,rfl,⟨q,rfl⟩,K,rfl⟩:=vals2 r
  simp only[rngD]at e
  split at e
  .rename_i h
   cases e
   exact call_range_2 (fin h.1 h.2.1 h.2.2.1 h.2.2.2 (by omega) (by omega) rfl)
  .cases e
 |[.int a,.int b,.int c],e,hd =>
  obtain⟨x,O,rfl,d,j⟩:=hd
  obtain⟨y,z,rfl,i,L⟩:=dens2 j
  cases (show x=_ from d)
  cases (show y=_ from i)
  cases (show z=_ from L)
  cases r with
  |cons M N =>
   obtain⟨u,w,rfl,⟨q,rfl⟩,K,rfl⟩:=vals2 N
   obtain⟨P,rfl⟩:=M
   simp only[rngD]at e
   split at e
   .rename_i h
    cases e
    exact call_range_3 (by omega) (fin h.1 h.2.1 h.2.2.1 h.2.2.2.1 h.2.2.2.2.1 h.2.2.2.2.2 rfl) (.inl (noPy (by omega) (by omega)))
   .cases e
theorem qfN{a:Expr}{es:List Expr}{p:Pos}{j:En->Sr->Res (List D)}(m:Gl X "range")(hm:X.mg "range"=none)(ha:PA X (a::es) (TL j))(n:starEach (a::es) X.env=(false,eval a X.env)::starEach es X.env)(i:(backTo pos (starEach es X.env)).any (·.1)=false){pins:List (Addr×Obj)}{h:St}{H:Hp}{s:Shared}{ι:List Addr}{S S1:Sr}{ρ:En}{l ds:List D}(I:Inv X pins h H s)(o:EnR ι H ρ h)(st:Sto ι H S)(z:j ρ S=.ok l S1)(e:rngD l=some ds):
  wpAny (model X.prog X.w) X.A (eval (.Call (.Name "range" p) (a::es) [] pos) X.env) (λv s'=>∃f H',Stp ι H f H'/\Sto f H' S1/\RngAt X pins h ds H' v s') X.xe s:=by
 refine Call_ (z9 I m hm boot_range (v9 (thn (ha pos pins s h H (λvs d=>∃b,Stp ι H b d/\Sto b d S1/\Dens b d l vs) I ⟨ι,S,ρ,o,st,?_⟩) λus s1 ⟨vs,d,q,r,b,q1,c,d1⟩=>?_) n i))
 .rw [z];exact λvs b d q1 c d1=>⟨b,q1,c,d1⟩
 .exact thn (qfM q r d1 e) λv s2 q2=>⟨b,d,q1,c,q2⟩
noncomputable def ItS(lo c:Int)(n:Nat):It:=⟨λi _=>i<n,λi H x H'=>H'=H/\x=.int (lo+i*c),λi _=>n<=i⟩
theorem qeB{P:Program}{w:World}{K:PySem.W.Frag}(it:Addr)(lo c:Int)(n:Nat):Turn P w K tg (ItS lo c n) [it] it (λi h=>IsRangeIter h it (lo+(i:Nat)*c) ((n:Int)-(i:Nat)) c) where
 mem:=by simp
 obj:=λi h st b a=>by
  obtain rfl:=wf.mp a
  exact⟨_,st,λv z=>by cases (show Data.fields _=Data.cell v from z)⟩
 keep:=λi h h' st k=>k it (by simp) _ st
 item:=by
  intro X j l m p i pins s B H E I f st q
  subst j l m
  obtain⟨r,u,C,x,y,A⟩:=f it (by simp)
  refine(Walks.range (prog:=X.prog) (w:=X.w) (I.ok.hd p) it lo c n).item i s _ _ q st λv h' tk F d J=>?_
  obtain⟨t,rfl⟩:=F
  have L:Inv X pins B H {s with heap:=h',toks:=tk}:=I.turned (λb o a e=>J b o (by simpa using a) e) r u x y A
  exact⟨_,rfl,qeY (s:={s with heap:=h',toks:=tk}) (n:="range_iterator") d rfl rfl (by decide) ⟨.int (lo+i*c),H,L,⟨t,rfl⟩,⟨rfl,rfl⟩,d,λb a=>(f b a).1⟩⟩
 done:=by
  intro X j l m p i pins s B H E I f st q
  subst j l m
  obtain⟨r,u,C,x,y,A⟩:=f it (by simp)
  exact wpAny_pyNext_range_end (I.ok.hd p) st (by have:n<=i:=q;omega) λh' M=>⟨rfl,I.turned (t':=s.toks) (λb o a e=>M b o a e) r u x y A⟩
 self:=λ_ _ _ _ _ st h=>wpAny_pyIter_rangeiter st h
theorem qj3{ι:List Addr}{H:Hp}{lo c:Int}{n:Nat}:ItOk ι H (ItS lo c n) ((List.range n).map λ(k:Nat)=>D.int (lo+k*c)) where
 go:=λi d a H2 s e=>by
  rw[wb]at e
  cases z:(List.range n)[i]? with
  |none=>rw[z]at e;cases e
  |some k =>
   rw[z]at e;cases e
   obtain⟨b,f⟩:=wP.mp z
   simp only[List.length_range]at b
   simp only[List.getElem_range]at f
   subst f
   refine⟨b,λy H3 h=>?_⟩
   obtain⟨rfl,rfl⟩:=h
   exact⟨Stp.refl _ _,λ_ z=>⟨z,rfl⟩⟩
 stop:=λa H2 s=>by
  show n<=_
  simp
theorem i_rng{a:Expr}{es:List Expr}{p:Pos}{f:En->Sr->Res (List D)}(r:Gl X "range")(hm:X.mg "range"=none)(ha:PA X (a::es) (TL f))(A:starEach (a::es) X.env=(false,eval a X.env)::starEach es X.env)(h:(backTo pos (starEach es X.env)).any (·.1)=false):
  PI X tg (.Call (.Name "range" p) (a::es) [] pos) (TIt λρ S=>(f ρ S).bind λl S1=>ofO (rngD l) S1):=by
 intro pins s N H R I B
 obtain⟨ι,S,ρ,C,st,q⟩:=B
 dsimp only at q
 cases z:f ρ S with
 |no=>rw[z]at q;exact q.elim
 |err=>rw[z]at q;exact q.elim
 |ok l S1 =>
  rw[z,Res.bind_ok]at q
  cases z2:rngD l with
  |none=>rw[z2]at q;exact q.elim
  |some ds =>
   rw[z2]at q
   refine thn (qfN r hm ha A h I C st z z2) λv s1 ⟨d,i,q1,j,E⟩=>?_
   obtain⟨x,y,c,t,u,w,O,rfl,F,m,J,sz,K⟩:=E
   refine wpAny_pyIter_range F J ?_
   refine⟨s1.heap.objs.size,[s1.heap.objs.size],_,ItS x c ds.length,i,rfl,m.kept (t':=s1.toks) λb o e=>wB _ e,qeB _ x c ds.length,?_,λb L=>?_,q d i _ q1 j (by rw[K];simpa using qj3 (ι:=d) (H:=i) (lo:=x) (c:=c) (n:=ds.length))⟩
   .show IsRangeIter _ _ (x+((0:Nat):Int)*c) ((ds.length:Int)-((0:Nat):Int)) c
    have e1:x+((0:Nat):Int)*c=x:=by simp
    have M:(ds.length:Int)-((0:Nat):Int)=Builtin.Range.rangeSize x y c:=by rw[sz];simp
    rw[e1,M]
    exact wF _ rfl
   .obtain rfl:=wf.mp L
    exact m.fpOk (wK _) (m.hok.fresh (wK _))
theorem jV{a c:Int}:∀{b:Array Value} {n:Nat},ItemsOf (λi v=>∃t,v=.int (a+i*c) t) b n->Vals ((List.range n).map λ(k:Nat)=>V.int (a+k*c)) b.toList:=by
 intro b n h
 obtain⟨e,f⟩:=h
 apply qbW
 .simp [e]
 .intro i x u e1 j
  rw[wb]at e1
  cases z:(List.range n)[i]? with
  |none=>rw[z]at e1;cases e1
  |some k =>
   rw[z]at e1;cases e1
   obtain⟨l,d⟩:=wP.mp z
   simp only[List.getElem_range]at d
   subst d
   obtain⟨t,rfl⟩:=f i u (by simpa using j)
   exact⟨t,rfl⟩
end
end R
namespace R
open PySem PySem.Spec L2 SeqAt
open PyProof.Rows hiding St
section
variable{prog:Program}{w:World}{A:Around}{E:Value->Shared->Prop}{s:Shared}
theorem qfO{Q:List Value->Shared->Prop}{r:Addr}{a b c:Int}{t u v:Tok}{n:Nat}(p:A.handled=none)(q:IsRange s.heap r a b c t u v)(x:Builtin.Range.small a b c=true)(hn:Builtin.Range.rangeSize a b c=n)(y:n<=2^24)(z:∀(h':Heap) (tk:Nat) (d:Array Value),(∀b o,s.heap.get? b=some o->h'.get? b=some o)->ItemsOf (λi v=>∃t,v=.int (a+i*c) t) d n->Q d.toList {s with heap:=h',toks:=tk}):wpAny (model prog w) A (collect (.ref r)) Q E s:=by
 have f:∀R:Result->Shared->Prop,(∀(h':Heap) (tk:Nat) (d:Array Value) (h:Nat),(∀b o,s.heap.get? b=some o->h'.get? b=some o)->h'.get? s.heap.objs.size=some {cls:=.type "list",dict:=none,data:=.seq d h,slots:=#[]}->ItemsOf (λi v=>∃t,v=.int (a+i*c) t) d n ->
   R (.ok (.ret (.ref s.heap.objs.size))) {s with heap:=h',toks:=tk})->codeAny (model prog w) A (.builtin "proto.collect" ⟨[.ref r],[]⟩) R s:=by
  intro R B
  refine wx xR ?_
  rw[wg xQ]
  refine wA (m:=newList []) (w9 (wD ⟨vA uH _,wx F.entry_list_iadd ?_⟩))
  rw[wg uH]
  have h0:(s.heap.push {cls:=.type "list",data:=.seq ([]:List Value).toArray}).get? s.heap.objs.size=some {cls:=.type "list",data:=.seq #[] 0}:=wF _ rfl
  exact wpAny_extend_range (R:=R) (s:={s with heap:=s.heap.push {cls:=.type "list",data:=.seq ([]:List Value).toArray}}) p (wB _ q) x hn y s.heap.objs.size (.ref s.heap.objs.size) 0 h0 λh' tk d h j l hi =>
   B h' tk d h (λb o e=>j b o (wc (wJ e)) (wB _ e)) l hi
 unfold collect
 refine wA (wpAny_runValue (f _ λh' tk d h j l hi=>?_))
 exact wA (m:=load s.heap.objs.size) (wpAny_load l (wD (z h' tk d j hi)))
theorem qib{Q:Value->Shared->Prop}{r:Addr}{a b c:Int}{t u v:Tok}{n:Nat}(p:A.handled=none)(j:IsRange s.heap r a b c t u v)(q:Builtin.Range.small a b c=true)(hn:Builtin.Range.rangeSize a b c=n)(l:n<=2^24)(x:∀(h':Heap) (tk:Nat) (d:Array Value),(∀b o,s.heap.get? b=some o->h'.get? b=some o)->ItemsOf (λi v=>∃t,v=.int (a+i*c) t) d n->Q (.ref h'.objs.size) {s with heap:=h'.push {cls:=.type "tuple",data:=.seq d},toks:=tk}):
  wpAny (model prog w) A (call (.type "tuple") [.ref r]) Q E s:=by
 have new:codeAny (model prog w) A.in1 (.call (.builtin "tuple.__new__") ⟨[.type "tuple",.ref r],[]⟩) (wants (λobj f=>f.TypeIs obj "tuple"/\Q obj f) E) s:=by
  refine xH (?_:wpAny _ A.in1.in1 (do checkBuiltinCall "tuple.__new__" ⟨[.type "tuple",.ref r],[]⟩;again (.builtin "tuple.__new__" ⟨[.type "tuple",.ref r],[]⟩)) _ _ s)
  refine wA (ua (F.newCall_tuple_1 _) (wD ⟨vA uw _,wx F.entry_tuple_new ?_⟩))
  rw[wg uw]
  have B:=sub_tuple_self
  have C:=init_tuple_lookup
  have H:=madeHere_tuple
  have y:s.TypeIs (.ref r) "range":=⟨_,j,rfl⟩
  wp_walk using uV y,qfO (A:=A.in1.in1) p j q hn l
  intro h' tk d z hi
  refine wA (m:=Builtin.Tuple.tupleExact d.toList.toArray) ?_
  unfold Builtin.Tuple.tupleExact
  refine w9 (wD ?_) (by
   have:d.toList.toArray.size<=sizeLine:=by rw[u7,hi.1];exact l
   exact this)
  have e:d.toList.toArray=d:=u7 ..
  rw[e]
  exact⟨⟨_,wF _ rfl,rfl⟩,x h' tk d z hi⟩
 refine callType_codes uU (F.typeCall_tuple_1 _) F.entry_object_init new λobj f h=>?_
 exact⟨h.1,F.args_object_init_2 obj _,object_init_meets uU.init.lookup uU.made (by decide) prog w A.in1 _ f ⟨h.1,rfl,h.2⟩⟩
end
section
variable{X:Cx}{pos:Pos}
noncomputable def mRng(k:Option Bool)(a:En->Sr->Res (List D)):En->Sr->Res D:=λρ S=>(a ρ S).bind λl S1=>match rngD l with
 |some ds=>if ds.length<=1000000 then(match k with
  |some m=>newL m ds S1
  |none=>.ok (.tup ds) S1)else .no
 |none=>.no
theorem qic{ι:List Addr}{H:Hp}{a c:Int}{n:Nat}:Dens ι H ((List.range n).map λ(k:Nat)=>D.int (a+k*c)) ((List.range n).map λ(k:Nat)=>V.int (a+k*c)):=by
 have:∀l:List Nat,Dens ι H (l.map λ(k:Nat)=>D.int (a+k*c)) (l.map λ(k:Nat)=>V.int (a+k*c)):=λl=>by
  induction l with
  |nil=>rfl
  |cons x r b=>exact⟨_,_,rfl,rfl,b⟩
 exact this _
theorem qlK{k:Option Bool}{f:Str}{ty:String}{a:Expr}{es:List Expr}{p1 R h:Pos}{E:En->Sr->Res (List D)}(C:(f=Str.ofString "list"/\ty="list"/\∃m,k=some m)\/(f=Str.ofString "tuple"/\ty="tuple"/\k=none))(U:X.calm=true)(hg:Gl X "range")(hm:X.mg "range"=none)(F:Gl X f)(J:X.mg f=none)(ha:PA X (a::es) (TL E))(hs:starEach (a::es) X.env=(false,eval a X.env)::starEach es X.env)(K:(backTo h (starEach es X.env)).any (·.1)=false):
  PE X (.Call (.Name f p1) [.Call (.Name "range" R) (a::es) [] h] [] pos) (T (mRng k E)):=by
 intro pins s σ H Q I hw
 have hb:bootBuiltins f=some (.type ty):=by
  rcases C with ⟨rfl,rfl,_⟩|⟨rfl,rfl,_⟩ <;> decide +kernel
 have hn:f≠"__name__":=by rcases C with ⟨rfl,rfl,_⟩|⟨rfl,rfl,_⟩ <;> decide
 have hd:(f == ("__debug__":Str))=false:=by rcases C with ⟨rfl,rfl,_⟩|⟨rfl,rfl,_⟩ <;> decide
 refine Call_ (z9 I F J hb ?_ hn hd)
 obtain⟨ι,S,ρ,er,st,q⟩:=hw
 dsimp only[mRng]at q
 cases z:E ρ S with
 |no=>rw[z]at q;exact q.elim
 |err=>rw[z]at q;exact q.elim
 |ok l S1 =>
  rw[z,Res.bind_ok]at q
  cases z2:rngD l with
  |none=>simp only[z2]at q;exact q.elim
  |some ds =>
   simp only[z2]at q
   by_cases i:ds.length<=1000000
   .rw [wM i]at q
    refine v9 (e:=.Call (.Name "range" R) (a::es) [] h) (rest:=[]) ?_ rfl rfl
    refine vU (thn (qfN hg hm ha hs K I er st z z2) λv s1 ⟨p,r,q1,A,ra⟩=>uI ?_)
    obtain⟨x,y,c,t,u,w,pp,rfl,W,L,Y,sz,ed⟩:=ra
    have M:r s1.heap.objs.size=none:=L.hok.fresh (wK _)
    have Z:Dens p r ds ((List.range ds.length).map λ(k:Nat)=>V.int (x+k*c)):=by
     have:=qic (ι:=p) (H:=r) (a:=x) (c:=c) (n:=ds.length)
     rwa [<-ed]at this
    have d:ds.length<=2^24:=vI i (by decide)
    rcases C with ⟨rfl,rfl,e⟩|⟨rfl,rfl,e⟩
    .obtain ⟨m,rfl⟩:=e
     .refine call_list_range (I.ok.hd U) W Y sz d λh' tk j c' N hS hi=>?_
      exact⟨.ref _,_,L.laid (o:=.lst ((List.range ds.length).map λ(k:Nat)=>V.int (x+k*c))) (t':=tk) N (wK _) ⟨by simp;exact d,j.toList,c',jV hi,by rw[hS]⟩,rfl,qX A Z (Pst.from q q1) _ M⟩
    .subst e
     .refine qib (I.ok.hd U) W Y sz d λh' tk j N hi=>?_
      have I2:=L.kept (h':=h') (t':=tk) N
      have B:r h'.objs.size=none:=I2.hok.fresh (wK _)
      refine⟨.ref _,upd r h'.objs.size (.tup _),I2.laid (t':=tk) (λb o e=>wB _ e) (wK _) ⟨by simp;exact d,j.toList,jV hi,⟨_,wF _ rfl,rfl,0,by simp⟩,λo q=>by rw[wF _ rfl]at q;cases q;rfl⟩,rfl,zd A Z ?_ _ B⟩
      exact λv O H' s' P dv=>q v O H' (q1.trans s') P dv
   .rw [wO i]at q;exact q.elim
end
end R
namespace R
open PySem PySem.Spec L2 SeqAt
open PyProof.Rows hiding St
def SI(b:Bool)(h:Heap)(it l:Addr)(k:Nat):Prop:=match b with
 |true=>h.IsTupleIter it l k
 |false=>h.IsListIter it l k
def SQ(b:Bool)(h:Heap)(l:Addr)(xs:Array Value):Prop:=match b with
 |true=>h.IsTuple l xs
 |false=>h.IsList l xs
theorem SI.at{b:Bool}{h h':Heap}{it l:Addr}{k:Nat}(x:SI b h it l k)(e:∀o,h.get? it=some o->h'.get? it=some o):SI b h' it l k:=by
 cases b with
 |true=>exact Heap.IsTupleIter.at x e
 |false=>exact Heap.IsListIter.at x e
theorem SQ.at{b:Bool}{h h':Heap}{l:Addr}{xs:Array Value}(x:SQ b h l xs)(e:∀o,h.get? l=some o->h'.get? l=some o):SQ b h' l xs:=by
 cases b with
 |true=>exact Heap.IsTuple.at x e
 |false=>exact Heap.IsList.at x e
theorem SI.obj{b:Bool}{h:Heap}{it l:Addr}{k:Nat}(x:SI b h it l k):∃o,h.get? it=some o/\(∀v,o.data≠.cell v):=by
 cases b with
 |true=>obtain⟨o,e,_,d⟩:=x;exact⟨o,e,λv z=>by rw[d]at z;cases z⟩
 |false=>obtain⟨o,e,_,d⟩:=x;exact⟨o,e,λv z=>by rw[d]at z;cases z⟩
section
variable{prog:Program}{w:World}{A:Around}{E:Value->Shared->Prop}{s:Shared}
theorem qfP{it l:Addr}{i:Nat}{xs:Array Value}{x:Value}{Q:Value->Shared->Prop}(hi:s.heap.IsTupleIter it l i)(c:s.heap.IsTuple l xs)(e:xs[i]?=some x)(f:∀h',h'.IsTupleIter it l (i+1)->Heap.SameBut it s.heap h'->Q x {s with heap:=h' }):wpAny (model prog w) A (Builtin.SmallTypes.nextOf (.ref it)) Q E s:=by
 have b:=hi.typeIs
 obtain⟨o,a,co,d⟩:=hi
 obtain⟨u,eu,_,m,h⟩:=c
 unfold Builtin.SmallTypes.nextOf
 refine wA (wq (name:=Str.ofString "__next__") b uK (wz uK b F.entry_tuple_iterator_next ?_ (F.args_tuple_iterator_next_1 _)))
 refine wA (m:=field (.ref it) 0) (w1 a d (x:=.ref l) rfl (?_:wpAny _ _ (if(Value.ref l == Value.none)=true then _ else _) _ _ s))
 rw[wO (show ¬((Value.ref l == Value.none)=true)from wU)]
 refine wA (m:=field (.ref it) 1) (w1 a d (x:=.int i 0) rfl ?_)
 refine wA (m:=seqItems? (.ref l)) (v4 eu h ?_)
 simp only[uv,e]
 refine wA (xV a d (by simp) (wD ⟨x,rfl,wD (f _ ⟨_,vD _ a (Obj.isFreed_of_fields (ui d _)),(Obj.cls_mapFields ..).trans co,?_⟩ (Heap.SameBut.update ..))⟩))
 rw[ui d];simp[rawInt]
theorem qa9{it l:Addr}{i:Nat}{xs:Array Value}{Q:Value->Shared->Prop}(f:A.handled=none)(hi:s.heap.IsTupleIter it l i)(h:s.heap.IsTuple l xs)(j:xs[i]?=none)(n:∀h' e,Heap.ExtBut it s.heap h'->(∃o,h'.get? e=some o/\o.cls=.type "StopIteration")->E (.ref e) {s with heap:=h' }):wpAny (model prog w) A (Builtin.SmallTypes.nextOf (.ref it)) Q E s:=by
 have c:=hi.typeIs
 obtain⟨o,b,co,d⟩:=hi
 obtain⟨u,eu,_,m,p⟩:=h
 unfold Builtin.SmallTypes.nextOf
 refine wA (wq (name:=Str.ofString "__next__") c uK (wz uK c F.entry_tuple_iterator_next ?_ (F.args_tuple_iterator_next_1 _)))
 refine wA (m:=field (.ref it) 0) (w1 b d (x:=.ref l) rfl (?_:wpAny _ _ (if(Value.ref l == Value.none)=true then _ else _) _ _ s))
 rw[wO (show ¬((Value.ref l == Value.none)=true)from wU)]
 refine wA (m:=field (.ref it) 1) (w1 b d (x:=.int i 0) rfl ?_)
 refine wA (m:=seqItems? (.ref l)) (v4 eu p ?_)
 simp only[uv,j]
 refine wA (uE (wA (xV b d (by simp) (?_:wpAny _ _ (newExc (.type "StopIteration") [] >>= _) _ _ _))))
 refine wA ?_
 unfold newExc newTuple
 refine wA (w9 (wA (ua (t:=firstArgMember _ _) (a:=Value.none) (by first|rfl|(simp only[firstArgMember];rfl)) (w9 ?_ (by size_fits)))) (by size_fits))
 unfold raiseNew
 refine wA (wpAny_handled ?_)
 rw[show A.in1.handled=none from f]
 exact wA (wD (wpAny_throw (n _ _ (((Heap.SameBut.update ..).extBut.push _).push _) ⟨_,wF _ rfl,rfl⟩)))
theorem draw{b:Bool}{it l:Addr}{i:Nat}{xs:Array Value}{x:Value}{Q:Value->Shared->Prop}(hi:SI b s.heap it l i)(a:SQ b s.heap l xs)(c:xs[i]?=some x)(d:∀h',SI b h' it l (i+1)->Heap.SameBut it s.heap h'->Q x {s with heap:=h' }):wpAny (model prog w) A (Builtin.SmallTypes.nextOf (.ref it)) Q E s:=by
 cases b with
 |true=>exact qfP hi a c d
 |false=>exact wpAny_nextOf_list_item hi a c d
theorem qbX{b:Bool}{it l:Addr}{i:Nat}{xs:Array Value}{Q:Value->Shared->Prop}(a:A.handled=none)(hi:SI b s.heap it l i)(c:SQ b s.heap l xs)(d:xs[i]?=none)(f:∀h' e,Heap.ExtBut it s.heap h'->(∃o,h'.get? e=some o/\o.cls=.type "StopIteration")->E (.ref e) {s with heap:=h' }):wpAny (model prog w) A (Builtin.SmallTypes.nextOf (.ref it)) Q E s:=by
 cases b with
 |true=>exact qa9 a hi c d f
 |false=>exact wpAny_nextOf_list_end a hi c d f
structure ZA (z TI TO i j l m:Addr):Prop where
 zTI:TI≠z
 zTO:TO≠z
 zi:i≠z
 zj:j≠z
 TT:TI≠TO
 TIi:TI≠i
 TIj:TI≠j
 TOi:TO≠i
 TOj:TO≠j
 ij:i≠j
 lz:l≠z
 lT:l≠TO
 li:l≠i
 lj:l≠j
 mz:m≠z
 mT:m≠TO
 mi:m≠i
 mj:m≠j
structure ZS (b c:Bool) (h:Heap) (z TI TO i j l m:Addr) (k:Nat) (xs ys:Array Value) (f:Value):Prop where
 z:IsZip h z TI TO f
 ti:IsPair h TI (.ref i) (.ref j)
 to':∃a d,IsPair h TO a d
 i1:SI b h i l k
 i2:SI c h j m k
 q1:SQ b h l xs
 q2:SQ c h m ys
variable{b c:Bool}{z TI TO i j l m:Addr}{k:Nat}{xs ys:Array Value}
theorem qj4{x y:Value}{Q:Option Value->Shared->Prop}(D:ZA z TI TO i j l m)(st:ZS b c s.heap z TI TO i j l m k xs ys .none)(Y:xs[k]?=some x)(Z:ys[k]?=some y)(hQ:∀h',ZS b c h' z TI TO i j l m (k+1) xs ys (rawInt s.heap.objs.size)->IsPair h' s.heap.objs.size x y->(∀a o,a≠z->a≠TO->a≠i->a≠j->s.heap.get? a=some o->h'.get? a=some o)->Q (some (.ref s.heap.objs.size)) {s with heap:=h' }):
  wpAny (model prog w) A (pyNext (.ref z)) Q E s:=by
 obtain⟨f,ti,⟨t0,t1,to'⟩,i1,i2,q1,q2⟩:=st
 have N:s.TypeIs (.ref z) "zip":=⟨_,f,rfl⟩
 unfold pyNext
 refine wA (uQ (wq (name:=Str.ofString "__next__") N xO (wz xO N F.entry_zip_next ?_ (F.args_zip_next_1 _))))
 refine wA (m:=field (.ref z) 2) (w1 f rfl (x:=.bool false) rfl (wA (m:=field (.ref z) 3) (w1 f rfl (x:=.ref TI) rfl (wA (v4 ti rfl ?_)))))
 refine wA (m:=Builtin.SmallTypes.ownedTupleIsFree (.ref z)) ?_
 unfold Builtin.SmallTypes.ownedTupleIsFree
 refine wA (w1 f rfl (x:=.none) rfl (wD ?_))
 simp only[wr]
 refine wA (uE (wA (w1 f rfl (x:=.ref TO) rfl (wA (vu f (by simp) λh1 z1 b1=>?_)))))
 have H:IsZip h1 z TI TO .ellipsis:=z1
 refine wA ?_
 simp only[List.zipIdx_cons,List.zipIdx_nil,uB,List.forIn_nil]
 refine wA (wA (wpAny_onRaise (wA (m:=Builtin.SmallTypes.nextOf (.ref i)) ?_)))
 refine draw (i1.at λo e=>b1.extBut _ o D.zi e) (q1.at λo e=>b1.extBut _ o D.lz e) Y λh2 I b2=>wD ?_
 have O:IsPair h2 TO t0 t1:=b2.extBut _ _ D.TOi (b1.extBut _ _ D.zTO to')
 refine wA (v4 O rfl (wA (xT O λh3 o3 h=>wA (ub (wD ?_)))))
 have J:IsPair h3 TO x t1:=o3
 refine wA (wA (wpAny_onRaise (wA (m:=Builtin.SmallTypes.nextOf (.ref j)) ?_)))
 refine draw (i2.at λo e=>h.extBut _ o D.TOj.symm (b2.extBut _ o D.ij.symm (b1.extBut _ o D.zj e))) (q2.at λo e=>h.extBut _ o D.mT (b2.extBut _ o D.mi (b1.extBut _ o D.mz e))) Z λh4 i4 p=>wD ?_
 have P:IsPair h4 TO x t1:=p.extBut _ _ D.TOj J
 refine wA (v4 P rfl (wA (xT P λd o5 q=>wA (ub (wD (wD ?_))))))
 have r:IsPair d TO x y:=o5
 refine wA (v4 r rfl (wA (wpAny_newTuple ?_)))
 have sz:d.objs.size=s.heap.objs.size:=by rw[q.1,p.1,h.1,b2.1,b1.1]
 have R:IsZip d z TI TO .ellipsis:=q.extBut _ _ D.zTO.symm (p.extBut _ _ D.zj.symm (h.extBut _ _ D.zTO.symm (b2.extBut _ _ D.zi.symm H)))
 have k5:∀a o,a≠z->a≠TO->a≠i->a≠j->s.heap.get? a=some o->d.get? a=some o:=λa o B C K L e=>q.extBut _ _ C (p.extBut _ _ L (h.extBut _ _ C (b2.extBut _ _ K (b1.extBut _ _ B e))))
 have S:z<d.objs.size:=wJ R
 refine wA (m:=Builtin.SmallTypes.ownedTupleHandOut (.ref z) (.ref d.objs.size)) ?_
 unfold Builtin.SmallTypes.ownedTupleHandOut
 have z6:IsZip (d.push {cls:=.type "tuple",data:=.seq #[x,y]}) z TI TO .ellipsis:=wB _ R
 refine wA (vu z6 (by simp) λh7 z7 U=>?_)
 have M:IsZip h7 z TI TO (rawInt d.objs.size):=z7
 refine vu M (by simp) λu z8 W=>?_
 have v:IsZip u z TI TO (rawInt d.objs.size):=z8
 have up:∀a o,a≠z->d.get? a=some o->u.get? a=some o:=λa o n e=>W.extBut _ _ n (U.extBut _ _ n (wB _ e))
 have X:IsPair u d.objs.size x y:=W.extBut _ _ (ws S) (U.extBut _ _ (ws S) (wF _ rfl))
 rw[sz]at v X
 refine wD ⟨_,rfl,wD ?_⟩
 have all:∀a o,a≠z->a≠TO->a≠i->a≠j->s.heap.get? a=some o->u.get? a=some o:=λa o B C K L e=>up a o B (k5 a o B C K L e)
 have fin:=hQ u ⟨v,all _ _ D.zTI D.TT D.TIi D.TIj ti,⟨_,_,up _ _ D.zTO r⟩,I.at λo e=>up _ o D.zi (q.extBut _ o D.TOi.symm (p.extBut _ o D.ij (h.extBut _ o D.TOi.symm e))),i4.at λo e=>up _ o D.zj (q.extBut _ o D.TOj.symm e),
  q1.at λo e=>all _ o D.lz D.lT D.li D.lj e,q2.at λo e=>all _ o D.mz D.mT D.mi D.mj e⟩ X all
 rw[<-sz]at fin
 exact fin
theorem qid{Q:Option Value->Shared->Prop}(C:A.handled=none)(D:ZA z TI TO i j l m)(st:ZS b c s.heap z TI TO i j l m k xs ys .none)(O:xs[k]?=none\/ys[k]?=none)(P:∀h',(∀a o,a≠z->a≠TO->a≠i->a≠j->s.heap.get? a=some o->h'.get? a=some o)->Q none {s with heap:=h' }):wpAny (model prog w) A (pyNext (.ref z)) Q E s:=by
 obtain⟨n,ti,⟨R,t1,to'⟩,i1,i2,q1,q2⟩:=st
 have H:s.TypeIs (.ref z) "zip":=⟨_,n,rfl⟩
 have d:∀(h':Heap) (e:Addr),(∀a o,a≠z->a≠TO->a≠i->a≠j->s.heap.get? a=some o->h'.get? a=some o)->(∃o,h'.get? e=some o/\o.cls=.type "StopIteration") ->
   wpAny (model prog w) A (do if <-isInstance (.ref e) (.type "StopIteration")then pure none else throw (Value.ref e)) Q E {s with heap:=h' }:=λh' e S ⟨o,U,W⟩ =>
  wA (uM (T:="StopIteration") (b:=true) ⟨o,U,W⟩ isSubtype_stop (wD (P h' S)))
 unfold pyNext
 refine wA (uQ (wq (name:=Str.ofString "__next__") H xO (wz xO H F.entry_zip_next ?_ (F.args_zip_next_1 _))))
 refine wA (m:=field (.ref z) 2) (w1 n rfl (x:=.bool false) rfl (wA (m:=field (.ref z) 3) (w1 n rfl (x:=.ref TI) rfl (wA (v4 ti rfl ?_)))))
 refine wA (m:=Builtin.SmallTypes.ownedTupleIsFree (.ref z)) ?_
 unfold Builtin.SmallTypes.ownedTupleIsFree
 refine wA (w1 n rfl (x:=.none) rfl (wD ?_))
 simp only[wr]
 refine wA (uE (wA (w1 n rfl (x:=.ref TO) rfl (wA (vu n (by simp) λX Y b1=>?_)))))
 have p:IsZip X z TI TO .ellipsis:=Y
 refine wA ?_
 simp only[List.zipIdx_cons,List.zipIdx_nil,uB,List.forIn_nil]
 refine wA (wA (wpAny_onRaise (wA (m:=Builtin.SmallTypes.nextOf (.ref i)) ?_)))
 cases ex:xs[k]? with
 |none =>
  refine qbX C (i1.at λo e=>b1.extBut _ o D.zi e) (q1.at λo e=>b1.extBut _ o D.lz e) ex λv e b2 ⟨y,f,r⟩=>?_
  have I:IsZip v z TI TO .ellipsis:=b2 _ _ D.zi.symm p
  have ne:e≠z:=λq=>by subst q;rw[I]at f;cases f;simp at r
  exact vu I (by simp) λJ _ h=>d J e (λa o u _ B _ q=>h.extBut _ _ u (b2 _ _ B (b1.extBut _ _ u q))) ⟨y,h.extBut _ _ ne f,r⟩
 |some x =>
  have Z:ys[k]?=none:=by
   rcases O with q|q
   .rw [ex]at q;cases q
   .exact q
  refine draw (i1.at λo e=>b1.extBut _ o D.zi e) (q1.at λo e=>b1.extBut _ o D.lz e) ex λv a0 b2=>wD ?_
  have K:IsPair v TO R t1:=b2.extBut _ _ D.TOi (b1.extBut _ _ D.zTO to')
  refine wA (v4 K rfl (wA (xT K λJ o3 h=>wA (ub (wD ?_)))))
  refine wA (wA (wpAny_onRaise (wA (m:=Builtin.SmallTypes.nextOf (.ref j)) ?_)))
  refine qbX C (i2.at λo e=>h.extBut _ o D.TOj.symm (b2.extBut _ o D.ij.symm (b1.extBut _ o D.zj e))) (q2.at λo e=>h.extBut _ o D.mT (b2.extBut _ o D.mi (b1.extBut _ o D.mz e))) Z λh4 e L ⟨y,f,r⟩=>?_
  have M:IsZip h4 z TI TO .ellipsis:=L _ _ D.zj.symm (h.extBut _ _ D.zTO.symm (b2.extBut _ _ D.zi.symm p))
  have ne:e≠z:=λq=>by subst q;rw[M]at f;cases f;simp at r
  exact vu M (by simp) λh5 _ N=>d h5 e (λa o u n2 B n4 q=>N.extBut _ _ u (L _ _ n4 (h.extBut _ _ n2 (b2.extBut _ _ B (b1.extBut _ _ u q))))) ⟨y,N.extBut _ _ ne f,r⟩
end
end R
namespace R
open PySem PySem.Spec L2 SeqAt
open PyProof.Rows hiding St
noncomputable def siO(b:Bool)(l:Addr):Obj:=match b with
 |true=>{cls:=.type "tuple_iterator",data:=.fields #[.ref l,.int 0 0]}
 |false=>{cls:=.type "list_iterator",data:=.fields #[.ref l,.int 0 0]}
theorem qfQ{b:Bool}{h:Heap}{l:Addr}:SI b (h.push (siO b l)) h.objs.size l 0:=by
 cases b with
 |true=>exact⟨_,wF _ rfl,rfl,rfl⟩
 |false=>exact⟨_,wF _ rfl,rfl,rfl⟩
section
variable{prog:Program}{w:World}{A:Around}{E:Value->Shared->Prop}{s:Shared}
theorem qbY{b:Bool}{l:Addr}{xs:Array Value}{Q:Value->Shared->Prop}(a:SQ b s.heap l xs)(c:Q (.ref s.heap.objs.size) {s with heap:=s.heap.push (siO b l)}):wpAny (model prog w) A (pyIter (.ref l)) Q E s:=by
 cases b with
 |true=>exact ug a c
 |false=>exact wpAny_pyIter_list a c
end
noncomputable def zh1(b:Bool)(h:Heap)(l:Addr):Heap:=h.push (siO b l)
noncomputable def zh2(b c:Bool)(h:Heap)(l m:Addr):Heap:=(zh1 b h l).push (siO c m)
noncomputable def zh3(b c:Bool)(h:Heap)(l m:Addr):Heap:=(zh2 b c h l m).push {cls:=.type "tuple",data:=.seq #[.ref h.objs.size,.ref (zh1 b h l).objs.size]}
noncomputable def zh4(b c:Bool)(h:Heap)(l m:Addr):Heap:=(zh3 b c h l m).push {cls:=.type "tuple",data:=.seq #[.none,.none]}
noncomputable def zh5(b c:Bool)(h:Heap)(l m:Addr):Heap:=(zh4 b c h l m).push {cls:=.type "zip",data:=.fields #[.none,.bool false,.bool false,.ref (zh2 b c h l m).objs.size,.ref (zh3 b c h l m).objs.size]}
theorem qie(b c:Bool)(l m:Addr)(xs ys:Array Value):Meets (Builtin.«zip.__new__» ⟨[.type "zip",.ref l,.ref m],[]⟩) (λ_ R s=>SQ b s.heap l xs/\SQ c s.heap m ys/\R (.ok (.ret (.ref (zh4 b c s.heap l m).objs.size))) {s with heap:=zh5 b c s.heap l m}) :=
 .of_wp λprog w A R s h=>by
  obtain⟨a,g,d,tk,os⟩:=s
  obtain⟨f,i,h⟩:=h
  have n:=sub_zip
  have e1:SQ b (Shared.heap ⟨a,g,d,tk,os⟩) l xs:=f
  have j:SQ c (Shared.heap ⟨a.push (siO b l),g,d,tk,os⟩) m ys:=SQ.at i λo e=>wB _ e
  wp_walk using qbY e1,qbY j
  exact⟨_,rfl,h⟩
section
variable{prog:Program}{w:World}{A:Around}{E:Value->Shared->Prop}{s:Shared}
theorem qfR{b c:Bool}{l m:Addr}{xs ys:Array Value}{Q:Value->Shared->Prop}(n:SQ b s.heap l xs)(p:SQ c s.heap m ys)(h:∀h':Heap,ZS b c h' (s.heap.objs.size+4) (s.heap.objs.size+2) (s.heap.objs.size+3) s.heap.objs.size (s.heap.objs.size+1) l m 0 xs ys .none->(∀a o,s.heap.get? a=some o->h'.get? a=some o)->Q (.ref (s.heap.objs.size+4)) {s with heap:=h' }):
  wpAny (model prog w) A (call (.type "zip") [.ref l,.ref m]) Q E s:=by
 have d:(zh1 b s.heap l).objs.size=s.heap.objs.size+1:=v5 ..
 have f:(zh2 b c s.heap l m).objs.size=s.heap.objs.size+2:=by unfold zh2;rw[v5,d]
 have i:(zh3 b c s.heap l m).objs.size=s.heap.objs.size+3:=by unfold zh3;rw[v5,f]
 have r:(zh4 b c s.heap l m).objs.size=s.heap.objs.size+4:=by unfold zh4;rw[v5,i]
 have kp:∀a o,s.heap.get? a=some o->(zh5 b c s.heap l m).get? a=some o:=λa o e=>by
  unfold zh5 zh4 zh3 zh2 zh1
  exact wB _ (wB _ (wB _ (wB _ (wB _ e))))
 have j:IsZip (zh5 b c s.heap l m) (zh4 b c s.heap l m).objs.size (zh2 b c s.heap l m).objs.size (zh3 b c s.heap l m).objs.size .none:=wF _ rfl
 have u:IsPair (zh5 b c s.heap l m) (zh3 b c s.heap l m).objs.size .none .none:=by
  have q:(zh4 b c s.heap l m).get? (zh3 b c s.heap l m).objs.size=some _:=wF _ rfl
  exact wB _ q
 have v:IsPair (zh5 b c s.heap l m) (zh2 b c s.heap l m).objs.size (.ref s.heap.objs.size) (.ref (zh1 b s.heap l).objs.size):=by
  have q:(zh3 b c s.heap l m).get? (zh2 b c s.heap l m).objs.size=some _:=wF _ rfl
  exact wB _ (wB _ q)
 have i2:SI c (zh5 b c s.heap l m) (zh1 b s.heap l).objs.size m 0:=SI.at (qfQ (b:=c) (h:=zh1 b s.heap l) (l:=m)) λo e=>wB _ (wB _ (wB _ e))
 have i1:SI b (zh5 b c s.heap l m) s.heap.objs.size l 0:=SI.at (qfQ (b:=b) (h:=s.heap) (l:=l)) λo e=>wB _ (wB _ (wB _ (wB _ e)))
 refine callType_new F.called_zip (by decide) (F.typeCall_zip_2 _ _) (F.newCall_zip_2 _ _) (λobj=>F.args_object_init_3 obj _ _) F.entry_zip_new (qie b c l m xs ys) ⟨n,p,?_⟩
 rw[r,i,f]at j
 rw[i]at u
 rw[f,d]at v
 rw[d]at i2
 rw[r]
 exact⟨⟨_,j,rfl⟩,h _ ⟨j,v,⟨_,_,u⟩,i1,i2,n.at λo e=>kp _ o e,p.at λo e=>kp _ o e⟩ kp⟩
end
def SqB(b:Bool)(K:PySem.W.Frag)(H:Hp)(l:Addr)(xs:List V):Prop:=match b with
 |true=>SqT K H l xs
 |false=>SqL K H l xs
noncomputable def ItZ(K:PySem.W.Frag)(b c:Bool)(l m:Addr):It:=⟨λi H=>∃xs ys u v,SqB b K H l xs/\SqB c K H m ys/\xs[i]?=some u/\ys[i]?=some v,
 λi H x H'=>∃p u v,x=.ref p/\H p=none/\H'=upd H p (.tup [u,v])/\(∀xs,SqB b K H l xs->xs[i]?=some u)/\∀ys,SqB c K H m ys->ys[i]?=some v,λi H=>∃xs ys,SqB b K H l xs/\SqB c K H m ys/\(xs.length<=i\/ys.length<=i)⟩
section
variable{X:Cx}{pos:Pos}
theorem jg{pins:List (Addr×Obj)}{a:St}{H:Hp}{s:Shared}{b:Bool}{l:Addr}{xs:List V}(I:Inv X pins a H s)(h:SqB b X.K H l xs):∃its:List Value,Vals xs its/\SQ b s.heap l its.toArray:=by
 cases b with
 |true=>obtain⟨its,r,p,_⟩:=I.tuple h;exact⟨its,r,p⟩
 |false=>obtain⟨its,r,p,_⟩:=I.list h;exact⟨its,r,p.isList⟩
theorem qdt{pins:List (Addr×Obj)}{a:St}{H:Hp}{s:Shared}{b:Bool}{l:Addr}{xs ys:List V}(I:Inv X pins a H s)(h:SqB b X.K H l xs)(h':SqB b X.K H l ys):xs=ys:=by
 cases b with
 |true=>exact I.tuple_inj h h'
 |false=>exact I.list_inj h h'
def ztn(b c:Bool)(z TI TO i j l m:Addr)(k:Nat)(h:Heap):Prop:=IsZip h z TI TO .none/\IsPair h TI (.ref i) (.ref j)/\(∃a d,IsPair h TO a d)/\SI b h i l k/\SI c h j m k
theorem qfS{P:Program}{w:World}{K:PySem.W.Frag}{es:List Expr}{n:Nat}{tp:Pos}{b c:Bool}{z TI TO i j l m:Addr}(D:ZA z TI TO i j l m):Turn P w K (.Tuple es n tp) (ItZ K b c l m) [z,TI,TO,i,j] z (ztn b c z TI TO i j l m) where
 mem:=by simp
 obj:=λk h ⟨U,B,⟨a,d,Y⟩,Z,h5⟩ x C=>by
  simp only[wR,vr,or_false]at C
  rcases C with rfl|rfl|rfl|rfl|rfl
  .exact ⟨_,U,λv q=>by cases (show Data.fields _=Data.cell v from q)⟩
  .exact ⟨_,B,λv q=>by cases (show Data.seq _ _=Data.cell v from q)⟩
  .exact ⟨_,Y,λv q=>by cases (show Data.seq _ _=Data.cell v from q)⟩
  .exact Z.obj
  .exact h5.obj
 keep:=λk h h' ⟨U,B,⟨a,d,Y⟩,Z,h5⟩ kp=>⟨kp z (by simp) _ U,kp TI (by simp) _ B,⟨a,d,kp TO (by simp) _ Y⟩,Z.at λo e=>kp i (by simp) o e,h5.at λo e=>kp j (by simp) o e⟩
 item:=by
  intro X hP hw hK hc k pins s σ H E I p st hg
  subst hP hw hK
  obtain⟨xs,ys,u,v,C,O,eu,ev⟩:=hg
  obtain⟨s1,s2,Q,R,S⟩:=st
  obtain⟨its,rx,qx⟩:=jg I C
  obtain⟨L,ry,qy⟩:=jg I O
  obtain⟨x,ex,a0⟩:=rx.get eu
  obtain⟨y,ey,a1⟩:=ry.get ev
  refine qj4 D ⟨s1,s2,Q,R,S,qx,qy⟩ (by simpa using ex) (by simpa using ey) λh' zs pr kp=>⟨_,rfl,?_⟩
  obtain⟨t1,t2,t3,t4,t5,t6,t7⟩:=zs
  refine wpAny_letOwnedTupleGo_zip (s:={s with heap:=h' }) t1 λB z2 b2=>?_
  have M:H s.heap.objs.size=none:=I.hok.fresh (wK _)
  have nz:s.heap.objs.size≠z:=ws (wJ s1)
  have all:∀a o,a∉[z,TI,TO,i,j]->s.heap.get? a=some o->B.get? a=some o:=λa o f e=>by
   simp only[wR,vr,or_false,not_or]at f
   exact b2.extBut _ _ f.1 (kp a o f.1 f.2.2.1 f.2.2.2.1 f.2.2.2.2 e)
  have ne:∀a o,s.heap.get? a=some o->a≠s.heap.objs.size:=λa o e=>wc (wJ e)
  have nt:∀{a:Addr} {q:HO},H a=some q->a∉[z,TI,TO,i,j]:=λ{a q} e hm=>by rw[(p a hm).1]at e;cases e
  have N:∀{a:Addr} {q:HO},H a=some q->a≠s.heap.objs.size:=λ{a q} e z'=>by subst z';rw[M]at e;cases e
  have F:HOk X.prog X.w (upd H s.heap.objs.size (.tup [u,v])) B:=λa q e=>by
   by_cases qa:a=s.heap.objs.size
   .subst qa
    rw[qv]at e;cases e
    exact⟨(show(2:Nat)<=sizeLine by decide),[x,y],.cons a0 (.cons a1 .nil),⟨_,b2.extBut _ _ nz pr,rfl,0,rfl⟩,λo q=>by rw[b2.extBut _ _ nz pr]at q;cases q;rfl⟩
   .rw [qk qa]at e
    refine(I.hok a q e).stay (λd o hd eo=>all d o ?_ eo) (λd A=>by rw[qk (N A)];exact A) λd xs A=>by rw[qk (N A)];exact A
    rcases hd with J|J
    .subst J;exact nt e
    .exact nt J
  have I2:Inv X pins σ (upd H s.heap.objs.size (.tup [u,v])) {s with heap:=B}:=by
   refine I.step (g':=s.gens) (d':=s.drawn) (t':=s.toks) (ch:=[z,TI,TO,i,j]) (λa ha=>⟨(p a ha).2.2.2.1,(p a ha).2.1,(p a ha).2.2.2.2.1,(p a ha).2.2.2.2.2⟩) (λa o _ _ f e _=>all a o f e) (λa o _ _ f e _=>⟨o.slots,all a o f e⟩)
    (λa o _ e n=>by rw[qk (ne a o e)];exact n) (λa o f e=>⟨o,all a o f e⟩) (λa xs e=>by rw[qk (N e)];exact e) (λa o q e=>by rw[qk (N e)];exact e) (λa ps e=>⟨#[],by rw[qk (N e),e];simp⟩) (λmm hm=>?_) F I.bare.self
   obtain⟨o,es,ep,ho,r⟩:=hm
   exact⟨o,es,ep,all _ o (λq=>(p _ q).2.1 rfl) ho,r⟩
  refine⟨.ref s.heap.objs.size,_,I2,rfl,⟨_,u,v,rfl,M,rfl,λa3 q=>by rw[qdt I q C];exact eu,λa4 q=>by rw[qdt I q O];exact ev⟩,⟨z2,b2.extBut _ _ D.zTI t2,?_,t4.at λo e=>b2.extBut _ o D.zi e,t5.at λo e=>b2.extBut _ o D.zj e⟩,λa ha=>?_⟩
  .obtain ⟨a,d,t3⟩:=t3
   exact⟨a,d,b2.extBut _ _ D.zTO t3⟩
  .rw [qk]
   .exact (p a ha).1
   .intro q
    have:∃o,s.heap.get? a=some o:=by
     obtain⟨a',d',a2⟩:=Q
     simp only[wR,vr,or_false]at ha
     rcases ha with rfl|rfl|rfl|rfl|rfl
     .exact ⟨_,s1⟩
     .exact ⟨_,s2⟩
     .exact ⟨_,a2⟩
     .exact ⟨_,R.obj.choose_spec.1⟩
     .exact ⟨_,S.obj.choose_spec.1⟩
    obtain⟨o,e⟩:=this
    exact ne a o e q
 done:=by
  intro X hP hw hK hc k pins s σ H E I p st hg
  subst hP hw hK
  obtain⟨xs,ys,C,O,hl⟩:=hg
  obtain⟨s1,s2,Q,R,S⟩:=st
  obtain⟨its,rx,qx⟩:=jg I C
  obtain⟨L,ry,qy⟩:=jg I O
  have hn:its.toArray[k]?=none\/L.toArray[k]?=none:=by
   rcases hl with q|q
   .left;simp;rw[<-rx.length];exact q
   .right;simp;rw[<-ry.length];exact q
  refine qid (I.ok.hd hc) D ⟨s1,s2,Q,R,S,qx,qy⟩ hn λh' kp=>⟨rfl,?_⟩
  have nt:∀{a:Addr} {q:HO},H a=some q->a∉[z,TI,TO,i,j]:=λ{a q} e hm=>by rw[(p a hm).1]at e;cases e
  have all:∀a o,a∉[z,TI,TO,i,j]->s.heap.get? a=some o->h'.get? a=some o:=λa o f e=>by
   simp only[wR,vr,or_false,not_or]at f
   exact kp a o f.1 f.2.2.1 f.2.2.2.1 f.2.2.2.2 e
  have F:HOk X.prog X.w H h':=λa q e=>by
   refine(I.hok a q e).stay (λd o hd eo=>all d o ?_ eo) (λd A=>A) λd xs A=>A
   rcases hd with J|J
   .subst J;exact nt e
   .exact nt J
  refine I.step (g':=s.gens) (d':=s.drawn) (t':=s.toks) (ch:=[z,TI,TO,i,j]) (λa ha=>⟨(p a ha).2.2.2.1,(p a ha).2.1,(p a ha).2.2.2.2.1,(p a ha).2.2.2.2.2⟩) (λa o _ _ f e _=>all a o f e) (λa o _ _ f e _=>⟨o.slots,all a o f e⟩)
   (λa o _ e n=>n) (λa o f e=>⟨o,all a o f e⟩) (λa xs e=>e) (λa o q e=>e) (λa ps e=>⟨#[],by rw[e];simp⟩) (λmm hm=>?_) F I.bare.self
  obtain⟨o,es,ep,ho,r⟩:=hm
  exact⟨o,es,ep,all _ o (λq=>(p _ q).2.1 rfl) ho,r⟩
 self:=λ_ _ _ _ _ st h=>wpAny_pyIter_zip st.1 h
end
end R
namespace R
open PySem PySem.Spec L2 SeqAt
open PyProof.Rows hiding St
section
variable{X:Cx}{pos:Pos}
theorem qaJ{ι:List Addr}{H:Hp}{d:D}{l:List D}{v:V}(e:walkF d=some l)(h:Den ι H d v):∃b a xs,v=.ref a/\a∉ι/\Dens ι H l xs/\(if b=true then H a=some (.tup xs)else Rd H a (.lst xs)):=by
 cases d with
 |tup f=>cases e;obtain⟨a,xs,e1,n,ha,c⟩:=h;exact⟨true,a,xs,e1,n,c,by simpa using ha⟩
 |lst f=>cases e;obtain⟨a,xs,e1,n,ha,c⟩:=h;exact⟨false,a,xs,e1,n,c,by simpa using ha⟩
 |_=>cases e
def AtB(b:Bool)(H:Hp)(a:Addr)(xs:List V):Prop:=if b=true then H a=some (.tup xs)else Rd H a (.lst xs)
theorem AtB.sq{b:Bool}{H:Hp}{K:PySem.W.Frag}{a:Addr}{xs:List V}(h:AtB b H a xs):SqB b K H a xs:=by
 cases b with
 |true=>exact .inl (.inl h)
 |false=>exact .inl h
theorem AtB.mono{b:Bool}{ι c:List Addr}{H H':Hp}{a:Addr}{xs:List V}(h:AtB b H a xs)(n:a∉ι)(s:Stp ι H c H'):AtB b H' a xs:=by
 cases b with
 |true=>exact s.keep _ _ h n trivial
 |false=>exact(s.rd h n).1
theorem qj5{ι:List Addr}{H:Hp}{K:PySem.W.Frag}{b c:Bool}{l m:Addr}{xs ys:List V}{ds es:List D}(r:l∉ι)(nm:m∉ι)(w:AtB b H l xs)(y:AtB c H m ys)(A:Dens ι H ds xs)(B:Dens ι H es ys):ItOk ι H (ItZ K b c l m) ((ds.zip es).map λp=>.tup [p.1,p.2]) where
 go:=λi d a H2 s e=>by
  rw[wb]at e
  cases z:(ds.zip es)[i]? with
  |none=>rw[z]at e;cases e
  |some p =>
   rw[z]at e;cases e
   obtain⟨e1,F⟩:=List.getElem?_zip_eq_some.mp z
   obtain⟨u,C,I⟩:=(Dens.mono s ds A).get e1
   obtain⟨v,E,J⟩:=(Dens.mono s es B).get F
   have f:=(w.mono r s).sq (K:=K)
   have h:=(y.mono nm s).sq (K:=K)
   refine⟨⟨xs,ys,u,v,f,h,C,E⟩,λx H3 L=>?_⟩
   obtain⟨q,M,N,rfl,o,rfl,j,n⟩:=L
   have j:=j xs f
   have n:=n ys h
   rw[C]at j;cases j
   rw[E]at n;cases n
   have g:=Stp.laid (ι:=a) o (.tup [u,v])
   exact⟨g,λS st=>⟨st.laid o _,q,[u,v],rfl,st.fresh o,qv,u,[v],rfl,Den.mono g _ I,v,[],rfl,Den.mono g _ J,rfl⟩⟩
 stop:=λa H2 s=>by
  refine⟨xs,ys,(w.mono r s).sq,(y.mono nm s).sq,?_⟩
  rw[wG,List.length_zip,A.length,B.length]
  lia
theorem qlL(N l m:Nat)(a:l<N)(b:m<N):ZA (N+4) (N+2) (N+3) N (N+1) l m :=
 ⟨(by lia:N+2≠N+4),(by lia:N+3≠N+4),(by lia:N≠N+4),(by lia:N+1≠N+4),(by lia:N+2≠N+3),(by lia:N+2≠N),(by lia:N+2≠N+1),(by lia:N+3≠N),(by lia:N+3≠N+1),(by lia:N≠N+1),
  (by lia:l≠N+4),(by lia:l≠N+3),(by lia:l≠N),(by lia:l≠N+1),(by lia:m≠N+4),(by lia:m≠N+3),(by lia:m≠N),(by lia:m≠N+1)⟩
theorem qfT:bootBuiltins "zip"=some (.type "zip"):=by decide +kernel
theorem qlM{es:List Expr}{n:Nat}{tp:Pos}{e1 j:Expr}{p:Pos}{m1 m2:En->Sr->Res D}(hg:Gl X "zip")(hm:X.mg "zip"=none)(h1:PE X e1 (T m1))(h2:PE X j (T m2))(M:starEach [e1,j] X.env=(false,eval e1 X.env)::starEach [j] X.env)(u:starEach [j] X.env=(false,eval j X.env)::starEach [] X.env):
  PI X (.Tuple es n tp) (.Call (.Name "zip" p) [e1,j] [] pos) (TIt λρ S=>(m1 ρ S).bind λx S1=>(m2 ρ S1).bind λy S2=>match walkF x,walkF y with
   |some l,some m=>.ok ((l.zip m).map λp=>.tup [p.1,p.2]) S2
   |_,_=>.no):=by
 intro pins s C H R I hw
 obtain⟨ι,S,ρ,O,st,q⟩:=hw
 dsimp only at q
 cases z1:m1 ρ S with
 |no=>rw[z1]at q;exact q.elim
 |err=>rw[z1]at q;exact q.elim
 |ok x S1 =>
  rw[z1,Res.bind_ok]at q
  cases z2:m2 ρ S1 with
  |no=>rw[z2]at q;exact q.elim
  |err=>rw[z2]at q;exact q.elim
  |ok y S2 =>
   rw[z2,Res.bind_ok]at q
   cases z3:walkF x with
   |none=>simp only[z3]at q
   |some l =>
    cases z4:walkF y with
    |none=>simp only[z3,z4]at q
    |some m =>
     simp only[z3,z4]at q
     refine Call_ (z9 I hg hm qfT (v9 (e:=e1) (rest:=[j]) ?_ M (by rw[u];rfl)))
     rw[M,u]
     refine vU (thn (h1 pins s C H (λv i=>∃d,Stp ι H d i/\Sto d i S1/\Den d i x v) I ⟨ι,S,ρ,O,st,by rw[z1];exact λv d i a b c=>⟨d,a,b,c⟩⟩) λu1 s1 ⟨v1,i,I1,r1,d,q1,E,d1⟩=>?_)
     refine vU (thn (h2 pins s1 C i (λv H2=>∃f,Stp d i f H2/\Sto f H2 S2/\Den f H2 y v) I1 ⟨d,S1,ρ,O.mono q1,E,by rw[z2];exact λv d i a b c=>⟨d,a,b,c⟩⟩) λu2 s2 ⟨v2,H2,A,r2,f,q2,F,d2⟩=>uI ?_)
     obtain⟨b,J,xs,rfl,nl,dl,P⟩:=qaJ z3 (Den.mono q2 x d1)
     obtain⟨c,L,ys,rfl,nm,dm,Q⟩:=qaJ z4 d2
     cases r1
     cases r2
     obtain⟨its,rx,U⟩:=jg A (AtB.sq P)
     obtain⟨a0,ry,W⟩:=jg A (AtB.sq Q)
     have lt:∀{b:Bool} {a:Addr} {w:Array Value},SQ b s2.heap a w->a<s2.heap.objs.size:=λ{b a w} h=>by
      cases b with
      |true=>obtain⟨o,e,_⟩:=h;exact wJ e
      |false=>obtain⟨o,e,_⟩:=h;exact wJ e
     have Y:=lt U
     have Z:=lt W
     refine qfR U W λh' r kp=>wpAny_pyIter_zip r.z ?_
     have I3:Inv X pins C H2 {s2 with heap:=h' }:=A.kept (t':=s2.toks) kp
     generalize hN:s2.heap.objs.size=N at Y Z r
     have D:ZA (N+4) (N+2) (N+3) N (N+1) J L:=qlL N J L Y Z
     refine⟨N+4,[N+4,N+2,N+3,N,N+1],_,ItZ X.K b c J L,H2,rfl,I3,qfS D,⟨r.z,r.ti,r.to',r.i1,r.i2⟩,λa ha=>?_,q f H2 _ (q1.trans q2) F (qj5 nl nm P Q dl dm)⟩
     have B:s2.heap.objs.size<=a:=by
      rw[hN]
      simp only[wR,vr,or_false]at ha
      rcases ha with rfl|rfl|rfl|rfl|rfl
      .exact xC _ _
      .exact xC _ _
      .exact xC _ _
      .exact wK _
      .exact xC _ _
     exact A.fpOk B (A.hok.fresh B)
end
end R
namespace R
open PySem PySem.Spec L2 SeqAt
open PyProof.Rows hiding St
open PySem.W (KasT kas_rev kas_asc kas_desc kas_tail3 kas_descPart kas_count kas_place kas_bin kas_sort)
noncomputable def evT{b:Type}(lt:Nat->Nat->Bool):KasT b->b
 | .ret a=>a
 | .ask i j k=>evT lt (k (lt i j))
theorem zL{a b:Type}(lt:Nat->Nat->Bool)(f:a->KasT b):∀t:KasT a,evT lt (t.bind f)=evT lt (f (evT lt t))
 | .ret _=>rfl
 | .ask i j k=>zL lt f (k (lt i j))
structure Ord (lt:Nat->Nat->Bool) (n:Nat):Prop where
 irr:∀a,a<n->lt a a=false
 tr:∀a b c,a<n->b<n->c<n->lt a b=true->lt b c=true->lt a c=true
 tot:∀a b,a<n->b<n->a≠b->lt a b=true\/lt b a=true
noncomputable def gt(p:Array Nat)(k:Nat):Nat:=p.getD k 0
def Pm(n:Nat)(p:Array Nat):Prop:=p.toList.Perm (List.range n)
section
variable{lt:Nat->Nat->Bool}{n:Nat}{p:Array Nat}
theorem Pm.size(h:Pm n p):p.size=n:=by
 have:=h.length_eq
 simpa using this
theorem qbZ{k:Nat}(a:k<p.size):gt p k=p[k]:=by simp[gt,Array.getD,a]
theorem yT{q:Array Nat}{k j:Nat}(h:q[k]?=p[j]?):gt q k=gt p j:=by
 unfold gt
 rw[Array.getD_eq_getD_getElem?,Array.getD_eq_getD_getElem?,h]
theorem Pm.bd(h:Pm n p){k:Nat}(a:k<n):gt p k<n:=by
 have b:k<p.size:=by rw[h.size];exact a
 rw[qbZ b]
 have hm:p[k]∈p.toList:=by simp
 exact vg.mp (h.mem_iff.mp hm)
theorem Pm.inj(h:Pm n p){i j:Nat}(hi:i<n)(c:j<n)(e:gt p i=gt p j):i=j:=by
 have nd:p.toList.Nodup:=h.nodup_iff.mpr List.nodup_range
 have a:i<p.size:=by rw[h.size];exact hi
 have b:j<p.size:=by rw[h.size];exact c
 rw[qbZ a,qbZ b]at e
 have d:p.toList[i]'(by simpa using a)=p.toList[j]'(by simpa using b):=by simpa using e
 exact(xD nd).mp d
def Srt(lt:Nat->Nat->Bool)(p:Array Nat)(m:Nat):Prop:=∀i j,i<j->j<m->lt (gt p i) (gt p j)=true
theorem Srt.one:Srt lt p 1:=λi j a b=>by lia
theorem Srt.snoc(O:Ord lt n)(h:Pm n p){m:Nat}(hm:1<=m)(hn:m<n)(s:Srt lt p m)(q:lt (gt p (m-1)) (gt p m)=true):Srt lt p (m+1):=λi j a c=>by
 by_cases b:j<m
 .exact s i j a b
 .have e:j=m:=by lia
  subst e
  by_cases hi:i=j-1
  .subst hi;exact q
  .exact O.tr _ _ _ (h.bd (by lia)) (h.bd (by lia)) (h.bd hn) (s i (j-1) (by lia) (by lia)) q
theorem qba(O:Ord lt n)(h:Pm n p):∀(f k:Nat),1<=k->k+f=n->Srt lt p k->(k<=evT lt (kas_asc p f k)/\evT lt (kas_asc p f k)<=n/\Srt lt p (evT lt (kas_asc p f k)))/\(evT lt (kas_asc p f k)<n->lt (gt p (evT lt (kas_asc p f k))) (gt p (evT lt (kas_asc p f k)-1))=true)
 |0,k,h1,h2,s=>⟨⟨wK _,by show k<=n;lia,s⟩,λq=>by have j:k<n:=q;lia⟩
 |f+1,k,h1,h2,s=>by
  unfold kas_asc
  simp only[evT]
  cases z:lt (p.getD k 0) (p.getD (k-1) 0)with
  |true =>
   rw[wM rfl]
   exact⟨⟨wK _,by show k<=n;lia,s⟩,λ_=>z⟩
  |false =>
   rw[wO (by decide)]
   have a:gt p k≠gt p (k-1):=λe=>by
    have:=h.inj (by lia) (by lia) e
    lia
   have q:lt (gt p (k-1)) (gt p k)=true:=by
    rcases O.tot _ _ (h.bd (show k<n by lia)) (h.bd (show k-1<n by lia)) a with y|y
    .have b:lt (gt p k) (gt p (k-1))=false:=z
     rw[b]at y;cases y
    .exact y
   obtain⟨⟨l,c,d⟩,i⟩:=qba O h f (k+1) (by lia) (by lia) (s.snoc O h h1 (by lia) q)
   exact⟨⟨by lia,c,d⟩,i⟩
def Fal(lt:Nat->Nat->Bool)(p:Array Nat)(m:Nat):Prop:=∀i j,i<j->j<m->lt (gt p j) (gt p i)=true
theorem Fal.snoc(O:Ord lt n)(h:Pm n p){m:Nat}(hm:1<=m)(hn:m<n)(s:Fal lt p m)(q:lt (gt p m) (gt p (m-1))=true):Fal lt p (m+1):=λi j a c=>by
 by_cases b:j<m
 .exact s i j a b
 .have e:j=m:=by lia
  subst e
  by_cases hi:i=j-1
  .subst hi;exact q
  .exact O.tr _ _ _ (h.bd hn) (h.bd (by lia)) (h.bd (by lia)) q (s i (j-1) (by lia) (by lia))
theorem qbb(O:Ord lt n)(h:Pm n p):∀(f k:Nat),1<=k->k+f=n->Fal lt p k->∃m,evT lt (kas_desc f p k 0)=(p,m,0)/\k<=m/\m<=n/\Fal lt p m
 |0,k,h1,h2,s=>⟨k,rfl,wK _,by lia,s⟩
 |f+1,k,h1,h2,s=>by
  unfold kas_desc
  simp only[evT]
  cases z:lt (p.getD k 0) (p.getD (k-1) 0)with
  |true =>
   rw[wM rfl,wO (by lia)]
   obtain⟨m,e,i,b,c⟩:=qbb O h f (k+1) (by lia) (by lia) (s.snoc O h h1 (by lia) z)
   exact⟨m,e,by lia,b,c⟩
  |false =>
   rw[wO (by decide)]
   simp only[evT]
   have a:gt p k≠gt p (k-1):=λe=>by
    have:=h.inj (by lia) (by lia) e
    lia
   have q:lt (p.getD (k-1) 0) (p.getD k 0)=true:=by
    rcases O.tot _ _ (h.bd (show k<n by lia)) (h.bd (show k-1<n by lia)) a with y|y
    .have d:lt (gt p k) (gt p (k-1))=false:=z
     rw[d]at y;cases y
    .exact y
   rw[q,wM rfl]
   exact⟨k,rfl,wK _,by lia,s⟩
theorem qfU(h:Pm n p)(i j:Nat):Pm n (kas_rev p i j):=(mirror_perm p i j _).toList.trans h
theorem qif(O:Ord lt n)(h:Pm n p){k:Nat}(b:1<=k)(c:k<=n)(s:Fal lt p k):∃m q,evT lt (kas_tail3 k n p)=(m,q)/\Pm n q/\1<=m/\m<=n/\Srt lt q m:=by
 have a:Pm n (kas_rev p 0 k):=qfU h 0 k
 have d:Srt lt (kas_rev p 0 k) k:=λi j v f=>by
  have e:∀x,x<k->gt (kas_rev p 0 k) x=gt p (k-1-x):=λx l=>by
   have:=getElem?_mirror_all (xs:=p) (i:=0) (j:=k) (by rw[h.size];exact c) x
   rw[wM ⟨wh _,l⟩]at this
   have q:=yT this
   have o:0+k-1-x=k-1-x:=by lia
   rw[o]at q
   exact q
  rw[e i (by lia),e j f]
  exact s (k-1-j) (k-1-i) (by lia) (by lia)
 unfold kas_tail3
 rw[zL]
 obtain⟨⟨w,r,u⟩,_⟩:=qba O a (n-k) k b (by lia) d
 exact⟨_,_,rfl,a,by lia,r,u⟩
theorem qb0(O:Ord lt n)(hn:1<=n)(h:Pm n p):∃m q,evT lt (kas_count n p)=(m,q)/\Pm n q/\1<=m/\m<=n/\Srt lt q m:=by
 unfold kas_count
 rw[zL]
 obtain⟨⟨c,d,a⟩,f⟩:=qba O h (n-1) 1 (wK _) (by lia) Srt.one
 generalize evT lt (kas_asc p (n-1) 1)=m at *
 by_cases e:m=n
 .subst e
  rw[wM (by simp)]
  exact⟨m,p,rfl,h,c,d,a⟩
 .rw [wO (by simpa using e)]
  by_cases b:m>1
  .rw [wM b]
   simp only[evT]
   have q:lt (p.getD 0 0) (p.getD (m-1) 0)=true:=a 0 (m-1) (by lia) (by lia)
   rw[q,wM rfl]
   exact⟨m,p,rfl,h,c,d,a⟩
  .rw [wO b]
   have e1:m=1:=by lia
   subst e1
   have q:=f (by lia)
   unfold kas_descPart
   rw[zL]
   have l:Fal lt p 2:=Fal.snoc (m:=1) O h (wK _) (by lia) (λi j b r=>by lia) q
   obtain⟨k,e,b1,b2,o⟩:=qbb O h (n-(1+1)) (1+1) (by lia) (by lia) l
   rw[e]
   rw[wO (by simp)]
   exact qif (k:=k) O h (by lia) b2 o
theorem jW(O:Ord lt n)(h:Pm n p){k:Nat}(c:k<n)(s:Srt lt p k):∀(f l r:Nat),l<=r->r<=k->r-l<=f->(∀i,i<l->lt (gt p i) (gt p k)=true)->(∀i,r<=i->i<k->lt (gt p k) (gt p i)=true) ->
  evT lt (kas_place p k f l r)<=k/\(∀i,i<evT lt (kas_place p k f l r)->lt (gt p i) (gt p k)=true)/\∀i,evT lt (kas_place p k f l r)<=i->i<k->lt (gt p k) (gt p i)=true
 |0,l,r,h1,h2,h3,a,b=>⟨by show l<=k;lia,a,λi d j=>b i (by have m:l<=i:=d;lia) j⟩
 |f+1,l,r,h1,h2,h3,a,b=>by
  unfold kas_place
  by_cases u:l>=r
  .rw [wM u]
   exact⟨by show l<=k;lia,a,λi d j=>b i (by have m:l<=i:=d;lia) j⟩
  .rw [wO u]
   simp only[evT]
   have hm:(l+r) / 2<k:=by lia
   cases z:lt (p.getD k 0) (p.getD ((l+r) / 2) 0)with
   |true =>
    rw[wM rfl]
    refine jW O h c s f l ((l+r) / 2) (by lia) (by lia) (by lia) a λi d j=>?_
    by_cases e:i=(l+r) / 2
    .subst e;exact z
    .exact O.tr _ _ _ (h.bd c) (h.bd (by lia)) (h.bd (by lia)) z (s ((l+r) / 2) i (by lia) j)
   |false =>
    rw[wO (by decide)]
    have o:gt p k≠gt p ((l+r) / 2):=λe=>by
     have:=h.inj c (by lia) e
     lia
    have q:lt (gt p ((l+r) / 2)) (gt p k)=true:=by
     rcases O.tot _ _ (h.bd c) (h.bd (show(l+r) / 2<n by lia)) o with y|y
     .have v:lt (gt p k) (gt p ((l+r) / 2))=false:=z
      rw[v]at y;cases y
     .exact y
    refine jW O h c s f ((l+r) / 2+1) r (by lia) h2 (by lia) (λi d=>?_) b
    by_cases e:i=(l+r) / 2
    .subst e;exact q
    .exact O.tr _ _ _ (h.bd (by lia)) (h.bd (by lia)) (h.bd c) (s i ((l+r) / 2) (by lia) hm) q
theorem qfV(O:Ord lt n):∀(f k:Nat) (p:Array Nat),Pm n p->k+f=n->Srt lt p k->Pm n (evT lt (kas_bin f p k))/\Srt lt (evT lt (kas_bin f p k)) n
 |0,k,p,h,h1,s=>by
  have e:k=n:=by lia
  subst e
  exact⟨h,s⟩
 |f+1,k,p,h,h1,s=>by
  unfold kas_bin
  rw[zL]
  obtain⟨u,d,m⟩:=jW O h (k:=k) (by lia) s k 0 k (wh _) (wK _) (by lia) (λi hi=>by lia) λi a o=>by lia
  generalize evT lt (kas_place p k k 0 k)=l at *
  have q:Pm n (bubble p k (k-l)):=(bubble_perm p k (k-l)).toList.trans h
  refine qfV O f (k+1) _ q (by lia) λi j a o=>?_
  have ev:∀x,gt (bubble p k (k-l)) x=if x=l then gt p k else if l<x/\x<=k then gt p (x-1)else gt p x:=λx=>by
   have e:=getElem?_bubble (xs:=p) (src:=k) (by rw[h.size];lia) (k-l) (by lia) x
   have r:k-(k-l)=l:=by lia
   rw[r]at e
   by_cases q1:x=l
   .rw [wM q1]at e ⊢;exact yT e
   .rw [wO q1]at e ⊢
    by_cases q2:l<x/\x<=k
    .rw [wM q2]at e ⊢;exact yT e
    .rw [wO q2]at e ⊢;exact yT e
  rw[ev i,ev j]
  by_cases i1:i=l
  .rw [wM i1,wO (by lia),wM ⟨by lia,by lia⟩]
   exact m (j-1) (by lia) (by lia)
  .rw [wO i1]
   by_cases b:j=l
   .rw [wM b,wO (by lia)]
    exact d i (by lia)
   .rw [wO b]
    by_cases i2:l<i/\i<=k
    .rw [wM i2,wM ⟨by lia,by lia⟩]
     exact s (i-1) (j-1) (by lia) (by lia)
    .rw [wO i2]
     by_cases c:l<j/\j<=k
     .rw [wM c]
      exact s i (j-1) (by lia) (by lia)
     .rw [wO c]
      exact s i j a (by lia)
theorem qbc(O:Ord lt n)(hn:1<=n):Pm n (evT lt (kas_sort n))/\Srt lt (evT lt (kas_sort n)) n:=by
 unfold kas_sort
 rw[zL]
 have h0:Pm n (List.toArray (List.range n)):=by
  show(List.toArray (List.range n)).toList.Perm _
  simp
 obtain⟨m,q,e,b,d,f,c⟩:=qb0 O hn h0
 rw[e]
 by_cases hm:m<n
 .rw [wM hm]
  have a:max m 1=m:=by lia
  show Pm n (evT lt (kas_bin (n-max m 1) q (max m 1)))/\_
  rw[a]
  exact qfV O (n-m) m q b (by lia) c
 .rw [wO hm]
  have a:m=n:=by lia
  subst a
  exact⟨b,c⟩
end
end R
namespace R
open PySem PySem.Spec L2 SeqAt
open PyProof.Rows hiding St
open PySem.W (KasT kas_rev kas_asc kas_desc kas_tail3 kas_descPart kas_count kas_place kas_bin kas_sort kas_cmp kas_item kas_item_eq kas_runs kas_st kas_range KatLex kat_lt KatTups kat_kind)
def InT{a:Type}(lt:Nat->Nat->Bool)(n:Nat):KasT a->Prop
 | .ret _=>True
 | .ask i j k=>i<n/\j<n/\InT lt n (k (lt i j))
section
variable{lt:Nat->Nat->Bool}{n:Nat}{p:Array Nat}
theorem zM{a b:Type}{f:a->KasT b}:∀{t:KasT a},InT lt n t->InT lt n (f (evT lt t))->InT lt n (t.bind f)
 | .ret _,_,h=>h
 | .ask i j k,h,h'=>⟨h.1,h.2.1,zM h.2.2 h'⟩
theorem qcR(h:Pm n p):∀(f k:Nat),1<=k->k+f=n->InT lt n (kas_asc p f k)
 |0,_,_,_=>trivial
 |f+1,k,h1,h2=>by
  refine⟨h.bd (show k<n by lia),h.bd (show k-1<n by lia),?_⟩
  dsimp only
  split
  .trivial
  .exact qcR h f (k+1) (by lia) (by lia)
theorem qdu(O:Ord lt n)(h:Pm n p):∀(f k:Nat),1<=k->k+f=n->InT lt n (kas_desc f p k 0)
 |0,_,_,_=>trivial
 |f+1,k,h1,h2=>by
  refine⟨h.bd (show k<n by lia),h.bd (show k-1<n by lia),?_⟩
  cases z:lt (p.getD k 0) (p.getD (k-1) 0)with
  |true =>
   dsimp only
   rw[wM rfl,wO (by lia)]
   exact qdu O h f (k+1) (by lia) (by lia)
  |false =>
   dsimp only
   rw[wO (by decide)]
   refine⟨h.bd (show k-1<n by lia),h.bd (show k<n by lia),?_⟩
   have a:gt p k≠gt p (k-1):=λe=>by
    have:=h.inj (by lia) (by lia) e
    lia
   have q:lt (p.getD (k-1) 0) (p.getD k 0)=true:=by
    rcases O.tot _ _ (h.bd (show k<n by lia)) (h.bd (show k-1<n by lia)) a with y|y
    .have b:lt (gt p k) (gt p (k-1))=false:=z
     rw[b]at y;cases y
    .exact y
   rw[q]
   dsimp only
   rw[wM rfl]
   trivial
theorem qig(h:Pm n p){k:Nat}(a:1<=k)(b:k<=n):InT lt n (kas_tail3 k n p):=zM (qcR (qfU h 0 k) (n-k) k a (by lia)) trivial
theorem qfW(O:Ord lt n)(hn:1<=n)(h:Pm n p):InT lt n (kas_count n p):=by
 unfold kas_count
 obtain⟨⟨f,l,b⟩,c⟩:=qba O h (n-1) 1 (wK _) (by lia) Srt.one
 refine zM (qcR h (n-1) 1 (wK _) (by lia)) ?_
 generalize evT lt (kas_asc p (n-1) 1)=m at *
 by_cases e:m=n
 .subst e;rw[wM (by simp)];trivial
 .rw [wO (by simpa using e)]
  by_cases a:m>1
  .rw [wM a]
   refine⟨h.bd (show 0<n by lia),h.bd (show m-1<n by lia),?_⟩
   have q:lt (p.getD 0 0) (p.getD (m-1) 0)=true:=b 0 (m-1) (by lia) (by lia)
   rw[q]
   dsimp only
   rw[wM rfl];trivial
  .rw [wO a]
   have e1:m=1:=by lia
   subst e1
   have q:=c (by lia)
   unfold kas_descPart
   have d:Fal lt p 2:=Fal.snoc (m:=1) O h (wK _) (by lia) (λi j a o=>by lia) q
   obtain⟨k,e,b1,b2,r⟩:=qbb O h (n-(1+1)) (1+1) (by lia) (by lia) d
   refine zM (qdu O h (n-(1+1)) (1+1) (by lia) (by lia)) ?_
   rw[e,wO (by simp)]
   exact qig (k:=k) h (by lia) b2
theorem jX(h:Pm n p){k:Nat}(a:k<n):∀(f l r:Nat),r<=k->InT lt n (kas_place p k f l r)
 |0,_,_,_=>trivial
 |f+1,l,r,h2=>by
  unfold kas_place
  by_cases b:l>=r
  .rw [wM b];trivial
  .rw [wO b]
   refine⟨h.bd a,h.bd (show(l+r) / 2<n by lia),?_⟩
   dsimp only
   split
   .exact jX h a f l _ (by lia)
   .exact jX h a f _ r h2
theorem qfX(O:Ord lt n):∀(f k:Nat) (p:Array Nat),Pm n p->k+f=n->InT lt n (kas_bin f p k)
 |0,_,_,_,_=>trivial
 |f+1,k,p,h,h1=>zM (jX h (by lia) k 0 k (wK _)) (qfX O f (k+1) _ ((bubble_perm p k _).toList.trans h) (by lia))
theorem qih(O:Ord lt n)(hn:1<=n):InT lt n (kas_sort n):=by
 have h0:Pm n (List.toArray (List.range n)):=by
  show(List.toArray (List.range n)).toList.Perm _
  simp
 obtain⟨m,q,e,a,c,d,f⟩:=qb0 O hn h0
 refine zM (qfW O hn h0) ?_
 rw[e]
 by_cases hm:m<n
 .rw [wM hm]
  have b:max m 1=m:=by lia
  show InT lt n (kas_bin (n-max m 1) q (max m 1))
  rw[b]
  exact qfX O (n-m) m q a (by lia)
 .rw [wO hm];trivial
theorem qdv{a:Type}{cmp:Nat->Nat->(Bool->Shared->Prop)->Shared->Prop}{s:Shared}(b:∀i j C,i<n->j<n->C (lt i j) s->cmp i j C s){Q:a->Shared->Prop}:∀{t:KasT a},InT lt n t->Q (evT lt t) s->t.kasWp cmp Q s
 | .ret _,_,h=>h
 | .ask i j k,h,q=>b i j _ h.1 h.2.1 (qdv b h.2.2 q)
end
section
variable{prog:Program}{w:World}{A:Around}{E:Value->Shared->Prop}{s:Shared}
theorem qj6{b:Bool}{x y:Int}{t u:Tok}{Q:Bool->Shared->Prop}(h:Q (decide (x<y)) s):wpAny (model prog w) A (oneLt' b (.int x t) (.int y u)) Q E s:=by
 cases b with
 |true=>exact oneLt_int h
 |false=>exact PySem.W.kat_one _ _ (PySem.P.lt_int h)
theorem qfY{b:Bool}{Q:Bool->Shared->Prop}:∀{xs ys:List Int} {us vs:List Value} {i:Nat},IntsAre us xs->IntsAre vs ys->Q (HT.lexLt xs ys) s->KatLex prog w A b (decide (xs.length<ys.length)) Q (us.zip vs) i s:=by
 intro xs
 induction xs with
 |nil =>
  intro ys us vs i a c h
  cases a
  cases c with
  |nil=>exact h
  |cons =>
   show Q _ s
   simpa[HT.lexLt]using h
 |cons x xs d =>
  intro ys us vs i a c h
  cases a with
  |cons _ t rx =>
  cases c with
  |nil =>
   show Q _ s
   simpa[HT.lexLt]using h
  |cons _ u f =>
  refine wpAny_eqBool_int ?_
  rw[HT.za]at h
  split at h
  .rename_i e
   subst e
   rw[wM (by simp)]
   have:=d (i:=i+1) rx f h
   simpa[List.zip]using this
  .rename_i e
   rw[wO (by simpa using e)]
   exact qj6 h
noncomputable def TupsAt(h:Heap):List Value->List (List Int)->Prop
 |[],ks=>ks=[]
 |v::vs,ks=>∃a its k r,v=.ref a/\ks=k::r/\IsTup h a its.toArray/\IntsAre its k/\TupsAt h vs r
theorem TupsAt.len{h:Heap}:∀{vs:List Value} {ks:List (List Int)},TupsAt h vs ks->vs.length=ks.length
 |[],_,e=>by cases (show _=[]from e);rfl
 |_::_,_,e=>by obtain⟨a,its,k,r,_,rfl,_,_,t⟩:=e;simp[TupsAt.len t]
theorem TupsAt.get{h:Heap}:∀{vs:List Value} {ks:List (List Int)} (i:Nat),TupsAt h vs ks->i<ks.length->∃a its,vs.getD i .none=.ref a/\IsTup h a its.toArray/\IntsAre its (ks.getD i [])
 |[],_,_,e,hi=>by cases (show _=[]from e);simp at hi
 |_::vs,_,0,e,hi=>by obtain⟨a,its,k,r,rfl,rfl,b,c,_⟩:=e;exact⟨a,its,rfl,b,by simpa using c⟩
 |_::vs,_,i+1,e,hi=>by
  obtain⟨a,its,k,r,rfl,rfl,b,c,t⟩:=e
  obtain⟨d,its',e1,f,j⟩:=TupsAt.get i t (by simpa using hi)
  exact⟨d,its',by simpa using e1,f,by simpa using j⟩
theorem TupsAt.keep{h h':Heap}:∀{vs:List Value} {ks:List (List Int)},TupsAt h vs ks->(∀a o,Value.ref a∈vs->h.get? a=some o->h'.get? a=some o)->TupsAt h' vs ks
 |[],_,e,_=>e
 |_::_,_,e,hk=>by
  obtain⟨a,its,k,r,rfl,rfl,⟨o,d,c⟩,f,t⟩:=e
  exact⟨a,its,k,r,rfl,rfl,⟨o,hk a o wE d,c⟩,f,t.keep λb u i=>hk b u (wH _ i)⟩
theorem TupsAt.firsts{h:Heap}:∀{vs:List Value} {ks:List (List Int)},TupsAt h vs ks->(∀k∈ks,k≠[])->∃fs:List Value,KatTups h vs fs/\fs.length=vs.length/\∀f∈fs,∃x t,f=.int x t
 |[],_,e,_=>⟨[],trivial,rfl,λf b=>by cases b⟩
 |_::_,_,e,hn=>by
  obtain⟨a,its,k,r,rfl,rfl,⟨o,j,c,m,d⟩,i,t⟩:=e
  obtain⟨fs,l,n,p⟩:=t.firsts λk q=>hn k (wH _ q)
  cases i with
  |nil=>exact absurd rfl (hn [] wE)
  |cons x tx i =>
   refine⟨.int x tx::fs,⟨⟨a,o,_,m,rfl,j,c,d,by simp⟩,l⟩,by simp[n],λf b=>?_⟩
   rcases wR.mp b with z|z
   .exact ⟨x,tx,z⟩
   .exact p f z
noncomputable def ltK(ks:List (List Int))(i j:Nat):Bool:=HT.lexLt (ks.getD i []) (ks.getD j [])
theorem qii{vs:List Value}{ks:List (List Int)}(t:TupsAt s.heap vs ks){i j:Nat}(hi:i<ks.length)(f:j<ks.length){C:Bool->Shared->Prop}(h:C (ltK ks i j) s):kas_cmp prog w A (tuples' true) (pairsOf vs) i j C s:=by
 unfold kas_cmp
 rw[kas_item_eq,kas_item_eq]
 obtain⟨a,xs,e1,⟨o,l,_,m,d⟩,c⟩:=t.get i hi
 obtain⟨b,ys,n,⟨u,eu,_,r,d'⟩,e⟩:=t.get j f
 dsimp only
 rw[e1,n]
 have:=qfY (prog:=prog) (w:=w) (A:=A) (s:=s) (b:=true) (i:=0) (Q:=C) c e h
 refine kat_lt l d eu d' ?_
 have p:=c.length
 have q:=e.length
 simpa[p,q]using this
theorem qfZ{vs:List Value}{ks:List (List Int)}(t:TupsAt s.heap vs ks)(hn:∀k∈ks,k≠[])(d:2<=vs.length){Q:SortKind->Shared->Prop}(h:Q (tuples' true) s):wpAny (model prog w) A (keyKind' vs.toArray) Q E s:=by
 obtain⟨fs,a,e,b⟩:=t.firsts hn
 refine kat_kind (T:=Value.type "int") a (by lia) (λv c=>?_) (by decide) h
 obtain⟨x,tx,rfl⟩:=b v c
 exact .now
end
end R
namespace R
open PySem PySem.Spec L2 SeqAt
open PyProof.Rows hiding St
open PySem.W (KasT kas_sort kas_cmp kas_item kas_item_eq kas_runs kas_st kas_range KdlSrc kdl_extend kdl_hint_dict)
section
variable{prog:Program}{w:World}{A:Around}{E:Value->Shared->Prop}{s:Shared}
structure Answers (prog:Program) (w:World) (A:Around) (vs:List Value) (s:Shared) (κ:SortKind) (lt:Nat->Nat->Bool):Prop where
 kind:∀(E:Value->Shared->Prop) (Q:SortKind->Shared->Prop),Q κ s->wpAny (model prog w) A (keyKind' vs.toArray) Q E s
 ord:Ord lt vs.length
 cmp:∀i j C,i<vs.length->j<vs.length->C (lt i j) s->kas_cmp prog w A κ (pairsOf vs) i j C s
noncomputable def outOf(lt:Nat->Nat->Bool)(vs:List Value):List Value:=if vs.length<2 then vs else(evT lt (kas_sort vs.length)).toList.map λi=>vs.getD i Value.none
theorem lsort{D:Addr}{vs:List Value}{n:Nat}{κ:SortKind}{lt:Nat->Nat->Bool}{P:PySem.Fin->Shared->Prop}(r:s.heap.get? D=some (seqObj "list" vs.toArray n))(v:vs.length<64)(x:2<=vs.length->∀h':Heap,(∀b o,b≠D->s.heap.get? b=some o->h'.get? b=some o)->Answers prog w A vs {s with heap:=h' } κ lt)(h:∀(h':Heap) (c:Nat),(∀b o,b≠D->s.heap.get? b=some o->h'.get? b=some o)->h'.get? D=some (seqObj "list" (outOf lt vs).toArray c)->P (.done (.ret .none)) {s with heap:=h' }):
  wpAny (model prog w) A (Builtin.«list.sort» ⟨[.ref D],[]⟩) P E s:=by
 have L:D<s.heap.objs.size:=wJ r
 obtain⟨e1,B⟩:∃e1,(s.heap.update D (Obj.mapSeq λ_=>(#[]:Array Value))).get? D=some (seqObj "list" #[] e1):=⟨_,xG r λ_=>#[]⟩
 have y:∀b o,b≠D->s.heap.get? b=some o->(((s.heap.update D (Obj.mapSeq λ_=>(#[]:Array Value))).push (seqObj "tuple" vs.toArray 0)).push (seqObj "list" #[] 0)).get? b=some o:=λb o u e =>
  wB _ (wB _ ((wj _ _ (Ne.symm u)).trans e))
 have j:(((s.heap.update D (Obj.mapSeq λ_=>(#[]:Array Value))).push (seqObj "tuple" vs.toArray 0)).push (seqObj "list" #[] 0)).get? D=some (seqObj "list" #[] e1):=wB _ (wB _ B)
 rw[list_sort_plain]
 refine wA (listItems_at r rfl (wA (listUpdate_at r rfl (wA (seqEpoch_at B rfl (wA (wpAny_newTuple (wA (wpAny_newList (wv ?_) (wh _))) (by show vs.length<=_;rw[vL];lia)))))
  (by rw[wL,vL];lia) (wh _))))
 generalize M:((s.heap.update D (Obj.mapSeq λ_=>(#[]:Array Value))).push (seqObj "tuple" vs.toArray 0)).push (seqObj "list" #[] 0)=h3 at y j
 show wpAny (model prog w) A _ P E {s with heap:=h3}
 dsimp only
 have fin:∀(xs:Array Value),xs=(outOf lt vs).toArray->P (.done (.ret .none)) {s with heap:=h3.update D (Obj.mapSeq λ_=>xs)}:=λxs ex=>by
  subst ex
  exact h _ _ (λb o u e=>(wj _ _ (Ne.symm u)).trans (y b o u e)) (xG j λ_=>(outOf lt vs).toArray)
 by_cases l:vs.toArray.size<2
 .have f:vs.length<2:=by simpa using l
  rw[wM l,wM l]
  refine wA (wD ?_)
  rw[StateT.run_pure]
  refine wA (wD (?_:wpAny _ A _ _ _ _))
  dsimp only
  refine wA (seqEpoch_at j rfl (wA (listUpdate_at j rfl ?_ (wh _) (by rw[Array.size_map];show(pairsOf vs).size<=_;rw[pairsOf_size,vL];lia))))
  simp only[bne_self_eq_false,vV,uN]
  refine wD (fin _ ?_)
  unfold outOf
  rw[wM f]
  apply Array.toList_inj.mp
  show((vs.toArray.zip vs.toArray).map (·.2)).toList=_
  simp[List.map_snd_zip]
 .have f:2<=vs.length:=by
   have:¬vs.length<2:=by simpa using l
   lia
  have a:=x f h3 y
  rw[wO l,wO l]
  refine wA (a.kind _ _ ?_)
  have z:SortSt.mk' κ (vs.toArray.zip vs.toArray) #[] 7 none=kas_st κ (pairsOf vs) (List.toArray (List.range vs.length)):=by
   have e:=kas_range (pairsOf vs)
   rw[pairsOf_size]at e
   show SortSt.mk' κ (pairsOf vs) #[] 7 none=SortSt.mk' κ ((List.toArray (List.range vs.length)).map (kas_item (pairsOf vs))) #[] 7 none
   rw[e]
  have run:=kas_runs (prog:=prog) (w:=w) (A:=A) (E:=E) (κ:=κ) (it:=pairsOf vs) (s:={s with heap:=h3}) (Q:=λ_ d s'=>s'={s with heap:=h3}/\failedOf d=none/\∃p:Array Nat,p=evT lt (kas_sort vs.length)/\p.size=vs.length/\arrOf d=p.map (kas_item (pairsOf vs)))
   (G:=λp s'=>s'={s with heap:=h3}/\p=evT lt (kas_sort vs.length)) f v (λF d s' b1 b2 H C=>⟨C.1,H,F,C.2,b1,b2⟩) (qdv a.cmp (qih a.ord (by lia)) ⟨rfl,rfl⟩)
  rw[<-z]at run
  refine wA (vQ run ?_ λ_ _ e=>e)
  rintro⟨⟨⟩,d⟩ s' ⟨rfl,I,p,J,K,m⟩
  dsimp only
  have q:(arrOf d).map (·.2)=(outOf lt vs).toArray:=by
   unfold outOf
   rw[wO (by lia),<-J]
   apply Array.toList_inj.mp
   rw[m,Array.map_map,Array.toList_map]
   exact we λi _=>by show(kas_item (pairsOf vs) i).2=_;rw[kas_item_eq]
  have hsz:((arrOf d).map (·.2)).size=vs.length:=by rw[m,Array.map_map,Array.size_map,K]
  refine wA (seqEpoch_at j rfl (wA (listUpdate_at j rfl ?_ (wh _) (by show((arrOf d).map (·.2)).size<=_;rw[hsz,vL];lia))))
  rw[I]
  simp only[bne_self_eq_false,vV,uN]
  exact wD (fin _ q)
theorem qaK{x:Value}{vs:List Value}{κ:SortKind}{lt:Nat->Nat->Bool}{Q:Value->Shared->Prop}(d:vs.length<64)(f:∀(n:Value->Shared->Prop) (Q':List Value->Shared->Prop),(∀(h':Heap) (tk:Nat),s.heap.objs.size<=h'.objs.size->(∀b o,s.heap.get? b=some o->h'.get? b=some o)->Q' vs {s with heap:=h',toks:=tk})->wpAny (model prog w) A.in1 (collect x) Q' n s)(i:2<=vs.length->∀(h':Heap) (tk:Nat),(∀b o,s.heap.get? b=some o->h'.get? b=some o)->Answers prog w A.in1.in1 vs {s with heap:=h',toks:=tk} κ lt)(h:∀(h':Heap) (tk:Nat) (D:Addr) (c:Nat),s.heap.objs.size<=D->(∀b o,s.heap.get? b=some o->h'.get? b=some o)->h'.get? D=some (seqObj "list" (outOf lt vs).toArray c)->Q (.ref D) {s with heap:=h',toks:=tk}):
  wpAny (model prog w) A (call (.builtin "sorted") [x]) Q E s:=by
 refine Calls.call_function_entry kind_sorted plain_sorted entry_sorted (args_sorted1 _) ?_
 unfold Builtin.«sorted»
 refine wA (m:=checkCount "sorted" 1 1 _) (wD (wA (f _ _ λa tk sz j=>wA (wpAny_newList ?_ (by rw[vL];lia)))))
 have l:(a.push (seqObj "list" vs.toArray 0)).get? a.objs.size=some (seqObj "list" vs.toArray 0):=wF _ rfl
 have up:∀b o,s.heap.get? b=some o->(a.push (seqObj "list" vs.toArray 0)).get? b=some o:=λb o e=>wB _ (j b o e)
 have ne:∀b o,s.heap.get? b=some o->b≠a.objs.size:=λb o e=>wc (wJ (j b o e))
 show wpAny _ _ _ _ _ {s with heap:=a.push (seqObj "list" vs.toArray 0),toks:=tk}
 refine wA (wv (wz slot_list_sort ⟨_,l,rfl⟩ entry_list_sort ?_ (args_list_sort _)))
 refine lsort (κ:=κ) (lt:=lt) (s:={s with heap:=a.push (seqObj "list" vs.toArray 0),toks:=tk}) l d (λp h' kp=>i p h' tk λb o e=>kp b o (ne b o e) (up b o e)) λh' c kp q=>?_
 exact⟨_,rfl,wD ⟨_,rfl,h h' tk a.objs.size c sz (λb o e=>kp b o (ne b o e) (up b o e)) q⟩⟩
def EsAt(h:Heap)(d:Addr)(es:Array DictEntry)(a:Nat):Prop:=∃o,h.get? d=some o/\o.ExactDict/\o.data=.dict es a
theorem EsAt.at{h h':Heap}{d:Addr}{es:Array DictEntry}{a:Nat}(x:EsAt h d es a)(e:∀o,h.get? d=some o->h'.get? d=some o):EsAt h' d es a:=let ⟨o,b,r⟩:=x;⟨o,e o b,r⟩
theorem EsAt.typeIs{s:Shared}{d:Addr}{es:Array DictEntry}{a:Nat}(x:EsAt s.heap d es a):s.TypeIs (.ref d) "dict":=let ⟨o,b,c,_⟩:=x;⟨o,b,c.1⟩
theorem qeC{d:Addr}{es:Array DictEntry}{c:Nat}{Q:Value->Shared->Prop}(hd:(d == sysModules)=false)(hm:EsAt s.heap d es c)(f:Q (.ref s.heap.objs.size) {s with heap:=s.heap.push {cls:=.type "dict_keyiterator",data:=.fields #[.ref d,.int 0 0,.int es.size 0,.int c 0]}}):wpAny (model prog w) A (pyIter (.ref d)) Q E s:=by
 have b:=hm.typeIs
 obtain⟨o,e,h,a⟩:=hm
 refine wpAny_pyIter_slot b F.slot_dict_iter (wz F.slot_dict_iter b F.entry_dict_iter ?_ (F.args_dict_iter_1 _))
 unfold Builtin.«dict.__iter__»
 refine wA ?_
 unfold Builtin.Dict.dictSlotNone
 refine wA (wpAny_notOrdered_dict b (wD (?_:wpAny _ _ (Builtin.Dict.showsAll d >>= _) _ _ s)))
 unfold Builtin.Dict.showsAll
 rw[wO (by rw[hd];exact wU)]
 refine wA (wD (wA (uq e a (wA (wpAny_dictEpoch e a ?_)))))
 refine wA (w9 (wD ⟨_,rfl,"dict_keyiterator",_,⟨_,wF _ rfl,rfl⟩,v0.lookup,?_⟩))
 simpa[rawInt]using f
theorem qeD{it d:Addr}{i j:Nat}{es:Array DictEntry}{e:DictEntry}{Q:Option Value->Shared->Prop}(c:s.heap.IsKeyIter it d i es.size j)(hm:EsAt s.heap d es j)(m:es[i]?=some e)(n:∀h',h'.IsKeyIter it d (i+1) es.size j->Heap.SameBut it s.heap h'->Q (some e.key) {s with heap:=h' }):wpAny (model prog w) A (pyNext (.ref it)) Q E s:=by
 have b:=c.typeIs
 obtain⟨o,l,p,hd⟩:=c
 obtain⟨od,f,q,h⟩:=hm
 unfold pyNext
 refine wA (uQ (wq (name:=Str.ofString "__next__") b v0 (wz v0 b F.entry_dict_keyiterator_next ?_ (F.args_dict_keyiterator_next_1 _))))
 refine wA (wD (wA (wA ?_)))
 first|refine wA (vq b (wD (wA (xW l hd ?_))))|refine wA (uO b (wD (wA (xW l hd ?_))))
 have own:Builtin.Dict_items.ownsTuple "dict_keyiterator"=false:=by decide
 simp only[own,vV,uN]
 show wpAny _ _ (if(Value.ref d == Value.none)=true then _ else _) _ _ s
 rw[wO (show ¬((Value.ref d == Value.none)=true)from wU)]
 refine wA (wD (wA (uq f h ?_)))
 rw[wO (by simp)]
 refine wA (wD (wA (wpAny_dictEpoch f h ?_)))
 rw[wO (by simp)]
 refine wD ?_
 obtain⟨r,u⟩:=Array.getElem?_eq_some_iff.mp m
 simp only[show ¬((i:Int)<0)from by lia,uN,uv,m]
 refine wA ?_
 first|refine wA (vq b (wD ?_))|refine wA (uO b (wD ?_))
 refine wA (wpAny_isOneOf_keyiter b (?_:wpAny _ _ (setField (.ref it) 1 (rawInt ((i:Int)+1)) >>= _) _ _ s))
 refine wA (xV l hd (by simp) ?_)
 have a:(s.heap.update it (Obj.mapFields (·.setIfInBounds 1 (rawInt ((i:Int)+1))))).IsKeyIter it d (i+1) es.size j :=
  ⟨_,vD _ l (Obj.isFreed_of_fields (ui hd _)),(Obj.cls_mapFields ..).trans p,by rw[ui hd];simp[rawInt]⟩
 refine wA (wv (wA (wpAny_isOneOf_keyiter (s:={s with heap:=s.heap.update it (Obj.mapFields (·.setIfInBounds 1 (rawInt ((i:Int)+1))))}) a.typeIs (?_:wpAny _ _ (pure e.key) _ _ _))))
 exact wD (wD ⟨_,rfl,wD (n _ a (Heap.SameBut.update ..))⟩)
theorem qf0{it d:Addr}{i l:Nat}{es:Array DictEntry}{Q:Option Value->Shared->Prop}(n:A.handled=none)(e:s.heap.IsKeyIter it d i es.size l)(hm:EsAt s.heap d es l)(p:es[i]?=none)(q:∀h',Heap.ExtBut it s.heap h'->Q none {s with heap:=h' }):wpAny (model prog w) A (pyNext (.ref it)) Q E s:=by
 have c:=e.typeIs
 obtain⟨o,j,u,hd⟩:=e
 obtain⟨od,f,r,h⟩:=hm
 unfold pyNext
 refine wA (uQ (wq (name:=Str.ofString "__next__") c v0 (wz v0 c F.entry_dict_keyiterator_next ?_ (F.args_dict_keyiterator_next_1 _))))
 refine wA (wD (wA (wA ?_)))
 first|refine wA (vq c (wD (wA (xW j hd ?_))))|refine wA (uO c (wD (wA (xW j hd ?_))))
 have own:Builtin.Dict_items.ownsTuple "dict_keyiterator"=false:=by decide
 simp only[own,vV,uN]
 show wpAny _ _ (if(Value.ref d == Value.none)=true then _ else _) _ _ s
 rw[wO (show ¬((Value.ref d == Value.none)=true)from wU)]
 refine wA (wD (wA (uq f h ?_)))
 rw[wO (by simp)]
 refine wA (wD (wA (wpAny_dictEpoch f h ?_)))
 rw[wO (by simp)]
 refine wD ?_
 simp only[show ¬((i:Int)<0)from by lia,uN,uv,p]
 refine wA ?_
 first|refine wA (vq c (wD ?_))|refine wA (uO c (wD ?_))
 refine wA (m:=setField (.ref it) 0 .none) (xV j hd (by simp) (?_:wpAny _ _ (newExc (.type "StopIteration") [] >>= _) _ _ _))
 refine wA ?_
 unfold newExc newTuple
 refine wA (w9 (wA (ua (t:=firstArgMember _ _) (a:=Value.none) (by first|rfl|(simp only[firstArgMember];rfl)) (w9 ?_ (by size_fits)))) (by size_fits))
 unfold raiseNew
 refine wA (wpAny_handled ?_)
 rw[show A.in1.handled=none from n]
 refine wA (wD (wpAny_throw ?_))
 refine wA (uM (T:="StopIteration") (b:=true) ⟨_,wF _ rfl,rfl⟩ isSubtype_stop ?_)
 exact wD (q _ (((Heap.SameBut.update ..).extBut.push _).push _))
theorem qeE(p:A.handled=none)(I d:Addr)(f:d≠I)(es:Array DictEntry)(j:Nat):Walks prog w A I [I,d] [I] es.size (λi v=>(es[i]?).map (·.key)=some v) (λi h=>h.IsKeyIter I d i es.size j/\EsAt h d es j) where
 sub:=λb a=>by simp at a;simp[a]
 frame:=λ_ _ _ st l=>⟨st.1.at λo e=>l I (by simp) o e,st.2.at λo e=>l d (by simp) o e⟩
 item:=λi s Q E hi st c=>by
  have m:es[i]?=some es[i]:=uL hi
  exact qeD st.1 st.2 m λh' q n=>c _ h' s.toks (by rw[m];rfl) ⟨q,st.2.at λo e=>n.extBut _ o f e⟩ λb o a e=>n.extBut b o (λz=>a (by simp[z])) e
 done:=λs Q E st c=>qf0 p st.1 st.2 (xF (wK _)) λh' r=>c h' s.toks λb o a e=>r b o (λz=>a (by simp[z])) e
 self:=λ_ _ _ _ st c=>wpAny_pyIter_keyiter st.1 c
theorem qf1{d:Addr}{es:Array DictEntry}{c:Nat}(lo:(d == sysModules)=false):KdlSrc prog w "dict" d d es.size (λi v=>(es[i]?).map (·.key)=some v) (λh=>EsAt h d es c) where
 type:=λ_ hm=>hm.typeIs
 there:=λ_ hm=>let ⟨o,a,_⟩:=hm;⟨wJ a,wJ a⟩
 keep:=λ_ _ hm f=>hm.at λo e=>f d (.inl rfl) o e
 notList:=by decide
 notTuple:=by decide
 hint:=λ_ _ _ _ hm b=>kdl_hint_dict hm.typeIs b
 iter:=λA s j hm=>⟨_,_,(λ_ _ b=>qeC lo hm b),qeE j _ d (by obtain⟨o,a,_⟩:=hm;exact wc (wJ a)) es c,⟨⟨_,wF _ rfl,rfl,rfl⟩,hm.at λo e=>wB _ e⟩⟩
theorem qaL{d:Addr}{es:Array DictEntry}{n:Nat}{Q:List Value->Shared->Prop}(p:A.handled=none)(lo:(d == sysModules)=false)(hm:EsAt s.heap d es n)(hn:es.size<=sizeLine)(q:∀(h':Heap) (tk:Nat),s.heap.objs.size<=h'.objs.size->(∀b o,s.heap.get? b=some o->h'.get? b=some o)->Q (es.toList.map (·.key)) {s with heap:=h',toks:=tk}):wpAny (model prog w) A (collect (.ref d)) Q E s:=by
 have hd:d≠s.heap.objs.size:=by obtain⟨o,r,_⟩:=hm;exact wc (wJ r)
 have c:∀R:Result->Shared->Prop,(∀(h':Heap) (tk:Nat) (a:Array Value) (f:Nat),(∀b o,s.heap.get? b=some o->h'.get? b=some o)->h'.get? s.heap.objs.size=some {cls:=.type "list",dict:=none,data:=.seq a f,slots:=#[]}->ItemsOf (λi v=>(es[i]?).map (·.key)=some v) a es.size ->
   R (.ok (.ret (.ref s.heap.objs.size))) {s with heap:=h',toks:=tk})->codeAny (model prog w) A (.builtin "proto.collect" ⟨[.ref d],[]⟩) R s:=by
  intro R u
  refine wx xR ?_
  rw[wg xQ]
  refine wA (m:=newList []) (w9 (wD ⟨vA uH _,wx F.entry_list_iadd ?_⟩))
  rw[wg uH]
  have h0:(s.heap.push {cls:=.type "list",data:=.seq ([]:List Value).toArray}).get? s.heap.objs.size=some {cls:=.type "list",data:=.seq #[] 0}:=wF _ rfl
  exact kdl_extend (R:=R) (s:={s with heap:=s.heap.push {cls:=.type "list",data:=.seq ([]:List Value).toArray}}) (qf1 lo) p (hm.at λo e=>wB _ e) s.heap.objs.size (Ne.symm hd) (Ne.symm hd) (.ref s.heap.objs.size) 0 h0 (λh' tk a f j h hi =>
   u h' tk a f (λb o e=>j b o (wc (wJ e)) (wB _ e)) h hi) hn
 unfold collect
 refine wA (wpAny_runValue (c _ λh' tk a f j h hi=>?_))
 refine wA (m:=load s.heap.objs.size) (wpAny_load h (wD ?_))
 have e:a.toList=es.toList.map (·.key):=by
  apply List.ext_getElem?
  intro i
  rw[wb]
  cases z:a[i]? with
  |none =>
   have l:a.size<=i:=by simpa using z
   rw[hi.1]at l
   have x:es[i]?=none:=xF l
   rw[uD,uD,z,x];rfl
  |some v =>
   have:=hi.2 i v z
   rw[uD,uD,z,this]
 rw[e]
 exact q h' tk (Nat.le_of_lt (wJ h)) j
end
end R
namespace R
open PySem PySem.Spec L2 SeqAt
open PyProof.Rows hiding St
open PySem.W (KasT kas_sort)
theorem jE:∀a:List Int,HT.lexLt a a=false
 |[]=>rfl
 |x::a=>by rw[HT.za,wM rfl];exact jE a
theorem qbd:∀{a b c:List Int},HT.lexLt a b=true->HT.lexLt b c=true->HT.lexLt a c=true
 |[],[],_,h,_=>by cases h
 |[],_::_,[],_,h=>by cases h
 |[],_::_,_::_,_,_=>rfl
 |_::_,[],_,h,_=>by cases h
 |_::_,_::_,[],_,h=>by cases h
 |x::a,y::b,z::c,h,k=>by
  rw[HT.za]at h k ⊢
  by_cases e1:x=y
  .subst e1
   rw[wM rfl]at h
   by_cases d:x=z
   .subst d
    rw[wM rfl]at k ⊢
    exact qbd h k
   .rw [wO d]at k ⊢;exact k
  .rw [wO e1]at h
   have h':=vF h
   by_cases d:y=z
   .subst d
    rw[wO e1];exact h
   .rw [wO d]at k
    have e:=vF k
    rw[wO (by lia)]
    exact vK (by lia)
theorem lex_tot:∀{a b:List Int},a≠b->HT.lexLt a b=true\/HT.lexLt b a=true
 |[],[],h=>absurd rfl h
 |[],_::_,_=>.inl rfl
 |_::_,[],_=>.inr rfl
 |x::a,y::b,h=>by
  rw[HT.za,HT.za]
  by_cases e:x=y
  .subst e
   rw[wM rfl,wM rfl]
   exact lex_tot λz=>h (by rw[z])
  .rw [wO e,wO (Ne.symm e)]
   rcases Int.lt_or_gt_of_ne e with z|z
   .exact .inl (vK z)
   .exact .inr (vK z)
theorem jh(x:List Int):∀l:List (List Int),(insT x l).Perm (x::l)
 |[]=>.refl _
 |y::r=>by
  unfold insT
  split
  .exact ((jh x r).cons y).trans (.swap ..)
  .exact .refl _
theorem qH:∀l:List (List Int),(sortT l).Perm l
 |[]=>.refl _
 |x::r=>(jh x (sortT r)).trans ((qH r).cons x)
def Ris(l:List (List Int)):Prop:=l.Pairwise λa b=>HT.lexLt a b=true
theorem qb1{x:List Int}:∀{l:List (List Int)},x∉l->Ris l->Ris (insT x l)
 |[],_,_=>List.pairwise_singleton _ _
 |y::r,hn,h=>by
  obtain⟨i,j⟩:=wy.mp h
  unfold insT
  split
  .rename_i d
   refine wy.mpr ⟨λz f=>?_,qb1 (λm=>hn (wH _ m)) j⟩
   rcases wR.mp ((jh x r).mem_iff.mp f)with e|e
   .rw [e];exact d
   .exact i z e
  .rename_i d
   have c:HT.lexLt x y=true:=by
    rcases lex_tot (a:=x) (b:=y) λe=>hn (by rw[e];exact wE)with z|z
    .exact z
    .rw [z]at d;exact absurd rfl d
   refine wy.mpr ⟨λz f=>?_,h⟩
   rcases wR.mp f with e|e
   .rw [e];exact c
   .exact qbd c (i z e)
theorem yA:∀{l:List (List Int)},l.Nodup->Ris (sortT l)
 |[],_=>.nil
 |x::r,h=>by
  obtain⟨a,b⟩:=vS.mp h
  exact qb1 (λm=>a ((qH r).mem_iff.mp m)) (yA b)
theorem qb2:∀{a b:List (List Int)},a.Perm b->Ris a->Ris b->a=b
 |[],b,p,_,_=>(List.nil_perm.mp p).symm
 |x::a,[],p,_,_=>absurd (List.perm_nil.mp p) (by simp)
 |x::a,y::b,p,h,k=>by
  obtain⟨d,f⟩:=wy.mp h
  obtain⟨i,j⟩:=wy.mp k
  have e:x=y:=by
   rcases wR.mp (p.mem_iff.mp wE)with z|z
   .exact z
   .rcases wR.mp (p.symm.mem_iff.mp wE)with c|c
    .exact c.symm
    .have:=qbd (d y c) (i x z)
     rw[jE]at this;cases this
  subst e
  rw[qb2 (List.Perm.cons_inv p) f j]
theorem ji(x:Int):∀l:List Int,(insI x l).Perm (x::l)
 |[]=>.refl _
 |y::r=>by
  unfold insI
  split
  .exact .refl _
  .exact ((ji x r).cons y).trans (.swap ..)
theorem qU:∀l:List Int,(sortI l).Perm l
 |[]=>.refl _
 |x::r=>(ji x (sortI r)).trans ((qU r).cons x)
theorem qdw{x:Int}:∀{l:List Int},l.Pairwise (·<=·)->(insI x l).Pairwise (·<=·)
 |[],_=>List.pairwise_singleton _ _
 |y::r,h=>by
  obtain⟨c,d⟩:=wy.mp h
  unfold insI
  split
  .rename_i a
   refine wy.mpr ⟨λz b=>?_,h⟩
   rcases wR.mp b with e|e
   .rw [e];exact a
   .exact Int.le_trans a (c z e)
  .rename_i a
   refine wy.mpr ⟨λz b=>?_,qdw d⟩
   rcases wR.mp ((ji x r).mem_iff.mp b)with e|e
   .rw [e];lia
   .exact c z e
theorem jY:∀l:List Int,(sortI l).Pairwise (·<=·)
 |[]=>.nil
 |x::r=>qdw (jY r)
theorem jZ{ks:List (List Int)}(nd:ks.Nodup):Ord (ltK ks) ks.length where
 irr:=λa _=>jE _
 tr:=λa b c _ _ _ h k=>qbd h k
 tot:=λa b ha d h=>lex_tot λe=>h (by
  rw[wN,wN,wC ha,wC d]at e
  exact(xD nd).mp e)
theorem jt{ks:List (List Int)}(nd:ks.Nodup)(c:1<=ks.length):(evT (ltK ks) (kas_sort ks.length)).toList.map (λi=>ks.getD i [])=sortT ks:=by
 obtain⟨pm,d⟩:=qbc (jZ nd) c
 generalize evT (ltK ks) (kas_sort ks.length)=p at *
 have f:(p.toList.map λi=>ks.getD i []).Perm ks:=by
  have e:(List.range ks.length).map (λi=>ks.getD i [])=ks:=by
   apply List.ext_getElem?
   intro i
   rw[wb]
   by_cases hi:i<ks.length
   .rw [wC (by simpa using hi),wC hi]
    simp[hi]
   .rw [List.getElem?_eq_none (by simpa using hi),List.getElem?_eq_none (by lia)];rfl
  have:=pm.map λi=>ks.getD i []
  rwa [e]at this
 refine qb2 (f.trans (qH ks).symm) ?_ (yA nd)
 show(p.toList.map λi=>ks.getD i []).Pairwise _
 rw[v6,List.pairwise_iff_getElem]
 intro i j hi b a
 have hsz:=pm.size
 have:=d i j a (by simpa[hsz]using b)
 rw[qbZ (by simpa using hi),qbZ (by simpa using b)]at this
 simpa[ltK]using this
end R
namespace R
open PySem PySem.Spec L2 SeqAt
open PyProof.Rows hiding St
open PySem.W (KasT kas_sort)
section
variable{X:Cx}{pins:List (Addr×Obj)}{σ:St}{H:Hp}{s:Shared}{ι:List Addr}{S:Sr}
theorem qdx(I:Inv X pins σ H s):∀{l:List D} {ks:List (List Int)} {xs:List V} {vs:List Value},tupsOf l=some ks->Dens ι H l xs->Vals xs vs->TupsAt s.heap vs ks/\l=ks.map tupI
 |[],ks,xs,vs,e,hd,r=>by
  cases e
  cases (show xs=[]from hd)
  cases r
  exact⟨rfl,rfl⟩
 | .tup a::l,ks,xs,vs,e,hd,r=>by
  obtain⟨x,c,rfl,d,f⟩:=hd
  obtain⟨b,ys,rfl,_,h,i⟩:=d
  simp only[tupsOf]at e
  cases z1:intsOf a with
  |none=>rw[z1]at e;cases e
  |some k =>
   rw[z1,wQ]at e
   cases z2:tupsOf l with
   |none=>rw[z2]at e;cases e
   |some j =>
    rw[z2]at e;cases e
    cases r with
    |cons m n =>
     cases m
     obtain⟨t1,t2⟩:=qdx I z2 f n
     obtain⟨its,o,p,_⟩:=yH I h
     have q:=intsOf_eq z1
     subst q
     cases dens_ints i
     refine⟨⟨b,its,k,j,rfl,rfl,p,zb o,t1⟩,?_⟩
     rw[t2];rfl
 | .non::_,_,_,_,e,_,_=>by cases e
 | .bl _::_,_,_,_,e,_,_=>by cases e
 | .int _::_,_,_,_,e,_,_=>by cases e
 | .str _::_,_,_,_,e,_,_=>by cases e
 | .lst _::_,_,_,_,e,_,_=>by cases e
 | .emp::_,_,_,_,e,_,_=>by cases e
 | .ref _::_,_,_,_,e,_,_=>by cases e
theorem j0{xs:List V}{vs:List Value}(r:Vals xs vs):∀p:List Nat,(∀i∈p,i<vs.length)->Vals (p.map λi=>xs.getD i .non) (p.map λi=>vs.getD i .none)
 |[],_=>.nil
 |i::p,h=>by
  refine .cons ?_ (j0 r p λj a=>h j (wH _ a))
  have hi:=h i wE
  obtain⟨x,e1,b⟩:=Vals.at r hi
  dsimp only
  rw[wN,wN,e1,wC hi]
  exact b
theorem j3{l:List D}{xs:List V}(h:Dens ι H l xs):∀p:List Nat,(∀i∈p,i<l.length)->Dens ι H (p.map λi=>l.getD i .non) (p.map λi=>xs.getD i .non)
 |[],_=>rfl
 |i::p,hp=>by
  have hi:=hp i wE
  obtain⟨x,e1,a⟩:=h.get (wC hi)
  refine⟨_,_,rfl,?_,j3 h p λj b=>hp j (wH _ b)⟩
  dsimp only
  rw[wN,wN,e1,wC hi]
  exact a
theorem zH{m:Bool}{x:Value}{l:List D}{ks:List (List Int)}{xs:List V}{vs:List Value}{Q:VK}(I:Inv X pins σ H s)(st:Sto ι H S)(O:X.calm=true)(n:Dens ι H l xs)(p:Vals xs vs)(e:tupsOf l=some ks)(B:l.length<64)(nd:ks.Nodup)(ne:∀k∈ks,k≠[])(r:∀(y:Value->Shared->Prop) (Q':List Value->Shared->Prop),(∀(h':Heap) (tk:Nat),s.heap.objs.size<=h'.objs.size->(∀b o,s.heap.get? b=some o->h'.get? b=some o)->Q' vs {s with heap:=h',toks:=tk})->wpAny (model X.prog X.w) X.A.in1 (collect x) Q' y s)(q:Pst Den (newL m ((sortT ks).map tupI) S) ι H Q):wpAny (model X.prog X.w) X.A (call (.builtin "sorted") [x]) (EP X pins σ Q) X.xe s:=by
 obtain⟨z,u⟩:=qdx I e n p
 have len:vs.length=ks.length:=z.len
 have E:l.length=ks.length:=by rw[u];simp
 refine qaK (κ:=tuples' true) (lt:=ltK ks) (by lia) r (λh h' tk kp=>?_) λh' tk D c sz kp F=>?_
 .have t':TupsAt h' vs ks:=z.keep λa o _ J=>kp a o J
  exact⟨λy Q' K=>qfZ (s:={s with heap:=h',toks:=tk}) t' ne h K,by rw[len];exact jZ nd,λi j C hi P L=>qii (s:={s with heap:=h',toks:=tk}) t' (by lia) (by lia) L⟩
 .-- the answer's data
  have fin:∃f,Vals f (outOf (ltK ks) vs)/\Dens ι H ((sortT ks).map tupI) f:=by
   unfold outOf
   by_cases h:vs.length<2
   .rw [wM h]
    refine⟨xs,p,?_⟩
    have:sortT ks=ks:=by
     match ks,len with
     |[],_=>rfl
     |[k],_=>rfl
     |_::_::_,len=>simp at len;lia
    rw[this,<-u]
    exact n
   .rw [wO h]
    rw[len]
    obtain⟨pm,_⟩:=qbc (jZ nd) (show 1<=ks.length by lia)
    have v:∀i∈(evT (ltK ks) (kas_sort ks.length)).toList,i<ks.length:=λi hi=>vg.mp (pm.mem_iff.mp hi)
    refine⟨_,j0 p _ λi hi=>by rw[len];exact v i hi,?_⟩
    have d:=j3 n _ λi hi=>by rw[E];exact v i hi
    have M:(sortT ks).map tupI=(evT (ltK ks) (kas_sort ks.length)).toList.map λi=>l.getD i .non:=by
     rw[<-jt nd (by lia),wS]
     refine we λi hi=>?_
     have:=v i hi
     rw[u]
     simp[this]
    rw[M]
    exact d
  obtain⟨f,r',d'⟩:=fin
  have fr:H D=none:=I.hok.fresh sz
  have N:f.length<=sizeLine:=by
   rw[<-d'.length,wG,(qH ks).length_eq,vL];lia
  exact⟨.ref D,upd H D (.lst f),I.laid (o:=.lst f) (t':=tk) kp sz ⟨N,outOf (ltK ks) vs,c,r',F⟩,rfl,qX st d' q D fr⟩
theorem qb3{a:Addr}{xs:List V}(I:Inv X pins σ H s)(h:Rd H a (.lst xs)):∃vs:List Value,Vals xs vs/\s.heap.IsList a vs.toArray/\(∀(A:Around) (c:Value->Shared->Prop) (Q':List Value->Shared->Prop),(∀(h':Heap) (tk:Nat),s.heap.objs.size<=h'.objs.size->(∀b o,s.heap.get? b=some o->h'.get? b=some o)->Q' vs {s with heap:=h',toks:=tk})->wpAny (model X.prog X.w) A (collect (.ref a)) Q' c s):=by
 obtain⟨vs,r,p,d⟩:=qa0 I h
 refine⟨vs,r,p,λA c Q' f=>collect_list p (f _ s.toks ?_ λb o e=>?_) (by rw[<-r.length];exact d)⟩
 .rw [Heap.size_update,size_push'];lia
 .exact (wj _ _ (ws (wJ e))).trans (wB _ e)
theorem qeF{m:Bool}{a:Addr}{ns:List Int}{xs:List V}{Q:VK}(I:Inv X pins σ H s)(st:Sto ι H S)(h:Rd H a (.lst xs))(y:Dens ι H (ns.map .int) xs)(z:ns.length<64)(q:Pst Den (newL m ((sortI ns).map .int) S) ι H Q):
  wpAny (model X.prog X.w) X.A (call (.builtin "sorted") [.ref a]) (EP X pins σ Q) X.xe s:=by
 obtain⟨vs,r,p,L⟩:=qa0 I h
 cases dens_ints y
 have v:IntsAre vs ns:=zb r
 have M:=v.length
 refine sorted_ints p v (by lia) λd f i1 i2 B=>?_
 have C:f=sortI ns:=PySem.W.lks_uniq (i2.trans (qU ns).symm) B (jY ns)
 have up:∀b o,s.heap.get? b=some o->(sortedAll s.heap vs d).get? b=some o:=λb o e=>by
  have j:b<s.heap.objs.size:=wJ e
  unfold sortedAll sortedHeap
  refine(wj _ _ (ws (uF j))).trans (wB _ (wB _ ((wj _ _ (ws (uF j))).trans (wB _ ?_))))
  exact(wj _ _ (ws j)).trans (wB _ e)
 have E:(((s.heap.push (seqObj "list" #[] 0)).update s.heap.objs.size (Obj.mapSeq (·++vs.toArray))).push (seqObj "list" vs.toArray 0)).get? (s.heap.objs.size+1)=some (seqObj "list" vs.toArray 0):=by
  have:((s.heap.push (seqObj "list" #[] 0)).update s.heap.objs.size (Obj.mapSeq (·++vs.toArray))).objs.size=s.heap.objs.size+1:=by rw[Heap.size_update,size_push']
  rw[<-this];exact wF _ rfl
 obtain⟨c,at'⟩:∃c,(sortedAll s.heap vs d).get? (s.heap.objs.size+1)=some (seqObj "list" d c):=by
  unfold sortedAll sortedHeap
  have e1:=xG E λ_=>(#[]:Array Value)
  have F:=wB (seqObj "list" #[] 0) (wB (seqObj "tuple" vs.toArray 0) e1)
  exact⟨_,xG F λ_=>d⟩
 have sz:s.heap.objs.size<=s.heap.objs.size+1:=Nat.le_succ _
 have fr:H (s.heap.objs.size+1)=none:=I.hok.fresh sz
 have J:Vals (f.map V.int) d.toList:=by
  have:∀{us:List Value} {i:List Int},IntsAre us i->Vals (i.map V.int) us:=λ{us i} h=>by
   induction h with
   |nil=>exact .nil
   |cons n t _ l=>exact .cons ⟨t,rfl⟩ l
  exact this i1
 have K:Dens ι H ((sortI ns).map .int) (f.map V.int):=by
  rw[C]
  have:∀i:List Int,Dens ι H (i.map .int) (i.map V.int):=λi=>by
   induction i with
   |nil=>rfl
   |cons x r l=>exact⟨_,_,rfl,rfl,l⟩
  exact this _
 have u:(f.map V.int).length<=sizeLine:=by rw[wG,i2.length_eq,vL];lia
 refine⟨.ref _,upd H (s.heap.objs.size+1) (.lst (f.map V.int)),I.laid (o:=.lst (f.map V.int)) (t':=s.toks) up sz ⟨u,d.toList,c,J,by rw[at']⟩,rfl,qX st K q _ fr⟩
theorem qf2(m:Bool)(C:X.calm=true):CallR X (.builtin "sorted") (Gn (one (bSorted m))):=by
 intro pins s σ H xs us Q I r h
 obtain⟨ι,S,ds,st,hd,p⟩:=h
 obtain⟨d,rfl,p⟩:=qa1 p
 .skip
  obtain⟨x,rfl,U⟩:=dens1 hd
  obtain⟨u,rfl,W⟩:=vals1 r
  simp only[one,bSorted]at p
  have f:∀{l:List D},lstOf S d=some l->walkD S d=some l->wpAny (model X.prog X.w) X.A (call (.builtin "sorted") [u]) (EP X pins σ Q) X.xe s:=λ{l} hl hw=>by
   obtain⟨a,xs,rfl,ha,E⟩:=qM st hl U
   cases W
   rw[hw,wQ]at p
   unfold sortL at p
   by_cases c:l.length<64
   .rw [wM c]at p
    cases z:intsOf l with
    |some ns =>
     rw[z]at p
     have:=intsOf_eq z
     subst this
     exact qeF I st ha E (by simpa using c) p
    |none =>
     rw[z]at p
     cases z2:tupsOf l with
     |none=>simp only[z2,xA]at p;exact p.elim
     |some ks =>
      simp only[z2,wQ]at p
      by_cases i:ks.Nodup/\∀t∈ks,t≠[]
      .rw [wM i]at p
       obtain⟨vs,M,_,n⟩:=qb3 I ha
       exact zH I st C E M z2 c i.1 i.2 (n _) p
      .rw [wO i]at p;exact p.elim
   .rw [wO c]at p;exact p.elim
  cases d with
  |lst l=>exact f rfl rfl
  |ref k =>
   cases z:S[k]? with
   |none=>simp only[walkD,z,xA]at p;exact p.elim
   |some so =>
    cases so with
    |lst l=>exact f (by unfold lstOf;dsimp only;rw[z]) (by unfold walkD;dsimp only;rw[z])
    |dis l=>simp only[walkD,z,xA]at p;exact p.elim
    |dic l =>
     obtain⟨a,rfl,ha⟩:=U
     cases W
     obtain⟨_,kvs,e1,dk⟩:=st.obj k a _ ha z
     obtain⟨hz,lo,ys,J,o,es,ep,Y,ex,Z,eL,a0⟩:=I.hok a _ e1
     simp only[walkD,z,wQ]at p
     have K:∀{l:List (List Int×D)} {kvs:List (List Key×V)} {ys:List (List Key×Addr×Value)},DGs keyT ι H l kvs->Paired (λ(p:List Key×V) (q:List Key×Addr×Value)=>p.1=q.1/\H q.2.1=some (.tup (p.1.map kV))/\RelV p.2 q.2.2) kvs ys ->
       Dens ι H (l.map λp=>tupI p.1) (ys.map λq=>V.ref q.2.1):=λ{l}=>by
      induction l with
      |nil=>intro kvs ys N O;cases (show kvs=[]from N);cases O;rfl
      |cons q l L =>
       intro kvs ys N O
       obtain⟨v,r',rfl,_,a1⟩:=N
       cases O with
       |cons y t =>
        rename_i q2 a2
        obtain⟨ya,P,yc⟩:=y
        refine⟨_,_,rfl,⟨q2.2.1,_,rfl,λhm=>?_,P,?_⟩,L a1 t⟩
        .obtain ⟨j,hj,ej⟩:=va hm
         have hs:j<S.length:=by rw[<-st.len];exact hj
         have F:=st.obj j _ S[j] (by rw[wC hj,ej]) (wC hs)
         cases e:S[j]with
         |lst _=>rw[e]at F;obtain⟨_,_,B,_⟩:=F;rw[P]at B;cases B
         |dic _=>rw[e]at F;obtain⟨_,_,B,_⟩:=F;rw[P]at B;cases B
         |dis _=>rw[e]at F;obtain⟨_,_,B,_⟩:=F;rw[P]at B;cases B
        .show Dens ι H (q.1.map .int) ((keyT q.1).map kV)
         unfold keyT
         rw[wS]
         have:∀R:List Int,Dens ι H (R.map .int) (R.map (kV∘Sum.inl)):=λR=>by
          induction R with
          |nil=>rfl
          |cons x r L=>exact⟨_,_,rfl,rfl,L⟩
         exact this _
     have E:=K dk J
     have M:Vals (ys.map λq=>V.ref q.2.1) (ys.map λq=>Value.ref q.2.1):=by
      clear J eL E a0
      induction ys with
      |nil=>exact .nil
      |cons q r L=>exact .cons rfl L
     have ev:es.toList.map (·.key)=ys.map λq=>Value.ref q.2.1:=by rw[eL,wS];rfl
     have hsz:es.size<=sizeLine:=by
      have N:es.toList.length=ys.length:=by rw[eL];simp
      have O:kvs.length=ys.length:=Paired.length J
      have:es.size=es.toList.length:=by simp
      lia
     have n:∀(E':Value->Shared->Prop) (Q':List Value->Shared->Prop),(∀(h':Heap) (tk:Nat),s.heap.objs.size<=h'.objs.size->(∀b o,s.heap.get? b=some o->h'.get? b=some o)->Q' (ys.map λq=>Value.ref q.2.1) {s with heap:=h',toks:=tk})->wpAny (model X.prog X.w) X.A.in1 (collect (.ref a)) Q' E' s:=λE' Q' hq =>
      qaL (A:=X.A.in1) (I.ok.hd C) lo ⟨o,Y,ex,Z⟩ hsz (by rw[ev];exact hq)
     unfold sortL at p
     by_cases c:(l.map λp=>tupI p.1).length<64
     .rw [wM c]at p
      cases z1:intsOf (l.map λp=>tupI p.1)with
      |some ns =>
       rw[z1]at p
       cases l with
       |nil =>
        cases z1
        exact zH (ks:=[]) I st C E M rfl (by simp) (by simp) (by simp) n p
       |cons q l=>cases z1
      |none =>
       rw[z1]at p
       cases z2:tupsOf (l.map λp=>tupI p.1)with
       |none=>simp only[z2,xA]at p;exact p.elim
       |some ks =>
        simp only[z2,wQ]at p
        by_cases i:ks.Nodup/\∀t∈ks,t≠[]
        .rw [wM i]at p
         exact zH I st C E M z2 c i.1 i.2 n p
        .rw [wO i]at p;exact p.elim
     .rw [wO c]at p;exact p.elim
  |emp =>
   obtain⟨a,rfl,_,ha⟩:=U
   cases W
   obtain⟨hz,lo,ys,J,o,es,ep,Y,ex,Z,eK,eP,_⟩:=I.hok a _ ha
   cases J
   have e0:es.toList.map (·.key)=[]:=by
    cases eP' :es.toList with
    |nil=>rfl
    |cons q r=>rw[eP']at eP;cases eP
   have hsz:es.size<=sizeLine:=by
    have:es.toList=[]:=by simpa using e0
    have:es.size=es.toList.length:=by simp
    simp_all
   simp only[walkD,wQ]at p
   refine zH (l:=[]) (ks:=[]) (xs:=[]) (vs:=[]) I st C rfl .nil rfl (by simp) (by simp) (by simp) (λE' Q' hq=>qaL (A:=X.A.in1) (I.ok.hd C) lo ⟨o,Y,ex,Z⟩ hsz (by rw[e0];exact hq)) p
  |_=>exact p.elim
end
end R
namespace R
open PySem PySem.Spec L2 SeqAt
open PyProof.Rows hiding St
noncomputable def CEs.len:CEs->Nat
 | .nil=>0
 | .cons _ r=>r.len+1
theorem qbe{F:Fs}:∀{es:CEs} {ρ:En} {S:Sr} {l:List D} {a:Sr},evs F es ρ S=.ok l a->l.length=es.len
 | .nil,_,_,_,_,h=>by cases h;rfl
 | .cons e r,ρ,S,l,a,h=>by
  unfold evs at h
  cases z:ev F e ρ S with
  |no=>rw[z]at h;cases h
  |err=>rw[z]at h;cases h
  |ok x S1 =>
   rw[z,Res.bind_ok]at h
   cases z2:evs F r ρ S1 with
   |no=>rw[z2]at h;cases h
   |err=>rw[z2]at h;cases h
   |ok b S2 =>
    rw[z2,Res.bind_ok]at h
    cases h
    show b.length+1=r.len+1
    rw[qbe z2]
noncomputable def CTs.len:CTs->Nat
 | .nil=>0
 | .cons _ r=>r.len+1
theorem qb4{F:Fs}:∀{ts:CTs} {l:List D} {ρ:En} {S:Sr} {a:En} {b:Sr},asgs F ts l ρ S=.ok a b->l.length=ts.len
 | .nil,[],_,_,_,_,_=>rfl
 | .nil,_::_,_,_,_,_,h=>by unfold asgs at h;cases h
 | .cons t r,[],_,_,_,_,h=>by unfold asgs at h;cases h
 | .cons t r,d::l,ρ,S,a,b,h=>by
  unfold asgs at h
  dsimp only at h
  cases z:asg F t d ρ S with
  |no=>rw[z]at h;cases h
  |err=>rw[z]at h;cases h
  |ok ρ1 S1 =>
   rw[z,Res.bind_ok]at h
   show l.length+1=r.len+1
   rw[qb4 h]
noncomputable def FnAt(P:Program)(w:World)(K:PySem.W.Frag)(mg:Str->Option Value)(base:Heap)(k:Nat)(F:Fs)(i:Nat)(x:Str)(ps:List Str):Prop :=
 ∃f fd,mg x=some (.ref f)/\PySem.W.keepIn K (.ref f)=true/\Binds K fd ps []/\FnOk P w K mg base CX0 k f fd ps (SpD ps.length (F i))
structure Gb (mg:Str->Option Value):Prop where
 len:mg "len"=none
 range:mg "range"=none
 list:mg "list"=none
 tuple:mg "tuple"=none
 sorted:mg "sorted"=none
 sum:mg "sum"=none
 all:mg "all"=none
 any:mg "any"=none
 zip:mg "zip"=none
 min:mg "min"=none
 max:mg "max"=none
 abs:mg "abs"=none
 divmod:mg "divmod"=none
 isinstance:mg "isinstance"=none
 int:mg "int"=none
 bool:mg "bool"=none
 str:mg "str"=none
 dict:mg "dict"=none
theorem Gb.ty{mg:Str->Option Value}(g:Gb mg):∀t:Ty,mg (Str.ofString t.nm)=none
 | .int=>g.int|.bool=>g.bool|.tuple=>g.tuple|.list=>g.list|.str=>g.str|.dict=>g.dict
noncomputable def nodupB:List Str->Bool
 |[]=>true
 |x::r=>!(r.any λy=>y == x)&&nodupB r
theorem zq:∀{l:List Str},nodupB l=true->l.Nodup
 |[],_=>.nil
 |x::r,h=>by
  unfold nodupB at h
  simp only[wW,ux,uu,vt]at h
  exact vS.mpr ⟨λhm=>h.1 x hm rfl,zq h.2⟩
@[irreducible] noncomputable def QE(X:Cx)(e:Expr)(t:TE):Prop:=PE X e t
@[irreducible] noncomputable def QT(X:Cx)(e:Expr)(t:TT):Prop:=PT X e t
@[irreducible] noncomputable def QW(X:Cx)(e:Expr)(t:TT):Prop:=PW X e t
@[irreducible] noncomputable def QA(X:Cx)(e:List Expr)(t:TA):Prop:=PA X e t
@[irreducible] noncomputable def QS(X:Cx)(e:Stmt)(t:TS):Prop:=PS X e t
@[irreducible] noncomputable def QSs(X:Cx)(e:List Stmt)(t:TS):Prop:=PSs X e t
@[irreducible] noncomputable def QG(X:Cx)(e:Expr)(t:L2.TG):Prop:=PG X e t
@[irreducible] noncomputable def QGs(X:Cx)(e:List Expr)(t:L2.TGs):Prop:=PGs X e t
@[irreducible] noncomputable def QI(X:Cx)(tg e:Expr)(t:TI):Prop:=PI X tg e t
@[irreducible] noncomputable def QO(X:Cx)(e:Option Expr)(t:TO):Prop:=PO X e t
@[irreducible] noncomputable def QTl(X:Cx)(e:List Expr)(t:TT):Prop:=PTl X e t
theorem Qpt{X:Cx}{e:Expr}{t:TT}(h:QW X e t):QT X e t:=by delta QW at h;delta QT;exact h.pt
theorem QSs.un{X:Cx}{e:List Stmt}{t:TS}(h:QSs X e t):PSs X e t:=by delta QSs at h;exact h
section
variable{X:Cx}{F:Fs}{pos:Pos}
theorem qc(i:Nat){x:Str}(b:X.N[i]?=some x:=by rfl)(c:Vis X.env.scope x:=by first|exact Or.inl rfl|exact Or.inr (Or.inl rfl)|exact Or.inr (Or.inr rfl))(hd:(x == ("__debug__":Str))=false:=by decide)(a:(x == ("__classdict__":Str))=false:=by decide):QE X (.Name x pos) (T (ev F (.var i))):=by
 delta QE;exact(qle (qeS b c hd a))
theorem qg{n:Int}{j}:QE X (.Constant (.int n) j pos) (T (ev F (.cst (.int n)))):=by
 delta QE;exact(qfm qeT λ_ _=>rfl)
theorem zz{b:Bool}{j}:QE X (.Constant (.bool b) j pos) (T (ev F (.cst (.bl b)))):=by
 delta QE;exact(qfm qk0 λ_ _=>rfl)
theorem j4{x:Str}{n:Int}{t:Tok}(hm:X.mg x=some (.int n t))(a:Gl X x:=by rfl)(hd:(x == ("__debug__":Str))=false:=by decide):QE X (.Name x pos) (T (ev F (.cst (.int n)))):=by
 delta QE;exact(qjM (qht (v:=.int n) a hm ⟨t,rfl⟩ hd) λ_ _=>rfl)
theorem qr(o:BOp){a b:Expr}{c d:CE}(ha:QE X a (T (ev F c)))(e:QE X b (T (ev F d))):QE X (.BinOp a (opOf o) b pos) (T (ev F (.bin o c d))):=by
 delta QE;delta QE at ha;delta QE at e;exact(qiW (qhP o) ha e)
theorem qj7(o:BOp){a b:Expr}{c d:CE}(ha:QE X a (T (ev F c)))(e:QE X b (T (ev F d))):QE X (.BinOp a (opOf o) b pos) (T (ev F (.binM o c d))):=by
 delta QE;delta QE at ha;delta QE at e;exact(qiW (qhQ o) ha e)
theorem qlN{a:Expr}{b:CE}(ha:QE X a (T (ev F b))):QE X (.UnaryOp .USub a pos) (T (ev F (.neg b))):=by
 delta QE;delta QE at ha;exact(qlk ha)
theorem qb5(o:COp){k:Nat}{a b:Expr}{c d:CE}(f:Room k X.A)(ha:QE X a (T (ev F c)))(e:QE X b (T (ev F d)))(hm:behindInMarks (cOf o) b=false:=by rfl):QE X (.Compare a [cOf o] [b] pos) (T (ev F (.cmp o c d))):=by
 delta QE;delta QE at ha;delta QE at e;exact(qlg (yy o (by have:=f.un;lia)) ha e hm)
theorem qij(o o':COp){k:Nat}{a b c:Expr}{d e f:CE}(h:Room k X.A)(ha:QE X a (T (ev F d)))(i:QE X b (T (ev F e)))(j:QE X c (T (ev F f)))(hm:lastMarks [cOf o,cOf o'] [b,c]=false:=by rfl):
  QE X (.Compare a [cOf o,cOf o'] [b,c] pos) (T (ev F (.chain o o' d e f))):=by
 delta QE;delta QE at ha;delta QE at i;delta QE at j;exact(qhV (yy o (by have:=h.un;lia)) (yy o' (by have:=h.un;lia)) ha i j hm)
theorem jj{a:Expr}{t:TE}(ha:QE X a t):QE X (.BoolOp .And [a] pos) t:=by
 delta QE;delta QE at ha;exact(qjm ha)
theorem qaM{a b:Expr}{rest:List Expr}{c d:CE}(ha:QE X a (T (ev F c)))(e:QE X (.BoolOp .And (b::rest) pos) (T (ev F d))):QE X (.BoolOp .And (a::b::rest) pos) (T (ev F (.and c d))):=by
 delta QE;delta QE at ha;delta QE at e;exact(qli ha e)
theorem qi0{a:Expr}{b:CE}(ha:QE X a (T (ev F b))):QE X (.UnaryOp .Not a pos) (T (ev F (.not b))):=by
 delta QE;delta QE at ha;exact(qlj ha)
theorem qf :QA X [] (TL (evs F .nil)):=by
 delta QA;exact(qlf)
theorem qb{e:Expr}{es:List Expr}{c:CE}{cs:CEs}(a:QE X e (T (ev F c)))(b:QA X es (TL (evs F cs)))(d:starEach (e::es) X.env=(false,eval e X.env)::starEach es X.env:=by rfl):QA X (e::es) (TL (evs F (.cons c cs))):=by
 delta QA;delta QE at a;delta QA at b;exact(qjN a b d)
theorem qW{es:List Expr}{k:Nat}{cs:CEs}(h:QA X es (TL (evs F cs))):QE X (.Tuple es k pos) (T (ev F (.tup cs))):=by
 delta QE;delta QA at h;exact(qll h)
theorem ju(m:Bool){es:List Expr}{cs:CEs}(h:QA X es (TL (evs F cs))):QE X (.List es pos) (T (ev F (.lst m cs))):=by
 delta QE;delta QA at h;exact(qlm h)
theorem qlO(m:Bool):QE X (.Dict [] [] pos) (T (ev F (.dic m))):=by
 delta QE;exact(qln)
theorem qh{k i:Nat}{x:Str}{ps:List Str}{e:Expr}{es:List Expr}{cs:CEs}{p:Pos}(h:FnAt X.prog X.w X.K X.mg X.base k F i x ps)(c:Room k X.A)(ha:QA X (e::es) (TL (evs F cs)))(d:Gl X x:=by rfl)(j:cs.len=ps.length:=by rfl)(a:(x == ("__debug__":Str))=false:=by decide)(m:starEach (e::es) X.env=(false,eval e X.env)::starEach es X.env:=by rfl)(b:(backTo pos (starEach es X.env)).any (·.1)=false:=by rfl):QE X (.Call (.Name x p) (e::es) [] pos) (T (ev F (.call i cs))):=by
 delta QE;delta QA at ha
 obtain⟨f,fd,hm,n,o,q⟩:=h
 exact qjT q c d hm n o pass0 ha (λρ S l r z=>(qbe z).trans j) a m b
theorem jv(b:Blt){x:Str}{id:String}{e:Expr}{es:List Expr}{cs:CEs}{p:Pos}(d:CallR X (.builtin id) (Gn (bltD b)))(hm:X.mg x=none)(f:bootBuiltins x=some (.builtin id))(ha:PA X (e::es) (TL (evs F cs)))(h:Gl X x:=by rfl)(hn:x≠"__name__":=by decide)(a:(x == ("__debug__":Str))=false:=by decide)(i:starEach (e::es) X.env=(false,eval e X.env)::starEach es X.env:=by rfl)(c:(backTo pos (starEach es X.env)).any (·.1)=false:=by rfl):PE X (.Call (.Name x p) (e::es) [] pos) (T (ev F (.blt b cs))):=qhY d h hm f ha hn a i c
theorem qi1(b:Blt){x:Str}{ty:String}{e:Expr}{es:List Expr}{cs:CEs}{p:Pos}(d:CallR X (.type ty) (Gn (bltD b)))(hm:X.mg x=none)(f:bootBuiltins x=some (.type ty))(ha:PA X (e::es) (TL (evs F cs)))(h:Gl X x:=by rfl)(hn:x≠"__name__":=by decide)(a:(x == ("__debug__":Str))=false:=by decide)(i:starEach (e::es) X.env=(false,eval e X.env)::starEach es X.env:=by rfl)(c:(backTo pos (starEach es X.env)).any (·.1)=false:=by rfl):PE X (.Call (.Name x p) (e::es) [] pos) (T (ev F (.blt b cs))):=qfv d h hm f ha hn a i c
theorem j5(t:Ty){a:Expr}{f:CE}{p b:Pos}(gb:Gb X.mg)(ha:QE X a (T (ev F f)))(h:Gl X "isinstance":=by rfl)(c:Gl X (Str.ofString t.nm):=by rfl)(i:starEach [a,.Name (Str.ofString t.nm) b] X.env=(false,eval a X.env)::starEach [.Name (Str.ofString t.nm) b] X.env:=by rfl)(d:starEach [.Name (Str.ofString t.nm) b] X.env=(false,eval (.Name (Str.ofString t.nm) b) X.env)::starEach [] X.env:=by rfl)(e:(backTo pos (starEach [.Name (Str.ofString t.nm) b] X.env)).any (·.1)=false:=by rfl):
  QE X (.Call (.Name "isinstance" p) [a,.Name (Str.ofString t.nm) b] [] pos) (T (ev F (.isi t f))):=by
 delta QE;delta QE at ha;exact(qlq h gb.isinstance c (gb.ty t) ha i d e)
theorem qi2{o e:Expr}{co h:CE}{apos:Pos}(i:QE X o (T (ev F co)))(j:QE X e (T (ev F h)))(f:starEach [e] X.env=(false,eval e X.env)::starEach [] X.env:=by rfl)(b:attributeBase o "pop" X.env (eval o X.env)=eval o X.env:=by rfl)(c:(apos.endLine == pos.line)=true:=by rfl)(d:((backTo pos (starEach [e] X.env)).all (λx=>!x.1)&&(backToKw pos (keywordEach [] X.env)).all (λx=>x.1.isSome)&&decide ([e].length+([]:List Keyword).length+(if([]:List Keyword).isEmpty then 0 else 1)<30))=true:=by rfl)(a:(backTo pos (starEach [] X.env)).any (·.1)=false:=by rfl):QE X (.Call (.Attribute o "pop" apos) [e] [] pos) (T (ev F (.popAt co h))):=by
 delta QE;delta QE at i;delta QE at j;exact(qcM PySem.F.slot_list_pop PySem.F.type_list_pop qfa (λι S x y v u H Q st l m p=>qlx st l m p) i j f b c d a)
theorem qlP{o e:Expr}{co h:CE}{apos:Pos}(i:QE X o (T (ev F co)))(j:QE X e (T (ev F h)))(f:starEach [e] X.env=(false,eval e X.env)::starEach [] X.env:=by rfl)(b:attributeBase o "append" X.env (eval o X.env)=eval o X.env:=by rfl)(c:(apos.endLine == pos.line)=true:=by rfl)(d:((backTo pos (starEach [e] X.env)).all (λx=>!x.1)&&(backToKw pos (keywordEach [] X.env)).all (λx=>x.1.isSome)&&decide ([e].length+([]:List Keyword).length+(if([]:List Keyword).isEmpty then 0 else 1)<30))=true:=by rfl)(a:(backTo pos (starEach [] X.env)).any (·.1)=false:=by rfl):QE X (.Call (.Attribute o "append" apos) [e] [] pos) (T (ev F (.app co h))):=by
 delta QE;delta QE at i;delta QE at j;exact(qcM PySem.F.slot_list_append PySem.F.type_list_append qaD (λι S x y v u H Q st l m p=>qiX st l m p) i j f b c d a)
theorem qlQ{m:Nat}{o k e:Expr}{co f h:CE}{apos:Pos}(n:Room m X.A)(i:QE X o (T (ev F co)))(j:QE X k (T (ev F f)))(l:QE X e (T (ev F h)))(a:attributeBase o "get" X.env (eval o X.env)=eval o X.env:=by rfl)(c:((backTo pos (starEach [k,e] X.env)).all (λx=>!x.1)&&(backToKw pos (keywordEach [] X.env)).all (λx=>x.1.isSome)&&decide (([k,e]:List Expr).length+([]:List Keyword).length+(if([]:List Keyword).isEmpty then 0 else 1)<30))=true:=by rfl)(b:(apos.endLine == pos.line)=true:=by rfl)(d:backTo pos (starEach [k,e] X.env)=[(false,eval k X.env),(false,eval e X.env)]:=by rfl):QE X (.Call (.Attribute o "get" apos) [k,e] [] pos) (T (ev F (.get co f h))):=by
 delta QE;delta QE at i;delta QE at j;delta QE at l;exact(qly (qbO n) i j l ⟨a,c,b,d⟩)
theorem qp{k:Nat}{a b:Expr}{c d:CE}(f:Room k X.A)(ha:QE X a (T (ev F c)))(e:QE X b (T (ev F d)))(h:PlainIx b:=by exact λ_ _=>rfl):QE X (.Subscript a b pos) (T (ev F (.idx c d))):=by
 delta QE;delta QE at ha;delta QE at e;exact(qlp (qbO f) ha e h)
theorem k_on :QO X none (TOp (evO F .none)):=by
 delta QO;exact(qfu)
theorem k_os{e:Expr}{c:CE}(h:QE X e (T (ev F c))):QO X (some e) (TOp (evO F (.some c))):=by
 delta QO;delta QE at h;exact(qft h)
theorem qf3{e:Expr}{lo hi:Option Expr}{f:Pos}{c:CE}{cl ch:CO}(a:QE X e (T (ev F c)))(b:QO X lo (TOp (evO F cl)))(d:QO X hi (TOp (evO F ch))):QE X (.Subscript e (.Slice lo hi none f) pos) (T (ev F (.slc c cl ch))):=by
 delta QE;delta QE at a;delta QO at b;delta QO at d;exact(qlr a b d)
theorem qcS(m:Bool){a:Expr}{es:List Expr}{cs:CEs}{e f b:Pos}(gb:Gb X.mg)(ha:QA X (a::es) (TL (evs F cs)))(h:X.calm=true:=by rfl)(i:Gl X "range":=by rfl)(c:Gl X "list":=by rfl)(j:starEach (a::es) X.env=(false,eval a X.env)::starEach es X.env:=by rfl)(d:(backTo b (starEach es X.env)).any (·.1)=false:=by rfl):QE X (.Call (.Name "list" e) [.Call (.Name "range" f) (a::es) [] b] [] pos) (T (ev F (.rng (some m) cs))):=by
 delta QE;delta QA at ha;exact(qlK (k:=some m) (.inl ⟨rfl,rfl,m,rfl⟩) h i gb.range c gb.list ha j d)
theorem zw{e:Expr}{c:CE}(h:QE X e (T (ev F c)))(b:∀a,isTrue e X.env a=(do let v <-a;standAt e.pos;holding [v] (truthy v)):=by intro _;rfl):QT X e (TB (tst F (.val c))):=by
 delta QT;delta QE at h;exact(qjP h b)
theorem yo(o:COp){k:Nat}{a b:Expr}{c d:CE}(f:Room k X.A)(ha:QE X a (T (ev F c)))(e:QE X b (T (ev F d)))(hm:behindInMarks (cOf o) b=false:=by rfl):QT X (.Compare a [cOf o] [b] pos) (TB (tst F (.val (.cmp o c d)))):=by
 delta QT;delta QE at ha;delta QE at e;exact(qjQ (yy o (by have:=f.un;lia)) ha e hm)
theorem qik(o o':COp){k:Nat}{a b c:Expr}{d e f:CE}(h:Room k X.A)(ha:QE X a (T (ev F d)))(i:QE X b (T (ev F e)))(j:QE X c (T (ev F f)))(hm:lastMarks [cOf o,cOf o'] [b,c]=false:=by rfl):
  QT X (.Compare a [cOf o,cOf o'] [b,c] pos) (TB (tst F (.val (.chain o o' d e f)))):=by
 delta QT;delta QE at ha;delta QE at i;delta QE at j;exact(qfq (yy o (by have:=h.un;lia)) (yy o' (by have:=h.un;lia)) ha i j hm)
theorem zY{a:Expr}{b:CB}(ha:QT X a (TB (tst F b))):QT X (.UnaryOp .Not a pos) (TB (tst F (.not b))):=by
 delta QT;delta QT at ha;exact(qjR ha)
theorem qaN{a:Expr}{t:TT}(ha:QT X a t):QW X (.BoolOp .Or [a] pos) t:=by
 delta QW;delta QT at ha;exact(qjk ha)
theorem w_or{a b:Expr}{rest:List Expr}{c d:CB}(ha:QT X a (TB (tst F c)))(e:QW X (.BoolOp .Or (b::rest) pos) (TB (tst F d))):QW X (.BoolOp .Or (a::b::rest) pos) (TB (tst F (.or c d))):=by
 delta QW;delta QT at ha;delta QW at e;exact(qlh ha e)
theorem qO :QTl X [] (TB (tsts F .nil)):=by
 delta QTl;exact(qjZ)
theorem qf4{c:Expr}{ifs:List Expr}{a:CB}{cs:CBs}(b:QT X c (TB (tst F a)))(d:QTl X ifs (TB (tsts F cs))):QTl X (c::ifs) (TB (tsts F (.cons a cs))):=by
 delta QTl;delta QT at b;delta QTl at d;exact(qh4 b d)
theorem qV{tg e:Expr}{c:CE}(h:QE X e (T (ev F c))):QI X tg e (TIt (evI F (.seq c))):=by
 delta QI;delta QE at h;exact(qlF h)
theorem yG{tg a:Expr}{es:List Expr}{cs:CEs}{p:Pos}(gb:Gb X.mg)(ha:QA X (a::es) (TL (evs F cs)))(c:Gl X "range":=by rfl)(d:starEach (a::es) X.env=(false,eval a X.env)::starEach es X.env:=by rfl)(b:(backTo pos (starEach es X.env)).any (·.1)=false:=by rfl):
  QI X tg (.Call (.Name "range" p) (a::es) [] pos) (TIt (evI F (.rng cs))):=by
 delta QI;delta QA at ha;exact(i_rng c gb.range ha d b)
theorem qlR{es:List Expr}{n:Nat}{e:Pos}{e1 a:Expr}{c1 c2:CE}{p:Pos}(gb:Gb X.mg)(c:QE X e1 (T (ev F c1)))(d:QE X a (T (ev F c2)))(f:Gl X "zip":=by rfl)(h:starEach [e1,a] X.env=(false,eval e1 X.env)::starEach [a] X.env:=by rfl)(b:starEach [a] X.env=(false,eval a X.env)::starEach [] X.env:=by rfl):QI X (.Tuple es n e) (.Call (.Name "zip" p) [e1,a] [] pos) (TIt (evI F (.zip c1 c2))):=by
 delta QI;delta QE at c;delta QE at d;exact(qlM f gb.zip c d h b)
theorem qo(i:Nat){x:Str}(a:nodupB X.N=true:=by rfl)(hi:X.N[i]?=some x:=by rfl)(b:Loc X.env.scope x:=by first|exact Or.inl rfl|exact Or.inr rfl)(c:X.fn x=true\/X.env.scope.names.lookup x=some .local:=by first|exact .inl rfl|exact .inr rfl):QG X (.Name x pos) (TGt (asg F (.var i))):=by
 delta QG;exact(qlz (qdd (zq a) hi b c))
theorem zA :QGs X [] (TGts (asgs F .nil)):=by
 delta QGs;exact(qlA)
theorem qB{e:Expr}{es:List Expr}{c:CT}{cs:CTs}(a:QG X e (TGt (asg F c)))(b:QGs X es (TGts (asgs F cs)))(d:(assignEach (e::es) X.env).map (·.2)=assign e X.env::(assignEach es X.env).map (·.2):=by rfl):QGs X (e::es) (TGts (asgs F (.cons c cs))):=by
 delta QGs;delta QG at a;delta QGs at b;exact(qjV a b d)
theorem zB{es:List Expr}{k:Nat}{cs:CTs}(h:QGs X es (TGts (asgs F cs)))(b:X.calm=true:=by rfl)(hn:(assignEach es X.env).length=cs.len:=by rfl)(a:(assignEach es X.env).findIdx? (·.1)=none:=by rfl):QG X (.Tuple es k pos) (TGt (asg F (.tup cs))):=by
 delta QG;delta QGs at h;exact(qlB b h hn a λl ρ S c d z=>qb4 z)
theorem qb6{k:Nat}{o i:Expr}{co c:CE}(e:Room k X.A)(d:QE X o (T (ev F co)))(hi:QE X i (T (ev F c)))(ha:∀v,assign (.Subscript o i pos) X.env v=(do
   let a <-holding [v] (eval o X.env)
   let b <-holding [v,a] (eval i X.env)
   standAt pos
   holding [v,a,b] (setItem a b v)
   release [v,a,b] []):=by intro _;rfl):QG X (.Subscript o i pos) (TGt (asg F (.sub co c))):=by
 delta QG;delta QE at d;delta QE at hi;exact(qlC (qbO e) d hi ha)
end
end R
namespace R
open PySem PySem.Spec L2 SeqAt
open PyProof.Rows hiding St
section
variable{X:Cx}{F:Fs}{N:Nat}{pos:Pos}
theorem qj :QSs X [] (TSm (exs F N .nil)):=by
 delta QSs;exact(qlD)
theorem qd{st:Stmt}{rest:List Stmt}{c:CS}{cs:CSs}(a:QS X st (TSm (ex F N c)))(b:QSs X rest (TSm (exs F N cs))):QSs X (st::rest) (TSm (exs F N (.cons c cs))):=by
 delta QSs;delta QS at a;delta QSs at b;exact(qjW a b)
theorem j6{e:Expr}{c:CE}(a:QE X e (T (ev F c)))(b:swapsWith e none pos.line X.env=pure false:=by rfl):QS X (.Expr e pos) (TSm (ex F N (.expr c))):=by
 delta QS;delta QE at a;exact(qjX a b)
theorem qD{e:Expr}{c:CE}(a:QE X e (T (ev F c))):QS X (.Return (some e) pos) (TSm (ex F N (.ret c))):=by
 delta QS;delta QE at a;exact(qlE a)
theorem qdy{st:Stmt}:QS X st (TSm (ex F N .never)):=by
 delta QS;exact(qh0)
theorem z_if{c:Expr}{a b:List Stmt}{d:CB}{e f:CSs}(h:QT X c (TB (tst F d)))(ha:QSs X a (TSm (exs F N e)))(i:QSs X b (TSm (exs F N f))):QS X (.If c a b pos) (TSm (ex F N (.ifs d e f))):=by
 delta QS;delta QT at h;delta QSs at ha;delta QSs at i;exact(s_if h ha i)
theorem yp{tg e:Expr}{c:CE}{t:CT}(a:QE X e (T (ev F c)))(b:QG X tg (TGt (asg F t)))(d:swapsWithSole [tg] e pos.line X.env=pure false:=by rfl)(f:swappedStores [tg] e X.env=pure none:=by rfl)(h:(assignEach [tg] X.env).map (·.2)=[assign tg X.env]:=by rfl):
  QS X (.Assign [tg] e pos) (TSm (ex F N (.set t c))):=by
 delta QS;delta QE at a;delta QG at b;exact(qiY (qjs a b d f h))
theorem qF(i:Nat){x:Str}{e:Expr}{c:CE}{a:Pos}(n:QE X e (T (ev F c)))(q:nodupB X.N=true:=by rfl)(hi:X.N[i]?=some x:=by rfl)(r:Loc X.env.scope x:=by first|exact Or.inl rfl|exact Or.inr rfl)(s:swapsWith e (some (.Name x a)) pos.line X.env=pure false:=by rfl)(u:X.fn x=true\/X.env.scope.names.lookup x=some .local:=by first|exact .inl rfl|exact .inr rfl):QS X (.Assign [.Name x a] e pos) (TSm (ex F N (.set (.var i) c))):=by
 delta QS;delta QE at n
 refine qiY (g:=λd ρ S=>.ok (ρ.set i (some d)) S) (PSimp (qjt (zq q) hi r n s u) λD E H w=>?_)
 obtain⟨ι,S,ρ,y,st,p⟩:=w
 refine⟨ι,S,ρ,y,st,?_⟩
 cases z:ev F c ρ S with
 |no=>rw[z]at p;exact p
 |err=>rw[z]at p;exact p
 |ok d S1 =>
  rw[z]at p
  intro v b o s1 f A
  obtain⟨h,S2,B,d2,j,l,m,C⟩:=p v b o s1 f A
  exact C _ h o (Stp.refl _ _) l (j.set m)
theorem yU{tg iter:Expr}{body:List Stmt}{it:CI}{t:CT}{a:CSs}(hi:QI X tg iter (TIt (evI F it)))(b:QG X tg (TGt (asg F t)))(c:QSs X body (TSm (exs F N a)))(d:PassesOwn (model X.prog X.w) X.A X.env X.xe:=by exact PassesOwn.never)(e:X.calm=true:=by rfl)(f:∀x,foldedSetIterable iter X.env x=pure x:=by intro _;rfl):QS X (.For tg iter body [] pos) (TSm (ex F N (.forS t it a))):=by
 delta QS;delta QI at hi;delta QG at b;delta QSs at c;exact(qlG d e hi b c f)
theorem qbf{c:Expr}{body:List Stmt}{a:CB}{b:CSs}(d:QT X c (TB (tst F a)))(e:QSs X body (TSm (exs F N b)))(f:PassesOwn (model X.prog X.w) X.A X.env X.xe:=by exact PassesOwn.never):QS X (.While c body [] pos) (TSm (ex F N (.whileS a b))):=by
 delta QS;delta QT at d;delta QSs at e;exact(qh1 f d e)
noncomputable def cscB(O:List (Str×NameKind))(N':List Str)(sc:Scope)(fr:List Nat)(xs ts:List Str):Bool :=
 (sc.kind == .function)&&sc.names.all (λy=>y.2 != .cell)&&sc.names.all (λy=>y.2 != .local || sc.names.lookup y.1 == some .local)&&sc.names.all (λy=>y.2 != .free || O.lookup y.1 == some .cell || O.lookup y.1 == some .free) &&
 decide (fr.length=xs.length)&&(fr.zip xs).all (λp=>N'[p.1]? == some p.2)&&xs.all (λx=>sc.names.lookup x == some .free&&(O.lookup x == some .cell || O.lookup x == some .free))&&ts.all (λx=>sc.names.lookup x == some .local)&&decide (xs++ts).Nodup
theorem jk{sc:Scope}{fr:List Nat}{xs ts:List Str}(h:cscB X.env.scope.names X.N sc fr xs ts=true):CSc X sc fr xs ts:=by
 unfold cscB at h
 simp only[wW,ww,Bool.or_eq_true,bne_iff_ne,vt,wk]at h
 obtain⟨⟨⟨⟨⟨⟨⟨⟨b,c⟩,d⟩,e⟩,f⟩,l⟩,m⟩,n⟩,o⟩:=h
 refine⟨b,c,λy a p=>?_,λy a q=>?_,⟨f,λi j x e1 r=>?_,m,n,o⟩⟩
 .rcases d y a with z|z
  .exact absurd p z
  .exact z
 .rcases e y a with (z|z)|z
  .exact absurd q z
  .exact .inl z
  .exact .inr z
 .have hm:(j,x)∈fr.zip xs:=by
   apply wo (i:=i)
   rw[List.getElem?_zip_eq_some]
   exact⟨e1,r⟩
  exact l (j,x) hm
theorem qY{k:Nat}{sc:Scope}{cl:List (Str×Addr)}{C:Addr}{code:Value}{N':List Str}{fp:List Addr}{tg elt iter:Expr}{ifs:List Expr}{a:Pos}{it:Addr}{o:Addr×Obj}{s:Shared}{H:Hp}(r:Room (k+1) X.A):
  Room k (genCx X sc cl C code N' fp (.GeneratorExp elt [⟨tg,iter,ifs,0⟩] sc a) it o s H).A:=by
 have c:=r.hd
 have d:=r.dp
 have e:=r.un
 refine⟨c,?_,?_⟩
 .show X.A.depth+frameCount ([].map Frame.where_)+Code.weight _+3*k+5<_
  have:Code.weight (.compLoop (.GeneratorExp elt [⟨tg,iter,ifs,0⟩] sc a) 0 (.ref it) .none (genEnv sc cl C code builtinsNs X.env))<=1:=Nat.le_of_ble_eq_true rfl
  have b:frameCount (([]:List Frame).map Frame.where_)=0:=rfl
  rw[b]
  lia
 .show X.A.units+1+1+1+1+1+unitsOf ([].map Frame.where_)+Code.cUnits _+16*k+200<_
  have:Code.cUnits (.compLoop (.GeneratorExp elt [⟨tg,iter,ifs,0⟩] sc a) 0 (.ref it) .none (genEnv sc cl C code builtinsNs X.env))<=3:=Nat.le_of_ble_eq_true rfl
  have b:unitsOf (([]:List Frame).map Frame.where_)=0:=rfl
  rw[b]
  lia
theorem k_lc(m:Bool)(fr:List Nat)(xs ts:List Str){tg elt iter:Expr}{ifs:List Expr}{sc:Scope}{t:CT}{it:CI}{a:CBs}{b:CE}(hi:QI X tg iter (TIt (evI F it)))(rt:∀cl C fp s H,QG (compCx X sc cl C (xs++ts) fp s H) tg (TGt (asg F t)))(ri:∀cl C fp s H,QTl (compCx X sc cl C (xs++ts) fp s H) ifs (TB (tsts F a)))(re:∀cl C fp s H,QE (compCx X sc cl C (xs++ts) fp s H) elt (T (ev F b)))(c:X.calm=true:=by rfl)(d:∀x,foldedSetIterable iter X.env x=pure x:=by intro _;rfl)(h:cscB X.env.scope.names X.N sc fr xs ts=true:=by rfl):QE X (.ListComp elt [⟨tg,iter,ifs,0⟩] sc pos) (T (ev F (.lc m fr ts.length b t it a))):=by
 delta QE;delta QI at hi;delta QG at rt;delta QTl at ri;delta QE at re;exact(r_lc c hi d (jk h) ⟨rt,ri,re⟩)
theorem qbg(i:Nat)(m:Bool)(fr:List Nat)(xs ts:List Str){tg elt iter:Expr}{ifs:List Expr}{sc:Scope}{t:CT}{it:CI}{c:CBs}{d:CE}{y:Str}{e a:Pos}(hi:QI X tg iter (TIt (evI F it)))(rt:∀cl C fp s H,QG (compCx X sc cl C (xs++ts) fp s H) tg (TGt (asg F t)))(ri:∀cl C fp s H,QTl (compCx X sc cl C (xs++ts) fp s H) ifs (TB (tsts F c)))(re:∀cl C fp s H,QE (compCx X sc cl C (xs++ts) fp s H) elt (T (ev F d)))(f:X.calm=true:=by rfl)(j:∀x,foldedSetIterable iter X.env x=pure x:=by intro _;rfl)(h:cscB X.env.scope.names X.N sc fr xs ts=true:=by rfl)(l:nodupB X.N=true:=by rfl)(n:X.N[i]?=some y:=by rfl)(o:X.env.scope.names.lookup y=some .local:=by rfl)(b:swapsWith (.ListComp elt [⟨tg,iter,ifs,0⟩] sc pos) (some (.Name y e)) a.line X.env=pure true:=by rfl):
  QS X (.Assign [.Name y e] (.ListComp elt [⟨tg,iter,ifs,0⟩] sc pos) a) (TSm (ex F N (.set (.var i) (.lc m fr ts.length d t it c)))):=by
 delta QS;delta QI at hi;delta QG at rt;delta QTl at ri;delta QE at re;exact(qh6 f hi j (jk h) ⟨rt,ri,re⟩ (zq l) n o b)
theorem qi3(w:GW)(fr:List Nat)(xs ts:List Str){id:String}{f:Str}{p d:Pos}{tg elt iter:Expr}{ifs:List Expr}{sc:Scope}{k:Nat}{c T':Addr}{t:CT}{it:CI}{l:CBs}{m:CE}(n:Room k X.A)(q:GCall X w (.builtin id))(hm:X.mg f=none)(r:bootBuiltins f=some (.builtin id))(a:X.env.code=.ref c)(b:codeTab X.K c T'=true)(hi:PI X tg iter (TIt (evI F it)))(rt:∀cl C code fp it o s H,PG (genCx X sc cl C code (xs++ts) fp (.GeneratorExp elt [⟨tg,iter,ifs,0⟩] sc d) it o s H) tg (TGt (asg F t)))(ri:∀cl C code fp it o s H,PTl (genCx X sc cl C code (xs++ts) fp (.GeneratorExp elt [⟨tg,iter,ifs,0⟩] sc d) it o s H) ifs (TB (tsts F l)))(re:∀cl C code fp it o s H,PE (genCx X sc cl C code (xs++ts) fp (.GeneratorExp elt [⟨tg,iter,ifs,0⟩] sc d) it o s H) elt (T (ev F m)))(u:X.calm=true:=by rfl)(e:Gl X f:=by rfl)(hn:f≠"__name__":=by decide)(i:(f == ("__debug__":Str))=false:=by decide)(v:∀x,genFold iter X.env x=pure x:=by intro _;rfl)(h:cscB X.env.scope.names X.N sc fr xs ts=true:=by rfl)(y:sc.names.lookup (".0":Str)=some NameKind.local:=by rfl)(j:sc.isCoroutine=false:=by rfl):PE X (.Call (.Name f p) [.GeneratorExp elt [⟨tg,iter,ifs,0⟩] sc d] [] pos) (T (ev F (.gen w fr ts.length m t it l))) :=
 qlJ u n.depth q e hm r hn i hi v (jk h) y j a b ⟨rt,ri,re⟩
theorem j7(fr:List Nat)(xs ts:List Str){p d:Pos}{tg elt iter:Expr}{ifs:List Expr}{sc:Scope}{k:Nat}{c T':Addr}{t:CT}{it:CI}{j:CBs}{l:CE}(e:Room k X.A)(gb:Gb X.mg)(a:X.env.code=.ref c)(b:codeTab X.K c T'=true)(hi:QI X tg iter (TIt (evI F it)))(rt:∀cl C code fp it o s H,QG (genCx X sc cl C code (xs++ts) fp (.GeneratorExp elt [⟨tg,iter,ifs,0⟩] sc d) it o s H) tg (TGt (asg F t)))(ri:∀cl C code fp it o s H,QTl (genCx X sc cl C code (xs++ts) fp (.GeneratorExp elt [⟨tg,iter,ifs,0⟩] sc d) it o s H) ifs (TB (tsts F j)))(re:∀cl C code fp it o s H,QE (genCx X sc cl C code (xs++ts) fp (.GeneratorExp elt [⟨tg,iter,ifs,0⟩] sc d) it o s H) elt (T (ev F l)))(m:X.calm=true:=by rfl)(f:Gl X "all":=by rfl)(n:∀x,genFold iter X.env x=pure x:=by intro _;rfl)(h:cscB X.env.scope.names X.N sc fr xs ts=true:=by rfl)(q:sc.names.lookup (".0":Str)=some NameKind.local:=by rfl)(i:sc.isCoroutine=false:=by rfl):QE X (.Call (.Name "all" p) [.GeneratorExp elt [⟨tg,iter,ifs,0⟩] sc d] [] pos) (T (ev F (.gen .all fr ts.length l t it j))):=by
 delta QE;delta QI at hi;delta QG at rt;delta QTl at ri;delta QE at re;exact(qi3 .all fr xs ts e (qj2 m e.depth λ_=>e.hd) gb.all (by decide +kernel) a b hi rt ri re m f (by decide) (by decide) n h q i)
theorem qj8(fr:List Nat)(xs ts:List Str){p d:Pos}{tg elt iter:Expr}{ifs:List Expr}{sc:Scope}{k:Nat}{c T':Addr}{t:CT}{it:CI}{j:CBs}{l:CE}(e:Room k X.A)(gb:Gb X.mg)(a:X.env.code=.ref c)(b:codeTab X.K c T'=true)(hi:QI X tg iter (TIt (evI F it)))(rt:∀cl C code fp it o s H,QG (genCx X sc cl C code (xs++ts) fp (.GeneratorExp elt [⟨tg,iter,ifs,0⟩] sc d) it o s H) tg (TGt (asg F t)))(ri:∀cl C code fp it o s H,QTl (genCx X sc cl C code (xs++ts) fp (.GeneratorExp elt [⟨tg,iter,ifs,0⟩] sc d) it o s H) ifs (TB (tsts F j)))(re:∀cl C code fp it o s H,QE (genCx X sc cl C code (xs++ts) fp (.GeneratorExp elt [⟨tg,iter,ifs,0⟩] sc d) it o s H) elt (T (ev F l)))(m:X.calm=true:=by rfl)(f:Gl X "sum":=by rfl)(n:∀x,genFold iter X.env x=pure x:=by intro _;rfl)(h:cscB X.env.scope.names X.N sc fr xs ts=true:=by rfl)(q:sc.names.lookup (".0":Str)=some NameKind.local:=by rfl)(i:sc.isCoroutine=false:=by rfl):QE X (.Call (.Name "sum" p) [.GeneratorExp elt [⟨tg,iter,ifs,0⟩] sc d] [] pos) (T (ev F (.gen .sum fr ts.length l t it j))):=by
 delta QE;delta QI at hi;delta QG at rt;delta QTl at ri;delta QE at re;exact(qi3 .sum fr xs ts e (qfK m e.depth λ_=>e.hd) gb.sum (by decide +kernel) a b hi rt ri re m f (by decide) (by decide) n h q i)
end
structure FunT (K:PySem.W.Frag) (x:Str) (st:Stmt) (f:Addr) (fd:FuncData) (c T':Addr):Prop where
 ex:∃(oc:Value) (od:Option Addr) (kV doc pm:Value) (an:Option Addr) (ct:Value) (osl:Array (Option Value)),
  fd=PySem.W.fnOf x x (defArgs st) (defBody st) (defScope st) .none kV doc pm an (.ref c) ct/\K.lookup f=some ⟨oc,od,.func fd,osl⟩/\PySem.W.codeIn K (.ref c) x=true
 tab:codeTab K c T'=true
 kp:PySem.W.keepIn K (.ref f)=true
mutual
theorem Den.frz{ι:List Addr}{H:Hp}{S:Sr}{n:Nat}(st:Sto ι H S):∀(d:D) {d':D} {v:V},R.frz S n d=some d'->Den ι H d v->Den (ι.take n) H d' v
 | .non,d',v,e,h=>by cases e;exact h
 | .bl b,d',v,e,h=>by cases e;exact h
 | .int b,d',v,e,h=>by cases e;exact h
 | .str b,d',v,e,h=>by cases e;exact h
 | .emp,d',v,e,h=>by
  cases e
  obtain⟨a,e1,e2,e3⟩:=h
  exact⟨a,e1,λm=>e2 (vY m),e3⟩
 | .tup l,d',v,e,h=>by
  unfold R.frz at e
  cases z:R.frzs S n l with
  |none=>rw[z]at e;cases e
  |some l' =>
   rw[z]at e;cases e
   obtain⟨a,xs,e1,e2,e3,e4⟩:=h
   exact⟨a,xs,e1,λm=>e2 (vY m),e3,Dens.frz st l z e4⟩
 | .lst l,d',v,e,h=>by
  unfold R.frz at e
  cases z:R.frzs S n l with
  |none=>rw[z]at e;cases e
  |some l' =>
   rw[z]at e;cases e
   obtain⟨a,xs,e1,e2,e3,e4⟩:=h
   exact⟨a,xs,e1,λm=>e2 (vY m),e3,Dens.frz st l z e4⟩
 | .ref m,d',v,e,h=>by
  obtain⟨a,e1,e2⟩:=h
  unfold R.frz at e
  split at e
  .rename_i hm
   cases e
   exact⟨a,e1,by rw[List.getElem?_take];rw[wM hm];exact e2⟩
  .rename_i hm
   split at e
   .rename_i l hl
    split at e
    rotate_left
    .cases e
    rename_i f
    cases e
    obtain⟨_,xs,h1,h2⟩:=st.obj m a _ e2 hl
    refine⟨a,xs,e1,λhmem=>?_,.inl h1,Dens.less l f h2⟩
    obtain⟨i,hi,ei⟩:=List.mem_iff_getElem?.mp hmem |>.elim λi hi=>(⟨i,by
     have:=(wP.mp hi).1
     rw[vE]at this;lia,hi⟩:∃i,i<n/\(ι.take n)[i]?=some a)
    rw[List.getElem?_take,wM hi]at ei
    have hlt:=(wP.mp ei).1
    have:=(List.getElem?_inj hlt st.nd).mp (ei.trans e2.symm)
    lia
   .cases e
theorem Dens.frz{ι:List Addr}{H:Hp}{S:Sr}{n:Nat}(st:Sto ι H S):∀(ds:List D) {ds':List D} {xs:List V},R.frzs S n ds=some ds'->Dens ι H ds xs->Dens (ι.take n) H ds' xs
 |[],ds',xs,e,h=>by cases e;exact h
 |d::r,ds',xs,e,h=>by
  unfold R.frzs at e
  split at e
  .rename_i a b h1 h2
   cases e
   obtain⟨x,t,e1,e2,e3⟩:=h
   exact⟨x,t,e1,Den.frz st d h1 e2,Dens.frz st r h2 e3⟩
  .cases e
end
theorem qil{F:Fs}{N:Nat}{c:CF}{ns ps:List Str}{vs:List V}{H:Hp}{Q:VK}(o:ps.length=c.np)(hn:ns.length=c.nn)(s:c.np<=c.nn)(h:SpD ps.length (callC F N c) vs H Q E0):TSm (exs F N c.body) {nx:=λ_ H'=>Q .non H',rt:=Q} (start ns vs) H:=by
 obtain⟨r,ι,S,ds,st,l,p⟩:=h
 have m:ds.length=c.np:=by rw[l.length,r,o]
 unfold callC at p
 rw[wM m]at p
 have u:EnR ι H (ds.map some++List.replicate (c.nn-c.np) none) (start ns vs):=by
  unfold L2.start
  have e1:ns.length-vs.length=c.nn-c.np:=by rw[hn,r,o]
  rw[e1]
  refine⟨by simp[l.length],λi d e=>?_⟩
  by_cases hi:i<ds.length
  .rw [wY (by simpa using hi),wb,wC hi]at e
   cases e
   obtain⟨x,w,y⟩:=l.get (wC hi)
   refine⟨x,?_,y⟩
   rw[wY (by rw[wG,<-l.length];exact hi),wb,w];rfl
  .rw [w8 (by simpa using hi),vm]at e
   split at e <;> cases e
 refine⟨ι,S,_,u,st,?_⟩
 have lv:∀{d:D} {S1:Sr},Pst Den (leave c.keeps S.length d S1) ι H Q->∀a H',Stp ι H a H'->Sto a H' S1->∀v,Den a H' d v->Q v H':=by
  intro d S1 q a H' s1 b v j
  unfold leave at q
  split at q
  .exact q v a H' s1 b j
  .split at q
   .exact q v a H' s1 b j
   .split at q
    .rename_i A
     have e:=s1.take_eq
     have n:ι.length=S.length:=st.len
     refine q v (a.take S.length) H' (by rw[<-n];exact s1.less) (b.less _) (Den.less d A j)
    .split at q
     .rename_i d' hd
      have n:ι.length=S.length:=st.len
      exact q v (a.take S.length) H' (by rw[<-n];exact s1.less) (b.less _) (Den.frz b d hd j)
     .exact q.elim
 cases z:exs F N c.body (ds.map some++List.replicate (c.nn-c.np) none) S with
 |no=>rw[z]at p;exact p.elim
 |err=>rw[z]at p;exact p.elim
 |ok f S1 =>
  rw[z,Res.bind_ok]at p
  intro a H' s1 b
  cases f with
  |nx ρ=>exact λB _=>lv p a H' s1 b .non rfl
  |rt d=>exact λv j=>lv p a H' s1 b v j
  |bk ρ=>exact p.elim
  |ct ρ=>exact p.elim
end R
namespace R
open PySem PySem.Spec L2 SeqAt
open PyProof.Rows hiding St
noncomputable def isFields:Data->Bool
 | .fields _=>true
 |_=>false
noncomputable def plainK(K:PySem.W.Frag):Bool:=K.all λp=>p.2.cls != .type "list"&&!(p.2.cls == .none&&isFields p.2.data)
noncomputable def codesK(q:Program)(K:PySem.W.Frag):Bool:=K.all λp=>p.2.cls != .type "code" || (recsOf q).any λd=>match PySem.W.nsIn K mainGlobals d.name with
 |some (some (.ref a))=>(match K.lookup a with
  |some ⟨_,_,.func fd,_⟩=>fd.code == .ref p.1
  |_=>false)
 |_=>false
theorem zU:∀{K:PySem.W.Frag} {a:Addr} {o:Obj},K.lookup a=some o->(a,o)∈K
 |[],_,_,h=>by cases h
 | (b,u)::K,a,o,h=>by
  rw[vW]at h
  cases z:a == b with
  |true=>rw[z]at h;cases h;rw[vt.mp z];exact wE
  |false=>rw[z]at h;exact wH _ (zU h)
theorem qf5{K:PySem.W.Frag}(h:plainK K=true){a:Addr}{o:Obj}(e:K.lookup a=some o):o.cls≠.type "list"/\¬(o.cls=.none/\isFields o.data=true):=by
 unfold plainK at h
 rw[ww]at h
 have:=h _ (zU e)
 simp only[wW,bne_iff_ne,ux,Bool.and_eq_false_iff,vB]at this
 refine⟨this.1,λ⟨b,c⟩=>?_⟩
 rcases this.2 with z|z
 .exact z b
 .rw [c]at z;cases z
theorem j8{K:PySem.W.Frag}{c t:Addr}(h:codeTab K c t=true):∃o vs,K.lookup c=some o/\o.cls=.type "code"/\o.data=.fields vs/\vs[11]?=some (.ref t):=by
 unfold codeTab at h
 split at h
 .rename_i cls d vs sl i
  simp only[wW,vt]at h
  obtain⟨e1,f⟩:=h
  split at f
  .rename_i a b p q r s x5 x6 u j e l v w m
   simp only[wW,vt,bne_iff_ne]at f
   obtain⟨⟨x,n⟩,ne⟩:=f
   subst n
   exact⟨_,vs,i,e1,rfl,e⟩
  .cases f
 .cases h
theorem qim{q:Program}{b:List Str}{i:ExcName->Option Value}{mg mb:Str->Option Value}{h:Heap}{K:PySem.W.Frag}(T:Top q b i mg mb h)(j:K.In h)(l:codesK q K=true){c t:Addr}(e:codeTab K c t=true):
  h.get? t=some {cls:=.none,data:=.fields #[]}/\isCodeTable h t:=by
 obtain⟨o,vs,m,cl,n,p⟩:=j8 e
 unfold codesK at l
 rw[ww]at l
 have:=l _ (zU m)
 simp only[Bool.or_eq_true,bne_iff_ne,vd]at this
 rcases this with z|⟨d,hd,hz⟩
 .exact absurd cl z
 .split at hz
  .rename_i a hn
   split at hz
   .rename_i oc od fd sl w
    have f:fd.code=.ref c:=by simpa using hz
    obtain⟨H,o',x,I,J,e1,y,A,r,L,B⟩:=T.tab d hd
    have C:=PySem.W.mg_of j T.g hn
    rw[C]at e1
    cases e1
    have:=j _ _ w
    rw[y]at this
    cases this
    cases A
    rw[f]at r
    cases r
    obtain⟨⟨E,M,s,N,u,v⟩,F⟩:=B
    have:=j _ _ m
    rw[s]at this
    cases this
    rw[n]at u
    cases u
    rw[p]at v
    cases v
    exact⟨F,c,_,_,s,cl,n,p⟩
   .cases hz
  .cases hz
noncomputable def tabOf(K:PySem.W.Frag)(b:Addr):Bool:=K.any λp=>codeTab K p.1 b
theorem qaO{K:PySem.W.Frag}{b:Addr}:tabOf K b=true ↔ ∃c,codeTab K c b=true:=by
 unfold tabOf
 rw[vd]
 constructor
 .rintro ⟨p,_,h⟩;exact⟨p.1,h⟩
 .rintro ⟨c,h⟩
  obtain⟨o,vs,a,_⟩:=j8 h
  exact⟨(c,o),zU a,h⟩
noncomputable def entryH(K:PySem.W.Frag)(a:Addr)(vs:List Value)(ns:List Int):Hp:=λb=>if b=a then some (.frz {cls:=.type "list",data:=.seq vs.toArray} (.lst (ns.map V.int)))else if tabOf K b=true then some (.tbl #[])else none
theorem qeG{P:Program}{w:World}{q:Program}{A:List Str}{L:ExcName->Option Value}{K:PySem.W.Frag}{mg mb:Str->Option Value}{k:Nat}{fa a:Addr}{fd:FuncData}{x:Str}{sp:Sp}{f:Shared}{vs:List Value}{ns:List Int}(T:Top q A L mg mb f.heap)(Q:K.In f.heap)(hp:plainK K=true)(R:codesK q K=true)(hg:f.gens=#[])(ha:f.heap.get? a=some {cls:=.type "list",data:=.seq vs.toArray})(hi:IntsAre vs ns)(hl:ns.length<=sizeLine)(hr:Room k callerA)(F:∀base:Heap,K.In base->base.Ns mainGlobals mg->FnOk P w K mg base CX0 k fa fd [x] sp)(B:∀(s:Shared) (u:Value),BindsTo s fd ⟨[u],[]⟩ [(x,u)])(S:∀H:Hp,H a=some (.frz {cls:=.type "list",data:=.seq vs.toArray} (.lst (ns.map V.int)))->sp [.ref a] H (λv _=>v=.bl true) λ_ _ _=>False):
  codeAny (model P w) callerA (.call (.ref fa) ⟨[.ref a],[]⟩) (λr s'=>r=.ok (.ret (.bool true))/\OldK f.heap s'.heap/\s'.os=f.os/\AllBare s'.gens) f:=by
 have rv:=qaG hi
 have I:∀{b:Addr},tabOf K b=true->f.heap.get? b=some {cls:=.none,data:=.fields #[]}/\isCodeTable f.heap b:=λ{b} h=>by
  obtain⟨c,e⟩:=qaO.mp h
  exact qim T Q R e
 have na:tabOf K a≠true:=λh=>by
  have:=(I h).1
  rw[ha]at this;cases this
 generalize U:entryH K a vs ns=H
 have X:H a=some (.frz {cls:=.type "list",data:=.seq vs.toArray} (.lst (ns.map V.int))):=by rw[<-U];unfold entryH;rw[wM rfl]
 have Y:∀{b:Addr},tabOf K b=true->H b=some (.tbl #[]):=λ{b} h=>by
  rw[<-U];unfold entryH
  rw[wO (λ(z:b=a)=>na (by rw[<-z];exact h)),wM h]
 have j:∀{b:Addr} {u:HO},H b=some u->(b=a/\u=.frz {cls:=.type "list",data:=.seq vs.toArray} (.lst (ns.map V.int)))\/(tabOf K b=true/\u=.tbl #[]):=λ{b u} e=>by
  rw[<-U]at e;unfold entryH at e
  split at e
  .rename_i z;cases e;exact .inl ⟨z,rfl⟩
  .split at e
   .rename_i z;cases e;exact .inr ⟨z,rfl⟩
   .cases e
 have hok:HOk P w H f.heap:=λb u e=>by
  rcases j e with ⟨rfl,rfl⟩|⟨h,rfl⟩
  .exact ⟨ha,by rw[wG];exact hl,vs,_,rv,ha⟩
  .exact ⟨(I h).1,trivial⟩
 have i:∀{b:Addr} {o:Obj},f.heap.get? b=some o->H b=none->(hidT f.heap H).get? b=some o:=λe n=>qeR e n
 have Z:∀{b:Addr} {o:Obj} {es:Array DictEntry} {J:Nat},f.heap.get? b=some o->o.data=.dict es J->H b=none:=λ{b o es J} e d=>by
  cases z:H b with
  |none=>rfl
  |some u =>
   rcases j z with ⟨rfl,rfl⟩|⟨h,rfl⟩
   .rw [ha]at e;cases e;cases (show Data.seq vs.toArray _=Data.dict es J from d)
   .rw [(I h).1]at e;cases e;cases (show Data.fields #[]=Data.dict es J from d)
 have l:∀{b:Addr} {m:Str->Option Value},f.heap.Ns b m->(hidT f.heap H).Ns b m:=λ{b m} ⟨o,es,J,e,d,r⟩=>⟨o,es,J,i e (Z e d),d,r⟩
 have M:K.In (hidT f.heap H):=λb o e=>i (Q b o e) (by
  cases z:H b with
  |none=>rfl
  |some u =>
   obtain⟨p1,p2⟩:=qf5 hp e
   have O:=Q b o e
   rcases j z with ⟨rfl,rfl⟩|⟨h,rfl⟩
   .rw [ha]at O;cases O;exact absurd rfl p1
   .rw [(I h).1]at O;cases O;exact absurd ⟨rfl,rfl⟩ p2)
 have bm:∃bm ob,mg "__builtins__"=some (.ref bm)/\bm≠builtinsNs/\(hidT f.heap H).get? bm=some ob/\ob.cls=.type "module"/\ob.dict=some builtinsNs/\ob.data=.plain:=by
  obtain⟨bm,ob,e1,C,E,N,e5,e6⟩:=T.bmain
  refine⟨bm,ob,e1,C,i E ?_,N,e5,e6⟩
  cases z:H bm with
  |none=>rfl
  |some u =>
   rcases j z with ⟨rfl,rfl⟩|⟨h,rfl⟩
   .rw [ha]at E;cases E;exact absurd (show Value.type "list"=Value.type "module" from N) (by decide)
   .rw [(I h).1]at E;cases E;exact absurd N (by decide)
 have hM:Mod K mg (hidT f.heap H):=⟨M,l T.g,⟨mb,l T.b,T.builtins⟩,(let ⟨mc,h1,h2⟩:=T.nolimit;⟨mc,l h1,h2⟩),bm⟩
 have e0:Env0 P w K mg (hidT f.heap H) callerA [] f H:=⟨rfl,hM,λb o e=>qhs e,Nat.le_of_eq (qed _ _),trivial,λb hb=>absurd (show b∈([]:List Addr)from hb) (by simp),hok,.of_eq hg,λc t z=>⟨_,Y (qaO.mpr ⟨c,z⟩)⟩⟩
 refine xI ((F _ M (l T.g)).run callerA [] f H ⟨[.ref a],[]⟩ [.ref a] [.ref a] _ _ hr e0 (B f (.ref a)) (.cons rfl .nil) (S H X)) λr s' h=>?_
 cases r with
 |error e=>exact(show False from h).elim
 |ok fl =>
  cases fl with
  |next=>exact False.elim h
  |brk=>exact False.elim h
  |cont=>exact False.elim h
  |ret u =>
   obtain⟨v,H',os,bare,un,p,r',q'⟩:=h
   have q':v=.bl true:=q'
   subst q'
   obtain rfl:u=Value.bool true:=r'
   have old:∀b o,f.heap.get? b=some o->asItWas f.heap s'.heap b o/\∃o',s'.heap.get? b=some o':=λb o e=>by
    cases z:H b with
    |none =>
     have:=un.keep b o e z (by intro y;exact absurd (show b∈([]:List Addr)from y) (by simp)) (by simp)
     exact⟨.inl this,_,this⟩
    |some u =>
     rcases j z with ⟨rfl,rfl⟩|⟨h,rfl⟩
     .have z2:=un.frzs _ _ _ z
      obtain⟨C,_⟩:=p _ _ z2
      rw[ha]at e;cases e
      exact⟨.inl C,_,C⟩
     .obtain ⟨more,z2⟩:=un.tbls _ _ z
      obtain⟨C,_⟩:=p _ _ z2
      obtain⟨E,N⟩:=I h
      rw[E]at e;cases e
      exact⟨.inr (.inl ⟨N,rfl,#[],more,rfl,C⟩),_,C⟩
   exact⟨rfl,⟨λb o e=>(old b o e).1,λb o e=>(old b o e).2⟩,os,bare.bare⟩
theorem qj9{l:PySem.W.OpenLaw}{n k:Nat}{q:Program}{c:List Str}{M:(Str->Option Value)->Heap->Prop}{C:World->Heap->Prop}{d:DefRec}{K:Params->PySem.W.Frag}{x:Str}{g:List D->Sr->Res D}(hn:l.most=some n)(y:n<=sizeLine)(z:d.params.defaults=[])(N:Room k callerA)(O:∀(w:World) (h:Heap),C w h->(K w.params).In h)(Q:∀P,plainK (K P)=true)(A:∀P,codesK q (K P)=true)(F:∀(w:World) (mg:Str->Option Value) (m:Addr) (h:Heap),(K w.params).In h->h.Ns mainGlobals mg->mg d.name=some (.ref m) ->
   ∃fd:FuncData,(∀(s:Shared) (u:Value),BindsTo s fd ⟨[u],[]⟩ [(x,u)])/\∀base:Heap,(K w.params).In base->base.Ns mainGlobals mg->FnOk l.prog w (K w.params) mg base CX0 k m fd [x] (SpD 1 g))(R:∀ns:List Int,ns.length<=n->∃E,g [.lst (ns.map .int)] []=.ok (.bl true) E):
  PySem.W.WalkO q c M C l.row.toRowW d [] (λf vs=>PySem.call f vs):=by
 refine Att.attach_call hn z λw s₀ I mg mb m o pm cd doc a vs ns G Y ho hd J B j i b S=>?_
 have L:=O w _ Y
 obtain⟨fd,U,X⟩:=F w mg m _ L G.T.g B
 refine qeG G.T L (Q _) (A _) S j i (vI b y) N X U λH Z=>?_
 obtain⟨E,e⟩:=R ns b
 have dd:∀p:List Int,Dens [] H (p.map .int) (p.map V.int):=λp=>by
  induction p with
  |nil=>rfl
  |cons x r ih=>exact⟨_,_,rfl,rfl,ih⟩
 refine⟨rfl,[],[],[.lst (ns.map .int)],⟨rfl,.nil,λn a so e1 _=>by simp at e1⟩,⟨_,_,rfl,⟨a,ns.map V.int,rfl,by simp,.inr ⟨_,Z⟩,dd ns⟩,rfl⟩,?_⟩
 rw[e]
 exact λv a0 H' _ _ hv=>hv
end R
namespace R
open PySem PySem.Spec L2 SeqAt
open PyProof.Rows hiding St
theorem m2{k:Nat}{A:Around}(r:Room (k+2) A):Room k A:=r.mono (by lia)
theorem m1{k:Nat}{A:Around}(r:Room (k+1) A):Room k A:=r.mono (by lia)
theorem qka:bootBuiltins "len"=some (.builtin "len"):=by decide +kernel
theorem qkb:bootBuiltins "min"=some (.builtin "min"):=by decide +kernel
theorem qkc:bootBuiltins "max"=some (.builtin "max"):=by decide +kernel
theorem qkd:bootBuiltins "abs"=some (.builtin "abs"):=by decide +kernel
theorem qeH:bootBuiltins "divmod"=some (.builtin "divmod"):=by decide +kernel
theorem qaP:bootBuiltins "sorted"=some (.builtin "sorted"):=by decide +kernel
theorem qke:bootBuiltins "any"=some (.builtin "any"):=by decide +kernel
theorem qf6:bootBuiltins "tuple"=some (.type "tuple"):=by decide +kernel
section
variable{X:Cx}{F:Fs}{pos p:Pos}{e:Expr}{es:List Expr}{cs:CEs}
theorem zg(gb:Gb X.mg)(ha:QA X (e::es) (TL (evs F cs)))(b:Gl X "len":=by rfl)(c:starEach (e::es) X.env=(false,eval e X.env)::starEach es X.env:=by rfl)(a:(backTo pos (starEach es X.env)).any (·.1)=false:=by rfl):QE X (.Call (.Name "len" p) (e::es) [] pos) (T (ev F (.blt .len cs))):=by
 delta QE;delta QA at ha;exact(jv .len qls gb.len qka ha b (by decide) (by decide) c a)
theorem qi4(gb:Gb X.mg)(ha:QA X (e::es) (TL (evs F cs)))(b:X.calm=true:=by rfl)(c:Gl X "min":=by rfl)(d:starEach (e::es) X.env=(false,eval e X.env)::starEach es X.env:=by rfl)(a:(backTo pos (starEach es X.env)).any (·.1)=false:=by rfl):QE X (.Call (.Name "min" p) (e::es) [] pos) (T (ev F (.blt .min2 cs))):=by
 delta QE;delta QA at ha;exact(jv .min2 (qlu b) gb.min qkb ha c (by decide) (by decide) d a)
theorem qlS(gb:Gb X.mg)(ha:QA X (e::es) (TL (evs F cs)))(b:X.calm=true:=by rfl)(c:Gl X "max":=by rfl)(d:starEach (e::es) X.env=(false,eval e X.env)::starEach es X.env:=by rfl)(a:(backTo pos (starEach es X.env)).any (·.1)=false:=by rfl):QE X (.Call (.Name "max" p) (e::es) [] pos) (T (ev F (.blt .max2 cs))):=by
 delta QE;delta QA at ha;exact(jv .max2 (qlv b) gb.max qkc ha c (by decide) (by decide) d a)
theorem qf7(gb:Gb X.mg)(ha:QA X (e::es) (TL (evs F cs)))(b:Gl X "abs":=by rfl)(c:starEach (e::es) X.env=(false,eval e X.env)::starEach es X.env:=by rfl)(a:(backTo pos (starEach es X.env)).any (·.1)=false:=by rfl):QE X (.Call (.Name "abs" p) (e::es) [] pos) (T (ev F (.blt .abs cs))):=by
 delta QE;delta QA at ha;exact(jv .abs qlt gb.abs qkd ha b (by decide) (by decide) c a)
theorem qf8(gb:Gb X.mg)(ha:QA X (e::es) (TL (evs F cs)))(b:Gl X "divmod":=by rfl)(c:starEach (e::es) X.env=(false,eval e X.env)::starEach es X.env:=by rfl)(a:(backTo pos (starEach es X.env)).any (·.1)=false:=by rfl):QE X (.Call (.Name "divmod" p) (e::es) [] pos) (T (ev F (.blt .divmod cs))):=by
 delta QE;delta QA at ha;exact(jv .divmod qfx gb.divmod qeH ha b (by decide) (by decide) c a)
theorem yq(m:Bool)(gb:Gb X.mg)(ha:QA X (e::es) (TL (evs F cs)))(b:X.calm=true:=by rfl)(c:Gl X "sorted":=by rfl)(d:starEach (e::es) X.env=(false,eval e X.env)::starEach es X.env:=by rfl)(a:(backTo pos (starEach es X.env)).any (·.1)=false:=by rfl):QE X (.Call (.Name "sorted" p) (e::es) [] pos) (T (ev F (.blt (.sorted m) cs))):=by
 delta QE;delta QA at ha;exact(jv (.sorted m) (qf2 m b) gb.sorted qaP ha c (by decide) (by decide) d a)
theorem qlT(gb:Gb X.mg)(ha:QA X (e::es) (TL (evs F cs)))(b:X.calm=true:=by rfl)(c:Gl X "any":=by rfl)(d:starEach (e::es) X.env=(false,eval e X.env)::starEach es X.env:=by rfl)(a:(backTo pos (starEach es X.env)).any (·.1)=false:=by rfl):QE X (.Call (.Name "any" p) (e::es) [] pos) (T (ev F (.blt .any cs))):=by
 delta QE;delta QA at ha;exact(jv .any (qlw b) gb.any qke ha c (by decide) (by decide) d a)
theorem qN(gb:Gb X.mg)(ha:QA X (e::es) (TL (evs F cs)))(b:Gl X "tuple":=by rfl)(c:starEach (e::es) X.env=(false,eval e X.env)::starEach es X.env:=by rfl)(a:(backTo pos (starEach es X.env)).any (·.1)=false:=by rfl):QE X (.Call (.Name "tuple" p) (e::es) [] pos) (T (ev F (.blt .tuple cs))):=by
 delta QE;delta QA at ha;exact(qi1 .tuple qhZ gb.tuple qf6 ha b (by decide) (by decide) c a)
end
end R
namespace R
open PySem PySem.Spec L2 SeqAt
open PyProof.Rows hiding St
theorem qI{P:Program}{w:World}{K:PySem.W.Frag}{mg:Str->Option Value}{base:Heap}{k N i:Nat}{F G:Fs}{x:Str}{st:Stmt}{f c T':Addr}{fd:FuncData}{a:CF}{ns ps:List Str}(U:FunT K x st f fd c T')(S:FnScope ns ps (defScope st))(e:ps.length=a.np)(hn:ns.length=a.nn)(b:a.np<=a.nn)(j:G i=callC F N a)(body:∀(A:Around) (outer:List Env) (s:Shared) (H:Hp) (E:XK),Room k (A.deeper (envOfC x (defScope st) s.heap.objs.size f (.ref c)))->QSs (cxOf CX0 P w K mg base ns x (defScope st) f (.ref c) A outer s H E).nox (defBody st) (TSm (exs F N a.body))):
  FnOk P w K mg base CX0 (k+1) f fd ps (SpD ps.length (G i)):=by
 obtain⟨oc,od,kV,doc,pm,an,ct,osl,rfl,l,d⟩:=U.ex
 refine qk9 l d S (λvs H Q E h=>h.1) λA outer s H vs Q E m h=>⟨_,(body A outer s H E m).un.nox,?_⟩
 rw[j]at h
 exact qil e hn b h
theorem qJ{P:Program}{w:World}{K:PySem.W.Frag}{mg:Str->Option Value}{base:Heap}{i:Nat}{G:Fs}{f:Addr}{fd:FuncData}{ps:List Str}(a:G i=λ_ _=>.no){k:Nat}:
  FnOk P w K mg base CX0 k f fd ps (SpD ps.length (G i)):=by
 refine⟨λvs H Q E h=>h.1,λA outer s H args us vs Q E _ _ _ _ h=>?_⟩
 obtain⟨_,ι,S,ds,_,_,p⟩:=h
 rw[a]at p
 exact p.elim
def DefIn(K:PySem.W.Frag)(mg:Str->Option Value)(x:Str)(st:Stmt)(ps:List Str):Prop:=∃(f:Addr) (fd:FuncData) (c t:Addr),mg x=some (.ref f)/\FunT K x st f fd c t/\Binds K fd ps []
theorem DefIn.fn{P:Program}{w:World}{K:PySem.W.Frag}{mg:Str->Option Value}{base:Heap}{k i:Nat}{F:Fs}{x:Str}{st:Stmt}{ps:List Str}(u:DefIn K mg x st ps)(h:∀f fd c t,FunT K x st f fd c t->FnOk P w K mg base CX0 k f fd ps (SpD ps.length (F i))):FnAt P w K mg base k F i x ps:=by
 obtain⟨f,fd,c,t,hm,U,a⟩:=u
 exact⟨f,fd,hm,U.kp,a,h f fd c t U⟩
theorem len0{us:List Value}(h:us.length=0):us=[]:=List.eq_nil_of_length_eq_zero h
theorem lenS{us:List Value}{n:Nat}(h:us.length=n+1):∃a r,us=a::r/\r.length=n:=by
 cases us with
 |nil=>cases h
 |cons a r=>exact⟨a,r,rfl,Nat.succ.inj h⟩
theorem len1{us:List Value}(h:us.length=1):∃b,us=[b]:=by
 obtain⟨a,_,rfl,q⟩:=lenS h;cases len0 q;exact⟨a,rfl⟩
theorem len2{us:List Value}(h:us.length=2):∃b c,us=[b,c]:=by
 obtain⟨a,r,rfl,q⟩:=lenS h;obtain⟨d,rfl⟩:=len1 q;exact⟨a,d,rfl⟩
theorem len3{us:List Value}(h:us.length=3):∃b c d,us=[b,c,d]:=by
 obtain⟨a,r,rfl,q⟩:=lenS h;obtain⟨e,b1,rfl⟩:=len2 q;exact⟨a,e,b1,rfl⟩
noncomputable def tabIn(vs:Array Value)(c T':Addr):Bool:=match(vs.getD 11 Value.none:Value),(vs.getD 18 Value.none:Value),(vs.getD 7 Value.none:Value),(vs.getD 9 Value.none:Value),(vs.getD 10 Value.none:Value)with
  | .ref a,.str _ _,.int _ _,.bool _,.int _ _=>a == T'&&c != T'
  |_,_,_,_,_=>false
theorem qkf{K:PySem.W.Frag}{c t:Addr}{d:Option Addr}{vs:Array Value}{sl:Array (Option Value)}(e:K.lookup c=some ⟨.type "code",d,.fields vs,sl⟩)(b:vs[11]?=some (.ref t))(h:tabIn vs c t=true):codeTab K c t=true:=by
 unfold codeTab
 rw[e]
 simp only[b]
 unfold tabIn at h
 split at h
 .rename_i a m n o p x5 x6 e1 f i j l
  simp only[e1,f,i,j,l]
  simpa using h
 .cases h
theorem qz{K:PySem.W.Frag}{h:Heap}{mg:Str->Option Value}(X:K.In h)(G:h.Ns mainGlobals mg){x:Str}{st:Stmt}{ps:List Str}{f c t:Addr}{oc kV doc pm ct:Value}{od an:Option Addr}{osl:Array (Option Value)}{d2:Option Addr}{vs:Array Value}{b:Array (Option Value)}(a:PySem.W.nsIn K mainGlobals x=some (some (.ref f)))(l:K.lookup f=some ⟨oc,od,.func (PySem.W.fnOf x x (defArgs st) (defBody st) (defScope st) .none kV doc pm an (.ref c) ct),osl⟩)(i:PySem.W.codeIn K (.ref c) x=true)(j:K.lookup c=some ⟨.type "code",d2,.fields vs,b⟩)(d:vs[11]?=some (.ref t))(m:tabIn vs c t=true)(kp:PySem.W.keepIn K (.ref f)=true)(n:∀(kV doc pm:Value) (an:Option Addr) (e ct:Value) (us:List Value),us.length=ps.length->bindArgs (PySem.W.fnOf x x (defArgs st) (defBody st) (defScope st) .none kV doc pm an e ct) ⟨us,[]⟩=pure (ps.zip us)):DefIn K mg x st ps :=
 ⟨f,_,c,t,PySem.W.mg_of X G a,⟨⟨oc,od,kV,doc,pm,an,ct,osl,rfl,l,i⟩,qkf j d m,kp⟩,.all (n kV doc pm an (.ref c) ct)⟩
theorem j9{K:PySem.W.Frag}{h:Heap}{mg:Str->Option Value}(X:K.In h)(G:h.Ns mainGlobals mg){x:Str}{i:Int}{t:Tok}{v:Value}(a:PySem.W.nsIn K mainGlobals x=some (some v))(e:v=.int i t):∃t:Tok,mg x=some (.int i t):=⟨t,by rw[PySem.W.mg_of X G a,e]⟩
end R
namespace R
open PySem PySem.Spec L2 SeqAt
open PyProof.Rows hiding St
section
variable{X:Cx}{F:Fs}{N:Nat}{pos:Pos}
theorem qb7(i j:Nat){x y:Str}{a b:Expr}{d e:CE}{f m pt:Pos}{kt k2 pt2}(ha:QA X [a,b] (TL (evs F (.cons d (.cons e .nil)))))(C:X.calm=true:=by rfl)(E:nodupB X.N=true:=by rfl)(hi:X.N[i]?=some x:=by rfl)(I:X.N[j]?=some y:=by rfl)(n:i≠j:=by decide)(J:X.env.scope.names.lookup x=some .local:=by rfl)(K:X.env.scope.names.lookup y=some .local:=by rfl)(L:swappedStores [.Tuple [.Name x f,.Name y m] kt pt] (.Tuple [a,b] k2 pt2) X.env=pure (some [x,y]):=by rfl)(o:swapsWithSole [.Tuple [.Name x f,.Name y m] kt pt] (.Tuple [a,b] k2 pt2) pos.line X.env=pure false:=by rfl):
  QS X (.Assign [.Tuple [.Name x f,.Name y m] kt pt] (.Tuple [a,b] k2 pt2) pos) (TSm (ex F N (.set (.tup (.cons (.var i) (.cons (.var j) .nil))) (.tup (.cons d (.cons e .nil)))))):=by
 delta QS;delta QA at ha
 refine PSimp (qju C (zq E) hi I n J K ha L o) λQ R H h=>?_
 obtain⟨ι,S,ρ,B,st,p⟩:=h
 refine⟨ι,S,ρ,B,st,?_⟩
 have c:∀{l S'},evs F (.cons d (.cons e .nil)) ρ S=.ok l S'->l.length=2:=λz=>qbe z
 simp only[ex,ev]at p
 cases z:evs F (.cons d (.cons e .nil)) ρ S with
 |no=>rw[z]at p;exact p
 |err=>rw[z]at p;exact p
 |ok l S1 =>
  rw[z]at p
  have M:=c z
  match l,M with
  |[d1,d2],_ =>
   have o:([d1,d2]:List D).length<=sizeLine:=by simp[sizeLine]
   simp only[Res.bind,o,wr,asg,asgs]at p
   intro vs q O s1 s P
   obtain⟨v,r,rfl,u,w,U,rfl,A,rfl⟩:=P
   exact⟨v,w,rfl,p q O s1 s _ (((B.mono s1).set u).set A)⟩
end
end R
namespace R
open PySem PySem.Spec L2 SeqAt
open PyProof.Rows hiding St
open PySem.W (KasT kas_sort kas_cmp kas_item_eq kat_lt kat_kind KatTups KatLex kat_cons kat_yes kat_no kat_go kat_nil kat_one)
section
variable{prog:Program}{w:World}{A:Around}{E:Value->Shared->Prop}{s:Shared}
noncomputable def PairsAt(h:Heap):List Value->List (List Int×Int)->Prop
 |[],ps=>ps=[]
 |v::vs,ps=>∃a b its i t k r,v=.ref a/\ps=(k,i)::r/\IsTup h a #[.ref b,.int i t]/\IsTup h b its.toArray/\IntsAre its k/\PairsAt h vs r
theorem PairsAt.len{h:Heap}:∀{vs:List Value} {ps:List (List Int×Int)},PairsAt h vs ps->vs.length=ps.length
 |[],_,e=>by cases (show _=[]from e);rfl
 |_::_,_,e=>by obtain⟨a,b,its,i,t,k,r,_,rfl,_,_,_,z⟩:=e;simp[PairsAt.len z]
theorem PairsAt.get{h:Heap}:∀{vs:List Value} {ps:List (List Int×Int)} (j:Nat),PairsAt h vs ps->j<ps.length->∃a b its i t,vs.getD j .none=.ref a/\IsTup h a #[.ref b,.int i t]/\IsTup h b its.toArray/\IntsAre its ((ps.map (·.1)).getD j [])/\(ps.getD j ([],0)).2=i
 |[],_,_,e,hi=>by cases (show _=[]from e);simp at hi
 |_::vs,_,0,e,hi=>by obtain⟨a,b,its,i,t,k,r,rfl,rfl,c,d,f,_⟩:=e;exact⟨a,b,its,i,t,rfl,c,d,by simpa using f,rfl⟩
 |_::vs,_,j+1,e,hi=>by
  obtain⟨a,b,its,i,t,k,r,rfl,rfl,c,d,f,z⟩:=e
  obtain⟨l,m,its',n,t',e1,o,p,q,u⟩:=PairsAt.get j z (by simpa using hi)
  exact⟨l,m,its',n,t',by simpa using e1,o,p,by simpa using q,by simpa using u⟩
theorem PairsAt.keep{h h':Heap}(d:∀a o,h.get? a=some o->h'.get? a=some o):∀{vs:List Value} {ps:List (List Int×Int)},PairsAt h vs ps->PairsAt h' vs ps
 |[],_,e=>e
 |_::_,_,e=>by
  obtain⟨a,b,its,i,t,k,r,rfl,rfl,⟨o,l,c⟩,⟨j,f,c2⟩,m,z⟩:=e
  exact⟨a,b,its,i,t,k,r,rfl,rfl,⟨o,d a o l,c⟩,⟨j,d b j f,c2⟩,m,z.keep d⟩
theorem PairsAt.firsts{h:Heap}:∀{vs:List Value} {ps:List (List Int×Int)},PairsAt h vs ps->∃fs:List Value,KatTups h vs fs/\fs.length=vs.length/\∀f∈fs,∃b its,f=.ref b/\IsTup h b its
 |[],_,e=>⟨[],trivial,rfl,λf j=>by cases j⟩
 |_::_,_,e=>by
  obtain⟨a,b,its,i,t,k,r,rfl,rfl,⟨o,l,c,m,d⟩,n,v,z⟩:=e
  obtain⟨fs,p,q,u⟩:=z.firsts
  refine⟨.ref b::fs,⟨⟨a,o,_,m,rfl,l,c,d,by simp⟩,p⟩,by simp[q],λf j=>?_⟩
  rcases wR.mp j with z|z
  .exact ⟨b,_,z,n⟩
  .exact u f z
theorem keyOf{h:Heap}{b:Addr}{its:List Value}{k:List Int}(e:IsTup h b its.toArray)(f:IntsAre its k):IsTupleKey (intKind prog w) h k b:=by
 obtain⟨o,a,c,m,d⟩:=e
 exact⟨o,_,m,a,c,d,by
  show PySem.ItemsAre _ _ its
  clear d a
  induction f with
  |nil=>exact .nil
  |cons x tx _ i=>exact .cons (by simp[intKind,Value.isInt]) i⟩
theorem qf9{vs:List Value}{ps:List (List Int×Int)}(p:A.units<cLine)(t:PairsAt s.heap vs ps)(nd:(ps.map (·.1)).Nodup){i j:Nat}(hi:i<ps.length)(q:j<ps.length){C:Bool->Shared->Prop}(h:C (ltK (ps.map (·.1)) i j) s):kas_cmp prog w A (tuples' false) (pairsOf vs) i j C s:=by
 unfold kas_cmp
 rw[kas_item_eq,kas_item_eq]
 obtain⟨a,b,xs,u,F,e1,⟨o,H,_,m,d⟩,r,q1,I⟩:=t.get i hi
 obtain⟨N,J,ys,v,K,L,⟨o',c,_,O,d'⟩,x,q2,M⟩:=t.get j q
 dsimp only
 rw[e1,L]
 refine kat_lt H d c d' ?_
 show KatLex prog w A false (decide (2<2)) C ([Value.ref b,.int u F].zip [Value.ref J,.int v K]) 0 s
 refine kat_cons (wpAny_eqBool_tuple (knd:=intKind prog w) p (keyOf r q1) (keyOf x q2) ?_)
 by_cases e:(ps.map (·.1)).getD i []=(ps.map (·.1)).getD j []
 .have f:i=j:=by
   have l:i<(ps.map (·.1)).length:=by simpa using hi
   have n:j<(ps.map (·.1)).length:=by simpa using q
   rw[wN,wN,wC l,wC n]at e
   have y:(ps.map (·.1))[i]=(ps.map (·.1))[j]:=e
   have B:=List.pairwise_iff_getElem.mp nd
   rcases Nat.lt_trichotomy i j with z|z|z
   .exact absurd y (B i j l n z)
   .exact z
   .exact absurd y.symm (B j i n l z)
  subst f
  rw[vK e]
  refine kat_yes (kat_cons (wpAny_eqBool_int ?_))
  have:(u == v)=true:=by rw[<-I,<-M];simp
  rw[this]
  refine kat_yes (kat_nil ?_)
  have z:ltK (ps.map (·.1)) i i=false:=jE _
  rw[z]at h
  exact h
 .rw [wt e]
  refine kat_no (kat_one _ _ (HT.jK r x q1 q2 p ?_))
  exact h
theorem qeI{vs:List Value}{ps:List (List Int×Int)}(t:PairsAt s.heap vs ps)(i:2<=vs.length){Q:SortKind->Shared->Prop}(h:Q (tuples' false) s):wpAny (model prog w) A (keyKind' vs.toArray) Q E s:=by
 obtain⟨fs,a,j,d⟩:=t.firsts
 refine kat_kind (T:=Value.type "tuple") a (by lia) (λv e=>?_) (by decide) h
 obtain⟨b,its,rfl,o,f,c,_⟩:=d v e
 rw[<-c]
 exact(PySem.W.Looks.ld f).andThen .now
end
section
variable{X:Cx}{pins:List (Addr×Obj)}{σ:St}{H:Hp}{s:Shared}{ι:List Addr}{S:Sr}
theorem qb8(I:Inv X pins σ H s):∀{l:List D} {ps:List (List Int×Int)} {xs:List V} {vs:List Value},pairsD l=some ps->Dens ι H l xs->Vals xs vs->PairsAt s.heap vs ps/\l=ps.map pairD
 |[],ks,xs,vs,e,hd,r=>by
  cases e
  cases (show xs=[]from hd)
  cases r
  exact⟨rfl,rfl⟩
 |d::l,ps,xs,vs,e,hd,r=>by
  obtain⟨x,u,rfl,v,w⟩:=hd
  unfold pairsD at e
  split at e
  .rename_i z;cases z
  .rename_i a i r' z
   injection z with f z2
   subst f z2
   obtain⟨b,ys,rfl,_,y,A⟩:=v
   obtain⟨Q,R,rfl,j,B,m,rfl,n,o⟩:=A
   cases (show m=[]from o)
   cases (show B=.int i from n)
   obtain⟨c,U,rfl,_,C,E⟩:=j
   cases f:intsOf a with
   |none=>rw[f]at e;cases e
   |some k =>
    rw[f,wQ]at e
    cases z2:pairsD l with
    |none=>rw[z2]at e;cases e
    |some F =>
     rw[z2]at e;cases e
     cases r with
     |cons J K =>
      cases J
      obtain⟨t1,t2⟩:=qb8 I z2 w K
      obtain⟨its,L,p,_⟩:=yH I y
      obtain⟨h,q,M,_⟩:=yH I C
      have N:=intsOf_eq f
      subst N
      cases dens_ints E
      cases L with
      |cons q1 q2 =>
       cases q1
       cases q2 with
       |cons O P =>
        obtain⟨W,rfl⟩:=O
        cases P
        refine⟨⟨b,c,h,i,_,k,F,rfl,rfl,p,M,zb q,t1⟩,?_⟩
        rw[t2];rfl
  .cases e
theorem qdz:∀{ps:List (List Int×Int)} {i:Nat},(ps.map (·.1)).Nodup->i<ps.length->atP ((ps.map (·.1)).getD i []) ps=(ps.getD i ([],0)).2
 |[],_,_,h=>by simp at h
 |p::ps,0,_,_=>by simp[atP]
 |p::ps,i+1,nd,h=>by
  rw[wI,vS]at nd
  have hi:i<ps.length:=by simpa using h
  have:(p.1=(ps.map (·.1)).getD i [])=False:=by
   refine eq_false λe=>nd.1 ?_
   rw[e,wN,wC (by simpa using hi)]
   exact uY _
  simp only[wI,List.getD_cons_succ,atP,this,uN]
  exact qdz nd.2 hi
theorem qbh{m:Bool}{x:Value}{l:List D}{ps:List (List Int×Int)}{xs:List V}{vs:List Value}{Q:VK}(I:Inv X pins σ H s)(st:Sto ι H S)(E:X.A.in1.in1.units<cLine)(n:Dens ι H l xs)(p:Vals xs vs)(e:pairsD l=some ps)(F:ps.length<64)(nd:(ps.map (·.1)).Nodup)(r:∀(y:Value->Shared->Prop) (Q':List Value->Shared->Prop),(∀(h':Heap) (tk:Nat),s.heap.objs.size<=h'.objs.size->(∀b o,s.heap.get? b=some o->h'.get? b=some o)->Q' vs {s with heap:=h',toks:=tk})->wpAny (model X.prog X.w) X.A.in1 (collect x) Q' y s)(q:Pst Den (newL m ((sortP ps).map pairD) S) ι H Q):wpAny (model X.prog X.w) X.A (call (.builtin "sorted") [x]) (EP X pins σ Q) X.xe s:=by
 obtain⟨z,u⟩:=qb8 I e n p
 have len:vs.length=ps.length:=z.len
 have J:l.length=ps.length:=by rw[u];simp
 have B:(ps.map (·.1)).length=ps.length:=by simp
 refine qaK (κ:=tuples' false) (lt:=ltK (ps.map (·.1))) (by lia) r (λh h' tk kp=>?_) λh' tk D c sz kp K=>?_
 .have t':PairsAt h' vs ps:=z.keep kp
  exact⟨λy Q' L=>qeI (s:={s with heap:=h',toks:=tk}) t' h L,by rw[len,<-B];exact jZ nd,λi j C hi P M=>qf9 (s:={s with heap:=h',toks:=tk}) E t' nd (by lia) (by lia) M⟩
 .have fin:∃a,Vals a (outOf (ltK (ps.map (·.1))) vs)/\Dens ι H ((sortP ps).map pairD) a:=by
   unfold outOf
   by_cases h:vs.length<2
   .rw [wM h]
    refine⟨xs,p,?_⟩
    have:sortP ps=ps:=by
     match ps,len with
     |[],_=>rfl
     |[k],_=>simp[sortP,sortT,insT,atP]
     |_::_::_,len=>simp at len;lia
    rw[this,<-u]
    exact n
   .rw [wO h]
    rw[len,<-B]
    obtain⟨pm,_⟩:=qbc (jZ nd) (show 1<=(ps.map (·.1)).length by lia)
    have v:∀i∈(evT (ltK (ps.map (·.1))) (kas_sort (ps.map (·.1)).length)).toList,i<ps.length:=λi hi=>by have:=vg.mp (pm.mem_iff.mp hi);lia
    refine⟨_,j0 p _ λi hi=>by rw[len];exact v i hi,?_⟩
    have d:=j3 n _ λi hi=>by rw[J];exact v i hi
    have N:(sortP ps).map pairD=(evT (ltK (ps.map (·.1))) (kas_sort (ps.map (·.1)).length)).toList.map λi=>l.getD i .non:=by
     unfold sortP
     rw[<-jt nd (by lia),wS,wS]
     refine we λi hi=>?_
     have f:=v i hi
     rw[u]
     show pairD (_,atP _ ps)=_
     rw[qdz nd f]
     simp[f,pairD]
    rw[N]
    exact d
  obtain⟨a,r',d'⟩:=fin
  have fr:H D=none:=I.hok.fresh sz
  have O:a.length<=sizeLine:=by
   rw[<-d'.length,wG]
   unfold sortP
   rw[wG,(qH _).length_eq,vL];lia
  exact⟨.ref D,upd H D (.lst a),I.laid (o:=.lst a) (t':=tk) kp sz ⟨O,outOf (ltK (ps.map (·.1))) vs,c,r',K⟩,rfl,qX st d' q D fr⟩
theorem qin(m:Bool)(e:X.A.in1.in1.units<cLine):CallR X (.builtin "sorted") (Gn (one (bSortp m))):=by
 intro pins s σ H xs us Q I r h
 obtain⟨ι,S,ds,st,hd,p⟩:=h
 obtain⟨d,rfl,p⟩:=qa1 p
 obtain⟨x,rfl,f⟩:=dens1 hd
 obtain⟨u,rfl,i⟩:=vals1 r
 simp only[one,bSortp]at p
 cases hl:lstOf S d with
 |none=>rw[hl]at p;exact p.elim
 |some l =>
  rw[hl,wQ]at p
  obtain⟨a,xs,rfl,ha,j⟩:=qM st hl f
  cases i
  cases z:pairsD l with
  |none=>rw[z]at p;exact p.elim
  |some ps =>
   rw[z]at p
   dsimp only at p
   by_cases b:ps.length<64/\(ps.map (·.1)).Nodup
   .rw [wM b]at p
    obtain⟨vs,n,_,c⟩:=qb3 I ha
    exact qbh I st e j n z b.1 b.2 (c _) p
   .rw [wO b]at p;exact p.elim
end
end R
namespace R
open PySem PySem.Spec L2 SeqAt
open PyProof.Rows hiding St
section
variable{X:Cx}{F:Fs}{pos p:Pos}{e:Expr}{es:List Expr}{cs:CEs}
theorem qio(m:Bool){k:Nat}(b:Room k X.A)(gb:Gb X.mg)(ha:QA X (e::es) (TL (evs F cs)))(c:Gl X "sorted":=by rfl)(d:starEach (e::es) X.env=(false,eval e X.env)::starEach es X.env:=by rfl)(a:(backTo pos (starEach es X.env)).any (·.1)=false:=by rfl):QE X (.Call (.Name "sorted" p) (e::es) [] pos) (T (ev F (.blt (.sortp m) cs))):=by
 delta QE;delta QA at ha;exact(jv (.sortp m) (qin m (by have:=b.un;show X.A.units+1+1<_;lia)) gb.sorted qaP ha c (by decide) (by decide) d a)
end
end R
namespace R
open PySem PySem.Spec L2 SeqAt
open PyProof.Rows hiding St
noncomputable def accL(us:Array Value)(c:Nat):Obj:={cls:=.type "list",dict:=none,data:=.seq us c,slots:=#[]}
section
variable{X:Cx}{sc:Scope}{cl:List (Str×Addr)}{C:Addr}{code:Value}{N':List Str}{fp:List Addr}{ge:Expr}{it a:Addr}{o:Obj}{s4:Shared}{H4:Hp}{J:It}{tn:Nat->Heap->Prop}{ds:List D}{gu:Sr->Prop}{g:D->En->Sr->Res En}{mt:En->Sr->Res Bool}{me:En->Sr->Res D}
theorem qip{R:Result->Shared->Prop}(hh:X.A.handled=none)(hd:X.A.depth<recursionLimit)(hg:∀h:Heap,h.get? a=some o->h.IsGen a s4.gens.size)(tk:∀i h h',tn i h->(∀b∈fp,∀o,h.get? b=some o->h'.get? b=some o)->tn i h'){p:Addr}(hp:s4.heap.objs.size<=p)(M:a≠p):∀(k i:Nat) (ρ:En) (l:List D) (xs:List V) (us:Array Value) (S:Sr) (ι:List Addr) (H:Hp) (s:Shared) (c:Nat) {d:D} {K:Sr},l.length<=sizeLine->ds.length<k+i->Dens ι H l xs->Vals xs us.toList ->
  Cs (genCx X sc cl C code N' fp ge it (a,o) s4 H4) J tn fp ds gu X.A.in4.in1 g mt me s4.gens.size k i ρ S ι H [(p,accL us c)] s->genLoopG gu g mt me (stepG .tuple) (finG .tuple) (ds.drop i) ρ (.tup l) S=.ok d K ->
  (∀j f H' z N n r c',d=.tup N->N.length<=sizeLine->Dens f H' N n->Vals n (Array.toList r)->Inv (genCx X sc cl C code N' fp ge it (a,o) s4 H4) [(p,accL r c')] j H' (z.setGen s4.gens.size .running)->GK s4.gens z.gens->Stp ι H f H'->Sto f H' K->R (.ok (.ret (.ref p))) z) ->
  codeAny (model X.prog X.w) X.A.in1.in1 (.builtin "list.extend.loop" ⟨[.ref p,.ref a,.ref p],[]⟩) R s:=by
 intro k
 induction k with
 |zero =>
  intro i ρ l xs us S ι H s c d K _ hk _ _ O _ _
  have:=O.sus.le
  lia
 |succ k ih =>
  intro i ρ l xs us S ι H s c d K hl hk P Q O e hR
  refine wx F.entry_extend_loop ?_
  rw[wg F.plain_extend_loop]
  refine wA (m:=pyNext (.ref a)) (wpAny_of_in1 (qa6 (X:=genCx X sc cl C code N' fp ge it (a,o) s4 H4) (A:=X.A.in4) hh hd wE hg rfl rfl O (qcQ e) (λS2 f H' j z L Iz U q st=>?_) λi' W v S2 f H' y u z L q dv ry Cz=>?_))
  .have q2:=zD e
   rw[L]at q2
   cases q2
   exact wD (hR j f H' z l xs us c rfl hl (Dens.mono q l P) Q Iz U q st)
  .have q2:=zD e
   have hi:=jf _ _ _ _ L
   rw[L]at q2
   simp only[gen1,stepG]at q2
   by_cases B:l.length<sizeLine
   .rw [wM B]at q2
    have E:z.heap.get? p=some (accL us c):=by
     obtain⟨σ,I,_⟩:=Cz.sus.inv
     exact(I.pin (p,accL us c) (wT _ (wf.mpr rfl))).1
    have hsz:us.size=l.length:=by rw[P.length,Q.length,vb]
    show wpAny _ _ (updateSeq p (·.push u) >>= _) _ _ _
    refine wA (vh E rfl (wD ⟨vA F.plain_extend_loop _,?_⟩) (by rw[hsz];exact hl) (by show(us.push u).size<=sizeLine+1;rw[Array.size_push,hsz];lia))
    refine ih i' W (l++[v]) (xs++[y]) (us.push u) S2 f H' _ _ (by rw[wd,ve];lia) (by lia) ((Dens.mono q l P).snoc dv) ?_ (qa7 (t:=z.toks) Cz tk hp (λq hq=>?_) (λb x hb ex=>(wj _ _ (Ne.symm hb)).trans ex) (vD _ E rfl) λv z=>by cases z) q2 λY Z H2 z2 l2 x2 u2 c2 ec el d2 v2 I2 U s2 a0=>hR Y Z H2 z2 l2 x2 u2 c2 ec el d2 v2 I2 U (q.trans s2) a0
    .rw [Array.toList_push]
     exact Vals.append Q (.cons ry .nil)
    .have a1:q=(a,o):=by
      have:q∈[(a,o)]:=hq
      simpa using this
     subst a1
     exact M
   .rw [wO B]at q2
    cases q2
end
section
variable{X:Cx}{pos gp:Pos}
theorem qkg(hc:X.calm=true)(hd:X.A.depth<recursionLimit)(hok:X.calm=true->X.A.handled=none):GCall X .tuple (.type "tuple"):=by
 intro pins s σ H ι a ds gu g mt me ρ S Q gh h
 obtain⟨sc,cl,C,code,N',fp,ge,it,o,Y,H4,J,tn,Z,cs,hf,tk,a0⟩:=gh
 obtain⟨d,S',e,q⟩:=qa8 h
 have hh:=(cs 0).sus.inv
 obtain⟨i,I,_⟩:=hh
 have ha:s.heap.get? a=some o:=(I.pin (a,o) (wp _ wE)).1
 have lt:Y.heap.objs.size<=s.heap.objs.size:=I.sz
 have B:a≠s.heap.objs.size:=wc (wJ ha)
 have O:∀(Q2:List Value->Shared->Prop) (E:Value->Shared->Prop),(∀i j H' z K l c N,d=.tup K->K.length<=sizeLine->Dens j H' K l->Vals l (Array.toList c)->Inv (genCx X sc cl C code N' fp ge it (a,o) Y H4) [(s.heap.objs.size,accL c N)] i H' (z.setGen Y.gens.size .running)->GK Y.gens z.gens->Stp ι H j H'->Sto j H' S'->Q2 c.toList z) ->
   wpAny (model X.prog X.w) X.A.in1.in1 (collect (.ref a)) Q2 E s:=by
  intro Q2 E hQ
  unfold collect
  refine wA (wpAny_runValue (wx xR ?_))
  rw[wg xQ _]
  refine wA (m:=newList []) (w9 (wD ⟨vA uH _,wx F.entry_list_iadd ?_⟩))
  rw[wg uH _]
  have P:(s.heap.push {cls:=.type "list",data:=.seq ([]:List Value).toArray}).get? a=some o:=wB _ ha
  have R:({s with heap:=s.heap.push {cls:=.type "list",data:=.seq ([]:List Value).toArray}}:Shared).TypeIs (.ref a) "generator":=(Z _ P).typeIs
  show wpAny _ X.A.in1.in1.in1 (Builtin.List.listExtendWith (.ref s.heap.objs.size) (.ref a) (.ref s.heap.objs.size)) _ _ _
  unfold Builtin.List.listExtendWith
  refine wA (uV R ?_)
  have h1:Builtin.List.listSameRef (.ref s.heap.objs.size) (.ref a)=false:=by simp[Builtin.List.listSameRef,Ne.symm B]
  have h2:(Value.type "generator" == Value.type "list")=false:=by decide
  have h3:(Value.type "generator" == Value.type "tuple")=false:=by decide
  simp only[h1,h2,h3,Bool.or_false,vV,uN]
  refine wA (wpAny_pyIter_gen (Z _ P) ?_)
  refine wA (wv ?_)
  unfold Builtin.List.listLengthHint
  refine wA (wpAny_specialOf R F.gen_no_len ?_)
  show wpAny _ X.A.in1.in1.in1 (specialOf (Value.ref a) (Str.ofString "__length_hint__") >>= _) _ _ _
  refine wA (wpAny_specialOf R F.gen_no_hint ?_)
  refine wD ?_
  show wpAny _ X.A.in1.in1.in1 (rule "list.extend.makes-room" >>= λ_=>Builtin.List.listTouch (.ref s.heap.objs.size) >>= λ_ =>
   again (.builtin "list.extend.loop" ⟨[.ref s.heap.objs.size,.ref a,.ref s.heap.objs.size],[]⟩)) _ _ _
  refine wA (uE ?_)
  have n:(s.heap.push {cls:=.type "list",data:=.seq ([]:List Value).toArray}).get? s.heap.objs.size=some {cls:=.type "list",data:=.seq ([]:List Value).toArray}:=wF _ rfl
  refine wA ?_
  show wpAny _ X.A.in1.in1.in1 (updateSeq s.heap.objs.size (·.push .none) >>= λ_=>updateSeq s.heap.objs.size (·.pop)) _ _ _
  refine wA (vh n rfl ?_)
  have r:=vD (Obj.mapSeq (·.push Value.none)) n rfl
  refine vh r rfl ?_
  have L:=vD (Obj.mapSeq (·.pop)) r rfl
  refine wD ⟨vA F.plain_extend_loop _,?_⟩
  have C1:=qds (t:=s.toks) (cs (ds.length+1)) tk hf (u:={cls:=.type "list",data:=.seq ([]:List Value).toArray}) (wF _ rfl) λv z=>by cases z
  have C2:=qa7 (t:=s.toks) C1 tk lt (λq hq=>by
   have a1:q=(a,o):=by
    have:q∈[(a,o)]:=hq
    simpa using this
   subst a1
   exact B) (λb x hb ex=>(wj _ _ (Ne.symm hb)).trans ((wj _ _ (Ne.symm hb)).trans ex)) L λv z=>by cases z
  refine qip (hok hc) hd Z tk (p:=s.heap.objs.size) lt B (ds.length+1) 0 ρ [] [] #[] S ι H _ _ (wh _) (by lia) rfl .nil C2 e λi j H' z K l c N ed el U vv Iz gk s1 M=>?_
  have a2:z.heap.get? s.heap.objs.size=some (accL c N):=(Iz.pin (s.heap.objs.size,accL c N) (wT _ (wf.mpr rfl))).1
  show wpAny _ _ (load s.heap.objs.size >>= _) _ _ z
  exact wA (wpAny_load a2 (wD (hQ i j H' z K l c N ed el U vv Iz gk s1 M)))
 have new:codeAny (model X.prog X.w) X.A.in1 (.call (.builtin "tuple.__new__") ⟨[.type "tuple",.ref a],[]⟩) (wants (λobj f=>f.TypeIs obj "tuple"/\EP X pins σ Q obj f) X.xe) s:=by
  refine xH (?_:wpAny _ X.A.in1.in1 (do checkBuiltinCall "tuple.__new__" ⟨[.type "tuple",.ref a],[]⟩;again (.builtin "tuple.__new__" ⟨[.type "tuple",.ref a],[]⟩)) _ _ s)
  refine wA (ua (F.newCall_tuple_1 _) (wD ⟨vA uw _,wx F.entry_tuple_new ?_⟩))
  rw[wg uw]
  have k1:=sub_tuple_self
  have k2:=init_tuple_lookup
  have k3:=madeHere_tuple
  have R:s.TypeIs (.ref a) "generator":=(Z _ ha).typeIs
  wp_walk using uV R,O
  intro i j H' z K l c N ed el U vv Iz gk s1 M
  refine wA (m:=Builtin.Tuple.tupleExact c.toList.toArray) ?_
  unfold Builtin.Tuple.tupleExact
  have hsz:c.size=K.length:=by rw[U.length,vv.length,vb]
  refine w9 (wD ?_) (by
   have:c.toList.toArray.size<=sizeLine:=by rw[u7,hsz];exact el
   exact this)
  have e2:c.toList.toArray=c:=u7 ..
  rw[e2]
  subst ed
  have I2:=a0 _ i H' z Iz gk
  have W:H' z.heap.objs.size=none:=I2.hok.fresh (wK _)
  refine⟨⟨_,wF _ rfl,rfl⟩,.ref _,upd H' z.heap.objs.size (.tup l),I2.laid (t':=z.toks) (λb o e=>wB _ e) (wK _) ⟨?_,c.toList,vv,⟨_,wF _ rfl,rfl,0,by simp⟩,λo q=>by rw[wF _ rfl]at q;cases q;rfl⟩,rfl,zd M U (λv a3 H2 s2 a4 dv=>q v a3 H2 (s1.trans s2) a4 dv) _ W⟩
  rw[<-U.length]
  exact el
 refine callType_codes uU (F.typeCall_tuple_1 _) F.entry_object_init new λobj f y=>?_
 exact⟨y.1,F.args_object_init_2 obj _,object_init_meets uU.init.lookup uU.made (by decide) X.prog X.w X.A.in1 _ f ⟨y.1,rfl,y.2⟩⟩
theorem qiq{p:Pos}{tg elt iter:Expr}{ifs:List Expr}{sc:Scope}{fr:List Nat}{xs ts:List Str}{mi:En->Sr->Res (List D×(Sr->Prop))}{g:D->En->Sr->Res En}{mt:En->Sr->Res Bool}{me:En->Sr->Res D}{c T':Addr}(m:X.calm=true)(b:X.A.depth<recursionLimit)(hok:X.calm=true->X.A.handled=none)(i:Gl X "tuple")(hm:X.mg "tuple"=none)(hi:PI X tg iter (TIg mi))(n:∀x,genFold iter X.env x=pure x)(o:CSc X sc fr xs ts)(r:sc.names.lookup (".0":Str)=some NameKind.local)(j:sc.isCoroutine=false)(d:X.env.code=.ref c)(f:codeTab X.K c T'=true)(B:BlkG X sc (xs++ts) tg iter ifs elt gp g mt me):
  PE X (.Call (.Name "tuple" p) [.GeneratorExp elt [⟨tg,iter,ifs,0⟩] sc gp] [] pos) (T (mGenG .tuple fr ts.length mi g mt me)):=by
 intro pins s u H Q I w
 have y:bootBuiltins "tuple"=some (.type "tuple"):=by decide +kernel
 refine Call_ (z9 I i hm y ?_ (by decide) (by decide))
 obtain⟨ι,S,ρ,C,st,h⟩:=w
 dsimp only[mGenG]at h
 cases z:mi ρ S with
 |no=>rw[z]at h;exact h.elim
 |err=>rw[z]at h;exact h.elim
 |ok E S1 =>
  obtain⟨ds,gu⟩:=E
  rw[z,Res.bind_ok]at h
  refine v9 (e:=.GeneratorExp elt [⟨tg,iter,ifs,0⟩] sc gp) (rest:=[]) ?_ rfl rfl
  refine vU (thn (qbT m b hi n o r j d f B I C st z) λv s' ⟨a,l,H',ev,q,F⟩=>?_)
  subst ev
  exact uI (qkg m b hok pins s' u H' l a ds gu g mt me _ S1 Q F (Pst.from h q))
theorem qkh{p:Pos}{tg elt iter:Expr}{ifs:List Expr}{sc:Scope}{fr:List Nat}{xs ts:List Str}{mi:En->Sr->Res (List D)}{g:D->En->Sr->Res En}{mt:En->Sr->Res Bool}{me:En->Sr->Res D}{c T':Addr}(h:X.calm=true)(a:X.A.depth<recursionLimit)(hok:X.calm=true->X.A.handled=none)(e:Gl X "tuple")(hm:X.mg "tuple"=none)(hi:PI X tg iter (TIt mi))(i:∀x,genFold iter X.env x=pure x)(j:CSc X sc fr xs ts)(l:sc.names.lookup (".0":Str)=some NameKind.local)(f:sc.isCoroutine=false)(b:X.env.code=.ref c)(d:codeTab X.K c T'=true)(B:BlkG X sc (xs++ts) tg iter ifs elt gp g mt me):
  PE X (.Call (.Name "tuple" p) [.GeneratorExp elt [⟨tg,iter,ifs,0⟩] sc gp] [] pos) (T (mGen .tuple fr ts.length mi g mt me)):=by
 rw[<-qfJ];exact qiq h a hok e hm (pi_g hi) i j l f b d B
end
section
variable{X:Cx}{F:Fs}{N:Nat}{pos:Pos}
theorem qb9(fr:List Nat)(xs ts:List Str){p d:Pos}{tg elt iter:Expr}{ifs:List Expr}{sc:Scope}{k:Nat}{c T':Addr}{t:CT}{it:CI}{i:CBs}{j:CE}(l:Room k X.A)(gb:Gb X.mg)(a:X.env.code=.ref c)(b:codeTab X.K c T'=true)(hi:QI X tg iter (TIt (evI F it)))(rt:∀cl C code fp it o s H,QG (genCx X sc cl C code (xs++ts) fp (.GeneratorExp elt [⟨tg,iter,ifs,0⟩] sc d) it o s H) tg (TGt (asg F t)))(ri:∀cl C code fp it o s H,QTl (genCx X sc cl C code (xs++ts) fp (.GeneratorExp elt [⟨tg,iter,ifs,0⟩] sc d) it o s H) ifs (TB (tsts F i)))(re:∀cl C code fp it o s H,QE (genCx X sc cl C code (xs++ts) fp (.GeneratorExp elt [⟨tg,iter,ifs,0⟩] sc d) it o s H) elt (T (ev F j)))(m:X.calm=true:=by rfl)(e:Gl X "tuple":=by rfl)(n:∀x,genFold iter X.env x=pure x:=by intro _;rfl)(h:cscB X.env.scope.names X.N sc fr xs ts=true:=by rfl)(q:sc.names.lookup (".0":Str)=some NameKind.local:=by rfl)(f:sc.isCoroutine=false:=by rfl):QE X (.Call (.Name "tuple" p) [.GeneratorExp elt [⟨tg,iter,ifs,0⟩] sc d] [] pos) (T (ev F (.gen .tuple fr ts.length j t it i))):=by
 delta QE;delta QI at hi;delta QG at rt;delta QTl at ri;delta QE at re;exact(qkh m l.depth (λ_=>l.hd) e gb.tuple hi n (jk h) q f a b ⟨rt,ri,re⟩)
end
end R
namespace R
open PySem PySem.Spec L2 SeqAt
open PyProof.Rows hiding St
section
variable{X:Cx}{pos:Pos}
variable{F:Fs}
theorem qlU:QE X (.Dict [] [] pos) (T (ev F .dis)):=by
 delta QE;exact qlo
end
end R
namespace R
open PySem PySem.Spec L2 SeqAt
open PyProof.Rows hiding St
section
variable{X:Cx}{pos:Pos}{tg:Expr}
noncomputable def mX(m:En->Sr->Res D):En->Sr->Res (List D×(Sr->Prop)):=λρ S=>(m ρ S).bind λx S1=>match refX x S1 with
 |some p=>.ok p S1
 |none=>.no
theorem i_X{e:Expr}{m:En->Sr->Res D}(h:PE X e (T m)):PI X tg e (TIg (mX m)):=PIimp (qcN h) λs H R o=>by
 obtain⟨ι,S,ρ,q,st,p⟩:=o
 refine⟨ι,S,ρ,q,st,?_⟩
 dsimp only[mX]at p
 cases z:m ρ S with
 |no=>rw[z]at p;exact p
 |err=>rw[z]at p;exact p
 |ok d S1 =>
  rw[z,Res.bind_ok]at p
  intro v c f s1 b i
  cases d with
  |ref n =>
   obtain⟨a,rfl,ha⟩:=i
   cases zn:S1[n]? with
   |none=>simp only[refX,zn]at p
   |some so =>
    cases so with
    |lst l =>
     simp only[refX,zn]at p
     obtain⟨_,xs,r,_⟩:=b.obj n a _ ha zn
     exact .inl ⟨a,rfl,⟨xs,.inl (.inl r)⟩,p c f _ s1 b (qh2 ha)⟩
    |dic l=>simp only[refX,zn]at p
    |dis l=>simp only[refX,zn]at p
  |tup l =>
   obtain⟨a,xs,rfl,hn,ha,j⟩:=i
   exact .inr ⟨a,rfl,⟨xs,.inl (.inl ha)⟩,p c f _ s1 b (qfB hn ha j).g⟩
  |lst l =>
   obtain⟨a,xs,rfl,hn,ha,j⟩:=i
   exact .inl ⟨a,rfl,⟨xs,.inl ha⟩,p c f _ s1 b (qfA hn ha j).g⟩
  |_=>exact p.elim
end
section
variable{X:Cx}{F:Fs}{N:Nat}{pos:Pos}
theorem qir{w:GW}{fr:List Nat}{nt:Nat}{a c:CE}{t:CT}{b:CBs}:mGenG w fr nt (mX (ev F c)) (asg F t) (tsts F b) (ev F a)=ev F (.genX w fr nt a t c b):=by
 funext ρ S
 unfold mGenG mX
 simp only[ev]
 cases ev F c ρ S with
 |ok d S1 =>
  cases hr:refX d S1 <;> simp only[Res.bind,hr]
 |err=>rfl
 |no=>rfl
theorem qki(w:GW)(fr:List Nat)(xs ts:List Str){id:String}{f:Str}{p d:Pos}{tg elt iter:Expr}{ifs:List Expr}{sc:Scope}{k:Nat}{c T':Addr}{t:CT}{l:CE}{m:CBs}{n:CE}(q:Room k X.A)(r:GCall X w (.builtin id))(hm:X.mg f=none)(u:bootBuiltins f=some (.builtin id))(a:X.env.code=.ref c)(b:codeTab X.K c T'=true)(hi:PE X iter (T (ev F l)))(rt:∀cl C code fp it o s H,PG (genCx X sc cl C code (xs++ts) fp (.GeneratorExp elt [⟨tg,iter,ifs,0⟩] sc d) it o s H) tg (TGt (asg F t)))(ri:∀cl C code fp it o s H,PTl (genCx X sc cl C code (xs++ts) fp (.GeneratorExp elt [⟨tg,iter,ifs,0⟩] sc d) it o s H) ifs (TB (tsts F m)))(re:∀cl C code fp it o s H,PE (genCx X sc cl C code (xs++ts) fp (.GeneratorExp elt [⟨tg,iter,ifs,0⟩] sc d) it o s H) elt (T (ev F n)))(v:X.calm=true:=by rfl)(e:Gl X f:=by rfl)(hn:f≠"__name__":=by decide)(i:(f == ("__debug__":Str))=false:=by decide)(y:∀x,genFold iter X.env x=pure x:=by intro _;rfl)(h:cscB X.env.scope.names X.N sc fr xs ts=true:=by rfl)(z:sc.names.lookup (".0":Str)=some NameKind.local:=by rfl)(j:sc.isCoroutine=false:=by rfl):PE X (.Call (.Name f p) [.GeneratorExp elt [⟨tg,iter,ifs,0⟩] sc d] [] pos) (T (ev F (.genX w fr ts.length n t l m))):=by
 rw[<-qir]
 exact qfL v q.depth r e hm u hn i (i_X hi) y (jk h) z j a b ⟨rt,ri,re⟩
theorem qis(fr:List Nat)(xs ts:List Str){p d:Pos}{tg elt iter:Expr}{ifs:List Expr}{sc:Scope}{k:Nat}{c T':Addr}{t:CT}{j:CE}{l:CBs}{m:CE}(e:Room k X.A)(gb:Gb X.mg)(a:X.env.code=.ref c)(b:codeTab X.K c T'=true)(hi:QE X iter (T (ev F j)))(rt:∀cl C code fp it o s H,QG (genCx X sc cl C code (xs++ts) fp (.GeneratorExp elt [⟨tg,iter,ifs,0⟩] sc d) it o s H) tg (TGt (asg F t)))(ri:∀cl C code fp it o s H,QTl (genCx X sc cl C code (xs++ts) fp (.GeneratorExp elt [⟨tg,iter,ifs,0⟩] sc d) it o s H) ifs (TB (tsts F l)))(re:∀cl C code fp it o s H,QE (genCx X sc cl C code (xs++ts) fp (.GeneratorExp elt [⟨tg,iter,ifs,0⟩] sc d) it o s H) elt (T (ev F m)))(n:X.calm=true:=by rfl)(f:Gl X "sum":=by rfl)(q:∀x,genFold iter X.env x=pure x:=by intro _;rfl)(h:cscB X.env.scope.names X.N sc fr xs ts=true:=by rfl)(r:sc.names.lookup (".0":Str)=some NameKind.local:=by rfl)(i:sc.isCoroutine=false:=by rfl):QE X (.Call (.Name "sum" p) [.GeneratorExp elt [⟨tg,iter,ifs,0⟩] sc d] [] pos) (T (ev F (.genX .sum fr ts.length m t j l))):=by
 delta QE;delta QE at hi;delta QG at rt;delta QTl at ri;delta QE at re;exact(qki .sum fr xs ts e (qfK n e.depth λ_=>e.hd) gb.sum (by decide +kernel) a b hi rt ri re n f (by decide) (by decide) q h r i)
end
end R
namespace R
open PySem PySem.Spec L2 SeqAt
open PyProof.Rows hiding St
end R
namespace R
open PySem PySem.Spec L2 SeqAt
open PyProof.Rows hiding St
section
variable{X:Cx}{F:Fs}{N:Nat}{pos:Pos}
theorem qkj(i:Nat){x:Str}(a:nodupB X.N=true:=by rfl)(hi:X.N[i]?=some x:=by rfl)(b:Loc X.env.scope x:=by first|exact Or.inl rfl|exact Or.inr rfl)(c:X.fn x=true\/X.env.scope.names.lookup x=some .local:=by first|exact .inl rfl|exact .inr rfl):PG X (.Name x pos) (gName i):=qdd (zq a) hi b c
end
end R
namespace R
open PySem PySem.Spec L2 SeqAt
open PyProof.Rows hiding St
theorem qdA:∀(l:List Int) (i:Nat),(l.map V.int).eraseIdx i=(l.eraseIdx i).map V.int
 |[],_=>by simp
 |a::r,0=>by simp
 |a::r,i+1=>by simp[qdA r i]
theorem qga(k:Int):∀ns:List Int,ns.eraseIdx (ns.idxOf k)=ns.erase k
 |[]=>by simp
 |a::r=>by
  rw[List.idxOf_cons,List.erase_cons]
  by_cases h:a=k
  .subst h;simp
  .have b:(a == k)=false:=by simpa using h
   rw[b]
   simp[qga k r]
noncomputable def eqK(k:Int):Value->Bool
 | .int i _=>i == k
 |_=>false
def rRemove:V->List V->Hp->VK->Prop:=λx vs H Q=>∃(l:Addr) (ns:List Int) (k:Int),x=.ref l/\vs=[.int k]/\H l=some (.lst (ns.map .int))/\k∈ns/\Q .non (upd H l (.lst ((ns.erase k).map .int)))
theorem qeJ{X:Cx}:MtM X "list.remove" rRemove:=by
 intro pins s M H x vs v us Q I rx E h
 obtain⟨l,ns,k,rfl,rfl,o,A,q⟩:=h
 cases rx
 obtain⟨u,rfl,J⟩:=E.one
 obtain⟨t,rfl⟩:=J
 obtain⟨z,its,n,r,c,e⟩:=I.lstM o
 have at':∀i (hi:i<its.length),∃t,its[i]=.int (ns[i]'(by rw[<-c,wG]at hi;exact hi)) t:=λi hi=>by
  have d:i<ns.length:=by rw[<-c,wG]at hi;exact hi
  obtain⟨w,B,f⟩:=r.get (show(ns.map V.int)[i]?=some (.int ns[i]) by rw[wb,wC d];rfl)
  rw[wC hi]at B
  cases B
  exact f
 have K:ns.idxOf k<ns.length:=List.idxOf_lt_length_of_mem A
 have a:ns.idxOf k<its.length:=by rw[<-c,wG];exact K
 refine xS F.slot_list_remove ⟨_,e,rfl⟩ F.entry_list_remove (F.args_list_remove_2 _ _)
  (MeetsSeq.list_remove l its.toArray n (.int k t) (eqK k) (λy C=>?_) (ns.idxOf k) (by rw[wL];exact a) ?_ (λm hm j=>?_) (by rw[wL];lia)) ⟨e,?_⟩
 .rw [List.mem_toArray]at C
  obtain⟨i,hi,L⟩:=va C
  obtain⟨t',b⟩:=at' i hi
  rw[<-L,b]
  exact MeetsSeq.EqGives.int _ _ _ _
 .obtain ⟨t',b⟩:=at' _ a
  rw[xU,b]
  show(ns[ns.idxOf k] == k)=true
  rw[List.getElem_idxOf];simp
 .rw [wL]at hm
  obtain⟨t',b⟩:=at' m hm
  rw[xU,b]
  exact List.not_of_lt_findIdx (xs:=ns) (p:=(· == k)) j
 refine⟨.non,_,I.lset (its':=its.eraseIdx (ns.idxOf k)) o e ?_ (by rw[<-qga,<-qdA];exact r.eraseIdx _) ?_,rfl,q⟩
 .show its.toArray.eraseIdxIfInBounds _=(its.eraseIdx _).toArray
  rw[List.eraseIdxIfInBounds_toArray]
 .have:=ut A
  rw[wG]at c ⊢
  lia
theorem qaQ{ι:List Addr}{H:Hp}:∀m:List Int,Dens ι H (m.map .int) (m.map .int)
 |[]=>rfl
 |a::r=>⟨_,_,rfl,rfl,qaQ r⟩
theorem refsZ:∀m:List Int,refsLts 0 (m.map .int)=true
 |[]=>rfl
 |a::r=>by rw[wI,refsLts,refsZ r];rfl
theorem qlV{ι:List Addr}{S:Sr}{x y:D}{v u:V}{H:Hp}{Q:VK}(st:Sto ι H S)(d:Den ι H x v)(e:Den ι H y u)(p:Pst Den (remD S x y) ι H Q):rRemove v [u] H Q:=by
 unfold remD at p
 split at p
 .rename_i n k
  split at p
  .rename_i l f
   split at p
   .rename_i ns b
    split at p
    .rename_i h
     obtain⟨a,rfl,ha⟩:=d
     cases (show u=_ from e)
     obtain⟨_,xs,i,j⟩:=st.obj n a _ ha f
     cases intsOf_eq b
     cases dens_ints j
     obtain⟨g,c⟩:=put_lst st ha (qQ _ (refsZ (ns.erase k))) (qaQ (ns.erase k))
     exact⟨a,ns,k,rfl,rfl,i,h,p .non ι _ g c rfl⟩
    .exact p.elim
   .exact p.elim
  .exact p.elim
 .exact p.elim
section
variable{X:Cx}{F:Fs}{pos:Pos}
theorem qlW{o e:Expr}{co h:CE}{apos:Pos}(i:QE X o (T (ev F co)))(j:QE X e (T (ev F h)))(f:starEach [e] X.env=(false,eval e X.env)::starEach [] X.env:=by rfl)(b:attributeBase o "remove" X.env (eval o X.env)=eval o X.env:=by rfl)(c:(apos.endLine == pos.line)=true:=by rfl)(d:((backTo pos (starEach [e] X.env)).all (λx=>!x.1)&&(backToKw pos (keywordEach [] X.env)).all (λx=>x.1.isSome)&&decide ([e].length+([]:List Keyword).length+(if([]:List Keyword).isEmpty then 0 else 1)<30))=true:=by rfl)(a:(backTo pos (starEach [] X.env)).any (·.1)=false:=by rfl):QE X (.Call (.Attribute o "remove" apos) [e] [] pos) (T (ev F (.rem co h))):=by
 delta QE;delta QE at i;delta QE at j;exact(qcM PySem.F.slot_list_remove PySem.F.type_list_remove qeJ (λι S x y v u H Q st l m p=>qlV st l m p) i j f b c d a)
end
end R
namespace R
open PySem PySem.Spec L2 SeqAt
open PyProof.Rows hiding St
theorem qdB{ι:List Addr}{H:Hp}{S:Sr}{x y d:D}{v u:V}(st:Sto ι H S)(e:idkD S x y=some d)(b:Den ι H x v)(c:Den ι H y u):∃a w,v=.ref a/\DGet H a u (some w)/\Den ι H d w:=by
 unfold idkD at e
 split at e
 .rename_i n
  split at e
  .rename_i l h
   cases z:keyD y with
   |none=>rw[z]at e;cases e
   |some k =>
    rw[z,wQ]at e
    obtain⟨a,rfl,ha⟩:=b
    obtain⟨_,kvs,i,j⟩:=st.obj n a _ ha h
    obtain⟨w,e1,m⟩:=ym (f:=id) Iff.rfl j e
    cases key_den z c
    refine⟨a,w,rfl,?_,m⟩
    have:=DGet.k (k:=k) i
    rw[show valV kvs k=some w from e1]at this
    exact this
  .cases e
 .cases e
section
variable{X:Cx}{pos:Pos}
theorem qlX{a b:Expr}{j mb:En->Sr->Res D}(l:X.A.units+1<cLine)(ha:PE X a (T j))(m:PE X b (T mb))(n:PlainIx b):
  PE X (.Subscript a b pos) (T λρ S=>(j ρ S).bind λx S1=>(mb ρ S1).bind λy S2=>ofO (idkD S2 x y) S2) :=
 PEimp (qiT (qdm l) ha m n) λB H Q o=>by
  refine TG.b1 o λι S ρ a b C r st s p=>Pst.tg p r st λE S2 h H2 b2 s2 u f i v=>?_
  obtain⟨d,e,q⟩:=Pst.ofO v f
  obtain⟨c,w,e1,g,z⟩:=qdB f e (Den.mono s2 a s) i
  exact⟨c,w,e1,g,q w h H2 (Stp.refl _ _) f z⟩
def dGet:V->V->Hp->VK->Prop:=λo i H Q=>∃a v,o=.ref a/\DGet H a i (some v)/\Q v H
theorem qgb(c:X.A.units+1<cLine):PGet X dGet:=by
 intro pins s j H o i d l Q I e ri h
 obtain⟨a,v,rfl,g,q⟩:=h
 obtain rfl:d=Value.ref a:=e
 exact qaF c I g ri λm s' f b=>⟨v,H,f,b,q⟩
theorem qkk{o i e:Expr}{mo mi me:En->Sr->Res D}{d:Pos}(L:X.A.units+1<cLine)(N:PE X o (T mo))(hi:PE X i (T mi))(O:PE X e (T me))(ha:∀m n new,augStore i m n new=(do holding [new,m,n] (setItem m n new);release [new,m,n] [];pure .next)):
  PS X (.AugAssign (.Subscript o i d) .Add e pos) (TSm λρ S=>(mo ρ S).bind λx S1=>(mi ρ S1).bind λy S2=>match idkD S2 x y with
  |some (.int a)=>(me ρ S2).bind λz q=>match z with
   | .int b=>match putE q x y (.int (a+b))with
    |some r=>.ok (.nx ρ) r
    |none=>.no
   |_=>.no
  |_=>.no):=PSimp (qhy N hi (qgb L) O qjv (qdo L) ha) λD P H Q=>by
 obtain⟨ι,S,ρ,s,st,p⟩:=Q
 refine⟨ι,S,ρ,s,st,PsF.bind p λx S1 u H1 vx s1 v rx R=>?_⟩
 refine⟨u,S1,ρ,s.mono s1,v,PsF.bind R λy S2 B H2 vy s2 f M C=>?_⟩
 have h:=(s.mono s1).mono s2
 have j:=Den.mono s2 x rx
 split at C
 .rename_i a U
  obtain⟨c,w,e1,g,W⟩:=qdB f U j M
  cases (show w=_ from W)
  refine⟨c,.int a,e1,g,B,S2,ρ,h,f,PsF.bind C λz q E H3 Y F I Z l=>?_⟩
  split at l
  .rename_i b
   cases (show Y=_ from Z)
   split at l
   .rename_i r e4
    exact⟨a,b,rfl,rfl,E,q,x,y,.int (a+b),r,I,Den.mono F x j,Den.mono F y M,rfl,e4,λJ H' s' K=>l J H' s' K P ((h.mono F).mono s')⟩
   .exact l.elim
  .exact l.elim
 .exact C.elim
end
section
variable{X:Cx}{F:Fs}{N:Nat}{pos:Pos}
theorem qgc{k:Nat}{a b:Expr}{c d:CE}(f:Room k X.A)(ha:QE X a (T (ev F c)))(e:QE X b (T (ev F d)))(h:PlainIx b:=by exact λ_ _=>rfl):QE X (.Subscript a b pos) (T (ev F (.idk c d))):=by
 delta QE;delta QE at ha;delta QE at e;exact(qlX (qbO f) ha e h)
theorem qkl{k:Nat}{o i e:Expr}{co d f:CE}{a:Pos}(l:Room k X.A)(h:QE X o (T (ev F co)))(hi:QE X i (T (ev F d)))(j:QE X e (T (ev F f)))(ha:∀b c new,augStore i b c new=(do holding [new,b,c] (setItem b c new);release [new,b,c] [];pure .next):=by intros;rfl):QS X (.AugAssign (.Subscript o i a) .Add e pos) (TSm (ex F N (.augK co d f))):=by
 delta QS;delta QE at h;delta QE at hi;delta QE at j;exact(qkk (qbO l) h hi j ha)
end
end R
namespace R
open PySem PySem.Spec L2 SeqAt
open PyProof.Rows hiding St
noncomputable def dcKV(d:Int)(ns:List Int):List (Key×V):=ns.foldl (λl k=>putK l (.inl k:Key) (.int d)) []
theorem qeK(d:Int)(ns:List Int)(k:Int):dcKV d (ns++[k])=putK (dcKV d ns) (.inl k) (.int d):=by simp[dcKV]
theorem qca{ι:List Addr}{H:Hp}(d:Int):∀(ns:List Int) (l:List (Key×D)) (kvs:List (Key×V)),DGs id ι H l kvs->DGs id ι H (ns.foldl (λl k=>putT (.inl k:Key) (.int d) l) l) (ns.foldl (λl k=>putK l (.inl k:Key) (.int d)) kvs)
 |[],_,_,h=>h
 |k::r,l,kvs,h=>qca d r _ _ (jD (f:=id) Iff.rfl (d:=.int d) (v:=.int d) rfl h)
theorem qit{ι:List Addr}{H:Hp}(d:Int)(ns:List Int):DGs id ι H (dcKL d ns) (dcKV d ns):=qca d ns [] [] rfl
theorem qgd(d:Int)(ns:List Int):refsLts 0 ((dcKL d ns).map (·.2))=true:=by
 have:∀(ns:List Int) (l:List (Key×D)),refsLts 0 (l.map (·.2))=true->refsLts 0 ((ns.foldl (λl k=>putT (.inl k:Key) (.int d) l) l).map (·.2))=true:=by
  intro ns
  induction ns with
  |nil=>exact λl h=>h
  |cons k r a=>exact λl h=>a _ (yR rfl h)
 exact this ns [] rfl
theorem qge(d:Int)(ns:List Int):(dcKV d ns).length<=ns.length:=by
 have:∀(ns:List Int) (l:List (Key×V)),(ns.foldl (λl k=>putK l (.inl k:Key) (.int d)) l).length<=l.length+ns.length:=by
  intro ns
  induction ns with
  |nil=>exact λl=>wK _
  |cons k r a =>
   intro l
   have b:=a (putK l (.inl k) (.int d))
   have c:=zt l (.inl k:Key) (V.int d)
   rw[vT,w4]
   lia
 have:=this ns []
 simpa[dcKV]using this
structure SrcI (J:It) (H0:Hp) (xs:List V):Prop where
 go:∀(D:Addr) (o:HO),H0 D=none->∀(i:Nat) (x:V),xs[i]?=some x->J.go i (upd H0 D o)/\∀y H3,J.yld i (upd H0 D o) y H3->H3=upd H0 D o/\y=x
 stop:∀(D:Addr) (o:HO),H0 D=none->J.stop xs.length (upd H0 D o)
theorem qbi{H0:Hp}{a D:Addr}{u o:HO}(h:Rd H0 a u)(c:H0 D=none):Rd (upd H0 D o) a u:=by
 have b:a≠D:=λz=>by
  rcases h with h|⟨_,h⟩ <;> (rw[z,c]at h;cases h)
 rcases h with h|⟨ob,h⟩
 .exact .inl (by rw[qk b];exact h)
 .exact .inr ⟨ob,by rw[qk b];exact h⟩
theorem srcL{K:PySem.W.Frag}{H0:Hp}{a:Addr}{xs:List V}(h:Rd H0 a (.lst xs)):SrcI (Itl K a) H0 xs where
 go:=λD o b i x e=>by
  have r:=qbi (o:=o) h b
  refine⟨⟨xs,x,.inl r,e⟩,λy H3 c=>⟨c.1,?_⟩⟩
  have:=c.2 xs (.inl r)
  rw[e]at this;cases this;rfl
 stop:=λD o b=>⟨xs,.inl (qbi h b),wK _⟩
theorem srcT{K:PySem.W.Frag}{H0:Hp}{a:Addr}{xs:List V}(h:H0 a=some (.tup xs)):SrcI (Itt K a) H0 xs where
 go:=λD o b i x e=>by
  have r:=qbi (o:=o) (.inl h) b
  refine⟨⟨xs,x,.inl r,e⟩,λy H3 c=>⟨c.1,?_⟩⟩
  have:=c.2 xs (.inl r)
  rw[e]at this;cases this;rfl
 stop:=λD o b=>⟨xs,.inl (qbi (.inl h) b),wK _⟩
noncomputable def mDck(a:Int)(m:En->Sr->Res D):En->Sr->Res D:=λρ S=>(m ρ S).bind λx S1=>match refX x S1 with
 |some p=>match intsOf p.1 with
  |some ns=>if ns.length<1000 then .ok (.ref S1.length) (S1++[.dis (dcKL a ns)])else .no
  |none=>.no
 |none=>.no
section
variable{X:Cx}{pos:Pos}
theorem qeL{A:Around}{E:Value->Shared->Prop}{pins:List (Addr×Obj)}{d:St}{H:Hp}{s:Shared}{a:Addr}{kvs:List (Key×V)}{k:Key}{v:V}{u r:Value}{Q:Unit->Shared->Prop}(I:Inv X pins d H s)(e:H a=some (.dK kvs))(l:kvs.length<sizeLine)(f:RelV (kV k) u)(i:RelV v r)(h:∀s',Inv X pins d (upd H a (.dK (putK kvs k v))) s'->Q () s'):
  wpAny (model X.prog X.w) A (dictSet a u r) Q E s:=by
 obtain⟨z,hd,vs,b,j⟩:=qiV I.hok e
 have m:vs.length<=sizeLine:=by rw[<-b.length];exact z
 have n:(putK kvs k v).length<=sizeLine:=by have:=zt kvs k v;lia
 refine wpAny_dictSet_pairs (hsz:=m) (qbI f) j λh' c o=>h _ ?_
 have p:∃q,h'.get? a=some q:=let ⟨q,_,_,x,_⟩:=c;⟨q,x⟩
 exact qaY I (by rw[e];exact True.intro) o p (qfb n hd (b.put k i) c)
theorem qgf{t:Str}{L kp N:Pos}{O:Nat}{a:Int}{iter:Expr}{sc:Scope}{J:It}{fp:List Addr}{it c:Addr}{tn:Nat->Heap->Prop}{R:Result->Shared->Prop}{ns:List Int}(m:X.xe=λ_ _=>False)(hc:X.calm=true)(P:X.ex=fp)(Q:X.pn=[])(T':Turn X.prog X.w X.K (.Name t L) J fp it tn)(hg:PG X (.Name t L) (gName 0))(hk:PE X (.Name t kp) (tVar 0)){H0:Hp}{S:St}{s:Shared}(q:H0 c=none)(hJ:SrcI J H0 (ns.map V.int))(hl:ns.length<=1000)(I:Inv X [] S (upd H0 c (.dK [])) s)(h0:tn 0 s.heap)(U:∀b∈fp,upd H0 c (.dK []) b=none)(W:S.length=1)(fin:∀(f:St) (s':Shared),Inv X [] f (upd H0 c (.dK (dcKV a ns))) s'->R (.ok .next) s'):
  codeAny (model X.prog X.w) X.A (.compLoop (.DictComp (.Name t kp) (.Constant (.int a) O N) [⟨.Name t L,iter,[],0⟩] sc pos) 0 (.ref it) (.ref c) X.env) R s:=by
 have B:∀b∈fp,b≠c/\H0 b=none:=λb n=>by
  have M:=U b n
  have C:b≠c:=λz=>by rw[z,qv]at M;cases M
  rw[qk C]at M
  exact⟨C,M⟩
 refine codeAny_loop rfl (λk s'=>∃(i:Nat) (f:St),k=ns.length-i/\i<=ns.length/\Inv X [] f (upd H0 c (.dK (dcKV a (ns.take i)))) s'/\tn i s'.heap/\f.length=1) ?_
  ns.length ⟨0,S,by simp,wh _,I,h0,W⟩
 rintro k s1 ⟨i,d,rfl,hi,I1,t1,l⟩
 have e:∀{o:HO},∀b∈fp,FpOk X [] (upd H0 c o) b:=λb n=>by
  have h:b∈X.ex:=by rw[P];exact n
  exact⟨by rw[qk (B b n).1];exact(B b n).2,(I.ok.exf b h).1,λz=>I.ok.exfs b h z,.inl h,(I.ok.exf b h).2,λp hp=>by rw[Q]at hp;exact absurd hp (by simp)⟩
 show wpAny _ X.A ((compTurn (.DictComp (.Name t kp) (.Constant (.int a) O N) [⟨.Name t L,iter,[],0⟩] sc pos) 0 (.ref it) (.ref c) X.env).onRaise (λx=>do noteFrame x X.env;theTreesLotGoes x)) _ _ s1
 refine wpAny_noted ?_
 rw[compTurn_dict]
 refine wA (wi (wA ?_))
 by_cases E:i<ns.length
 .obtain ⟨go,yl⟩:=hJ.go c (.dK (dcKV a (ns.take i))) q i (.int ns[i]) (by rw[wb,wC E];rfl)
  refine thnF (T'.item X rfl rfl rfl hc i [] s1 d _ _ I1 e t1 go) λr s2 ⟨u,Y,h2⟩=>?_
  subst Y
  refine wA (thnF h2 λ_ s3 ⟨x,H3,I3,r3,y3,t3,f3⟩=>?_)
  obtain⟨e3,ex⟩:=yl x H3 y3
  subst e3 ex
  have Z:=I3.pinned e (T'.obj _ _ t3)
  refine wA (vQ (hg _ s3 d _ (.int ns[i]) u (λF H4=>F=d.set 0 (some (.int ns[i]))/\H4=upd H0 c (.dK (dcKV a (ns.take i)))) Z r3 ⟨rfl,rfl⟩) (λ_ s4 ⟨F,H4,I4,e4,e5⟩=>?_) λ_ _ z=>by rw[m]at z;exact z.elim)
  subst e4 e5
  refine wA (wD ?_)
  refine wA (wA (vQ (hk _ s4 _ _ (λy H6=>y=.int ns[i]/\H6=upd H0 c (.dK (dcKV a (ns.take i)))) I4 ⟨.int ns[i],by rw[vc (by rw[l];decide)],rfl,rfl⟩) (λy' s6 ⟨y,H6,I6,ry,ey,e6⟩=>?_) λ_ _ z=>by rw[m]at z;exact z.elim))
  subst ey e6
  refine wA (wv (vQ (qeT (pos:=N) (j:=O) _ s6 _ _ (λy H7=>y=.int a/\H7=upd H0 c (.dK (dcKV a (ns.take i)))) I6 ⟨rfl,rfl⟩) (λz' s7 ⟨y,H7,I7,rz,ey,e7⟩=>?_) λ_ _ z=>by rw[m]at z;exact z.elim))
  subst ey e7
  have H:=qge a (ns.take i)
  rw[vE]at H
  refine wA (wi (wv (qeL (k:=.inl ns[i]) (v:=.int a) I7 qv (by rw[vL];lia) ry rz λs8 I8=>?_)))
  rw[qhr]at I8
  have et:dcKV a (ns.take (i+1))=putK (dcKV a (ns.take i)) (.inl ns[i]) (.int a):=by rw[<-qeK,List.take_append_getElem]
  refine wD ⟨rfl,ns.length-(i+1),by lia,i+1,_,rfl,E,by rw[et];exact I8.unpinned,?_,by rw[List.length_set];exact l⟩
  exact T'.keep _ _ _ t3 λb n o eo=>(I8.pin (b,o) (wT _ (wT _ (q9 n eo)))).1
 .have a0:i=ns.length:=by lia
  subst a0
  have st:=hJ.stop c (.dK (dcKV a (ns.take ns.length))) q
  rw[wG]at st
  refine thnF (T'.done X rfl rfl rfl hc ns.length [] s1 d _ _ I1 e t1 st) λr s2 ⟨Y,I2⟩=>?_
  subst Y
  rw[List.take_length]at I2
  exact wD (fin d s2 I2)
theorem qgg{t:Str}{M kp vp:Pos}{vj:Nat}{B:Int}{iter:Expr}{sc:Scope}{m:En->Sr->Res D}(hc:X.calm=true)(hi:PE X iter (T m))(hs:∀x,foldedSetIterable iter X.env x=pure x)(u:CSc X sc [] [] [t])(hg:∀cl C fp s H,PG (compCx X sc cl C ([]++[t]) fp s H) (.Name t M) (gName 0))(hk:∀cl C fp s H,PE (compCx X sc cl C ([]++[t]) fp s H) (.Name t kp) (tVar 0)){pins:List (Addr×Obj)}{s:Shared}{N:St}{H:Hp}{Q:VK}{use:Option (Value->Sem Unit)}{Q':Value->Shared->Prop}(I:Inv X pins N H s)(hw:T (mDck B m) N H Q)(fin:∀(D C:Addr) (H':Hp) (s':Shared) (m:Str->Option Value),s'.heap.Ns C m->C≠X.env.locals->(∀x c,X.env.cells.lookup x=some c->c≠C)->(H' C=none/\X.s₀.heap.objs.size<=C/\∀p∈X.pn++pins,p.1≠C)->(∀h',Heap.SameBut C s'.heap h'->Inv X pins N H' {s' with heap:=h' })->Q (.ref D) H'->compPost (model X.prog X.w) X.A X.xe use Q' (.ref D) C (.ok .next) s'):
  wpAny (model X.prog X.w) X.A (comprehension (.DictComp (.Name t kp) (.Constant (.int B) vj vp) [⟨.Name t M,iter,[],0⟩] sc pos) sc X.env (firstIterPos [⟨.Name t M,iter,[],0⟩] pos) newDict false (eval iter X.env) use) Q' X.xe s:=by
 obtain⟨ι,S,ρ,er,st,p⟩:=hw
 dsimp only[mDck]at p
 cases z:m ρ S with
 |no=>rw[z]at p;exact p.elim
 |err=>rw[z]at p;exact p.elim
 |ok dx S1 =>
 rw[z,Res.bind_ok]at p
 split at p
 rotate_left
 .exact p.elim
 rename_i lg d
 split at p
 rotate_left
 .exact p.elim
 rename_i ns a0
 split at p
 rotate_left
 .exact p.elim
 rename_i O
 have O:ns.length<1000:=O
 obtain⟨cl,CL⟩:=qa4 (X:=X) (sc:=sc) λx hx hf=>I.ok.has x.1 (u.frees x hx hf)
 refine wpAny_comprehension_free rfl hs CL.eq u.kind u.names ?_
 refine thn (qcN (tg:=.Name t M) hi pins s N H (λJ H2=>∃j,Stp ι H j H2/\Sto j H2 S1/\SrcI J H2 (ns.map V.int)) I ⟨ι,S,ρ,er,st,?_⟩) λxv s1 h1=>thn h1 λa5 s2 h2=>?_
 .rw [z]
  intro v E H' q r hv
  have F:lg.1=ns.map .int:=intsOf_eq a0
  cases dx with
  |ref n =>
   obtain⟨a,rfl,ha⟩:=hv
   cases zn:S1[n]? with
   |none=>simp only[refX,zn]at d;cases d
   |some so =>
    cases so with
    |lst l =>
     simp only[refX,zn]at d
     cases d
     obtain⟨_,xs,hx,P⟩:=r.obj n a _ ha zn
     cases (show l=_ from F)
     cases dens_ints P
     exact .inl ⟨a,rfl,⟨_,.inl (.inl hx)⟩,E,q,r,srcL (.inl hx)⟩
    |dic l=>simp only[refX,zn]at d;cases d
    |dis l=>simp only[refX,zn]at d;cases d
  |tup l =>
   cases d
   obtain⟨a,xs,rfl,hn,ha,P⟩:=hv
   cases (show l=_ from F)
   cases dens_ints P
   exact .inr ⟨a,rfl,⟨_,.inl (.inl ha)⟩,E,q,r,srcT ha⟩
  |lst l =>
   cases d
   obtain⟨a,xs,rfl,hn,ha,P⟩:=hv
   cases (show l=_ from F)
   cases dens_ints P
   exact .inl ⟨a,rfl,⟨_,.inl ha⟩,E,q,r,srcL ha⟩
  |_=>cases d
 obtain⟨it,fp,tn,J,H2,e,I2,T',t2,f2,j,q2,R,hJ⟩:=h2
 subst e
 refine w9 ?_
 have K:H2 s2.heap.objs.size=none:=I2.hok.fresh (wK _)
 have U:∀b∈fp,b<s2.heap.objs.size:=λb f=>by
  obtain⟨o,h,_⟩:=T'.obj _ _ t2 b f
  exact wJ h
 have L:Inv X pins N (upd H2 s2.heap.objs.size (.dK [])) {s2 with heap:=s2.heap.push {cls:=.type "dict",data:=.dict #[]}} :=
  I2.laid (t':=s2.toks) (λb o e=>wB _ e) (wK _) (qbM s2.heap I2.big)
 have f3:∀b∈fp,FpOk X pins (upd H2 s2.heap.objs.size (.dK [])) b:=λb f=>⟨by rw[qk (wc (U b f))];exact(f2 b f).1,(f2 b f).2⟩
 generalize W:({s2 with heap:=s2.heap.push {cls:=.type "dict",data:=.dict #[]}}:Shared)=s3 at L ⊢
 have Y:∀b∈fp,b<s3.heap.objs.size:=λb f=>by
  rw[<-W]
  show b<(s2.heap.push _).objs.size
  rw[v5];exact uF (U b f)
 have t3:tn 0 s3.heap:=T'.keep _ _ _ t2 λb f o h=>by rw[<-W];exact wB _ h
 refine wpAny_newFunctionEnv u.nocell (by intro y hy;simp at hy) (λh4 a1 a2=>?_) u.kind
 have i:∀b o,s3.heap.get? b=some o->h4.get? b=some o:=λb o h=>a2.extBut b o (wc (wJ h)) (wB _ h)
 have I4:=jT (tk:=s3.toks+([]:List (Str×Value)).length) L u.kind u.nocell CL f3 Y u.frs a1 i
 have t4:tn 0 h4:=T'.keep _ _ _ t3 λb f o h=>i b o h
 have loop:codeAny (model X.prog X.w) X.A (.compLoop (.DictComp (.Name t kp) (.Constant (.int B) vj vp) [⟨.Name t M,iter,[],0⟩] sc pos) 0 (.ref it) (.ref s2.heap.objs.size) (compEnvC sc cl s3.heap.objs.size X.env)) (compPost (model X.prog X.w) X.A X.xe use Q' (.ref s2.heap.objs.size) s3.heap.objs.size) {s3 with heap:=h4,toks:=s3.toks+([]:List (Str×Value)).length}:=by
  refine qgf (X:=compCx X sc cl s3.heap.objs.size ([]++[t]) fp s3 (upd H2 s2.heap.objs.size (.dK []))) (pos:=pos) rfl hc rfl rfl T' (hg _ _ _ _ _) (hk _ _ _ _ _) K hJ (by lia) I4 t4 (λb f=>(f3 b f).1) (by simp[frS]) λa6 s' J'=>?_
  obtain⟨H',Z⟩:∃H',H'=upd H2 s2.heap.objs.size (.dK (dcKV B ns)):=⟨_,rfl⟩
  rw[<-Z]at J'
  obtain⟨m',a3,_⟩:=J'.loc
  refine fin s2.heap.objs.size s3.heap.objs.size H' s' m' a3 (ws L.lt) (λx c ec ez=>?_) ⟨J'.free,L.sz,λq hq ez=>by have:=wJ (L.pin q hq).1;rw[ez]at this;exact absurd this (vH _)⟩ (λh5 a4=>jU L f3 J' a4) ?_
  .obtain ⟨v,o,h,_⟩:=L.cell x c ec
   rw[ez]at h
   exact absurd (wJ h) (vH _)
  .subst Z
   have gg:=Stp.grow (ι:=j) K (.dK (dcKV B ns))
   refine p (.ref s2.heap.objs.size) _ _ (q2.trans gg) (R.grow K ⟨qgd B ns,_,qv,qit B ns⟩) ⟨_,rfl,?_⟩
   rw[<-R.len];simp
 exact codeAny_compStart_dict loop (T'.self _ 0 _ _ _ t4 loop)
theorem qgh{t:Str}{r kp u:Pos}{w:Nat}{h:Int}{iter:Expr}{sc:Scope}{B:En->Sr->Res D}{i:Nat}{y:Str}{j c:Pos}(Z:X.calm=true)(hi:PE X iter (T B))(hs:∀x,foldedSetIterable iter X.env x=pure x)(C':CSc X sc [] [] [t])(hg:∀cl C fp s H,PG (compCx X sc cl C ([]++[t]) fp s H) (.Name t r) (gName 0))(hk:∀cl C fp s H,PE (compCx X sc cl C ([]++[t]) fp s H) (.Name t kp) (tVar 0))(hN:X.N.Nodup)(hy:X.N[i]?=some y)(U:X.env.scope.names.lookup y=some .local)(E:swapsWith (.DictComp (.Name t kp) (.Constant (.int h) w u) [⟨.Name t r,iter,[],0⟩] sc pos) (some (.Name y j)) c.line X.env=pure true):
  PS X (.Assign [.Name y j] (.DictComp (.Name t kp) (.Constant (.int h) w u) [⟨.Name t r,iter,[],0⟩] sc pos) c) (TSm λρ S=>(mDck h B ρ S).bind λd S1=>.ok (.nx (ρ.set i (some d))) S1):=λpins s F H D I hw=>by
 obtain⟨ι,S,ρ,W,st,p⟩:=hw
 rw[exec_Assign_Name_used _ _ _ _ E]
 refine wA (wi (wA ?_))
 show wpAny _ X.A (do let _ <-comprehension (.DictComp (.Name t kp) (.Constant (.int h) w u) [⟨.Name t r,iter,[],0⟩] sc pos) sc X.env _ newDict false (eval iter X.env) (some (assign (.Name y j) X.env))) _ _ s
 have hT:T (mDck h B) F H (λv J=>D.nx (F.set i (some v)) J):=⟨ι,S,ρ,W,st,PsF.bind p λa S1 K J b s1 L ra p1=>p1 K J (Stp.refl _ _) L _ ((W.mono s1).set ra)⟩
 refine wA (vQ (qgg (use:=some (assign (.Name y j) X.env)) (Q':=λ_ s'=>SP X pins D .next s') Z hi hs C' hg hk I hT λY C H' s' m hn l n f hI q=>?_) (λ_ s' hq=>wD (wD hq)) λ_ _ e=>e)
 show wpAny _ X.A (assign (.Name y j) X.env (.ref Y)) _ _ _
 have I0:Inv X pins F H' s':=by
  have:=hI s'.heap (Heap.SameBut.refl ..)
  exact this
 refine wpAny_assign_Name (jb I0 hN hy (.inl U) (v:=.ref Y) rfl (λM O P=>?_) (.inr U))
 obtain⟨a,sb,ha⟩:=P
 have Q:C≠a:=by
  rcases ha with z|z
  .rw [z];exact l
  .exact λq=>n y a z q.symm
 refine⟨m,hn.sameBut sb Q,λh' R=>?_⟩
 have I3:=O.turned (h':=h') (t':=M.toks) (it:=C) (λb o hb e=>R.extBut b o hb e) f.1 l (.inr f.2.1) n f.2.2
 exact⟨_,H',I3,q⟩
end
section
variable{X:Cx}{F:Fs}{N:Nat}{pos:Pos}
theorem qkm(i:Nat){x:Str}(b:X.N[i]?=some x:=by rfl)(c:Vis X.env.scope x:=by first|exact Or.inl rfl|exact Or.inr (Or.inl rfl)|exact Or.inr (Or.inr rfl))(hd:(x == ("__debug__":Str))=false:=by decide)(a:(x == ("__classdict__":Str))=false:=by decide):PE X (.Name x pos) (tVar i):=qeS b c hd a
theorem qgi(i:Nat)(b:Int){t:Str}{f kp l:Pos}{m:Nat}{iter:Expr}{sc:Scope}{c:CE}{y:Str}{n a:Pos}(hi:QE X iter (T (ev F c)))(o:∀cl C fp s H,PG (compCx X sc cl C ([]++[t]) fp s H) (.Name t f) (gName 0))(p:∀cl C fp s H,PE (compCx X sc cl C ([]++[t]) fp s H) (.Name t kp) (tVar 0))(q:X.calm=true:=by rfl)(r:∀x,foldedSetIterable iter X.env x=pure x:=by intro _;rfl)(h:cscB X.env.scope.names X.N sc [] [] [t]=true:=by rfl)(u:nodupB X.N=true:=by rfl)(v:X.N[i]?=some y:=by rfl)(w:X.env.scope.names.lookup y=some .local:=by rfl)(j:swapsWith (.DictComp (.Name t kp) (.Constant (.int b) m l) [⟨.Name t f,iter,[],0⟩] sc pos) (some (.Name y n)) a.line X.env=pure true:=by rfl):
  QS X (.Assign [.Name y n] (.DictComp (.Name t kp) (.Constant (.int b) m l) [⟨.Name t f,iter,[],0⟩] sc pos) a) (TSm (ex F N (.set (.var i) (.dcK b c)))):=by
 have e:ex F N (.set (.var i) (.dcK b c))=λρ S=>(mDck b (ev F c) ρ S).bind λd S1=>.ok (.nx (ρ.set i (some d))) S1:=by
  funext ρ S
  unfold mDck
  simp only[ex,asg,ev]
  all_goals (cases ev F c ρ S <;> rfl)
 rw[e]
 delta QS;delta QE at hi;exact(qgh q hi r (jk h) o p (zq u) v w j)
end
end R
namespace R
open PySem PySem.Spec L2 SeqAt
open PyProof.Rows hiding St
noncomputable def PV(H:Hp):List V->List (List Key×Addr×V)->Prop
 |[],ps=>ps=[]
 |y::ys,ps=>∃b k a v r,y=.ref b/\H b=some (.tup [.ref a,v])/\H a=some (.tup (k.map kV))/\ps=(k,a,v)::r/\PV H ys r
noncomputable def dTL(ps:List (List Key×Addr×V)):List (List Key×V):=ps.foldl (λkvs p=>putK kvs p.1 p.2.2) []
theorem qcT{H:Hp}:∀{ys:List V} {ps:List (List Key×Addr×V)},PV H ys ps->ps.length=ys.length
 |[],ps,h=>by cases (show ps=[]from h);rfl
 |y::ys,ps,⟨b,k,a,v,r,_,_,_,e,h⟩=>by subst e;rw[w4,w4,qcT h]
section
variable{P:Program}{w:World}{H:Hp}{h:Heap}
theorem qdC(ok:HOk P w H h):∀{ys:List V} {us:List Value} {ps:List (List Key×Addr×V)},PV H ys ps->Vals ys us ->
  ∃its:List (List Key×Addr×Value),Paired (λ(p:List Key×Addr×V) (q:List Key×Addr×Value)=>p.1=q.1/\p.2.1=q.2.1/\H q.2.1=some (.tup (q.1.map kV))/\RelV p.2.2 q.2.2) ps its /\
   ∀(i:Nat) (q:List Key×Addr×Value),its[i]?=some q->∃b,us[i]?=some (.ref b)/\h.IsTuple b #[.ref q.2.1,q.2.2]
 |[],us,ps,hp,r=>by
  cases (show ps=[]from hp)
  exact⟨[],.nil,λi q e=>by simp at e⟩
 |y::ys,us,ps,⟨b,k,a,v,r,e1,e2,e3,e4,hp⟩,rv=>by
  subst e1 e4
  cases rv with
  |cons d f =>
   obtain⟨its,j,l⟩:=qdC ok hp f
   rename_i u m
   cases (show u=Value.ref b from d)
   obtain⟨_,I,c,s,_⟩:=(show ObjOk P w H h b (.tup [.ref a,v])from ok b _ e2)
   cases c with
   |cons x c =>
    cases c with
    |cons z c =>
     cases c
     rename_i A B
     cases (show A=Value.ref a from x)
     refine⟨(k,a,B)::its,.cons ⟨rfl,rfl,e3,z⟩ j,λi q e=>?_⟩
     cases i with
     |zero =>
      simp only[vZ,Option.some.injEq]at e
      subst e
      obtain⟨o,C,E,n,F⟩:=s
      exact⟨b,rfl,o,C,E,n,F⟩
     |succ i=>exact l i q (by simpa using e)
theorem qi5:∀{ps:List (List Key×Addr×V)} {its:List (List Key×Addr×Value)} {kvs:List (List Key×V)} {xs:List (List Key×Addr×Value)},Paired (λ(p:List Key×Addr×V) (q:List Key×Addr×Value)=>p.1=q.1/\p.2.1=q.2.1/\H q.2.1=some (.tup (q.1.map kV))/\RelV p.2.2 q.2.2) ps its->KT H kvs xs ->
  KT H (ps.foldl (λkvs p=>putK kvs p.1 p.2.2) kvs) (its.foldl (λxs p=>storedH xs p.1 p.2.1 p.2.2) xs)
 |_,_,_,_,.nil,k=>k
 |p::ps,q::its,kvs,xs,.cons ⟨e1,e2,e3,e4⟩ t,k=>by
  rw[vT,vT,e1]
  exact qi5 t (KT.put k q.1 e3 e4)
end
theorem qiu(ps:List (List Key×Addr×V)):(dTL ps).length<=ps.length:=by
 have a:∀(ps:List (List Key×Addr×V)) (kvs:List (List Key×V)),(ps.foldl (λkvs p=>putK kvs p.1 p.2.2) kvs).length<=kvs.length+ps.length:=by
  intro ps
  induction ps with
  |nil=>intro kvs;simp
  |cons p r b =>
   intro kvs
   have:=b (putK kvs p.1 p.2.2)
   have:=zt kvs p.1 p.2.2
   rw[vT,w4];lia
 have:=a ps []
 rw[vN,Nat.zero_add]at this
 exact this
variable{X:Cx}
theorem qeM(F:X.calm=true)(J:X.A.units+2<cLine):CallR X (.type "dict") (λxs H Q=>∃p ys ps,xs=[.ref p]/\H p=some (.tup ys)/\PV H ys ps/\∀d,H d=none->Q (.ref d) (upd H d (.dT (dTL ps)))):=by
 intro pins s σ H xs us Q I r K
 obtain⟨p,ys,ps,rfl,L,a,q⟩:=K
 obtain⟨u,rfl,rx⟩:=vals1 r
 cases (show u=Value.ref p from rx)
 obtain⟨M,c,j,⟨o,E,l,n,m⟩,nd⟩:=(show ObjOk X.prog X.w H s.heap p (.tup ys)from I.hok p _ L)
 obtain⟨its,v,N⟩:=qdC I.hok a j
 have y:its.length=c.toArray.size:=by rw[wL,<-v.length,qcT a,j.length]
 refine DN.call_pairs (knd:=tupleKind (mixKind X.prog X.w)) (its:=its) (I.ok.hd F) J E l m (nd o E) y (by rw[wL,<-j.length];exact M) (λi q e=>?_) (λq f h B=>?_) λh' tk B O=>?_
 .obtain ⟨b,e1,P⟩:=N i q e
  exact⟨b,by simpa using e1,P⟩
 .have:∀{ps:List (List Key×Addr×V)} {its:List (List Key×Addr×Value)},Paired (λ(p:List Key×Addr×V) (q:List Key×Addr×Value)=>p.1=q.1/\p.2.1=q.2.1/\H q.2.1=some (.tup (q.1.map kV))/\RelV p.2.2 q.2.2) ps its->∀q∈its,H q.2.1=some (.tup (q.1.map kV)):=by
   intro ps its g
   induction g with
   |nil=>intro q f;simp at f
   |cons x _ R =>
    intro q f
    rcases wR.mp f with z|z
    .subst z;exact x.2.2.1
    .exact R q z
  exact jM (I.hok.kept B) (this v q f)
 .have hn:H s.heap.objs.size=none:=I.hok.fresh (wK _)
  refine⟨.ref s.heap.objs.size,_,?_,rfl,q _ hn⟩
  have C:KT H (dTL ps) (DN.dOf its):=qi5 v .nil
  obtain⟨od,es,S,U,W,Y,Z,h5⟩:=O
  refine I.laid B (wK _) ⟨?_,?_,_,C.keeps λb zs e=>?_,od,es,S,U,W,Y,Z,h5⟩
  .have:=qiu ps
   have:=qcT a
   lia
  .exact vB.mpr (ws I.big)
  .rw [qk (by rintro rfl;rw[hn]at e;cases e)];exact e
theorem qiv:bootBuiltins "dict"=some (.type "dict"):=by decide +kernel
theorem qkn{A:Around}{k:Nat}(a:Room k A):A.units+2<cLine:=by have:=a.un;lia
noncomputable def QP(ι:List Addr)(H:Hp):List (List Int×D)->List (List Key×Addr×V)->Prop
 |[],ps=>ps=[]
 |q::qs,ps=>∃a v r,ps=(keyT q.1,a,v)::r/\Den ι H q.2 v/\refsLt 0 q.2=true/\QP ι H qs r
theorem qko{ι:List Addr}{H:Hp}:∀{l:List D} {xs:List V} {f:List (List Int×D)},Dens ι H l xs->pairsV l=some f->∃ps,PV H xs ps/\QP ι H f ps:=by
 intro l
 induction l with
 |nil =>
  intro xs f h e
  cases (show xs=[]from h)
  cases (show some []=some f from e)
  exact⟨[],rfl,rfl⟩
 |cons d r n =>
  intro xs f h e
  obtain⟨y,ys,rfl,o,p⟩:=h
  unfold pairsV at e
  split at e
  .rename_i c
   cases c
  .rename_i ks v r' c
   cases c
   split at e
   .rename_i q
    cases z:intsOf ks with
    |none=>rw[z]at e;cases e
    |some m =>
     rw[z,wQ]at e
     cases zr:pairsV r with
     |none=>rw[zr]at e;cases e
     |some i =>
      rw[zr]at e
      cases (show some ((m,v)::i)=some f from e)
      obtain⟨ps,s,u⟩:=n p zr
      obtain⟨b,B,rfl,_,w,C,t1,rfl,d1,j,t2,rfl,d2,x⟩:=o
      cases (show t2=[]from x)
      cases intsOf_eq z
      obtain⟨a,us,rfl,_,ha,A⟩:=d1
      cases dens_ints A
      exact⟨(keyT m,a,j)::ps,⟨b,keyT m,a,j,ps,rfl,w,by rw[jC];exact ha,rfl,s⟩,⟨a,j,ps,rfl,d2,q,u⟩⟩
   .cases e
  .cases e
theorem qgj{ι:List Addr}{H:Hp}:∀{b:List (List Int×D)} {ps:List (List Key×Addr×V)} {l:List (List Int×D)} {kvs:List (List Key×V)},QP ι H b ps->DGs keyT ι H l kvs->refsLts 0 (l.map (·.2))=true ->
  DGs keyT ι H (b.foldl (λl p=>putT p.1 p.2 l) l) (ps.foldl (λkvs p=>putK kvs p.1 p.2.2) kvs)/\refsLts 0 ((b.foldl (λl p=>putT p.1 p.2 l) l).map (·.2))=true
 |[],ps,l,kvs,h,g,f=>by
  cases (show ps=[]from h)
  exact⟨g,f⟩
 |q::b,ps,l,kvs,h,g,f=>by
  obtain⟨a,v,r,rfl,d,c,h⟩:=h
  rw[vT,vT]
  exact qgj h (jD yk d g) (yR c f)
theorem qkp(j:X.calm=true)(m:X.A.units+2<cLine):CallR X (.type "dict") (Gn (one bDict)) :=
 qdn (r:=λx H Q=>∃p ys ps,x=.ref p/\H p=some (.tup ys)/\PV H ys ps/\∀d,H d=none->Q (.ref d) (upd H d (.dT (dTL ps)))) (CallRimp (qeM j m) λxs H Q ⟨x,e,p,ys,ps,n,o,q,s⟩=>⟨p,ys,ps,by rw[e,n],o,q,s⟩) λι S d x H Q st u p=>by
  unfold bDict at p
  split at p
  .rename_i l
   split at p
   .rename_i z c
    obtain⟨a,xs,rfl,hn,ha,v⟩:=u
    obtain⟨ps,f,h⟩:=qko v c
    refine⟨a,xs,ps,rfl,ha,f,λb i=>?_⟩
    have g:=Stp.grow (ι:=ι) i (.dT (dTL ps))
    obtain⟨w,y⟩:=qgj (l:=[]) (kvs:=[]) h rfl rfl
    refine p (.ref b) _ _ g (st.grow i ⟨y,_,qv,DGs.mono g w⟩) ⟨b,rfl,?_⟩
    rw[<-st.len];simp
   .exact p.elim
  .exact p.elim
section
variable{F:Fs}{pos:Pos}
theorem qkq{k:Nat}{e:Expr}{es:List Expr}{cs:CEs}{p:Pos}(b:Room k X.A)(gb:Gb X.mg)(ha:QA X (e::es) (TL (evs F cs)))(c:X.calm=true:=by rfl)(d:Gl X "dict":=by rfl)(f:starEach (e::es) X.env=(false,eval e X.env)::starEach es X.env:=by rfl)(a:(backTo pos (starEach es X.env)).any (·.1)=false:=by rfl):QE X (.Call (.Name "dict" p) (e::es) [] pos) (T (ev F (.blt .dict cs))):=by
 delta QE;delta QA at ha;exact(qi1 .dict (qkp c (qkn b)) (gb.ty .dict) qiv ha d (by decide) (by decide) f a)
end
end R
namespace RP
open R
def c_0:CF:=⟨1,1,false,.cons (.ret (.and (.isi .int (.var 0)) (.not (.isi .bool (.var 0))))) .nil⟩
def c_1:CF:=⟨3,3,false,.cons (.ret (.and (.call 0 (.cons (.var 0) .nil)) (.chain .le .le (.var 1) (.var 0) (.var 2)))) .nil⟩
def c_2:CF:=⟨2,2,false,.cons (.whileS (.val (.var 1)) (.cons (.set (.tup (.cons (.var 0) (.cons (.var 1) .nil))) (.tup (.cons (.var 1) (.cons (.bin .mod (.var 0) (.var 1)) .nil)))) .nil)) (.cons (.ret (.var 0)) .nil)⟩
def c_3:CF:=⟨2,3,false,.cons (.set (.var 2) (.call 2 (.cons (.blt .abs (.cons (.var 0) .nil)) (.cons (.var 1) .nil)))) (.cons (.ret (.tup (.cons (.bin .fdiv (.var 0) (.var 2)) (.cons (.bin .fdiv (.var 1) (.var 2)) .nil)))) .nil)⟩
def c_4:CF:=⟨2,2,false,.cons (.ret (.cmp .lt (.bin .mul (.idx (.var 0) (.cst (.int 0))) (.idx (.var 1) (.cst (.int 1)))) (.bin .mul (.idx (.var 1) (.cst (.int 0))) (.idx (.var 0) (.cst (.int 1)))))) .nil⟩
def c_5:CF:=⟨1,3,false,.cons (.ifs (.or (.not (.val (.isi .tuple (.var 0)))) (.val (.cmp .ne (.blt .len (.cons (.var 0) .nil)) (.cst (.int 2))))) (.cons (.ret (.cst (.bl false))) .nil) .nil) (.cons (.set (.tup (.cons (.var 1) (.cons (.var 2) .nil))) (.var 0)) (.cons (.ret (.and (.call 6 (.cons (.var 1) .nil)) (.call 7 (.cons (.var 2) (.cons (.blt .len (.cons (.var 1) .nil)) .nil))))) .nil))⟩
def c_6:CF:=⟨1,1,false,.cons (.ifs (.or (.not (.val (.isi .tuple (.var 0)))) (.not (.val (.chain .le .le (.cst (.int 1)) (.blt .len (.cons (.var 0) .nil)) (.cst (.int 12)))))) (.cons (.ret (.cst (.bl false))) .nil) .nil) (.cons (.ret (.gen .all [] 1 (.call 1 (.cons (.var 0) (.cons (.cst (.int 1)) (.cons (.cst (.int 100)) .nil)))) (.var 0) (.seq (.var 0)) .nil)) .nil)⟩
def c_7:CF:=⟨2,2,false,.cons (.ifs (.or (.not (.val (.isi .tuple (.var 0)))) (.val (.cmp .gt (.blt .len (.cons (.var 0) .nil)) (.cst (.int 30))))) (.cons (.ret (.cst (.bl false))) .nil) .nil) (.cons (.ifs (.not (.val (.gen .all [1] 1 (.call 8 (.cons (.var 1) (.cons (.var 0) .nil))) (.var 1) (.seq (.var 0)) .nil))) (.cons (.ret (.cst (.bl false))) .nil) .nil) (.cons (.ret (.call 11 (.cons (.lc false [] 2 (.var 0) (.tup (.cons (.var 0) (.cons (.var 1) .nil))) (.seq (.var 0)) .nil) .nil))) .nil))⟩
def c_8:CF:=⟨2,4,false,.cons (.ifs (.or (.not (.val (.isi .tuple (.var 0)))) (.val (.cmp .ne (.blt .len (.cons (.var 0) .nil)) (.cst (.int 2))))) (.cons (.ret (.cst (.bl false))) .nil) .nil) (.cons (.set (.tup (.cons (.var 2) (.cons (.var 3) .nil))) (.var 0)) (.cons (.ret (.and (.call 9 (.cons (.var 2) (.cons (.var 1) .nil))) (.call 1 (.cons (.var 3) (.cons (.cst (.int 1)) (.cons (.cst (.int 1000000)) .nil)))))) .nil))⟩
def c_9:CF:=⟨2,2,false,.cons (.ret (.and (.call 10 (.cons (.var 0) (.cons (.var 1) .nil))) (.cmp .le (.blt .len (.cons (.var 0) .nil)) (.cst (.int 4))))) .nil⟩
def c_10:CF:=⟨2,2,false,.cons (.ifs (.or (.not (.val (.isi .tuple (.var 0)))) (.not (.val (.var 0)))) (.cons (.ret (.cst (.bl false))) .nil) .nil) (.cons (.ret (.and (.gen .all [1] 1 (.call 1 (.cons (.var 1) (.cons (.cst (.int 0)) (.cons (.bin .sub (.var 0) (.cst (.int 1))) .nil)))) (.var 1) (.seq (.var 0)) .nil) (.call 11 (.cons (.var 0) .nil)))) .nil)⟩
def c_11:CF:=⟨1,1,false,.cons (.ret (.gen .all [] 2 (.cmp .lt (.var 0) (.var 1)) (.tup (.cons (.var 0) (.cons (.var 1) .nil))) (.zip (.var 0) (.slc (.var 0) (.some (.cst (.int 1))) .none)) .nil)) .nil⟩
def c_12:CF:=⟨1,1,false,.cons (.ifs (.not (.val (.call 5 (.cons (.var 0) .nil)))) (.cons (.never) .nil) .nil) .nil⟩
def c_13:CF:=⟨2,2,false,.cons (.ret (.call 1 (.cons (.var 1) (.cons (.cst (.int 0)) (.cons (.bin .sub (.blt .len (.cons (.idx (.var 0) (.cst (.int 0))) .nil)) (.cst (.int 1))) .nil))))) .nil⟩
def c_14:CF:=⟨2,2,false,.cons (.ifs (.not (.val (.call 13 (.cons (.var 0) (.cons (.var 1) .nil))))) (.cons (.never) .nil) .nil) .nil⟩
def c_15:CF:=⟨2,2,false,.cons (.ret (.lc false [1] 1 (.var 1) (.var 1) (.seq (.idx (.var 0) (.cst (.int 1)))) (.cons (.val (.gen .all [0] 1 (.cmp .inn (.var 1) (.var 0)) (.var 1) (.seq (.idx (.var 1) (.cst (.int 0)))) .nil)) .nil))) .nil⟩
def c_16:CF:=⟨1,9,false,.cons (.expr (.call 12 (.cons (.var 0) .nil))) (.cons (.set (.var 1) (.idx (.var 0) (.cst (.int 0)))) (.cons (.set (.var 2) (.rng (some true) (.cons (.blt .len (.cons (.var 1) .nil)) .nil))) (.cons (.set (.var 3) (.lst true .nil)) (.cons (.set (.tup (.cons (.var 4) (.cons (.var 5) .nil))) (.tup (.cons (.tup .nil) (.cons (.tup (.cons (.neg (.cst (.int 1))) (.cons (.cst (.int 1)) .nil))) .nil)))) (.cons (.whileS (.val (.var 2)) (.cons (.set (.var 6) (.call 15 (.cons (.var 0) (.cons (.var 2) .nil)))) (.cons (.set (.var 7) (.call 3 (.cons (.gen .sum [] 2 (.var 1) (.tup (.cons (.var 0) (.cons (.var 1) .nil))) (.seq (.var 6)) .nil) (.cons (.genX .sum [1] 1 (.idx (.var 0) (.var 1)) (.var 1) (.var 2) .nil) .nil)))) (.cons (.ifs (.val (.call 4 (.cons (.var 5) (.cons (.var 7) .nil)))) (.cons (.set (.tup (.cons (.var 4) (.cons (.var 5) .nil))) (.tup (.cons (.blt .tuple (.cons (.var 2) .nil)) (.cons (.var 7) .nil)))) .nil) .nil) (.cons (.set (.var 8) (.call 17 (.cons (.var 1) (.cons (.var 6) (.cons (.var 2) .nil))))) (.cons (.expr (.app (.var 3) (.var 8))) (.cons (.expr (.rem (.var 2) (.idx (.var 8) (.cst (.int 0))))) .nil))))))) (.cons (.ret (.tup (.cons (.blt .tuple (.cons (.var 3) .nil)) (.cons (.var 4) .nil)))) .nil))))))⟩
def c_17:CF:=⟨3,9,false,.cons (.set (.var 3) (.dcK 0 (.var 2))) (.cons (.forS (.tup (.cons (.var 5) (.cons (.var 6) .nil))) (.seq (.var 1)) (.cons (.forS (.var 4) (.seq (.var 5)) (.cons (.augK (.var 3) (.var 4) (.var 6)) .nil)) .nil)) (.cons (.set (.var 7) (.tup (.cons (.idx (.var 2) (.cst (.int 0))) (.cons (.call 3 (.cons (.idk (.var 3) (.idx (.var 2) (.cst (.int 0)))) (.cons (.idx (.var 0) (.idx (.var 2) (.cst (.int 0)))) .nil))) .nil)))) (.cons (.forS (.var 4) (.seq (.slc (.var 2) (.some (.cst (.int 1))) .none)) (.cons (.set (.var 8) (.call 3 (.cons (.idk (.var 3) (.var 4)) (.cons (.idx (.var 0) (.var 4)) .nil)))) (.cons (.ifs (.val (.call 4 (.cons (.var 8) (.cons (.idx (.var 7) (.cst (.int 1))) .nil)))) (.cons (.set (.var 7) (.tup (.cons (.var 4) (.cons (.var 8) .nil)))) .nil) .nil) .nil))) (.cons (.ret (.var 7)) .nil))))⟩
def c_18:CF:=⟨1,7,false,.cons (.set (.tup (.cons (.var 1) (.cons (.var 2) .nil))) (.call 16 (.cons (.var 0) .nil))) (.cons (.set (.var 3) (.dis)) (.cons (.set (.var 4) (.tup (.cons (.cst (.int 0)) (.cons (.cst (.int 1)) .nil)))) (.cons (.forS (.tup (.cons (.var 5) (.cons (.var 6) .nil))) (.seq (.var 1)) (.cons (.ifs (.val (.call 4 (.cons (.var 4) (.cons (.var 6) .nil)))) (.cons (.set (.var 4) (.var 6)) .nil) .nil) (.cons (.set (.sub (.var 3) (.var 5)) (.var 4)) .nil))) (.cons (.ret (.gen .tuple [3] 1 (.idk (.var 0) (.var 1)) (.var 1) (.rng (.cons (.blt .len (.cons (.var 1) .nil)) .nil)) .nil)) .nil))))⟩
def c_19:CF:=⟨2,3,false,.cons (.expr (.call 12 (.cons (.var 0) .nil))) (.cons (.expr (.call 14 (.cons (.var 0) (.cons (.var 1) .nil)))) (.cons (.set (.var 2) (.call 18 (.cons (.var 0) .nil))) (.cons (.ret (.gen .tuple [2,1] 1 (.var 2) (.var 2) (.rng (.cons (.blt .len (.cons (.var 2) .nil)) .nil)) (.cons (.not (.val (.call 4 (.cons (.idx (.var 0) (.var 2)) (.cons (.idx (.var 0) (.var 1)) .nil))))) .nil))) .nil)))⟩
def c_20:CF:=⟨1,1,false,.cons (.ret (.bin .mod (.bin .mul (.bin .mod (.var 0) (.bin .pow (.cst (.int 10)) (.cst (.int 60)))) (.cst (.int 845098040014256830712216258592636193483572396323965406503637))) (.bin .pow (.cst (.int 10)) (.cst (.int 60))))) .nil⟩
def c_21:CF:=⟨2,5,true,.cons (.set (.var 2) (.cst (.int 0))) (.cons (.forS (.var 3) (.seq (.lst false (.cons (.bin .add (.var 1) (.cst (.int 1))) (.cons (.var 1) .nil)))) (.cons (.set (.var 4) (.idx (.bin .add (.slc (.var 0) (.some (.var 3)) (.some (.bin .add (.var 3) (.cst (.int 1))))) (.lst false (.cons (.bin .add (.bin .add (.bin .mul (.cst (.int 5701)) (.var 3)) (.cst (.int 43))) (.bin .mul (.cst (.int 7)) (.idx (.bin .add (.var 0) (.lst false (.cons (.cst (.int 0)) .nil))) (.cst (.int 0))))) .nil))) (.cst (.int 0)))) (.cons (.set (.var 2) (.bin .add (.bin .mul (.var 2) (.bin .pow (.cst (.int 10)) (.cst (.int 60)))) (.call 20 (.cons (.var 4) .nil)))) .nil))) (.cons (.ret (.lst true (.cons (.var 2) .nil))) .nil))⟩
def c_22:CF:=⟨2,3,false,.cons (.set (.tup (.cons (.sub (.var 0) (.cst (.int 0))) (.cons (.var 2) .nil))) (.blt .divmod (.cons (.idx (.var 0) (.cst (.int 0))) (.cons (.var 1) .nil)))) (.cons (.ret (.var 2)) .nil)⟩
def c_23:CF:=⟨2,4,false,.cons (.set (.tup (.cons (.var 2) (.cons (.var 3) .nil))) (.tup (.cons (.blt .abs (.cons (.var 0) .nil)) (.cons (.blt .abs (.cons (.var 1) .nil)) .nil)))) (.cons (.whileS (.val (.cmp .ne (.var 3) (.cst (.int 0)))) (.cons (.set (.tup (.cons (.var 2) (.cons (.var 3) .nil))) (.tup (.cons (.var 3) (.cons (.bin .mod (.var 2) (.var 3)) .nil)))) .nil)) (.cons (.ifs (.val (.cmp .lt (.var 1) (.cst (.int 0)))) (.cons (.set (.var 2) (.bin .sub (.cst (.int 0)) (.var 2))) .nil) .nil) (.cons (.ret (.tup (.cons (.bin .fdiv (.var 0) (.var 2)) (.cons (.bin .fdiv (.var 1) (.var 2)) .nil)))) .nil)))⟩
def c_24:CF:=⟨2,2,false,.cons (.ret (.cmp .lt (.bin .mul (.idx (.var 0) (.cst (.int 0))) (.idx (.var 1) (.cst (.int 1)))) (.bin .mul (.idx (.var 1) (.cst (.int 0))) (.idx (.var 0) (.cst (.int 1)))))) .nil⟩
def c_25:CF:=⟨2,5,false,.cons (.set (.var 2) (.idx (.lst false (.cons (.cst (.int 2)) (.cons (.cst (.int 2)) (.cons (.cst (.int 2)) (.cons (.cst (.int 3)) (.cons (.cst (.int 3)) (.cons (.cst (.int 1)) (.cons (.cst (.int 4)) (.cons (.cst (.int 2)) .nil))))))))) (.call 22 (.cons (.var 0) (.cons (.cst (.int 8)) .nil))))) (.cons (.set (.var 3) (.rng (some true) (.cons (.var 1) .nil))) (.cons (.set (.var 4) (.lc false [3,0] 1 (.popAt (.var 0) (.call 22 (.cons (.var 1) (.cons (.blt .len (.cons (.var 0) .nil)) .nil)))) (.var 2) (.rng (.cons (.blt .min2 (.cons (.var 2) (.cons (.var 1) .nil))) .nil)) .nil)) (.cons (.ret (.blt .tuple (.cons (.blt (.sorted false) (.cons (.var 4) .nil)) .nil))) .nil)))⟩
def c_26:CF:=⟨3,8,false,.cons (.set (.var 3) (.bin .add (.cst (.int 1)) (.call 22 (.cons (.var 0) (.cons (.var 1) .nil))))) (.cons (.set (.var 4) (.bin .mul (.lst false (.cons (.cst (.int 1)) .nil)) (.var 3))) (.cons (.ifs (.val (.cmp .eq (.call 22 (.cons (.var 0) (.cons (.cst (.int 3)) .nil))) (.cst (.int 0)))) (.cons (.set (.var 4) (.lc false [0] 1 (.bin .add (.cst (.int 1)) (.call 22 (.cons (.var 0) (.cons (.cst (.int 5)) .nil)))) (.var 1) (.rng (.cons (.var 3) .nil)) .nil)) .nil) .nil) (.cons (.set (.var 5) (.dic true)) (.cons (.forS (.var 6) (.rng (.cons (.call 22 (.cons (.var 0) (.cons (.bin .add (.var 2) (.cst (.int 1))) .nil))) .nil)) (.cons (.set (.var 7) (.call 25 (.cons (.var 0) (.cons (.var 3) .nil)))) (.cons (.set (.sub (.var 5) (.var 7)) (.bin .add (.cst (.int 1)) (.call 22 (.cons (.var 0) (.cons (.cst (.int 9)) .nil))))) .nil))) (.cons (.ret (.tup (.cons (.blt .tuple (.cons (.var 4) .nil)) (.cons (.blt .tuple (.cons (.lc false [5] 1 (.tup (.cons (.var 1) (.cons (.idx (.var 0) (.var 1)) .nil))) (.var 1) (.seq (.blt (.sorted false) (.cons (.var 5) .nil))) .nil) .nil)) .nil)))) .nil)))))⟩
def c_27:CF:=⟨2,5,false,.cons (.set (.var 2) (.binM .mul (.lst false (.cons (.cst (.int 0)) .nil)) (.blt .len (.cons (.var 1) .nil)))) (.cons (.forS (.var 3) (.rng (.cons (.blt .len (.cons (.var 1) .nil)) .nil)) (.cons (.set (.sub (.var 2) (.idx (.var 1) (.var 3))) (.idx (.idx (.var 0) (.cst (.int 0))) (.var 3))) .nil)) (.cons (.set (.var 4) (.blt (.sortp false) (.cons (.lc false [1] 2 (.tup (.cons (.blt .tuple (.cons (.blt (.sorted false) (.cons (.lc false [0] 1 (.idx (.var 0) (.var 1)) (.var 1) (.seq (.var 1)) .nil) .nil)) .nil)) (.cons (.var 2) .nil))) (.tup (.cons (.var 1) (.cons (.var 2) .nil))) (.seq (.idx (.var 0) (.cst (.int 1)))) .nil) .nil))) (.cons (.ret (.tup (.cons (.blt .tuple (.cons (.var 2) .nil)) (.cons (.blt .tuple (.cons (.var 4) .nil)) .nil)))) .nil)))⟩
def c_28:CF:=⟨3,3,false,.cons (.ret (.tup (.cons (.blt .tuple (.cons (.lc false [2] 1 (.bin .mul (.var 1) (.var 0)) (.var 1) (.seq (.idx (.var 0) (.cst (.int 0)))) .nil) .nil)) (.cons (.blt .tuple (.cons (.lc false [1] 2 (.tup (.cons (.var 1) (.cons (.bin .mul (.var 2) (.var 0)) .nil))) (.tup (.cons (.var 1) (.cons (.var 2) .nil))) (.seq (.idx (.var 0) (.cst (.int 1)))) .nil) .nil)) .nil)))) .nil⟩
def c_29:CF:=⟨2,4,false,.cons (.set (.var 2) (.blt .len (.cons (.idx (.var 0) (.cst (.int 0))) .nil))) (.cons (.set (.var 3) (.lc false [2] 2 (.tup (.cons (.blt .tuple (.cons (.lc false [0] 1 (.bin .add (.var 1) (.var 0)) (.var 1) (.seq (.var 1)) .nil) .nil)) (.cons (.var 2) .nil))) (.tup (.cons (.var 1) (.cons (.var 2) .nil))) (.seq (.idx (.var 1) (.cst (.int 1)))) .nil)) (.cons (.ret (.tup (.cons (.bin .add (.idx (.var 0) (.cst (.int 0))) (.idx (.var 1) (.cst (.int 0)))) (.cons (.bin .add (.idx (.var 0) (.cst (.int 1))) (.blt .tuple (.cons (.var 3) .nil))) .nil)))) .nil))⟩
def c_30:CF:=⟨2,4,false,.cons (.set (.var 2) (.blt .dict (.cons (.idx (.var 1) (.cst (.int 1))) .nil))) (.cons (.set (.var 3) (.call 25 (.cons (.var 0) (.cons (.blt .len (.cons (.idx (.var 1) (.cst (.int 0))) .nil)) .nil)))) (.cons (.set (.sub (.var 2) (.var 3)) (.bin .add (.bin .add (.get (.var 2) (.var 3) (.cst (.int 0))) (.cst (.int 1))) (.call 22 (.cons (.var 0) (.cons (.cst (.int 9)) .nil))))) (.cons (.ret (.tup (.cons (.idx (.var 1) (.cst (.int 0))) (.cons (.blt .tuple (.cons (.lc false [2] 1 (.tup (.cons (.var 1) (.cons (.idx (.var 0) (.var 1)) .nil))) (.var 1) (.seq (.blt (.sorted false) (.cons (.var 2) .nil))) .nil) .nil)) .nil)))) .nil)))⟩
def c_31:CF:=⟨3,16,false,.cons (.set (.var 3) (.call 18 (.cons (.var 0) .nil))) (.cons (.set (.var 4) (.blt .len (.cons (.var 3) .nil))) (.cons (.set (.var 5) (.rng (some true) (.cons (.var 4) .nil))) (.cons (.set (.var 6) (.lc false [5,2] 1 (.popAt (.var 0) (.call 22 (.cons (.var 1) (.cons (.blt .len (.cons (.var 0) .nil)) .nil)))) (.var 2) (.rng (.cons (.var 4) .nil)) .nil)) (.cons (.set (.var 7) (.call 27 (.cons (.var 0) (.cons (.var 6) .nil)))) (.cons (.forS (.var 8) (.rng (.cons (.var 4) .nil)) (.cons (.ifs (.val (.cmp .ne (.idx (.call 18 (.cons (.var 7) .nil)) (.idx (.var 6) (.var 8))) (.idx (.var 3) (.var 8)))) (.cons (.ret (.cst (.bl false))) .nil) .nil) (.cons (.ifs (.val (.cmp .ne (.call 19 (.cons (.var 7) (.cons (.idx (.var 6) (.var 8)) .nil))) (.blt .tuple (.cons (.blt (.sorted false) (.cons (.lc false [6] 1 (.idx (.var 0) (.var 1)) (.var 1) (.seq (.call 19 (.cons (.var 0) (.cons (.var 8) .nil)))) .nil) .nil)) .nil)))) (.cons (.ret (.cst (.bl false))) .nil) .nil) .nil))) (.cons (.set (.tup (.cons (.var 9) (.cons (.var 10) .nil))) (.tup (.cons (.bin .add (.cst (.int 1)) (.call 22 (.cons (.var 2) (.cons (.cst (.int 50)) .nil)))) (.cons (.bin .add (.cst (.int 1)) (.call 22 (.cons (.var 2) (.cons (.cst (.int 20)) .nil)))) .nil)))) (.cons (.set (.var 11) (.call 28 (.cons (.var 0) (.cons (.var 9) (.cons (.var 10) .nil))))) (.cons (.ifs (.val (.cmp .ne (.call 18 (.cons (.var 11) .nil)) (.blt .tuple (.cons (.lc false [9,10] 1 (.call 23 (.cons (.bin .mul (.idx (.var 2) (.cst (.int 0))) (.var 0)) (.cons (.bin .mul (.idx (.var 2) (.cst (.int 1))) (.var 1)) .nil))) (.var 2) (.seq (.var 3)) .nil) .nil)))) (.cons (.ret (.cst (.bl false))) .nil) .nil) (.cons (.set (.tup (.cons (.var 12) (.cons (.var 13) .nil))) (.call 16 (.cons (.var 0) .nil))) (.cons (.set (.var 14) (.blt .tuple (.cons (.lc false [9,10] 2 (.tup (.cons (.var 2) (.cons (.call 23 (.cons (.bin .mul (.idx (.var 3) (.cst (.int 0))) (.var 0)) (.cons (.bin .mul (.idx (.var 3) (.cst (.int 1))) (.var 1)) .nil))) .nil))) (.tup (.cons (.var 2) (.cons (.var 3) .nil))) (.seq (.var 12)) .nil) .nil))) (.cons (.ifs (.or (.val (.cmp .ne (.call 16 (.cons (.var 11) .nil)) (.tup (.cons (.var 14) (.cons (.var 13) .nil))))) (.val (.cmp .ne (.call 18 (.cons (.call 29 (.cons (.var 0) (.cons (.var 1) .nil))) .nil)) (.bin .add (.var 3) (.call 18 (.cons (.var 1) .nil)))))) (.cons (.ret (.cst (.bl false))) .nil) .nil) (.cons (.set (.var 15) (.call 18 (.cons (.call 30 (.cons (.var 2) (.cons (.var 0) .nil))) .nil))) (.cons (.ret (.not (.blt .any (.cons (.lc false [15,3] 1 (.call 24 (.cons (.idx (.var 0) (.var 2)) (.cons (.idx (.var 1) (.var 2)) .nil))) (.var 2) (.rng (.cons (.var 4) .nil)) .nil) .nil)))) .nil)))))))))))))⟩
def qdD:CF:=⟨1,4,false,.cons (.forS (.var 1) (.rng (.cons (.cst (.int 0)) (.cons (.blt .max2 (.cons (.cst (.int 1)) (.cons (.blt .min2 (.cons (.blt .len (.cons (.var 0) .nil)) (.cons (.cst (.int 16)) .nil))) .nil))) (.cons (.cst (.int 4)) .nil)))) (.cons (.set (.tup (.cons (.var 2) (.cons (.var 3) .nil))) (.tup (.cons (.call 26 (.cons (.call 21 (.cons (.var 0) (.cons (.var 1) .nil))) (.cons (.cst (.int 6)) (.cons (.cst (.int 10)) .nil)))) (.cons (.call 26 (.cons (.call 21 (.cons (.var 0) (.cons (.bin .add (.var 1) (.cst (.int 2))) .nil))) (.cons (.cst (.int 6)) (.cons (.cst (.int 10)) .nil)))) .nil)))) (.cons (.ifs (.not (.val (.call 31 (.cons (.var 2) (.cons (.var 3) (.cons (.call 21 (.cons (.var 0) (.cons (.bin .add (.var 1) (.cst (.int 16))) .nil))) .nil)))))) (.cons (.ret (.cst (.bl false))) .nil) .nil) .nil))) (.cons (.ret (.cst (.bl true))) .nil)⟩
noncomputable def prg:List CF:=[c_0,c_1,c_2,c_3,c_4,c_5,c_6,c_7,c_8,c_9,c_10,c_11,c_12,c_13,c_14,c_15,c_16,c_17,c_18,c_19,c_20,c_21,c_22,c_23,c_24,c_25,c_26,c_27,c_28,c_29,c_30,c_31,qdD]
end RP
namespace RP
open PySem PySem.Spec L2 SeqAt R
open PyProof.Rows hiding St
noncomputable def top(i:Nat):Stmt:=PySem.Challenge.pw_weblayers_k43_whole_webs_called_otherwis.main.body.getD i (.Pass ⟨0,0,0,0⟩)
structure Pre (K:PySem.W.Frag) (mg:Str->Option Value):Prop where
 gb:Gb mg
 g_MOST_COST:∃t:Tok,mg "MOST_COST"=some (.int 100 t)
 g_MOST_PLACES:∃t:Tok,mg "MOST_PLACES"=some (.int 12 t)
 g_MOST_PLACES_OF_TIE:∃t:Tok,mg "MOST_PLACES_OF_TIE"=some (.int 4 t)
 g_MOST_TIES:∃t:Tok,mg "MOST_TIES"=some (.int 30 t)
 g_MOST_WEIGHT:∃t:Tok,mg "MOST_WEIGHT"=some (.int 1000000 t)
 u_0:DefIn K mg "is_whole" (top 1) ["thing"]
 u_1:DefIn K mg "is_whole_within" (top 2) ["thing","least","most"]
 u_2:DefIn K mg "common_divisor" (top 3) ["one","other"]
 u_3:DefIn K mg "lowest" (top 4) ["top","bottom"]
 u_4:DefIn K mg "is_less" (top 5) ["one","other"]
 u_5:DefIn K mg "is_web" (top 16) ["thing"]
 u_6:DefIn K mg "are_costs" (top 17) ["thing"]
 u_7:DefIn K mg "are_ties" (top 18) ["thing","many"]
 u_8:DefIn K mg "is_tie" (top 19) ["thing","many"]
 u_9:DefIn K mg "are_tied_places" (top 20) ["thing","many"]
 u_10:DefIn K mg "are_places" (top 21) ["thing","many"]
 u_11:DefIn K mg "is_rising" (top 22) ["things"]
 u_12:DefIn K mg "need_web" (top 23) ["thing"]
 u_13:DefIn K mg "is_place" (top 24) ["web","thing"]
 u_14:DefIn K mg "need_place" (top 25) ["web","thing"]
 u_15:DefIn K mg "ties_within" (top 26) ["web","part"]
 u_16:DefIn K mg "stripped" (top 28) ["web"]
 u_17:DefIn K mg "lightest" (top 29) ["costs","ties","left"]
 u_18:DefIn K mg "cores" (top 31) ["web"]
 u_19:DefIn K mg "core_part" (top 32) ["web","place"]
 u_20:DefIn K mg "_law_mixed" (top 34) ["_law_cell"]
 u_21:DefIn K mg "_law_pack" (top 35) ["_law_script","_law_k"]
 u_22:DefIn K mg "_law_take" (top 36) ["_law_pack_here","_law_size"]
 u_23:DefIn K mg "_law_low" (top 37) ["_law_top","_law_bottom"]
 u_24:DefIn K mg "_law_under" (top 38) ["_law_one","_law_other"]
 u_25:DefIn K mg "_law_places" (top 39) ["_law_pack_here","_law_many"]
 u_26:DefIn K mg "_law_web" (top 40) ["_law_pack_here","_law_most","_law_ties"]
 u_27:DefIn K mg "_law_called" (top 41) ["_law_web_here","_law_called_here"]
 u_28:DefIn K mg "_law_greater" (top 42) ["_law_web_here","_law_often","_law_dear"]
 u_29:DefIn K mg "_law_beside" (top 43) ["_law_one","_law_other"]
 u_30:DefIn K mg "_law_with_tie" (top 44) ["_law_pack_here","_law_web_here"]
 u_31:DefIn K mg "_law_right" (top 45) ["_law_web_here","_law_other","_law_pack_here"]
 u_32:DefIn K mg "law" (top 46) ["_law_script"]
structure All (P:Program) (w:World) (K:PySem.W.Frag) (mg:Str->Option Value) (base:Heap) (k:Nat) (F:Fs):Prop where
 h_0:FnAt P w K mg base k F 0 "is_whole" ["thing"]
 h_1:FnAt P w K mg base k F 1 "is_whole_within" ["thing","least","most"]
 h_2:FnAt P w K mg base k F 2 "common_divisor" ["one","other"]
 h_3:FnAt P w K mg base k F 3 "lowest" ["top","bottom"]
 h_4:FnAt P w K mg base k F 4 "is_less" ["one","other"]
 h_5:FnAt P w K mg base k F 5 "is_web" ["thing"]
 h_6:FnAt P w K mg base k F 6 "are_costs" ["thing"]
 h_7:FnAt P w K mg base k F 7 "are_ties" ["thing","many"]
 h_8:FnAt P w K mg base k F 8 "is_tie" ["thing","many"]
 h_9:FnAt P w K mg base k F 9 "are_tied_places" ["thing","many"]
 h_10:FnAt P w K mg base k F 10 "are_places" ["thing","many"]
 h_11:FnAt P w K mg base k F 11 "is_rising" ["things"]
 h_12:FnAt P w K mg base k F 12 "need_web" ["thing"]
 h_13:FnAt P w K mg base k F 13 "is_place" ["web","thing"]
 h_14:FnAt P w K mg base k F 14 "need_place" ["web","thing"]
 h_15:FnAt P w K mg base k F 15 "ties_within" ["web","part"]
 h_16:FnAt P w K mg base k F 16 "stripped" ["web"]
 h_17:FnAt P w K mg base k F 17 "lightest" ["costs","ties","left"]
 h_18:FnAt P w K mg base k F 18 "cores" ["web"]
 h_19:FnAt P w K mg base k F 19 "core_part" ["web","place"]
 h_20:FnAt P w K mg base k F 20 "_law_mixed" ["_law_cell"]
 h_21:FnAt P w K mg base k F 21 "_law_pack" ["_law_script","_law_k"]
 h_22:FnAt P w K mg base k F 22 "_law_take" ["_law_pack_here","_law_size"]
 h_23:FnAt P w K mg base k F 23 "_law_low" ["_law_top","_law_bottom"]
 h_24:FnAt P w K mg base k F 24 "_law_under" ["_law_one","_law_other"]
 h_25:FnAt P w K mg base k F 25 "_law_places" ["_law_pack_here","_law_many"]
 h_26:FnAt P w K mg base k F 26 "_law_web" ["_law_pack_here","_law_most","_law_ties"]
 h_27:FnAt P w K mg base k F 27 "_law_called" ["_law_web_here","_law_called_here"]
 h_28:FnAt P w K mg base k F 28 "_law_greater" ["_law_web_here","_law_often","_law_dear"]
 h_29:FnAt P w K mg base k F 29 "_law_beside" ["_law_one","_law_other"]
 h_30:FnAt P w K mg base k F 30 "_law_with_tie" ["_law_pack_here","_law_web_here"]
 h_31:FnAt P w K mg base k F 31 "_law_right" ["_law_web_here","_law_other","_law_pack_here"]
 h_32:FnAt P w K mg base k F 32 "law" ["_law_script"]
theorem sc_0:FnScope ["thing"] ["thing"] (defScope (top 1)):=⟨rfl,rfl,rfl,by decide +kernel,rfl,by decide +kernel,by decide +kernel⟩
theorem sc_1:FnScope ["thing","least","most"] ["thing","least","most"] (defScope (top 2)):=⟨rfl,rfl,rfl,by decide +kernel,rfl,by decide +kernel,by decide +kernel⟩
theorem sc_2:FnScope ["one","other"] ["one","other"] (defScope (top 3)):=⟨rfl,rfl,rfl,by decide +kernel,rfl,by decide +kernel,by decide +kernel⟩
theorem sc_3:FnScope ["top","bottom","divisor"] ["top","bottom"] (defScope (top 4)):=⟨rfl,rfl,rfl,by decide +kernel,rfl,by decide +kernel,by decide +kernel⟩
theorem sc_4:FnScope ["one","other"] ["one","other"] (defScope (top 5)):=⟨rfl,rfl,rfl,by decide +kernel,rfl,by decide +kernel,by decide +kernel⟩
theorem sc_5:FnScope ["thing","costs","ties"] ["thing"] (defScope (top 16)):=⟨rfl,rfl,rfl,by decide +kernel,rfl,by decide +kernel,by decide +kernel⟩
theorem sc_6:FnScope ["thing"] ["thing"] (defScope (top 17)):=⟨rfl,rfl,rfl,by decide +kernel,rfl,by decide +kernel,by decide +kernel⟩
theorem sc_7:FnScope ["thing","many"] ["thing","many"] (defScope (top 18)):=⟨rfl,rfl,rfl,by decide +kernel,rfl,by decide +kernel,by decide +kernel⟩
theorem sc_8:FnScope ["thing","many","places","heavy"] ["thing","many"] (defScope (top 19)):=⟨rfl,rfl,rfl,by decide +kernel,rfl,by decide +kernel,by decide +kernel⟩
theorem sc_9:FnScope ["thing","many"] ["thing","many"] (defScope (top 20)):=⟨rfl,rfl,rfl,by decide +kernel,rfl,by decide +kernel,by decide +kernel⟩
theorem sc_10:FnScope ["thing","many"] ["thing","many"] (defScope (top 21)):=⟨rfl,rfl,rfl,by decide +kernel,rfl,by decide +kernel,by decide +kernel⟩
theorem sc_11:FnScope ["things"] ["things"] (defScope (top 22)):=⟨rfl,rfl,rfl,by decide +kernel,rfl,by decide +kernel,by decide +kernel⟩
theorem sc_12:FnScope ["thing"] ["thing"] (defScope (top 23)):=⟨rfl,rfl,rfl,by decide +kernel,rfl,by decide +kernel,by decide +kernel⟩
theorem sc_13:FnScope ["web","thing"] ["web","thing"] (defScope (top 24)):=⟨rfl,rfl,rfl,by decide +kernel,rfl,by decide +kernel,by decide +kernel⟩
theorem sc_14:FnScope ["web","thing"] ["web","thing"] (defScope (top 25)):=⟨rfl,rfl,rfl,by decide +kernel,rfl,by decide +kernel,by decide +kernel⟩
theorem sc_15:FnScope ["web","part"] ["web","part"] (defScope (top 26)):=⟨rfl,rfl,rfl,by decide +kernel,rfl,by decide +kernel,by decide +kernel⟩
theorem sc_16:FnScope ["web","costs","left","order","part","most","ties","dense","taken"] ["web"] (defScope (top 28)):=⟨rfl,rfl,rfl,by decide +kernel,rfl,by decide +kernel,by decide +kernel⟩
theorem sc_17:FnScope ["costs","ties","left","degrees","place","places","heavy","least","number"] ["costs","ties","left"] (defScope (top 29)):=⟨rfl,rfl,rfl,by decide +kernel,rfl,by decide +kernel,by decide +kernel⟩
theorem sc_18:FnScope ["web","order","part","reached","most","place","number"] ["web"] (defScope (top 31)):=⟨rfl,rfl,rfl,by decide +kernel,rfl,by decide +kernel,by decide +kernel⟩
theorem sc_19:FnScope ["web","place","told"] ["web","place"] (defScope (top 32)):=⟨rfl,rfl,rfl,by decide +kernel,rfl,by decide +kernel,by decide +kernel⟩
theorem sc_20:FnScope ["_law_cell"] ["_law_cell"] (defScope (top 34)):=⟨rfl,rfl,rfl,by decide +kernel,rfl,by decide +kernel,by decide +kernel⟩
theorem sc_21:FnScope ["_law_script","_law_k","_law_found","_law_at","_law_cell"] ["_law_script","_law_k"] (defScope (top 35)):=⟨rfl,rfl,rfl,by decide +kernel,rfl,by decide +kernel,by decide +kernel⟩
theorem sc_22:FnScope ["_law_pack_here","_law_size","_law_digit"] ["_law_pack_here","_law_size"] (defScope (top 36)):=⟨rfl,rfl,rfl,by decide +kernel,rfl,by decide +kernel,by decide +kernel⟩
theorem sc_23:FnScope ["_law_top","_law_bottom","_law_one","_law_other"] ["_law_top","_law_bottom"] (defScope (top 37)):=⟨rfl,rfl,rfl,by decide +kernel,rfl,by decide +kernel,by decide +kernel⟩
theorem sc_24:FnScope ["_law_one","_law_other"] ["_law_one","_law_other"] (defScope (top 38)):=⟨rfl,rfl,rfl,by decide +kernel,rfl,by decide +kernel,by decide +kernel⟩
theorem sc_25:FnScope ["_law_pack_here","_law_many","_law_size","_law_left","_law_found"] ["_law_pack_here","_law_many"] (defScope (top 39)):=⟨rfl,rfl,rfl,by decide +kernel,rfl,by decide +kernel,by decide +kernel⟩
theorem sc_26:FnScope ["_law_pack_here","_law_most","_law_ties","_law_many","_law_costs","_law_known","_law_turn","_law_some"] ["_law_pack_here","_law_most","_law_ties"] (defScope (top 40)):=⟨rfl,rfl,rfl,by decide +kernel,rfl,by decide +kernel,by decide +kernel⟩
theorem sc_27:FnScope ["_law_web_here","_law_called_here","_law_costs","_law_place","_law_ties"] ["_law_web_here","_law_called_here"] (defScope (top 41)):=⟨rfl,rfl,rfl,by decide +kernel,rfl,by decide +kernel,by decide +kernel⟩
theorem sc_28:FnScope ["_law_web_here","_law_often","_law_dear"] ["_law_web_here","_law_often","_law_dear"] (defScope (top 42)):=⟨rfl,rfl,rfl,by decide +kernel,rfl,by decide +kernel,by decide +kernel⟩
theorem sc_29:FnScope ["_law_one","_law_other","_law_many","_law_ties"] ["_law_one","_law_other"] (defScope (top 43)):=⟨rfl,rfl,rfl,by decide +kernel,rfl,by decide +kernel,by decide +kernel⟩
theorem sc_30:FnScope ["_law_pack_here","_law_web_here","_law_known","_law_some"] ["_law_pack_here","_law_web_here"] (defScope (top 44)):=⟨rfl,rfl,rfl,by decide +kernel,rfl,by decide +kernel,by decide +kernel⟩
theorem sc_31:FnScope ["_law_web_here","_law_other","_law_pack_here","_law_known","_law_many","_law_left","_law_called_here","_law_there","_law_place","_law_often","_law_dear","_law_greater_here","_law_order","_law_part","_law_due","_law_more"] ["_law_web_here","_law_other","_law_pack_here"] (defScope (top 45)):=⟨rfl,rfl,rfl,by decide +kernel,rfl,by decide +kernel,by decide +kernel⟩
theorem sc_32:FnScope ["_law_script","_law_k","_law_web_here","_law_other"] ["_law_script"] (defScope (top 46)):=⟨rfl,rfl,rfl,by decide +kernel,rfl,by decide +kernel,by decide +kernel⟩
section
variable{P:Program}{w:World}{K:PySem.W.Frag}{mg:Str->Option Value}{base:Heap}{k n:Nat}{F:Fs}{f c t:Addr}{A:Around}{outer:List Env}{s:Shared}{H:Hp}{E:XK}
noncomputable abbrev Bdy(P:Program)(w:World)(K:PySem.W.Frag)(mg:Str->Option Value)(base:Heap)(n:Nat)(F:Fs)(f c:Addr)(A:Around)(outer:List Env)(s:Shared)(H:Hp)(E:XK)(N:List Str)(x:Str)(i:Nat)(b:CSs):Prop:=QSs (cxOf CX0 P w K mg base N x (defScope (top i)) f (.ref c) A outer s H E).nox (defBody (top i)) (TSm (exs F n b))
noncomputable abbrev Rm(k:Nat)(A:Around)(s:Shared)(f c:Addr)(x:Str)(i:Nat):Prop:=Room (k+2) (A.deeper (envOfC x (defScope (top i)) s.heap.objs.size f (.ref c)))
variable(p:Pre K mg)(a:All P w K mg base k F)(tab:codeTab K c t=true)
include p a tab
theorem b_0(b:Rm k A s f c "is_whole" 1):Bdy P w K mg base n F f c A outer s H E ["thing"] "is_whole" 1 c_0.body :=
 qd (qD (qaM (j5 .int p.gb (qc 0)) (jj (qi0 (j5 .bool p.gb (qc 0)))))) qj
theorem b_1(b:Rm k A s f c "is_whole_within" 2):Bdy P w K mg base n F f c A outer s H E ["thing","least","most"] "is_whole_within" 2 c_1.body :=
 qd (qD (qaM (qh a.h_0 (m2 b) (qb (qc 0) qf)) (jj (qij .le .le b (qc 1) (qc 0) (qc 2))))) qj
theorem b_2(b:Rm k A s f c "common_divisor" 3):Bdy P w K mg base n F f c A outer s H E ["one","other"] "common_divisor" 3 c_2.body :=
 qd (qbf (zw (qc 1)) (qd (qb7 0 1 (qb (qc 1) (qb (qr .mod (qc 0) (qc 1)) qf))) qj)) (qd (qD (qc 0)) qj)
theorem b_3(b:Rm k A s f c "lowest" 4):Bdy P w K mg base n F f c A outer s H E ["top","bottom","divisor"] "lowest" 4 c_3.body :=
 qd (qF 2 (qh a.h_2 (m2 b) (qb (qf7 p.gb (qb (qc 0) qf)) (qb (qc 1) qf)))) (qd (qD (qW (qb (qr .fdiv (qc 0) (qc 2)) (qb (qr .fdiv (qc 1) (qc 2)) qf)))) qj)
theorem b_4(b:Rm k A s f c "is_less" 5):Bdy P w K mg base n F f c A outer s H E ["one","other"] "is_less" 5 c_4.body :=
 qd (qD (qb5 .lt b (qr .mul (qp b (qc 0) qg) (qp b (qc 1) qg)) (qr .mul (qp b (qc 1) qg) (qp b (qc 0) qg)))) qj
theorem b_5(b:Rm k A s f c "is_web" 16):Bdy P w K mg base n F f c A outer s H E ["thing","costs","ties"] "is_web" 16 c_5.body :=
 qd (z_if (Qpt (w_or (zY (zw (j5 .tuple p.gb (qc 0)))) (qaN (yo .ne b (zg p.gb (qb (qc 0) qf)) qg)))) (qd (qD zz) qj) qj) (qd (yp (qc 0) (zB (qB (qo 1) (qB (qo 2) zA)))) (qd (qD (qaM (qh a.h_6 (m2 b) (qb (qc 1) qf)) (jj (qh a.h_7 (m2 b) (qb (qc 2) (qb (zg p.gb (qb (qc 1) qf)) qf)))))) qj))
theorem b_6(b:Rm k A s f c "are_costs" 17):Bdy P w K mg base n F f c A outer s H E ["thing"] "are_costs" 17 c_6.body :=
 qd (z_if (Qpt (w_or (zY (zw (j5 .tuple p.gb (qc 0)))) (qaN (zY (qik .le .le b qg (zg p.gb (qb (qc 0) qf)) (j4 (p.g_MOST_PLACES).choose_spec)))))) (qd (qD zz) qj) qj) (qd (qD (j7 [] [] ["one"] b p.gb rfl tab (qV (qc 0)) (λ_ _ _ _ _ _ _ _=>qo 0) (λ_ _ _ _ _ _ _ _=>qO) (λ_ _ _ _ _ _ _ _=>qh a.h_1 (m1 (qY b)) (qb (qc 0) (qb qg (qb (j4 (p.g_MOST_COST).choose_spec) qf)))))) qj)
theorem b_7(b:Rm k A s f c "are_ties" 18):Bdy P w K mg base n F f c A outer s H E ["thing","many"] "are_ties" 18 c_7.body :=
 qd (z_if (Qpt (w_or (zY (zw (j5 .tuple p.gb (qc 0)))) (qaN (yo .gt b (zg p.gb (qb (qc 0) qf)) (j4 (p.g_MOST_TIES).choose_spec))))) (qd (qD zz) qj) qj) (qd (z_if (zY (zw (j7 [1] ["many"] ["one"] b p.gb rfl tab (qV (qc 0)) (λ_ _ _ _ _ _ _ _=>qo 1) (λ_ _ _ _ _ _ _ _=>qO) (λ_ _ _ _ _ _ _ _=>qh a.h_8 (m1 (qY b)) (qb (qc 1) (qb (qc 0) qf)))))) (qd (qD zz) qj) qj) (qd (qD (qh a.h_11 (m2 b) (qb (k_lc false [] [] ["places","heavy"] (qV (qc 0)) (λ_ _ _ _ _=>zB (qB (qo 0) (qB (qo 1) zA))) (λ_ _ _ _ _=>qO) (λ_ _ _ _ _=>qc 0)) qf))) qj))
theorem b_8(b:Rm k A s f c "is_tie" 19):Bdy P w K mg base n F f c A outer s H E ["thing","many","places","heavy"] "is_tie" 19 c_8.body :=
 qd (z_if (Qpt (w_or (zY (zw (j5 .tuple p.gb (qc 0)))) (qaN (yo .ne b (zg p.gb (qb (qc 0) qf)) qg)))) (qd (qD zz) qj) qj) (qd (yp (qc 0) (zB (qB (qo 2) (qB (qo 3) zA)))) (qd (qD (qaM (qh a.h_9 (m2 b) (qb (qc 2) (qb (qc 1) qf))) (jj (qh a.h_1 (m2 b) (qb (qc 3) (qb qg (qb (j4 (p.g_MOST_WEIGHT).choose_spec) qf))))))) qj))
theorem b_9(b:Rm k A s f c "are_tied_places" 20):Bdy P w K mg base n F f c A outer s H E ["thing","many"] "are_tied_places" 20 c_9.body :=
 qd (qD (qaM (qh a.h_10 (m2 b) (qb (qc 0) (qb (qc 1) qf))) (jj (qb5 .le b (zg p.gb (qb (qc 0) qf)) (j4 (p.g_MOST_PLACES_OF_TIE).choose_spec))))) qj
theorem b_10(b:Rm k A s f c "are_places" 21):Bdy P w K mg base n F f c A outer s H E ["thing","many"] "are_places" 21 c_10.body :=
 qd (z_if (Qpt (w_or (zY (zw (j5 .tuple p.gb (qc 0)))) (qaN (zY (zw (qc 0)))))) (qd (qD zz) qj) qj) (qd (qD (qaM (j7 [1] ["many"] ["one"] b p.gb rfl tab (qV (qc 0)) (λ_ _ _ _ _ _ _ _=>qo 1) (λ_ _ _ _ _ _ _ _=>qO) (λ_ _ _ _ _ _ _ _=>qh a.h_1 (m1 (qY b)) (qb (qc 1) (qb qg (qb (qr .sub (qc 0) qg) qf))))) (jj (qh a.h_11 (m2 b) (qb (qc 0) qf))))) qj)
theorem b_11(b:Rm k A s f c "is_rising" 22):Bdy P w K mg base n F f c A outer s H E ["things"] "is_rising" 22 c_11.body :=
 qd (qD (j7 [] [] ["one","other"] b p.gb rfl tab (qlR p.gb (qc 0) (qf3 (qc 0) (k_os qg) (k_on))) (λ_ _ _ _ _ _ _ _=>zB (qB (qo 0) (qB (qo 1) zA))) (λ_ _ _ _ _ _ _ _=>qO) (λ_ _ _ _ _ _ _ _=>qb5 .lt (qY b) (qc 0) (qc 1)))) qj
theorem b_12(b:Rm k A s f c "need_web" 23):Bdy P w K mg base n F f c A outer s H E ["thing"] "need_web" 23 c_12.body :=
 qd (z_if (zY (zw (qh a.h_5 (m2 b) (qb (qc 0) qf)))) (qd (qdy) qj) qj) qj
theorem b_13(b:Rm k A s f c "is_place" 24):Bdy P w K mg base n F f c A outer s H E ["web","thing"] "is_place" 24 c_13.body :=
 qd (qD (qh a.h_1 (m2 b) (qb (qc 1) (qb qg (qb (qr .sub (zg p.gb (qb (qp b (qc 0) qg) qf)) qg) qf))))) qj
theorem b_14(b:Rm k A s f c "need_place" 25):Bdy P w K mg base n F f c A outer s H E ["web","thing"] "need_place" 25 c_14.body :=
 qd (z_if (zY (zw (qh a.h_13 (m2 b) (qb (qc 0) (qb (qc 1) qf))))) (qd (qdy) qj) qj) qj
theorem b_15(b:Rm k A s f c "ties_within" 26):Bdy P w K mg base n F f c A outer s H E ["web","part"] "ties_within" 26 c_15.body :=
 qd (qD (k_lc false [1] ["part"] ["tie"] (qV (qp b (qc 0) qg)) (λ_ _ _ _ _=>qo 1) (λ_ _ _ _ _=>qf4 (zw (j7 [0] ["part"] ["place"] b p.gb rfl tab (qV (qp b (qc 1) qg)) (λ_ _ _ _ _ _ _ _=>qo 1) (λ_ _ _ _ _ _ _ _=>qO) (λ_ _ _ _ _ _ _ _=>qb5 .inn (qY b) (qc 1) (qc 0)))) qO) (λ_ _ _ _ _=>qc 1))) qj
theorem b_16(b:Rm k A s f c "stripped" 28):Bdy P w K mg base n F f c A outer s H E ["web","costs","left","order","part","most","ties","dense","taken"] "stripped" 28 c_16.body :=
 qd (j6 (qh a.h_12 (m2 b) (qb (qc 0) qf))) (qd (qF 1 (qp b (qc 0) qg)) (qd (qF 2 (qcS true p.gb (qb (zg p.gb (qb (qc 1) qf)) qf))) (qd (qF 3 (ju true qf)) (qd (yp (qW (qb (qW qf) (qb (qW (qb (qlN qg) (qb qg qf))) qf))) (zB (qB (qo 4) (qB (qo 5) zA)))) (qd (qbf (zw (qc 2)) (qd (qF 6 (qh a.h_15 (m2 b) (qb (qc 0) (qb (qc 2) qf)))) (qd (qF 7 (qh a.h_3 (m2 b) (qb (qj8 [] [] ["places","heavy"] b p.gb rfl tab (qV (qc 6)) (λ_ _ _ _ _ _ _ _=>zB (qB (qo 0) (qB (qo 1) zA))) (λ_ _ _ _ _ _ _ _=>qO) (λ_ _ _ _ _ _ _ _=>qc 1)) (qb (qis [1] ["costs"] ["place"] b p.gb rfl tab (qc 2) (λ_ _ _ _ _ _ _ _=>qo 1) (λ_ _ _ _ _ _ _ _=>qO) (λ_ _ _ _ _ _ _ _=>qp (qY b) (qc 0) (qc 1))) qf)))) (qd (z_if (zw (qh a.h_4 (m2 b) (qb (qc 5) (qb (qc 7) qf)))) (qd (qb7 4 5 (qb (qN p.gb (qb (qc 2) qf)) (qb (qc 7) qf))) qj) qj) (qd (qF 8 (qh a.h_17 (m2 b) (qb (qc 1) (qb (qc 6) (qb (qc 2) qf))))) (qd (j6 (qlP (qc 3) (qc 8))) (qd (j6 (qlW (qc 2) (qp b (qc 8) qg))) qj))))))) (qd (qD (qW (qb (qN p.gb (qb (qc 3) qf)) (qb (qc 4) qf)))) qj))))))
theorem b_17(b:Rm k A s f c "lightest" 29):Bdy P w K mg base n F f c A outer s H E ["costs","ties","left","degrees","place","places","heavy","least","number"] "lightest" 29 c_17.body :=
 qd (qgi 3 0 (qc 2) (λ_ _ _ _ _=>qkj 0) (λ_ _ _ _ _=>qkm 0)) (qd (yU (qV (qc 1)) (zB (qB (qo 5) (qB (qo 6) zA))) (qd (yU (qV (qc 5)) (qo 4) (qd (qkl (m2 b) (qc 3) (qc 4) (qc 6)) qj)) qj)) (qd (qF 7 (qW (qb (qp b (qc 2) qg) (qb (qh a.h_3 (m2 b) (qb (qgc b (qc 3) (qp b (qc 2) qg)) (qb (qp b (qc 0) (qp b (qc 2) qg)) qf))) qf)))) (qd (yU (qV (qf3 (qc 2) (k_os qg) (k_on))) (qo 4) (qd (qF 8 (qh a.h_3 (m2 b) (qb (qgc b (qc 3) (qc 4)) (qb (qp b (qc 0) (qc 4)) qf)))) (qd (z_if (zw (qh a.h_4 (m2 b) (qb (qc 8) (qb (qp b (qc 7) qg) qf)))) (qd (qF 7 (qW (qb (qc 4) (qb (qc 8) qf)))) qj) qj) qj))) (qd (qD (qc 7)) qj))))
theorem b_18(b:Rm k A s f c "cores" 31):Bdy P w K mg base n F f c A outer s H E ["web","order","part","reached","most","place","number"] "cores" 31 c_18.body :=
 qd (yp (qh a.h_16 (m2 b) (qb (qc 0) qf)) (zB (qB (qo 1) (qB (qo 2) zA)))) (qd (qF 3 (qlU)) (qd (qF 4 (qW (qb qg (qb qg qf)))) (qd (yU (qV (qc 1)) (zB (qB (qo 5) (qB (qo 6) zA))) (qd (z_if (zw (qh a.h_4 (m2 b) (qb (qc 4) (qb (qc 6) qf)))) (qd (qF 4 (qc 6)) qj) qj) (qd (yp (qc 4) (qb6 b (qc 3) (qc 5))) qj))) (qd (qD (qb9 [3] ["reached"] ["place"] b p.gb rfl tab (yG p.gb (qb (zg p.gb (qb (qc 1) qf)) qf)) (λ_ _ _ _ _ _ _ _=>qo 1) (λ_ _ _ _ _ _ _ _=>qO) (λ_ _ _ _ _ _ _ _=>qgc (qY b) (qc 0) (qc 1)))) qj))))
theorem b_19(b:Rm k A s f c "core_part" 32):Bdy P w K mg base n F f c A outer s H E ["web","place","told"] "core_part" 32 c_19.body :=
 qd (j6 (qh a.h_12 (m2 b) (qb (qc 0) qf))) (qd (j6 (qh a.h_14 (m2 b) (qb (qc 0) (qb (qc 1) qf)))) (qd (qF 2 (qh a.h_18 (m2 b) (qb (qc 0) qf))) (qd (qD (qb9 [2,1] ["told","place"] ["other"] b p.gb rfl tab (yG p.gb (qb (zg p.gb (qb (qc 2) qf)) qf)) (λ_ _ _ _ _ _ _ _=>qo 2) (λ_ _ _ _ _ _ _ _=>qf4 (zY (zw (qh a.h_4 (m1 (qY b)) (qb (qp (qY b) (qc 0) (qc 2)) (qb (qp (qY b) (qc 0) (qc 1)) qf))))) qO) (λ_ _ _ _ _ _ _ _=>qc 2))) qj)))
theorem b_20(b:Rm k A s f c "_law_mixed" 34):Bdy P w K mg base n F f c A outer s H E ["_law_cell"] "_law_mixed" 34 c_20.body :=
 qd (qD (qr .mod (qr .mul (qr .mod (qc 0) (qr .pow qg qg)) qg) (qr .pow qg qg))) qj
theorem b_21(b:Rm k A s f c "_law_pack" 35):Bdy P w K mg base n F f c A outer s H E ["_law_script","_law_k","_law_found","_law_at","_law_cell"] "_law_pack" 35 c_21.body :=
 qd (qF 2 qg) (qd (yU (qV (ju false (qb (qr .add (qc 1) qg) (qb (qc 1) qf)))) (qo 3) (qd (qF 4 (qp b (qr .add (qf3 (qc 0) (k_os (qc 3)) (k_os (qr .add (qc 3) qg))) (ju false (qb (qr .add (qr .add (qr .mul qg (qc 3)) qg) (qr .mul qg (qp b (qr .add (qc 0) (ju false (qb qg qf))) qg))) qf))) qg)) (qd (qF 2 (qr .add (qr .mul (qc 2) (qr .pow qg qg)) (qh a.h_20 (m2 b) (qb (qc 4) qf)))) qj))) (qd (qD (ju true (qb (qc 2) qf))) qj))
theorem b_22(b:Rm k A s f c "_law_take" 36):Bdy P w K mg base n F f c A outer s H E ["_law_pack_here","_law_size","_law_digit"] "_law_take" 36 c_22.body :=
 qd (yp (qf8 p.gb (qb (qp b (qc 0) qg) (qb (qc 1) qf))) (zB (qB (qb6 b (qc 0) qg) (qB (qo 2) zA)))) (qd (qD (qc 2)) qj)
theorem b_23(b:Rm k A s f c "_law_low" 37):Bdy P w K mg base n F f c A outer s H E ["_law_top","_law_bottom","_law_one","_law_other"] "_law_low" 37 c_23.body :=
 qd (qb7 2 3 (qb (qf7 p.gb (qb (qc 0) qf)) (qb (qf7 p.gb (qb (qc 1) qf)) qf))) (qd (qbf (yo .ne b (qc 3) qg) (qd (qb7 2 3 (qb (qc 3) (qb (qr .mod (qc 2) (qc 3)) qf))) qj)) (qd (z_if (yo .lt b (qc 1) qg) (qd (qF 2 (qr .sub qg (qc 2))) qj) qj) (qd (qD (qW (qb (qr .fdiv (qc 0) (qc 2)) (qb (qr .fdiv (qc 1) (qc 2)) qf)))) qj)))
theorem b_24(b:Rm k A s f c "_law_under" 38):Bdy P w K mg base n F f c A outer s H E ["_law_one","_law_other"] "_law_under" 38 c_24.body :=
 qd (qD (qb5 .lt b (qr .mul (qp b (qc 0) qg) (qp b (qc 1) qg)) (qr .mul (qp b (qc 1) qg) (qp b (qc 0) qg)))) qj
theorem b_25(b:Rm k A s f c "_law_places" 39):Bdy P w K mg base n F f c A outer s H E ["_law_pack_here","_law_many","_law_size","_law_left","_law_found"] "_law_places" 39 c_25.body :=
 qd (qF 2 (qp b (ju false (qb qg (qb qg (qb qg (qb qg (qb qg (qb qg (qb qg (qb qg qf))))))))) (qh a.h_22 (m2 b) (qb (qc 0) (qb qg qf))))) (qd (qF 3 (qcS true p.gb (qb (qc 1) qf))) (qd (qbg 4 false [3,0] ["_law_left","_law_pack_here"] ["_law_turn"] (yG p.gb (qb (qi4 p.gb (qb (qc 2) (qb (qc 1) qf))) qf)) (λ_ _ _ _ _=>qo 2) (λ_ _ _ _ _=>qO) (λ_ _ _ _ _=>qi2 (qc 0) (qh a.h_22 (m2 b) (qb (qc 1) (qb (zg p.gb (qb (qc 0) qf)) qf))))) (qd (qD (qN p.gb (qb (yq false p.gb (qb (qc 4) qf)) qf))) qj)))
theorem b_26(b:Rm k A s f c "_law_web" 40):Bdy P w K mg base n F f c A outer s H E ["_law_pack_here","_law_most","_law_ties","_law_many","_law_costs","_law_known","_law_turn","_law_some"] "_law_web" 40 c_26.body :=
 qd (qF 3 (qr .add qg (qh a.h_22 (m2 b) (qb (qc 0) (qb (qc 1) qf))))) (qd (qF 4 (qr .mul (ju false (qb qg qf)) (qc 3))) (qd (z_if (yo .eq b (qh a.h_22 (m2 b) (qb (qc 0) (qb qg qf))) qg) (qd (qbg 4 false [0] ["_law_pack_here"] ["_law_place"] (yG p.gb (qb (qc 3) qf)) (λ_ _ _ _ _=>qo 1) (λ_ _ _ _ _=>qO) (λ_ _ _ _ _=>qr .add qg (qh a.h_22 (m2 b) (qb (qc 0) (qb qg qf))))) qj) qj) (qd (qF 5 (qlO true)) (qd (yU (yG p.gb (qb (qh a.h_22 (m2 b) (qb (qc 0) (qb (qr .add (qc 2) qg) qf))) qf)) (qo 6) (qd (qF 7 (qh a.h_25 (m2 b) (qb (qc 0) (qb (qc 3) qf)))) (qd (yp (qr .add qg (qh a.h_22 (m2 b) (qb (qc 0) (qb qg qf)))) (qb6 b (qc 5) (qc 7))) qj))) (qd (qD (qW (qb (qN p.gb (qb (qc 4) qf)) (qb (qN p.gb (qb (k_lc false [5] ["_law_known"] ["_law_some"] (qV (yq false p.gb (qb (qc 5) qf))) (λ_ _ _ _ _=>qo 1) (λ_ _ _ _ _=>qO) (λ_ _ _ _ _=>qW (qb (qc 1) (qb (qp b (qc 0) (qc 1)) qf)))) qf)) qf)))) qj)))))
theorem b_27(b:Rm k A s f c "_law_called" 41):Bdy P w K mg base n F f c A outer s H E ["_law_web_here","_law_called_here","_law_costs","_law_place","_law_ties"] "_law_called" 41 c_27.body :=
 qd (qF 2 (qj7 .mul (ju false (qb qg qf)) (zg p.gb (qb (qc 1) qf)))) (qd (yU (yG p.gb (qb (zg p.gb (qb (qc 1) qf)) qf)) (qo 3) (qd (yp (qp b (qp b (qc 0) qg) (qc 3)) (qb6 b (qc 2) (qp b (qc 1) (qc 3)))) qj)) (qd (qF 4 (qio false (m2 b) p.gb (qb (k_lc false [1] ["_law_called_here"] ["_law_some","_law_mass"] (qV (qp b (qc 0) qg)) (λ_ _ _ _ _=>zB (qB (qo 1) (qB (qo 2) zA))) (λ_ _ _ _ _=>qO) (λ_ _ _ _ _=>qW (qb (qN p.gb (qb (yq false p.gb (qb (k_lc false [0] ["_law_called_here"] ["_law_place"] (qV (qc 1)) (λ_ _ _ _ _=>qo 1) (λ_ _ _ _ _=>qO) (λ_ _ _ _ _=>qp b (qc 0) (qc 1))) qf)) qf)) (qb (qc 2) qf)))) qf))) (qd (qD (qW (qb (qN p.gb (qb (qc 2) qf)) (qb (qN p.gb (qb (qc 4) qf)) qf)))) qj)))
theorem b_28(b:Rm k A s f c "_law_greater" 42):Bdy P w K mg base n F f c A outer s H E ["_law_web_here","_law_often","_law_dear"] "_law_greater" 42 c_28.body :=
 qd (qD (qW (qb (qN p.gb (qb (k_lc false [2] ["_law_dear"] ["_law_price"] (qV (qp b (qc 0) qg)) (λ_ _ _ _ _=>qo 1) (λ_ _ _ _ _=>qO) (λ_ _ _ _ _=>qr .mul (qc 1) (qc 0))) qf)) (qb (qN p.gb (qb (k_lc false [1] ["_law_often"] ["_law_some","_law_mass"] (qV (qp b (qc 0) qg)) (λ_ _ _ _ _=>zB (qB (qo 1) (qB (qo 2) zA))) (λ_ _ _ _ _=>qO) (λ_ _ _ _ _=>qW (qb (qc 1) (qb (qr .mul (qc 2) (qc 0)) qf)))) qf)) qf)))) qj
theorem b_29(b:Rm k A s f c "_law_beside" 43):Bdy P w K mg base n F f c A outer s H E ["_law_one","_law_other","_law_many","_law_ties"] "_law_beside" 43 c_29.body :=
 qd (qF 2 (zg p.gb (qb (qp b (qc 0) qg) qf))) (qd (qbg 3 false [2] ["_law_many"] ["_law_some","_law_mass"] (qV (qp b (qc 1) qg)) (λ_ _ _ _ _=>zB (qB (qo 1) (qB (qo 2) zA))) (λ_ _ _ _ _=>qO) (λ_ _ _ _ _=>qW (qb (qN p.gb (qb (k_lc false [0] ["_law_many"] ["_law_place"] (qV (qc 1)) (λ_ _ _ _ _=>qo 1) (λ_ _ _ _ _=>qO) (λ_ _ _ _ _=>qr .add (qc 1) (qc 0))) qf)) (qb (qc 2) qf)))) (qd (qD (qW (qb (qr .add (qp b (qc 0) qg) (qp b (qc 1) qg)) (qb (qr .add (qp b (qc 0) qg) (qN p.gb (qb (qc 3) qf))) qf)))) qj))
theorem b_30(b:Rm k A s f c "_law_with_tie" 44):Bdy P w K mg base n F f c A outer s H E ["_law_pack_here","_law_web_here","_law_known","_law_some"] "_law_with_tie" 44 c_30.body :=
 qd (qF 2 (qkq (m2 b) p.gb (qb (qp b (qc 1) qg) qf))) (qd (qF 3 (qh a.h_25 (m2 b) (qb (qc 0) (qb (zg p.gb (qb (qp b (qc 1) qg) qf)) qf)))) (qd (yp (qr .add (qr .add (qlQ b (qc 2) (qc 3) qg) qg) (qh a.h_22 (m2 b) (qb (qc 0) (qb qg qf)))) (qb6 b (qc 2) (qc 3))) (qd (qD (qW (qb (qp b (qc 1) qg) (qb (qN p.gb (qb (k_lc false [2] ["_law_known"] ["_law_places_here"] (qV (yq false p.gb (qb (qc 2) qf))) (λ_ _ _ _ _=>qo 1) (λ_ _ _ _ _=>qO) (λ_ _ _ _ _=>qW (qb (qc 1) (qb (qp b (qc 0) (qc 1)) qf)))) qf)) qf)))) qj)))
theorem b_31(b:Rm k A s f c "_law_right" 45):Bdy P w K mg base n F f c A outer s H E ["_law_web_here","_law_other","_law_pack_here","_law_known","_law_many","_law_left","_law_called_here","_law_there","_law_place","_law_often","_law_dear","_law_greater_here","_law_order","_law_part","_law_due","_law_more"] "_law_right" 45 c_31.body :=
 qd (qF 3 (qh a.h_18 (m2 b) (qb (qc 0) qf))) (qd (qF 4 (zg p.gb (qb (qc 3) qf))) (qd (qF 5 (qcS true p.gb (qb (qc 4) qf))) (qd (qF 6 (k_lc false [5,2] ["_law_left","_law_pack_here"] ["_law_turn"] (yG p.gb (qb (qc 4) qf)) (λ_ _ _ _ _=>qo 2) (λ_ _ _ _ _=>qO) (λ_ _ _ _ _=>qi2 (qc 0) (qh a.h_22 (m2 b) (qb (qc 1) (qb (zg p.gb (qb (qc 0) qf)) qf)))))) (qd (qF 7 (qh a.h_27 (m2 b) (qb (qc 0) (qb (qc 6) qf)))) (qd (yU (yG p.gb (qb (qc 4) qf)) (qo 8) (qd (z_if (yo .ne b (qp b (qh a.h_18 (m2 b) (qb (qc 7) qf)) (qp b (qc 6) (qc 8))) (qp b (qc 3) (qc 8))) (qd (qD zz) qj) qj) (qd (z_if (yo .ne b (qh a.h_19 (m2 b) (qb (qc 7) (qb (qp b (qc 6) (qc 8)) qf))) (qN p.gb (qb (yq false p.gb (qb (k_lc false [6] ["_law_called_here"] ["_law_one"] (qV (qh a.h_19 (m2 b) (qb (qc 0) (qb (qc 8) qf)))) (λ_ _ _ _ _=>qo 1) (λ_ _ _ _ _=>qO) (λ_ _ _ _ _=>qp b (qc 0) (qc 1))) qf)) qf))) (qd (qD zz) qj) qj) qj))) (qd (yp (qW (qb (qr .add qg (qh a.h_22 (m2 b) (qb (qc 2) (qb qg qf)))) (qb (qr .add qg (qh a.h_22 (m2 b) (qb (qc 2) (qb qg qf)))) qf))) (zB (qB (qo 9) (qB (qo 10) zA)))) (qd (qF 11 (qh a.h_28 (m2 b) (qb (qc 0) (qb (qc 9) (qb (qc 10) qf))))) (qd (z_if (yo .ne b (qh a.h_18 (m2 b) (qb (qc 11) qf)) (qN p.gb (qb (k_lc false [9,10] ["_law_often","_law_dear"] ["_law_one"] (qV (qc 3)) (λ_ _ _ _ _=>qo 2) (λ_ _ _ _ _=>qO) (λ_ _ _ _ _=>qh a.h_23 (m2 b) (qb (qr .mul (qp b (qc 2) qg) (qc 0)) (qb (qr .mul (qp b (qc 2) qg) (qc 1)) qf)))) qf))) (qd (qD zz) qj) qj) (qd (yp (qh a.h_16 (m2 b) (qb (qc 0) qf)) (zB (qB (qo 12) (qB (qo 13) zA)))) (qd (qF 14 (qN p.gb (qb (k_lc false [9,10] ["_law_often","_law_dear"] ["_law_place","_law_told"] (qV (qc 12)) (λ_ _ _ _ _=>zB (qB (qo 2) (qB (qo 3) zA))) (λ_ _ _ _ _=>qO) (λ_ _ _ _ _=>qW (qb (qc 2) (qb (qh a.h_23 (m2 b) (qb (qr .mul (qp b (qc 3) qg) (qc 0)) (qb (qr .mul (qp b (qc 3) qg) (qc 1)) qf))) qf)))) qf))) (qd (z_if (Qpt (w_or (yo .ne b (qh a.h_16 (m2 b) (qb (qc 11) qf)) (qW (qb (qc 14) (qb (qc 13) qf)))) (qaN (yo .ne b (qh a.h_18 (m2 b) (qb (qh a.h_29 (m2 b) (qb (qc 0) (qb (qc 1) qf))) qf)) (qr .add (qc 3) (qh a.h_18 (m2 b) (qb (qc 1) qf))))))) (qd (qD zz) qj) qj) (qd (qF 15 (qh a.h_18 (m2 b) (qb (qh a.h_30 (m2 b) (qb (qc 2) (qb (qc 0) qf))) qf))) (qd (qD (qi0 (qlT p.gb (qb (k_lc false [15,3] ["_law_more","_law_known"] ["_law_place"] (yG p.gb (qb (qc 4) qf)) (λ_ _ _ _ _=>qo 2) (λ_ _ _ _ _=>qO) (λ_ _ _ _ _=>qh a.h_24 (m2 b) (qb (qp b (qc 0) (qc 2)) (qb (qp b (qc 1) (qc 2)) qf)))) qf)))) qj)))))))))))))
theorem b_32(b:Rm k A s f c "law" 46):Bdy P w K mg base n F f c A outer s H E ["_law_script","_law_k","_law_web_here","_law_other"] "law" 46 qdD.body :=
 qd (yU (yG p.gb (qb qg (qb (qlS p.gb (qb qg (qb (qi4 p.gb (qb (zg p.gb (qb (qc 0) qf)) (qb qg qf))) qf))) (qb qg qf)))) (qo 1) (qd (qb7 2 3 (qb (qh a.h_26 (m2 b) (qb (qh a.h_21 (m2 b) (qb (qc 0) (qb (qc 1) qf))) (qb qg (qb qg qf)))) (qb (qh a.h_26 (m2 b) (qb (qh a.h_21 (m2 b) (qb (qc 0) (qb (qr .add (qc 1) qg) qf))) (qb qg (qb qg qf)))) qf))) (qd (z_if (zY (zw (qh a.h_31 (m2 b) (qb (qc 2) (qb (qc 3) (qb (qh a.h_21 (m2 b) (qb (qc 0) (qb (qr .add (qc 1) qg) qf))) qf)))))) (qd (qD zz) qj) qj) qj))) (qd (qD zz) qj)
end
section
variable{P:Program}{w:World}{K:PySem.W.Frag}{mg:Str->Option Value}{base:Heap}{k N d:Nat}(p:Pre K mg)(a:All P w K mg base k (run prg N d)){f:Addr}{fd:FuncData}{c t:Addr}
include p a
theorem o_0(U:FunT K "is_whole" (top 1) f fd c t):FnOk P w K mg base CX0 (k+3) f fd ["thing"] (SpD 1 (run prg N (d+1) 0)):=qI (G:=run prg N (d+1)) (i:=0) U sc_0 rfl rfl (by decide) rfl λA outer s H E b=>b_0 p a U.tab b
theorem o_1(U:FunT K "is_whole_within" (top 2) f fd c t):FnOk P w K mg base CX0 (k+3) f fd ["thing","least","most"] (SpD 3 (run prg N (d+1) 1)):=qI (G:=run prg N (d+1)) (i:=1) U sc_1 rfl rfl (by decide) rfl λA outer s H E b=>b_1 p a U.tab b
theorem o_2(U:FunT K "common_divisor" (top 3) f fd c t):FnOk P w K mg base CX0 (k+3) f fd ["one","other"] (SpD 2 (run prg N (d+1) 2)):=qI (G:=run prg N (d+1)) (i:=2) U sc_2 rfl rfl (by decide) rfl λA outer s H E b=>b_2 p a U.tab b
theorem o_3(U:FunT K "lowest" (top 4) f fd c t):FnOk P w K mg base CX0 (k+3) f fd ["top","bottom"] (SpD 2 (run prg N (d+1) 3)):=qI (G:=run prg N (d+1)) (i:=3) U sc_3 rfl rfl (by decide) rfl λA outer s H E b=>b_3 p a U.tab b
theorem o_4(U:FunT K "is_less" (top 5) f fd c t):FnOk P w K mg base CX0 (k+3) f fd ["one","other"] (SpD 2 (run prg N (d+1) 4)):=qI (G:=run prg N (d+1)) (i:=4) U sc_4 rfl rfl (by decide) rfl λA outer s H E b=>b_4 p a U.tab b
theorem o_5(U:FunT K "is_web" (top 16) f fd c t):FnOk P w K mg base CX0 (k+3) f fd ["thing"] (SpD 1 (run prg N (d+1) 5)):=qI (G:=run prg N (d+1)) (i:=5) U sc_5 rfl rfl (by decide) rfl λA outer s H E b=>b_5 p a U.tab b
theorem o_6(U:FunT K "are_costs" (top 17) f fd c t):FnOk P w K mg base CX0 (k+3) f fd ["thing"] (SpD 1 (run prg N (d+1) 6)):=qI (G:=run prg N (d+1)) (i:=6) U sc_6 rfl rfl (by decide) rfl λA outer s H E b=>b_6 p a U.tab b
theorem o_7(U:FunT K "are_ties" (top 18) f fd c t):FnOk P w K mg base CX0 (k+3) f fd ["thing","many"] (SpD 2 (run prg N (d+1) 7)):=qI (G:=run prg N (d+1)) (i:=7) U sc_7 rfl rfl (by decide) rfl λA outer s H E b=>b_7 p a U.tab b
theorem o_8(U:FunT K "is_tie" (top 19) f fd c t):FnOk P w K mg base CX0 (k+3) f fd ["thing","many"] (SpD 2 (run prg N (d+1) 8)):=qI (G:=run prg N (d+1)) (i:=8) U sc_8 rfl rfl (by decide) rfl λA outer s H E b=>b_8 p a U.tab b
theorem o_9(U:FunT K "are_tied_places" (top 20) f fd c t):FnOk P w K mg base CX0 (k+3) f fd ["thing","many"] (SpD 2 (run prg N (d+1) 9)):=qI (G:=run prg N (d+1)) (i:=9) U sc_9 rfl rfl (by decide) rfl λA outer s H E b=>b_9 p a U.tab b
theorem o_10(U:FunT K "are_places" (top 21) f fd c t):FnOk P w K mg base CX0 (k+3) f fd ["thing","many"] (SpD 2 (run prg N (d+1) 10)):=qI (G:=run prg N (d+1)) (i:=10) U sc_10 rfl rfl (by decide) rfl λA outer s H E b=>b_10 p a U.tab b
theorem o_11(U:FunT K "is_rising" (top 22) f fd c t):FnOk P w K mg base CX0 (k+3) f fd ["things"] (SpD 1 (run prg N (d+1) 11)):=qI (G:=run prg N (d+1)) (i:=11) U sc_11 rfl rfl (by decide) rfl λA outer s H E b=>b_11 p a U.tab b
theorem o_12(U:FunT K "need_web" (top 23) f fd c t):FnOk P w K mg base CX0 (k+3) f fd ["thing"] (SpD 1 (run prg N (d+1) 12)):=qI (G:=run prg N (d+1)) (i:=12) U sc_12 rfl rfl (by decide) rfl λA outer s H E b=>b_12 p a U.tab b
theorem o_13(U:FunT K "is_place" (top 24) f fd c t):FnOk P w K mg base CX0 (k+3) f fd ["web","thing"] (SpD 2 (run prg N (d+1) 13)):=qI (G:=run prg N (d+1)) (i:=13) U sc_13 rfl rfl (by decide) rfl λA outer s H E b=>b_13 p a U.tab b
theorem o_14(U:FunT K "need_place" (top 25) f fd c t):FnOk P w K mg base CX0 (k+3) f fd ["web","thing"] (SpD 2 (run prg N (d+1) 14)):=qI (G:=run prg N (d+1)) (i:=14) U sc_14 rfl rfl (by decide) rfl λA outer s H E b=>b_14 p a U.tab b
theorem o_15(U:FunT K "ties_within" (top 26) f fd c t):FnOk P w K mg base CX0 (k+3) f fd ["web","part"] (SpD 2 (run prg N (d+1) 15)):=qI (G:=run prg N (d+1)) (i:=15) U sc_15 rfl rfl (by decide) rfl λA outer s H E b=>b_15 p a U.tab b
theorem o_16(U:FunT K "stripped" (top 28) f fd c t):FnOk P w K mg base CX0 (k+3) f fd ["web"] (SpD 1 (run prg N (d+1) 16)):=qI (G:=run prg N (d+1)) (i:=16) U sc_16 rfl rfl (by decide) rfl λA outer s H E b=>b_16 p a U.tab b
theorem o_17(U:FunT K "lightest" (top 29) f fd c t):FnOk P w K mg base CX0 (k+3) f fd ["costs","ties","left"] (SpD 3 (run prg N (d+1) 17)):=qI (G:=run prg N (d+1)) (i:=17) U sc_17 rfl rfl (by decide) rfl λA outer s H E b=>b_17 p a U.tab b
theorem o_18(U:FunT K "cores" (top 31) f fd c t):FnOk P w K mg base CX0 (k+3) f fd ["web"] (SpD 1 (run prg N (d+1) 18)):=qI (G:=run prg N (d+1)) (i:=18) U sc_18 rfl rfl (by decide) rfl λA outer s H E b=>b_18 p a U.tab b
theorem o_19(U:FunT K "core_part" (top 32) f fd c t):FnOk P w K mg base CX0 (k+3) f fd ["web","place"] (SpD 2 (run prg N (d+1) 19)):=qI (G:=run prg N (d+1)) (i:=19) U sc_19 rfl rfl (by decide) rfl λA outer s H E b=>b_19 p a U.tab b
theorem o_20(U:FunT K "_law_mixed" (top 34) f fd c t):FnOk P w K mg base CX0 (k+3) f fd ["_law_cell"] (SpD 1 (run prg N (d+1) 20)):=qI (G:=run prg N (d+1)) (i:=20) U sc_20 rfl rfl (by decide) rfl λA outer s H E b=>b_20 p a U.tab b
theorem o_21(U:FunT K "_law_pack" (top 35) f fd c t):FnOk P w K mg base CX0 (k+3) f fd ["_law_script","_law_k"] (SpD 2 (run prg N (d+1) 21)):=qI (G:=run prg N (d+1)) (i:=21) U sc_21 rfl rfl (by decide) rfl λA outer s H E b=>b_21 p a U.tab b
theorem o_22(U:FunT K "_law_take" (top 36) f fd c t):FnOk P w K mg base CX0 (k+3) f fd ["_law_pack_here","_law_size"] (SpD 2 (run prg N (d+1) 22)):=qI (G:=run prg N (d+1)) (i:=22) U sc_22 rfl rfl (by decide) rfl λA outer s H E b=>b_22 p a U.tab b
theorem o_23(U:FunT K "_law_low" (top 37) f fd c t):FnOk P w K mg base CX0 (k+3) f fd ["_law_top","_law_bottom"] (SpD 2 (run prg N (d+1) 23)):=qI (G:=run prg N (d+1)) (i:=23) U sc_23 rfl rfl (by decide) rfl λA outer s H E b=>b_23 p a U.tab b
theorem o_24(U:FunT K "_law_under" (top 38) f fd c t):FnOk P w K mg base CX0 (k+3) f fd ["_law_one","_law_other"] (SpD 2 (run prg N (d+1) 24)):=qI (G:=run prg N (d+1)) (i:=24) U sc_24 rfl rfl (by decide) rfl λA outer s H E b=>b_24 p a U.tab b
theorem o_25(U:FunT K "_law_places" (top 39) f fd c t):FnOk P w K mg base CX0 (k+3) f fd ["_law_pack_here","_law_many"] (SpD 2 (run prg N (d+1) 25)):=qI (G:=run prg N (d+1)) (i:=25) U sc_25 rfl rfl (by decide) rfl λA outer s H E b=>b_25 p a U.tab b
theorem o_26(U:FunT K "_law_web" (top 40) f fd c t):FnOk P w K mg base CX0 (k+3) f fd ["_law_pack_here","_law_most","_law_ties"] (SpD 3 (run prg N (d+1) 26)):=qI (G:=run prg N (d+1)) (i:=26) U sc_26 rfl rfl (by decide) rfl λA outer s H E b=>b_26 p a U.tab b
theorem o_27(U:FunT K "_law_called" (top 41) f fd c t):FnOk P w K mg base CX0 (k+3) f fd ["_law_web_here","_law_called_here"] (SpD 2 (run prg N (d+1) 27)):=qI (G:=run prg N (d+1)) (i:=27) U sc_27 rfl rfl (by decide) rfl λA outer s H E b=>b_27 p a U.tab b
theorem o_28(U:FunT K "_law_greater" (top 42) f fd c t):FnOk P w K mg base CX0 (k+3) f fd ["_law_web_here","_law_often","_law_dear"] (SpD 3 (run prg N (d+1) 28)):=qI (G:=run prg N (d+1)) (i:=28) U sc_28 rfl rfl (by decide) rfl λA outer s H E b=>b_28 p a U.tab b
theorem o_29(U:FunT K "_law_beside" (top 43) f fd c t):FnOk P w K mg base CX0 (k+3) f fd ["_law_one","_law_other"] (SpD 2 (run prg N (d+1) 29)):=qI (G:=run prg N (d+1)) (i:=29) U sc_29 rfl rfl (by decide) rfl λA outer s H E b=>b_29 p a U.tab b
theorem o_30(U:FunT K "_law_with_tie" (top 44) f fd c t):FnOk P w K mg base CX0 (k+3) f fd ["_law_pack_here","_law_web_here"] (SpD 2 (run prg N (d+1) 30)):=qI (G:=run prg N (d+1)) (i:=30) U sc_30 rfl rfl (by decide) rfl λA outer s H E b=>b_30 p a U.tab b
theorem o_31(U:FunT K "_law_right" (top 45) f fd c t):FnOk P w K mg base CX0 (k+3) f fd ["_law_web_here","_law_other","_law_pack_here"] (SpD 3 (run prg N (d+1) 31)):=qI (G:=run prg N (d+1)) (i:=31) U sc_31 rfl rfl (by decide) rfl λA outer s H E b=>b_31 p a U.tab b
theorem o_32(U:FunT K "law" (top 46) f fd c t):FnOk P w K mg base CX0 (k+3) f fd ["_law_script"] (SpD 1 (run prg N (d+1) 32)):=qI (G:=run prg N (d+1)) (i:=32) U sc_32 rfl rfl (by decide) rfl λA outer s H E b=>b_32 p a U.tab b
theorem qgk:All P w K mg base (k+3) (run prg N (d+1)) where
 h_0:=p.u_0.fn λ_ _ _ _ U=>o_0 p a U
 h_1:=p.u_1.fn λ_ _ _ _ U=>o_1 p a U
 h_2:=p.u_2.fn λ_ _ _ _ U=>o_2 p a U
 h_3:=p.u_3.fn λ_ _ _ _ U=>o_3 p a U
 h_4:=p.u_4.fn λ_ _ _ _ U=>o_4 p a U
 h_5:=p.u_5.fn λ_ _ _ _ U=>o_5 p a U
 h_6:=p.u_6.fn λ_ _ _ _ U=>o_6 p a U
 h_7:=p.u_7.fn λ_ _ _ _ U=>o_7 p a U
 h_8:=p.u_8.fn λ_ _ _ _ U=>o_8 p a U
 h_9:=p.u_9.fn λ_ _ _ _ U=>o_9 p a U
 h_10:=p.u_10.fn λ_ _ _ _ U=>o_10 p a U
 h_11:=p.u_11.fn λ_ _ _ _ U=>o_11 p a U
 h_12:=p.u_12.fn λ_ _ _ _ U=>o_12 p a U
 h_13:=p.u_13.fn λ_ _ _ _ U=>o_13 p a U
 h_14:=p.u_14.fn λ_ _ _ _ U=>o_14 p a U
 h_15:=p.u_15.fn λ_ _ _ _ U=>o_15 p a U
 h_16:=p.u_16.fn λ_ _ _ _ U=>o_16 p a U
 h_17:=p.u_17.fn λ_ _ _ _ U=>o_17 p a U
 h_18:=p.u_18.fn λ_ _ _ _ U=>o_18 p a U
 h_19:=p.u_19.fn λ_ _ _ _ U=>o_19 p a U
 h_20:=p.u_20.fn λ_ _ _ _ U=>o_20 p a U
 h_21:=p.u_21.fn λ_ _ _ _ U=>o_21 p a U
 h_22:=p.u_22.fn λ_ _ _ _ U=>o_22 p a U
 h_23:=p.u_23.fn λ_ _ _ _ U=>o_23 p a U
 h_24:=p.u_24.fn λ_ _ _ _ U=>o_24 p a U
 h_25:=p.u_25.fn λ_ _ _ _ U=>o_25 p a U
 h_26:=p.u_26.fn λ_ _ _ _ U=>o_26 p a U
 h_27:=p.u_27.fn λ_ _ _ _ U=>o_27 p a U
 h_28:=p.u_28.fn λ_ _ _ _ U=>o_28 p a U
 h_29:=p.u_29.fn λ_ _ _ _ U=>o_29 p a U
 h_30:=p.u_30.fn λ_ _ _ _ U=>o_30 p a U
 h_31:=p.u_31.fn λ_ _ _ _ U=>o_31 p a U
 h_32:=p.u_32.fn λ_ _ _ _ U=>o_32 p a U
omit a
theorem qgl:All P w K mg base 0 (run prg N 0) where
 h_0:=p.u_0.fn λ_ _ _ _ _=>qJ (i:=0) rfl
 h_1:=p.u_1.fn λ_ _ _ _ _=>qJ (i:=1) rfl
 h_2:=p.u_2.fn λ_ _ _ _ _=>qJ (i:=2) rfl
 h_3:=p.u_3.fn λ_ _ _ _ _=>qJ (i:=3) rfl
 h_4:=p.u_4.fn λ_ _ _ _ _=>qJ (i:=4) rfl
 h_5:=p.u_5.fn λ_ _ _ _ _=>qJ (i:=5) rfl
 h_6:=p.u_6.fn λ_ _ _ _ _=>qJ (i:=6) rfl
 h_7:=p.u_7.fn λ_ _ _ _ _=>qJ (i:=7) rfl
 h_8:=p.u_8.fn λ_ _ _ _ _=>qJ (i:=8) rfl
 h_9:=p.u_9.fn λ_ _ _ _ _=>qJ (i:=9) rfl
 h_10:=p.u_10.fn λ_ _ _ _ _=>qJ (i:=10) rfl
 h_11:=p.u_11.fn λ_ _ _ _ _=>qJ (i:=11) rfl
 h_12:=p.u_12.fn λ_ _ _ _ _=>qJ (i:=12) rfl
 h_13:=p.u_13.fn λ_ _ _ _ _=>qJ (i:=13) rfl
 h_14:=p.u_14.fn λ_ _ _ _ _=>qJ (i:=14) rfl
 h_15:=p.u_15.fn λ_ _ _ _ _=>qJ (i:=15) rfl
 h_16:=p.u_16.fn λ_ _ _ _ _=>qJ (i:=16) rfl
 h_17:=p.u_17.fn λ_ _ _ _ _=>qJ (i:=17) rfl
 h_18:=p.u_18.fn λ_ _ _ _ _=>qJ (i:=18) rfl
 h_19:=p.u_19.fn λ_ _ _ _ _=>qJ (i:=19) rfl
 h_20:=p.u_20.fn λ_ _ _ _ _=>qJ (i:=20) rfl
 h_21:=p.u_21.fn λ_ _ _ _ _=>qJ (i:=21) rfl
 h_22:=p.u_22.fn λ_ _ _ _ _=>qJ (i:=22) rfl
 h_23:=p.u_23.fn λ_ _ _ _ _=>qJ (i:=23) rfl
 h_24:=p.u_24.fn λ_ _ _ _ _=>qJ (i:=24) rfl
 h_25:=p.u_25.fn λ_ _ _ _ _=>qJ (i:=25) rfl
 h_26:=p.u_26.fn λ_ _ _ _ _=>qJ (i:=26) rfl
 h_27:=p.u_27.fn λ_ _ _ _ _=>qJ (i:=27) rfl
 h_28:=p.u_28.fn λ_ _ _ _ _=>qJ (i:=28) rfl
 h_29:=p.u_29.fn λ_ _ _ _ _=>qJ (i:=29) rfl
 h_30:=p.u_30.fn λ_ _ _ _ _=>qJ (i:=30) rfl
 h_31:=p.u_31.fn λ_ _ _ _ _=>qJ (i:=31) rfl
 h_32:=p.u_32.fn λ_ _ _ _ _=>qJ (i:=32) rfl
omit p
theorem qgm(p:Pre K mg):∀d:Nat,All P w K mg base (3*d) (run prg N d)
 |0=>qgl p
 |d+1=>qgk p (qgm p d)
end
end RP
namespace RP
open R
section
variable{α:Type}{g:α->D}
theorem qbj{n:Nat}{bind:D->En->Sr->Res En}{test:En->Sr->Res Bool}{elt:En->Sr->Res D}{b:α->Bool}{v:α->D}(R:En->Prop){S:Sr}(hn:S.length=n):∀(ds:List α) (a:List D) (ρ:En),a.length+ds.length<=PySem.sizeLine->R ρ ->
  (∀d∈ds,∀(ρ:En) (m:List D),R ρ->∃ρ1,bind (g d) ρ (S++[.lst m])=.ok ρ1 (S++[.lst m])/\R ρ1/\test ρ1 (S++[.lst m])=.ok (b d) (S++[.lst m])/\(b d=true->elt ρ1 (S++[.lst m])=.ok (v d) (S++[.lst m])/\refsLt 0 (v d)=true)) ->
  ∃c,lcLoop n bind test elt (ds.map g) ρ (S++[.lst a])=.ok c (S++[.lst (a++(ds.filter b).map v)])
 |[],a,ρ,_,_,_=>⟨ρ,by simp[lcLoop]⟩
 |d::ds,a,ρ,hl,hR,H=>by
  obtain⟨ρ1,e1,f,i,j⟩:=H d wE ρ a hR
  simp only[w4]at hl
  rw[wI]
  unfold lcLoop
  rw[e1,Res.bind_ok,i,Res.bind_ok]
  cases z:b d with
  |true =>
   obtain⟨l,o⟩:=j z
   have p:appD (S++[.lst a]) (.ref n) (v d)=.ok .non (S++[.lst (a++[v d])]):=by
    subst hn
    have h:a.length<PySem.sizeLine:=by lia
    simp[appD,o,h]
   rw[wM rfl,l,Res.bind_ok,p,Res.bind_ok]
   obtain⟨c,e⟩:=qbj R hn ds (a++[v d]) ρ1 (by simp;lia) f λd' hd=>H d' (wH _ hd)
   exact⟨c,by rw[e];simp[z]⟩
  |false =>
   rw[wO (by simp)]
   obtain⟨c,e⟩:=qbj R hn ds a ρ1 (by lia) f λd' hd=>H d' (wH _ hd)
   exact⟨c,by rw[e];simp[z]⟩
theorem zN{F:Fs}{fr:List Nat}{nt:Nat}{elt:CE}{tg:CT}{it:CI}{ifs:CBs}{ρ:En}{S S1:Sr}{ds:List D}(xs:List α)(b:α->Bool)(v:α->D)(R:En->Prop)(a:evI F it ρ S=.ok ds S1)(hd:ds=xs.map g)(h0:R (frE ρ fr nt))(c:xs.length<=PySem.sizeLine)(H:∀d∈xs,∀(ρ:En) (m:List D),R ρ->∃ρ1,asg F tg (g d) ρ (S1++[.lst m])=.ok ρ1 (S1++[.lst m])/\R ρ1/\tsts F ifs ρ1 (S1++[.lst m])=.ok (b d) (S1++[.lst m])/\(b d=true->ev F elt ρ1 (S1++[.lst m])=.ok (v d) (S1++[.lst m])/\refsLt 0 (v d)=true)):
  ev F (.lc false fr nt elt tg it ifs) ρ S=.ok (.lst ((xs.filter b).map v)) S1:=by
 obtain⟨f,e⟩:=qbj (n:=S1.length) (bind:=λd ρ S=>asg F tg d ρ S) (test:=λρ S=>tsts F ifs ρ S) (elt:=λρ S=>ev F elt ρ S) R rfl xs [] _ (by simpa using c) h0 H
 simp only[ev,a,Res.bind,hd,e,lcEnd]
 simp
theorem qdE{bind:D->En->Sr->Res En}{test:En->Sr->Res Bool}{elt:En->Sr->Res D}{p:α->Bool}(R:En->Prop){S:Sr}:∀(ds:List α) (ρ:En),R ρ ->
  (∀d∈ds,∀ρ:En,R ρ->∃ρ1,bind (g d) ρ S=.ok ρ1 S/\R ρ1/\test ρ1 S=.ok true S/\elt ρ1 S=.ok (.bl (p d)) S) ->
  genLoop bind test elt (stepG .all) (finG .all) (ds.map g) ρ .non S=.ok (.bl (ds.all p)) S
 |[],ρ,_,_=>by simp[genLoop,finG]
 |d::ds,ρ,hR,H=>by
  obtain⟨ρ1,e1,a,b,c⟩:=H d wE ρ hR
  rw[wI]
  unfold genLoop
  rw[e1,Res.bind_ok,b,Res.bind_ok,wM rfl,c,Res.bind_ok]
  cases z:p d with
  |true=>simp only[stepG];rw[qdE R ds ρ1 a λd' hd=>H d' (wH _ hd)];simp[z]
  |false=>simp[stepG,z]
theorem jF{F:Fs}{fr:List Nat}{nt:Nat}{elt:CE}{tg:CT}{it:CI}{ρ:En}{S S1:Sr}{ds:List D}(xs:List α)(p:α->Bool)(R:En->Prop)(e:evI F it ρ S=.ok ds S1)(hd:ds=xs.map g)(h0:R (frE ρ fr nt))(H:∀d∈xs,∀ρ:En,R ρ->∃ρ1,asg F tg (g d) ρ S1=.ok ρ1 S1/\R ρ1/\ev F elt ρ1 S1=.ok (.bl (p d)) S1):
  ev F (.gen .all fr nt elt tg it .nil) ρ S=.ok (.bl (xs.all p)) S1:=by
 simp only[ev,e,Res.bind,hd,startG]
 exact qdE R xs _ h0 λd hd ρ f=>let ⟨ρ1,a,b,c⟩:=H d hd ρ f;⟨ρ1,a,b,rfl,c⟩
theorem qbk{bind:D->En->Sr->Res En}{test:En->Sr->Res Bool}{elt:En->Sr->Res D}{b:α->Bool}{v:α->Int}(R:En->Prop){S:Sr}:∀(ds:List α) (ρ:En) (a:Int),R ρ ->
  (∀d∈ds,∀ρ:En,R ρ->∃ρ1,bind (g d) ρ S=.ok ρ1 S/\R ρ1/\test ρ1 S=.ok (b d) S/\(b d=true->elt ρ1 S=.ok (.int (v d)) S)) ->
  genLoop bind test elt (stepG .sum) (finG .sum) (ds.map g) ρ (.int a) S=.ok (.int (a+((ds.filter b).map v).sum)) S
 |[],ρ,a,_,_=>by simp[genLoop,finG]
 |d::ds,ρ,a,hR,H=>by
  obtain⟨ρ1,e1,c,e,f⟩:=H d wE ρ hR
  rw[wI]
  unfold genLoop
  rw[e1,Res.bind_ok,e,Res.bind_ok]
  cases z:b d with
  |true =>
   rw[wM rfl,f z,Res.bind_ok]
   simp only[stepG]
   rw[qbk R ds ρ1 _ c λd' hd=>H d' (wH _ hd)]
   simp[z,Int.add_assoc]
  |false =>
   rw[wO (by simp),qbk R ds ρ1 _ c λd' hd=>H d' (wH _ hd)]
   simp[z]
theorem qiw{F:Fs}{fr:List Nat}{nt:Nat}{elt:CE}{tg:CT}{it:CI}{ifs:CBs}{ρ:En}{S S1:Sr}{ds:List D}(xs:List α)(b:α->Bool)(v:α->Int)(R:En->Prop)(a:evI F it ρ S=.ok ds S1)(hd:ds=xs.map g)(h0:R (frE ρ fr nt))(H:∀d∈xs,∀ρ:En,R ρ->∃ρ1,asg F tg (g d) ρ S1=.ok ρ1 S1/\R ρ1/\tsts F ifs ρ1 S1=.ok (b d) S1/\(b d=true->ev F elt ρ1 S1=.ok (.int (v d)) S1)):
  ev F (.gen .sum fr nt elt tg it ifs) ρ S=.ok (.int ((xs.filter b).map v).sum) S1:=by
 simp only[ev,a,Res.bind,hd,startG]
 rw[qbk R xs _ 0 h0 H];simp
end
noncomputable abbrev Tie:=List Int×Int
noncomputable def tieD(t:Tie):D:=.tup [tupI t.1,.int t.2]
structure Wb where
 costs:List Int
 ties:List Tie
noncomputable def webD(w:Wb):D:=.tup [tupI w.costs,.tup (w.ties.map tieD)]
structure PlOk (n:Nat) (p:List Int):Prop where
 ne:p≠[]
 rng:∀x∈p,0<=x/\x<n
 up:p.Pairwise (· < ·)
structure WbOk (w:Wb):Prop where
 c1:1<=w.costs.length
 c2:w.costs.length<=12
 c3:∀c∈w.costs,1<=c/\c<=100
 t1:w.ties.length<=30
 t2:∀t∈w.ties,PlOk w.costs.length t.1/\t.1.length<=4/\1<=t.2/\t.2<=1000000
 t3:(w.ties.map (·.1)).Pairwise λa b=>HT.lexLt a b=true
theorem qK:∀l:List Int,intsOf (l.map .int)=some l
 |[]=>rfl
 |a::r=>by simp[intsOf,qK r]
theorem qgn:∀{l:List Int},l.Pairwise (· < ·)->(l.zip (l.drop 1)).all (λp=>decide (p.1<p.2))=true
 |[],_=>rfl
 |[a],_=>rfl
 |a::b::r,h=>by
  have c:=wy.mp h
  have:=qgn c.2
  simp only[uc,ul,vw,u8,wW,wk]at this ⊢
  exact⟨c.1 b wE,this⟩
theorem qdF:∀{l:List (List Int)},l.Pairwise (λa b=>HT.lexLt a b=true)->(l.zip (l.drop 1)).all (λp=>HT.lexLt p.1 p.2)=true
 |[],_=>rfl
 |[a],_=>rfl
 |a::b::r,h=>by
  have c:=wy.mp h
  have:=qdF c.2
  simp only[uc,ul,vw,u8,wW]at this ⊢
  exact⟨c.1 b wE,this⟩
theorem cut1(l:List D):cutD l (some 1) none=l.drop 1:=by
 unfold cutD HT.sIx
 cases l with
 |nil=>rfl
 |cons a r =>
  have:min (1:Int).toNat (a::r).length=1:=by simp
  simp only[this]
  rw[wO (by lia)]
  simp
end RP
namespace RP
open R
section
variable{F:Fs}{N:Nat}{ρ ρ1:En}{S S1 S2:Sr}{r a b:CSs}{e e1 e2:CE}{t:CT}{c:CB}{X:Res Fl}{d d1 d2:D}
theorem qL(h:ev F e ρ S=.ok d S1):exs F N (.cons (.ret e) r) ρ S=.ok (.rt d) S1:=by simp[exs,ex,h,Res.bind]
theorem zh:exs F N .nil ρ S=.ok (.nx ρ) S:=by simp[exs]
theorem qm(h:ev F e ρ S=.ok d S1)(f:asg F t d ρ S1=.ok ρ1 S2)(i:exs F N r ρ1 S2=X):exs F N (.cons (.set t e) r) ρ S=X:=by simp[exs,ex,h,f,i,Res.bind]
theorem qaa(h:ev F e ρ S=.ok d S1)(f:exs F N r ρ S1=X):exs F N (.cons (.expr e) r) ρ S=X:=by simp[exs,ex,h,f,Res.bind]
theorem x_no(h:tst F c ρ S=.ok false S1)(f:exs F N r ρ S1=X):exs F N (.cons (.ifs c a .nil) r) ρ S=X:=by simp[exs,ex,h,f,Res.bind]
theorem qbl(h:tst F c ρ S=.ok true S1)(f:exs F N a ρ S1=.ok (.nx ρ1) S2)(i:exs F N r ρ1 S2=X):exs F N (.cons (.ifs c a b) r) ρ S=X:=by simp[exs,ex,h,f,i,Res.bind]
theorem yV{it:CI}{ds:List D}(h:evI F it ρ S=.ok ds S1)(f:forLoop (λd ρ S=>(asg F t d ρ S).bind λρ1 S1=>exs F N a ρ1 S1) ds ρ S1=.ok (.nx ρ1) S2)(i:exs F N r ρ1 S2=X):exs F N (.cons (.forS t it a) r) ρ S=X:=by
 simp only[exs,ex,h,Res.bind]at f ⊢
 rw[f]
 exact i
theorem qR{f:CF}{l:List D}(i:l.length=f.np)(h:exs F N f.body (l.map some++List.replicate (f.nn-f.np) none) S=.ok (.rt d) S):callC F N f l S=.ok d S:=by
 simp only[callC,i,wM,h,Res.bind,leave]
 cases f.keeps <;> simp
theorem qdG{f:CF}{l:List D}(i:l.length=f.np)(h:exs F N f.body (l.map some++List.replicate (f.nn-f.np) none) S=.ok (.nx ρ) S):callC F N f l S=.ok .non S:=by
 simp only[callC,i,wM,h,Res.bind,leave]
 cases f.keeps <;> simp
theorem yW{f:CF}{l:List D}(j:l.length=f.np)(m:f.keeps=false)(h:exs F N f.body (l.map some++List.replicate (f.nn-f.np) none) S=.ok (.rt d) (S1++S2))(i:S1.length=S.length)(n:refsLt S.length d=true):callC F N f l S=.ok d S1:=by
 simp only[callC,j,wM,h,Res.bind,leave,m]
 rw[wO (by simp)]
 split
 .rename_i z
  have:S2=[]:=by
   rw[wd,i]at z
   exact wa.mp (by lia)
  rw[this,uC]
 .rw [<-i];simp
theorem qkr{f:CF}{l:List D}(i:l.length=f.np)(j:f.keeps=true)(h:exs F N f.body (l.map some++List.replicate (f.nn-f.np) none) S=.ok (.rt d) S1):callC F N f l S=.ok d S1:=by
 simp only[callC,i,wM,h,Res.bind,leave,j]
theorem qdH{x y:Bool}(h:ev F e1 ρ S=.ok (.bl x) S)(f:ev F e2 ρ S=.ok (.bl y) S):ev F (.and e1 e2) ρ S=.ok (.bl (x&&y)) S:=by
 cases x <;> simp[ev,h,f,Res.bind]
theorem qi{i:Nat}{es:CEs}{l:List D}(h:evs F es ρ S=.ok l S1)(f:F i l S1=.ok d S2):ev F (.call i es) ρ S=.ok d S2:=by simp[ev,h,f,Res.bind]
theorem qC{i:Blt}{es:CEs}{l:List D}(h:evs F es ρ S=.ok l S1)(f:bltD i l S1=.ok d S2):ev F (.blt i es) ρ S=.ok d S2:=by simp[ev,h,f,Res.bind]
theorem qe{es:CEs}{l:List D}(h:ev F e ρ S=.ok d S1)(f:evs F es ρ S1=.ok l S2):evs F (.cons e es) ρ S=.ok (d::l) S2:=by simp[evs,h,f,Res.bind]
theorem qA{o:BOp}(h:ev F e1 ρ S=.ok d1 S1)(f:ev F e2 ρ S1=.ok d2 S2)(i:binD o d1 d2 S2=some d):ev F (.bin o e1 e2) ρ S=.ok d S2:=by simp[ev,h,f,i,Res.bind]
theorem zZ{o:COp}{x:Bool}(h:ev F e1 ρ S=.ok d1 S1)(f:ev F e2 ρ S1=.ok d2 S2)(i:cmpD o d1 d2 S2=some x):ev F (.cmp o e1 e2) ρ S=.ok (.bl x) S2:=by simp[ev,h,f,i,Res.bind]
theorem qw(h:ev F e1 ρ S=.ok d1 S1)(f:ev F e2 ρ S1=.ok d2 S2)(i:idxD S2 d1 d2=some d):ev F (.idx e1 e2) ρ S=.ok d S2:=by simp[ev,h,f,i,Res.bind]
theorem qP{es:CEs}{l:List D}(h:evs F es ρ S=.ok l S1)(f:l.length<=PySem.sizeLine):ev F (.tup es) ρ S=.ok (.tup l) S1:=by simp[ev,h,f,Res.bind]
theorem t_of{x:Bool}(h:ev F e ρ S=.ok (.bl x) S1):tst F (.val e) ρ S=.ok x S1:=by simp[tst,h,Res.bind,truD]
theorem t_no{x:Bool}(h:tst F c ρ S=.ok x S1):tst F (.not c) ρ S=.ok (!x) S1:=by simp[tst,h,Res.bind]
theorem t_or{c2:CB}{x y:Bool}(h:tst F c ρ S=.ok x S)(f:tst F c2 ρ S=.ok y S):tst F (.or c c2) ρ S=.ok (x || y) S:=by
 cases x <;> simp[tst,h,f,Res.bind]
theorem qgo{x:Bool}(h:tst F c ρ S=.ok x S):tsts F (.cons c .nil) ρ S=.ok x S:=by
 cases x <;> simp[tsts,h,Res.bind]
end
theorem qab{a:Type}{g:a->D}{F:Fs}{fr:List Nat}{nt:Nat}{elt:CE}{tg:CT}{it:CI}{ρ:En}{S S1:Sr}{ds:List D}(xs:List a)(R:En->Prop)(b:evI F it ρ S=.ok ds S1)(hd:ds=xs.map g)(h0:R (frE ρ fr nt))(H:∀d∈xs,∀ρ:En,R ρ->∃ρ1,asg F tg (g d) ρ S1=.ok ρ1 S1/\R ρ1/\ev F elt ρ1 S1=.ok (.bl true) S1):
  ev F (.gen .all fr nt elt tg it .nil) ρ S=.ok (.bl true) S1:=by
 have:=jF xs (λ_=>true) R b hd h0 H
 rw[ww.mpr (λ_ _=>rfl)]at this
 exact this
theorem qG{a:Type}(l:List a):l.filter (λ_=>true)=l:=List.filter_eq_self.mpr λ_ _=>rfl
theorem qgp{a:Type}(f:a->D)(p:List a):((p.map f).zip ((p.drop 1).map f)).map (λq=>D.tup [q.1,q.2])=(p.zip (p.drop 1)).map λq=>.tup [f q.1,f q.2]:=by
 rw[List.zip_map,wS];rfl
theorem refsI(k:Nat):∀l:List Int,refsLts k (l.map .int)=true
 |[]=>rfl
 |a::r=>by rw[wI,refsLts,refsI k r];rfl
theorem yB(k:Nat)(l:List Int):refsLt k (tupI l)=true:=refsI k l
theorem zO(k:Nat)(t:Tie):refsLt k (tieD t)=true:=by
 show(refsLt k (tupI t.1)&&(refsLt k (.int t.2)&&true))=true
 rw[yB];rfl
theorem qaR(k:Nat):∀l:List Tie,refsLts k (l.map tieD)=true
 |[]=>rfl
 |a::r=>by rw[wI,refsLts,qaR k r,zO];rfl
theorem qac(k:Nat)(w:Wb):refsLt k (webD w)=true:=by
 show(refsLt k (tupI w.costs)&&(refsLts k (w.ties.map tieD)&&true))=true
 rw[yB,qaR];rfl
theorem zP(l:List Int)(S:Sr):bltD .len [tupI l] S=.ok (.int l.length) S:=by simp[bltD,one,bLen,lenD,tupI]
noncomputable def subB(a p:List Int):Bool:=a.all λx=>p.contains x
noncomputable def tin(w:Wb)(p:List Int):List Tie:=w.ties.filter λt=>subB t.1 p
end RP
namespace RP
open R
theorem jG{a:Int}{n:Nat}(h:a.natAbs<2^n):PySem.Builtin.Int.intBits a<=n:=by
 unfold PySem.Builtin.Int.intBits
 split
 .lia
 .rename_i z
  have b:a.natAbs≠0:=by
   intro e;apply z;simp;lia
  have:=(Nat.log2_lt b).mpr h
  lia
theorem qZ{a b:Int}(h:a.natAbs<2^64):mulOk a b=true:=by
 have:=jG h
 unfold mulOk PySem.shortFactorBits
 have e:decide (PySem.Builtin.Int.intBits a>64)=false:=by simp;lia
 rw[e];rfl
theorem qdI{a b:Int}(h:a.natAbs<2^250)(c:b.natAbs<2^250):mulOk a b=true:=by
 have d:=jG h
 have c:=jG c
 unfold mulOk PySem.Builtin.Int.intTooBig PySem.bitsLine
 have e:decide (((PySem.Builtin.Int.intBits a:Int)+(PySem.Builtin.Int.intBits b:Int))>((2^27:Nat):Int))=false:=by
  rw[uy];norm_cast;lia
 rw[e,Bool.and_false];rfl
theorem qdJ{a b:Int}(h0:0<b)(h:b.natAbs<2^64):divOk a b=true:=by
 have c:=jG h
 unfold divOk PySem.Builtin.divisionGoesByPylong
 unfold PySem.Builtin.Int.intBits at c
 have d:(b == 0)=false:=by rw[vB];lia
 rw[d]at c
 simp only[d,vV,uN]at c ⊢
 have e:decide (b.natAbs.log2 / 30+1>300)=false:=by rw[uy];lia
 simp only[e,Bool.false_and];rfl
theorem bmul{a b:Int}{S:Sr}(h:mulOk a b=true):binD .mul (.int a) (.int b) S=some (.int (a*b)):=by
 simp only[binD,binI];rw[wM h];rfl
theorem badd{a b:Int}{S:Sr}:binD .add (.int a) (.int b) S=some (.int (a+b)):=rfl
noncomputable def pk(S:Sr)(n:Nat)(v:Int):Sr:=S.set n (.lst [.int v])
theorem qu(S:Sr)(n:Nat)(v:Int):(pk S n v).length=S.length:=by simp[pk]
theorem qlY{S:Sr}{n:Nat}(h:n<S.length)(v:Int):(pk S n v)[n]?=some (.lst [.int v]):=by simp[pk,h]
theorem qS{S T:Sr}{n:Nat}(h:n<S.length)(v:Int):pk S n v++T=pk (S++T) n v:=by simp[pk,List.set_append_left _ _ h]
theorem qbm{S:Sr}{n:Nat}{v:Int}(h:S[n]?=some (.lst [.int v])):pk S n v=S:=by
 unfold pk
 apply List.ext_getElem?
 intro i
 rw[List.getElem?_set]
 split
 .rename_i e;subst e
  obtain⟨a,_⟩:=wP.mp h
  rw[wM a,h]
 .rfl
theorem qdK{F:Fs}{ρ:En}{S S1:Sr}{es:CEs}{l:List D}(h:evs F es ρ S=.ok l S1)(a:l.length<=1000):ev F (.lst false es) ρ S=.ok (.lst l) S1:=by
 have:l.length<=PySem.sizeLine:=by unfold PySem.sizeLine;lia
 simp[ev,h,this,Res.bind,newL]
theorem qgq{F:Fs}{ρ:En}{S S1:Sr}{es:CEs}{l:List D}(h:evs F es ρ S=.ok l S1)(b:l.length<=1000)(a:refsLts 0 l=true):ev F (.lst true es) ρ S=.ok (.ref S1.length) (S1++[.lst l]):=by
 have:l.length<=PySem.sizeLine:=by unfold PySem.sizeLine;lia
 simp[ev,h,this,Res.bind,newL,a]
theorem qad{body:D->En->Sr->Res Fl}{d:D}{r:List D}{ρ ρ1:En}{S S1:Sr}(h:body d ρ S=.ok (.nx ρ1) S1):forLoop body (d::r) ρ S=forLoop body r ρ1 S1:=by
 simp only[forLoop,h,Res.bind]
theorem zI{c:Type}{g:c->D}{body:D->En->Sr->Res Fl}(P:List c->En->Sr->Prop)(xs:List c){ρ:En}{S:Sr}(h0:P [] ρ S)(H:∀(pre:List c) (x:c) (b:List c) (ρ:En) (S:Sr),xs=pre++x::b->P pre ρ S->∃ρ1 S1,body (g x) ρ S=.ok (.nx ρ1) S1/\P (pre++[x]) ρ1 S1):
  ∃a d,forLoop body (xs.map g) ρ S=.ok (.nx a) d/\P xs a d:=by
 have f:∀(b pre:List c) (ρ:En) (S:Sr),xs=pre++b->P pre ρ S->∃a d,forLoop body (b.map g) ρ S=.ok (.nx a) d/\P xs a d:=by
  intro b
  induction b with
  |nil=>intro pre ρ S e h;rw[uC]at e;subst e;exact⟨ρ,S,rfl,h⟩
  |cons x r i =>
   intro pre ρ S e h
   obtain⟨ρ1,S1,e1,j⟩:=H pre x r ρ S e h
   obtain⟨a,d,l,m⟩:=i (pre++[x]) ρ1 S1 (by rw[e];simp) j
   exact⟨a,d,by rw[wI,qad e1,l],m⟩
 exact f xs [] ρ S rfl h0
theorem qgr{y:Type}{g:y->D}{n:Nat}{bind:D->En->Sr->Res En}{test:En->Sr->Res Bool}{elt:En->Sr->Res D}(R:En->Prop)(I:List D->Sr->Prop)(i:∀ρ S,test ρ S=.ok true S):∀(ds:List y) (f:List D) (ρ:En) (S:Sr),f.length+ds.length<=1000->R ρ->I f S->S.length=n ->
  (∀d∈ds,∀(ρ:En) (m:List D) (S:Sr),R ρ->I m S->S.length=n->m.length<f.length+ds.length->∃ρ1 v j,bind (g d) ρ (S++[.lst m])=.ok ρ1 (S++[.lst m])/\R ρ1/\elt ρ1 (S++[.lst m])=.ok v (j++[.lst m])/\j.length=n/\refsLt 0 v=true/\I (m++[v]) j) ->
  ∃l h j,lcLoop n bind test elt (ds.map g) ρ (S++[.lst f])=.ok l (j++[.lst h])/\I h j/\j.length=n/\h.length=f.length+ds.length
 |[],f,ρ,S,_,_,hI,hn,_=>⟨ρ,f,S,by simp[lcLoop],hI,hn,by simp⟩
 |d::ds,f,ρ,S,hl,hR,hI,hn,H=>by
  obtain⟨ρ1,v,j,e1,p,z,o,A,q⟩:=H d wE ρ f S hR hI hn (by simp)
  simp only[w4]at hl
  rw[wI]
  unfold lcLoop
  have B:appD (j++[.lst f]) (.ref n) v=.ok .non (j++[.lst (f++[v])]):=by
   subst o
   have r:f.length<PySem.sizeLine:=by unfold PySem.sizeLine;lia
   simp[appD,A,r]
  rw[e1,Res.bind_ok,i,Res.bind_ok,wM rfl,z,Res.bind_ok,B,Res.bind_ok]
  obtain⟨l,h,S2,e,s,u,w⟩:=qgr R I i ds (f++[v]) ρ1 j (by simp;lia) p q o λd' hd ρ m S a b c x=>H d' (wH _ hd) ρ m S a b c (by simp at x ⊢;lia)
  exact⟨l,h,S2,e,s,u,by rw[w];simp;lia⟩
theorem qcU{f:Type}{g:f->D}{F:Fs}{fr:List Nat}{nt:Nat}{elt:CE}{tg:CT}{it:CI}{ρ:En}{S S1:Sr}{ds:List D}(xs:List f)(R:En->Prop)(I:List D->Sr->Prop)(i:evI F it ρ S=.ok ds S1)(hd:ds=xs.map g)(h0:R (frE ρ fr nt))(j:xs.length<=1000)(hi:I [] S1)(H:∀d∈xs,∀(ρ:En) (m:List D) (S:Sr),R ρ->I m S->S.length=S1.length->m.length<xs.length->∃ρ1 v b,asg F tg (g d) ρ (S++[.lst m])=.ok ρ1 (S++[.lst m])/\R ρ1/\ev F elt ρ1 (S++[.lst m])=.ok v (b++[.lst m])/\b.length=S1.length/\refsLt 0 v=true/\I (m++[v]) b):
  ∃a b,ev F (.lc false fr nt elt tg it .nil) ρ S=.ok (.lst a) b/\I a b/\b.length=S1.length/\a.length=xs.length:=by
 obtain⟨l,c,b,e,o,h,p⟩:=qgr (n:=S1.length) (bind:=λd ρ S=>asg F tg d ρ S) (test:=λρ S=>tsts F .nil ρ S) (elt:=λρ S=>ev F elt ρ S) R I (λ_ _=>by simp[tsts]) xs [] _ S1 (by simpa using j) h0 hi rfl (by simpa using H)
 refine⟨c,b,?_,o,h,by simpa using p⟩
 simp only[ev,i,Res.bind,hd,e,lcEnd]
 rw[<-h]
 simp
end RP
namespace RP
open R
noncomputable def rI(n:Nat):List Int:=(List.range n).map λ(k:Nat)=>(k:Int)
theorem qE(n:Nat):(rI n).length=n:=by simp[rI]
theorem ql{n:Nat}{x:Int}:x∈rI n ↔ 0<=x/\x<n:=by
 unfold rI
 rw[wX]
 constructor
 .rintro ⟨k,a,rfl⟩;have:=vg.mp a;lia
 .rintro ⟨h0,b⟩;exact⟨x.toNat,vg.mpr (by lia),by lia⟩
theorem yt(n:Nat):(rI n).Nodup:=by
 unfold rI
 exact List.Pairwise.map _ (λa b h e=>h (by lia)) List.nodup_range
theorem qdL(n:Nat):(rI n).Pairwise (· < ·):=by
 unfold rI
 exact List.Pairwise.map _ (λa b h=>by lia) List.pairwise_lt_range
theorem qix(n:Nat):rngL 0 n 1=(rI n).map .int:=by
 unfold rngL rI
 have:(((n:Int)-0+1-1) / 1).toNat=n:=by lia
 rw[this,wS]
 apply we
 intro k _
 simp
theorem qgs{n:Nat}(h:n<=1000):rngD [.int n]=some ((rI n).map .int):=by
 have a:-(2^62)<=(n:Int):=by lia
 have b:(n:Int)<2^62:=by lia
 simp only[rngD,a,b,and_self,wr,qix]
theorem qlZ{n:Nat}(h:n<=1000):((rI n).map D.int).length<=1000000:=by
 rw[wG,qE];exact vI h (by decide)
theorem qcV{b c:Type}(f:b->c):∀(l:List b) (i:Nat),(l.map f).eraseIdx i=(l.eraseIdx i).map f
 |[],_=>by simp
 |a::r,0=>by simp
 |a::r,i+1=>by simp[qcV f r i]
theorem qbn{b:Type}:∀{l:List b} {i:Nat} {x:b},l[i]?=some x->(x::l.eraseIdx i).Perm l
 |[],i,x,h=>by simp at h
 |a::r,0,x,h=>by simp at h;subst h;simp
 |a::r,i+1,x,h=>by
  simp at h
  have:=qbn h
  simp only[List.eraseIdx_cons_succ]
  exact(List.Perm.swap a x _).trans (this.cons a)
theorem qae{l:List Int}(h:l.Nodup):(sortI l).Pairwise (· < ·):=by
 have c:=jY l
 have d:(sortI l).Nodup:=(qU l).nodup_iff.mpr h
 exact(c.and d).imp λ⟨a,b⟩=>by lia
theorem jl{l:List Int}(h:l.length<64):sortL (l.map .int)=some ((sortI l).map .int):=by
 unfold sortL
 rw[wM (by simpa using h),qK]
theorem fm{v m:Int}(h:0<m):0<=v.fmod m/\v.fmod m<m:=⟨wn v h,vf v h⟩
theorem qks{F:Fs}{ρ:En}{S S1:Sr}{es:CEs}{l:List D}{k:Option Bool}(h:evs F es ρ S=.ok l S1){ds:List D}(a:rngD l=some ds)(b:ds.length<=1000000):ev F (.rng k es) ρ S=match k with|some m=>newL m ds S1|none=>.ok (.tup ds) S1:=by
 cases k <;> simp only[ev,h,Res.bind,a,b,wr]
theorem qcW{F:Fs}{ρ:En}{S S1:Sr}{es:CEs}{n:Nat}(h:evs F es ρ S=.ok [.int n] S1)(hn:n<=1000):ev F (.rng (some true) es) ρ S=.ok (.ref S1.length) (S1++[.lst ((rI n).map .int)]):=by
 rw[qks h (qgs hn) (qlZ hn)]
 simp only[newL,refsI,wr]
theorem i_rng{F:Fs}{ρ:En}{S S1:Sr}{es:CEs}{n:Nat}(h:evs F es ρ S=.ok [.int n] S1)(hn:n<=1000):evI F (.rng es) ρ S=.ok ((rI n).map .int) S1:=by
 simp only[evI,h,Res.bind,qgs hn];rfl
theorem qi6{F:Fs}{ρ:En}{S S1 S2 a:Sr}{o i:CE}{x y d:D}(h:ev F o ρ S=.ok x S1)(hi:isLst S1 x=true)(b:ev F i ρ S1=.ok y S2)(c:popD S2 x y=.ok d a):ev F (.popAt o i) ρ S=.ok d a:=by
 simp only[ev,h,Res.bind,hi,wr,b,c]
theorem ql0{F:Fs}{ρ:En}{S S1 S2 a:Sr}{o i:CE}{x y d:D}(h:ev F o ρ S=.ok x S1)(hi:isLst S1 x=true)(b:ev F i ρ S1=.ok y S2)(c:appD S2 x y=.ok d a):ev F (.app o i) ρ S=.ok d a:=by
 simp only[ev,h,Res.bind,hi,wr,b,c]
end RP
namespace RP
open R
noncomputable def ent(t:Tie):List Int×D:=(t.1,.int t.2)
noncomputable def dicD(ts:List Tie):SO:=.dic (ts.map ent)
structure KnOk (many:Nat) (ts:List Tie):Prop where
 nd:(ts.map (·.1)).Nodup
 ok:∀t∈ts,PlOk many t.1/\t.1.length<=4/\1<=t.2/\t.2<=1000000
noncomputable def putTie(k:List Int)(w:Int)(ts:List Tie):List Tie :=
 if ts.any (λt=>decide (t.1=k))then ts.map (λt=>if t.1=k then(t.1,w)else t)else ts++[(k,w)]
theorem qcb(k:List Int)(w:Int)(ts:List Tie):putT k (.int w) (ts.map ent)=(putTie k w ts).map ent:=by
 unfold putT putTie
 have e:(ts.map ent).any (λp=>decide (p.1=k))=ts.any (λt=>decide (t.1=k)):=by rw[List.any_map];rfl
 rw[e]
 split
 .rw [wS,wS]
  apply we
  intro t _
  show(if t.1=k then(t.1,D.int w)else ent t)=ent (if t.1=k then(t.1,w)else t)
  split <;> rfl
 .simp [ent]
theorem KnOk.put{many:Nat}{ts:List Tie}(h:KnOk many ts){k:List Int}{w:Int}(l:PlOk many k)(m:k.length<=4)(f:1<=w)(i:w<=1000000):KnOk many (putTie k w ts)/\(putTie k w ts).length<=ts.length+1:=by
 unfold putTie
 split
 .refine ⟨⟨?_,?_⟩,by simp⟩
  .rw [wS]
   have:ts.map ((·.1)∘λt=>if t.1=k then(t.1,w)else t)=ts.map (·.1):=by
    apply we
    intro t _
    show(if t.1=k then(t.1,w)else t).1=t.1
    split <;> rfl
   rw[this];exact h.nd
  .intro t d
   obtain⟨s,c,rfl⟩:=wX.mp d
   split
   .rename_i e;exact⟨(h.ok s c).1,(h.ok s c).2.1,f,i⟩
   .exact h.ok s c
 .rename_i hn
  refine⟨⟨?_,?_⟩,by simp⟩
  .rw [vJ,v7]
   refine⟨h.nd,by simp,λa ha b j e=>?_⟩
   simp at j
   obtain⟨s,c,rfl⟩:=wX.mp ha
   apply hn
   rw[vd]
   exact⟨s,c,by rw[wk,e,j]⟩
  .intro t d
   rcases wu.mp d with z|z
   .exact h.ok t z
   .simp at z;subst z;exact⟨l,m,f,i⟩
noncomputable def look(ts:List Tie)(k:List Int):Int:=match ts with
 |[]=>0
 |t::r=>if t.1=k then t.2 else look r k
theorem yX:∀{ts:List Tie} {k:List Int},k∈ts.map (·.1)->lookT k (ts.map ent)=some (.int (look ts k))/\∃t∈ts,t.1=k/\t.2=look ts k
 |[],k,h=>by simp at h
 |t::r,k,h=>by
  rw[wI]
  show(if t.1=k then some (D.int t.2)else lookT k (r.map ent))=some (.int (if t.1=k then t.2 else look r k))/\∃s∈t::r,s.1=k/\s.2=(if t.1=k then t.2 else look r k)
  by_cases e:t.1=k
  .rw [wM e,wM e];exact⟨rfl,t,wE,e,rfl⟩
  .rw [wO e,wO e]
   have h':k∈r.map (·.1):=by
    rw[wI]at h
    rcases wR.mp h with z|z
    .exact absurd z.symm e
    .exact z
   obtain⟨a,s,c,b⟩:=yX h'
   exact⟨a,s,wH _ c,b⟩
noncomputable def srt(ts:List Tie):List Tie:=(sortT (ts.map (·.1))).map λk=>(k,look ts k)
theorem qgt(ts:List Tie):(srt ts).map (·.1)=sortT (ts.map (·.1)):=by
 unfold srt;rw[wS]
 have:((λt:Tie=>t.1)∘λk=>(k,look ts k))=id:=rfl
 rw[this,List.map_id]
theorem qbo(ts:List Tie):(srt ts).length=ts.length:=by
 unfold srt;rw[wG,(qH _).length_eq,wG]
theorem qgu{many:Nat}{ts:List Tie}(h:KnOk many ts):(∀t∈srt ts,PlOk many t.1/\t.1.length<=4/\1<=t.2/\t.2<=1000000)/\((srt ts).map (·.1)).Pairwise λa b=>HT.lexLt a b=true:=by
 refine⟨λt c=>?_,by rw[qgt];exact yA h.nd⟩
 unfold srt at c
 obtain⟨k,d,rfl⟩:=wX.mp c
 obtain⟨_,s,e,e1,f⟩:=yX ((qH _).mem_iff.mp d)
 have:=h.ok s e
 rw[e1,f]at this
 exact this
theorem qaf:∀l:List (List Int),tupsOf (l.map tupI)=some l
 |[]=>rfl
 |a::r=>by simp[tupsOf,tupI,qK];exact qaf r
theorem qeN{l:List (List Int)}(h:l.length<64)(nd:l.Nodup)(ne:∀t∈l,t≠[]):sortL (l.map tupI)=some ((sortT l).map tupI):=by
 unfold sortL
 rw[wM (by simpa using h)]
 cases l with
 |nil=>rfl
 |cons a r =>
  have:intsOf ((a::r).map tupI)=none:=rfl
  rw[this]
  show(tupsOf ((a::r).map tupI)).bind _=_
  rw[qaf,wQ,wM ⟨nd,ne⟩]
theorem qgv{F:Fs}{ρ:En}{T:Sr}{kx j many:Nat}{ts:List Tie}(a:ρ[kx]?=some (some (.ref j)))(b:T[j]?=some (dicD ts))(h:KnOk many ts)(f:ts.length<64):
  ev F (.blt .tuple (.cons (.lc false [kx] 1 (.tup (.cons (.var 1) (.cons (.idx (.var 0) (.var 1)) .nil))) (.var 1) (.seq (.blt (.sorted false) (.cons (.var kx) .nil))) .nil) .nil)) ρ T=.ok (.tup ((srt ts).map tieD)) T:=by
 have i:ev F (.var kx) ρ T=.ok (.ref j) T:=by simp only[ev,varE,a]
 have n:walkD T (.ref j)=some ((ts.map (·.1)).map tupI):=by
  simp only[walkD,b,dicD,wS];rfl
 have c:bltD (.sorted false) [.ref j] T=.ok (.lst ((sortT (ts.map (·.1))).map tupI)) T:=by
  simp only[bltD,one,bSorted,n,wQ]
  rw[qeN (by simpa using f) h.nd (λt o=>by obtain⟨s,c,rfl⟩:=wX.mp o;exact(h.ok s c).1.ne)]
  rfl
 have d:ev F (.blt (.sorted false) (.cons (.var kx) .nil)) ρ T=.ok (.lst ((sortT (ts.map (·.1))).map tupI)) T:=qC (qe i rfl) c
 have e:=zN (g:=tupI) (F:=F) (fr:=[kx]) (nt:=1) (elt:=.tup (.cons (.var 1) (.cons (.idx (.var 0) (.var 1)) .nil))) (tg:=.var 1) (it:=.seq (.blt (.sorted false) (.cons (.var kx) .nil))) (ifs:=.nil) (ρ:=ρ) (S:=T) (S1:=T) (ds:=(sortT (ts.map (·.1))).map tupI) (sortT (ts.map (·.1))) (λ_=>true) (λk=>tieD (k,look ts k)) (λρ=>∃x,ρ=[some (.ref j),x])
  (by simp only[evI,d,Res.bind]) rfl ⟨none,by simp[frE,a]⟩ (by rw[(qH _).length_eq,wG];unfold PySem.sizeLine;lia) (by
   rintro k p ρ m ⟨x,rfl⟩
   refine⟨_,rfl,⟨_,rfl⟩,rfl,λ_=>⟨qP (l:=[tupI k,.int (look ts k)]) (qe rfl (qe (qw (d1:=.ref j) (d2:=tupI k) rfl rfl ?_) rfl)) (by simp[PySem.sizeLine]),zO _ _⟩⟩
   have q:j<T.length:=(wP.mp b).1
   have:(T++[SO.lst m])[j]?=some (dicD ts):=by rw[wY q,b]
   simp only[idxD,tupI,this,dicD,qK,wQ]
   exact(yX ((qH _).mem_iff.mp p)).1)
 rw[qG]at e
 refine qC (qe e rfl) ?_
 simp only[bltD,one,bTuple,seqOf,lstOf,wZ,ofO]
 unfold srt
 rw[wS];rfl
end RP
namespace RP
open R
noncomputable def deg(T:List Tie)(x:Int):Int:=((T.filter λt=>t.1.contains x).map (·.2)).sum
theorem qiy{p t:List Int}(c:p.Nodup)(d:t.Nodup)(h:∀x∈t,x∈p):(p.filter λx=>t.contains x).length=t.length:=by
 apply List.Perm.length_eq
 refine(List.perm_ext_iff_of_nodup (c.filter _) d).mpr λx=>?_
 rw[wm]
 constructor
 .rintro ⟨_,b⟩;simpa using b
 .intro a;exact⟨h x a,by simpa using a⟩
theorem yu{p:List Int}(h:p.Pairwise (· < ·)):p.Nodup:=h.imp λa=>by lia
end RP
namespace RP
open R
noncomputable def eu:Nat->Int->Int->Int
 |0,a,_=>a
 |n+1,a,b=>if b=0 then a else eu n b (a.fmod b)
theorem qgw:∀(n:Nat) {a b:Int},0<a->0<=b->0<eu n a b
 |0,a,b,ha,_=>ha
 |n+1,a,b,ha,hb=>by
  unfold eu
  split
  .exact ha
  .exact qgw n (by omega) (wn a (by omega))
theorem qi7:∀(n:Nat) {a b m:Int},0<=b->a<=m->b<=m->eu n a b<=m
 |0,a,b,m,_,ha,_=>ha
 |n+1,a,b,m,hb0,ha,hb=>by
  unfold eu
  split
  .exact ha
  .have:=vf a (show 0<b by omega)
   exact qi7 n (wn a (by omega)) hb (by omega)
theorem qcc{n:Nat}{a b:Int}(ha:0<=a)(c:0<b):0<eu (n+1) a b/\eu (n+1) a b<=b:=by
 unfold eu
 rw[wO (by omega)]
 have d:=wn a c
 have e:=vf a c
 exact⟨qgw n c d,qi7 n d (by omega) (by omega)⟩
theorem half{a b:Int}(h:0<b)(c:0<a.fmod b):2*b.fmod (a.fmod b)<b:=by
 have d:=vf a h
 have e:=vf b c
 have f:=wn b c
 have i:=Int.mul_fdiv_add_fmod b (a.fmod b)
 have j:0<b.fdiv (a.fmod b):=by
  rcases Int.lt_or_le 0 (b.fdiv (a.fmod b))with z|z
  .exact z
  .exfalso
   have:a.fmod b*b.fdiv (a.fmod b)<=0:=by
    have:=uZ z (Int.le_of_lt c)
    simpa using this
   omega
 have l:a.fmod b<=a.fmod b*b.fdiv (a.fmod b):=by
  have:=uZ (show(1:Int)<=b.fdiv (a.fmod b) by omega) (Int.le_of_lt c)
  simpa using this
 omega
theorem wl{test:En->Sr->Res Bool}{body:En->Sr->Res Fl}{E:Int->Int->En}{S:Sr}(l:∀a b,test (E a b) S=.ok (!(b == 0)) S)(o:∀a b,0<b->body (E a b) S=.ok (.nx (E b (a.fmod b))) S):∀(k n:Nat) (a b:Int),0<=a->0<=b->b<2^k->2*k+1<=n->whileLoop test body n (E a b) S=.ok (.nx (E (eu n a b) 0)) S:=by
 have stop:∀(n:Nat) (a:Int),0<n->whileLoop test body n (E a 0) S=.ok (.nx (E (eu n a 0) 0)) S:=by
  intro n a h
  cases n with
  |zero=>omega
  |succ n =>
   unfold whileLoop eu
   rw[l,wM rfl];rfl
 have go:∀(n:Nat) (a b:Int),0<b->whileLoop test body (n+1) (E a b) S=whileLoop test body n (E b (a.fmod b)) S:=by
  intro n a b h
  rw[whileLoop,l,Res.bind_ok]
  have:(!(b == 0))=true:=by simp;omega
  rw[wM this,o a b h,Res.bind_ok]
 have d:∀(n:Nat) (a b:Int),0<b->eu (n+1) a b=eu n b (a.fmod b):=λn a b h=>by rw[eu,wO (by omega)]
 intro k
 induction k with
 |zero =>
  intro n a b ha j f hn
  have:b=0:=by simp at f;omega
  subst this
  exact stop n a (by omega)
 |succ k p =>
  intro n a b ha j f hn
  by_cases z:b=0
  .subst z;exact stop n a (by omega)
  .have c:0<b:=by omega
   obtain⟨m,rfl⟩:∃m,n=m+2:=⟨n-2,by omega⟩
   have q:=wn a c
   rw[go _ _ _ c,d _ _ _ c]
   by_cases r:a.fmod b=0
   .rw [r];exact stop _ _ (by omega)
   .have i:0<a.fmod b:=by omega
    rw[go _ _ _ i,d _ _ _ i]
    have s:=half c i
    have e:(2:Int)^(k+1)=2*2^k:=by rw[Int.pow_succ];omega
    exact p m _ _ q (wn b i) (by omega) (by omega)
theorem qbp{F:Fs}{N:Nat}{ρ ρ1:En}{S S1:Sr}{r a:CSs}{c:CB}{X:Res Fl}(h:whileLoop (λρ S=>tst F c ρ S) (λρ S=>exs F N a ρ S) N ρ S=.ok (.nx ρ1) S1)(b:exs F N r ρ1 S1=X):exs F N (.cons (.whileS c a) r) ρ S=X:=by
 simp only[exs,ex,h,Res.bind]
 exact b
theorem bmod{a b:Int}{S:Sr}(h:b≠0):binD .mod (.int a) (.int b) S=some (.int (a.fmod b)):=by
 simp only[binD,binI];rw[wO h];rfl
theorem bdiv{a b:Int}{S:Sr}(h:0<b)(c:b.natAbs<2^64):binD .fdiv (.int a) (.int b) S=some (.int (a.fdiv b)):=by
 simp only[binD,binI];rw[wM (qdJ h c)];rfl
theorem qgx{a:Int}{S:Sr}(h:0<=a):bltD .abs [.int a] S=.ok (.int a) S:=by
 simp only[bltD,one,bAbs];rw[wO (by omega)]
noncomputable def cstI(w:Wb)(x:Int):Int:=w.costs.getD x.toNat 0
noncomputable def price(w:Wb)(p:List Int):Int:=(p.map (cstI w)).sum
theorem yY{w:Wb}{x:Int}{S:Sr}(h:0<=x)(a:x<w.costs.length):idxD S (tupI w.costs) (.int x)=some (.int (cstI w x)):=by
 have b:x.toNat<w.costs.length:=by omega
 have:L2.ixN (w.costs.map D.int).length x=some x.toNat:=by
  unfold L2.ixN;rw[wM h,wG,wM a]
 show(L2.ixN (w.costs.map D.int).length x).bind (λj=>(w.costs.map D.int)[j]?)=_
 rw[this]
 simp only[wQ,wb,cstI,wN,wC b,wZ,Option.getD_some]
theorem qkt{w:Wb}(h:WbOk w){x:Int}(h0:0<=x)(b:x<w.costs.length):1<=cstI w x/\cstI w x<=100:=by
 have a:x.toNat<w.costs.length:=by omega
 unfold cstI
 rw[wN,wC a]
 exact h.c3 _ (uY a)
theorem qgy{f:Int->Int}:∀{l:List Int},(∀x∈l,1<=f x/\f x<=100)->(l.length:Int)<=(l.map f).sum/\(l.map f).sum<=100*l.length
 |[],_=>by simp
 |a::r,h=>by
  have c:=qgy (f:=f) (l:=r) λx b=>h x (wH _ b)
  have d:=h a wE
  simp only[wI,vl,w4]
  omega
theorem qag{w:Wb}{p:List Int}(h:WbOk w)(b:PlOk w.costs.length p):1<=p.length/\p.length<=12:=by
 have e:=qiy (p:=rI w.costs.length) (t:=p) (yt _) (yu b.up) (λx c=>ql.mpr (b.rng x c))
 have d:=uW (λx=>p.contains x) (rI w.costs.length)
 rw[qE]at d
 have:=h.c2
 refine⟨?_,by omega⟩
 cases hz:p with
 |nil=>exact absurd hz b.ne
 |cons a r=>simp
theorem qah{w:Wb}{p:List Int}(h:WbOk w)(a:PlOk w.costs.length p):1<=price w p/\price w p<=1200:=by
 have c:=qag h a
 have d:=qgy (f:=cstI w) (l:=p) λx b=>qkt h (a.rng x b).1 (a.rng x b).2
 unfold price;omega
noncomputable def mass(w:Wb)(p:List Int):Int:=((tin w p).map (·.2)).sum
noncomputable def low(n:Nat)(t b:Int):D:=.tup [.int (t.fdiv (eu n t b)),.int (b.fdiv (eu n t b))]
end RP
namespace RP
open R
end RP
namespace RP
open R
mutual
noncomputable def gd:D->Bool
 | .ref _=>false
 | .tup l=>decide (l.length<=900)&&gds l
 | .lst l=>gds l
 | .non=>true
 | .bl _=>true
 | .int _=>true
 | .str _=>true
 | .emp=>true
noncomputable def gds:List D->Bool
 |[]=>true
 |x::r=>gd x&&gds r
end
mutual
noncomputable def tr:D->Bool
 | .int i=>decide (i.natAbs<=10000000)
 | .tup l=>decide (l.length<=60)&&trs l
 |_=>false
noncomputable def trs:List D->Bool
 |[]=>true
 |x::r=>tr x&&trs r
end
noncomputable def tl:CSs->CSs
 | .cons _ r=>r
 | .nil=>.nil
end RP
namespace RP
open R
@[irreducible] noncomputable def Ok{α:Type}(r:Res α)(Q:α->Sr->Prop):Prop:=∃a S,r=.ok a S/\Q a S
theorem Ok.ex{b:Type}{r:Res b}{Q:b->Sr->Prop}(h:Ok r Q):∃a S,r=.ok a S/\Q a S:=by unfold Ok at h;exact h
theorem Ok.mk{b:Type}{r:Res b}{Q:b->Sr->Prop}(h:∃a S,r=.ok a S/\Q a S):Ok r Q:=by unfold Ok;exact h
theorem qgz{b:Type}{a:b}{S:Sr}{Q:b->Sr->Prop}(h:Q a S):Ok (.ok a S) Q:=.mk ⟨a,S,rfl,h⟩
theorem Ok.of{b:Type}{r:Res b}{a:b}{S:Sr}{Q:b->Sr->Prop}(e:r=.ok a S)(h:Q a S):Ok r Q:=.mk ⟨a,S,e,h⟩
section
variable{F:Fs}{N:Nat}{ρ:En}{S:Sr}{r a b:CSs}{e e1 e2:CE}{t:CT}{c:CB}{Q:Fl->Sr->Prop}{s:CS}
theorem ql1(h:Q (.nx ρ) S):Ok (exs F N .nil ρ S) Q:=by rw[zh];exact qgz h
theorem ql2(h:Ok (ev F e ρ S) λd S1=>Q (.rt d) S1):Ok (exs F N (.cons (.ret e) r) ρ S) Q:=by
 obtain⟨d,S1,e1,f⟩:=h.ex
 rw[qL e1];exact qgz f
theorem ql3(h:Ok (ev F e ρ S) λd S1=>Ok (asg F t d ρ S1) λρ1 S2=>Ok (exs F N r ρ1 S2) Q):Ok (exs F N (.cons (.set t e) r) ρ S) Q:=by
 obtain⟨d,S1,e1,f⟩:=h.ex
 obtain⟨ρ1,S2,e2,i⟩:=f.ex
 rw[qm e1 e2 rfl];exact i
theorem o_no(h:Ok (tst F c ρ S) λx S1=>x=false/\Ok (exs F N r ρ S1) Q):Ok (exs F N (.cons (.ifs c a .nil) r) ρ S) Q:=by
 obtain⟨x,S1,e1,rfl,d⟩:=h.ex
 rw[x_no e1 rfl];exact d
theorem ql4{m:Type}{g:m->D}{it:CI}(P:List m->En->Sr->Prop)(xs:List m)(h:Ok (evI F it ρ S) λds S1=>ds=xs.map g/\P [] ρ S1)(H:∀(pre:List m) (x:m) (j:List m) (ρ:En) (S:Sr),xs=pre++x::j->P pre ρ S->Ok (asg F t (g x) ρ S) λρ1 S1=>Ok (exs F N a ρ1 S1) λf S2=>match f with|.nx l=>P (pre++[x]) l S2|_=>False)(K:∀i n,P xs i n->Ok (exs F N r i n) Q):Ok (exs F N (.cons (.forS t it a) r) ρ S) Q:=by
 obtain⟨ds,S1,e1,rfl,h0⟩:=h.ex
 obtain⟨i,n,e2,p⟩:=zI (g:=g) (body:=λd ρ S=>(asg F t d ρ S).bind λρ1 S1=>exs F N a ρ1 S1) P xs h0 (by
  intro pre x j ρ S q u
  obtain⟨ρ1,S2,v,w⟩:=(H pre x j ρ S q u).ex
  obtain⟨f,y,z,o⟩:=w.ex
  cases f with
  |nx l=>exact⟨l,y,by rw[v,Res.bind_ok,z],o⟩
  |_=>exact o.elim)
 rw[yV e1 e2 rfl]
 exact K i n p
theorem qiz{f:CF}{l:List D}{Q:D->Sr->Prop}(j:l.length=f.np)(m:f.keeps=false)(h:Ok (exs F N f.body (l.map some++List.replicate (f.nn-f.np) none) S) λx S1=>match x with
  | .rt d=>S.length<=S1.length/\refsLt S.length d=true/\Q d (S1.take S.length)
  |_=>False):Ok (callC F N f l S) Q:=by
 obtain⟨x,S1,e1,i⟩:=h.ex
 cases x with
 |rt d =>
  obtain⟨p,n,o⟩:=i
  have:callC F N f l S=.ok d (S1.take S.length):=by
   simp only[callC,j,wM,e1,Res.bind,leave,m]
   rw[wO (by simp)]
   split
   .rename_i z;rw[<-z,List.take_length]
   .first|rfl|rw[wM n]
  rw[this];exact qgz o
 |_=>exact i.elim
end
end RP
namespace RP
open R
theorem qcd(a b:Int)(d:0<b):Int.gcd b (a.fmod b)=Int.gcd a b:=by
 have e:a=a.fmod b+b*a.fdiv b:=by have:=Int.mul_fdiv_add_fmod a b;lia
 have c:Int.gcd a b=Int.gcd (a.fmod b+b*a.fdiv b) b:=by rw[<-e]
 rw[c,Int.gcd_comm b]
 simp
theorem qku:∀(k n:Nat) (a b:Int),0<=a->0<=b->b<2^k->2*k+1<=n->eu n a b=(Int.gcd a b:Int):=by
 have stop:∀(n:Nat) (a:Int),0<=a->0<n->eu n a 0=(Int.gcd a 0:Int):=by
  intro n a ha h
  cases n with
  |zero=>lia
  |succ n=>unfold eu;rw[wM rfl,Int.gcd_zero_right];lia
 have d:∀(n:Nat) (a b:Int),0<b->eu (n+1) a b=eu n b (a.fmod b):=λn a b h=>by rw[eu,wO (by lia)]
 intro k
 induction k with
 |zero =>
  intro n a b ha j f hn
  have:b=0:=by simp at f;lia
  subst this
  exact stop n a ha (by lia)
 |succ k l =>
  intro n a b ha j f hn
  by_cases z:b=0
  .subst z;exact stop n a ha (by lia)
  .have c:0<b:=by lia
   obtain⟨m,rfl⟩:∃m,n=m+2:=⟨n-2,by lia⟩
   have p:=wn a c
   rw[d _ _ _ c,<-qcd a b c]
   by_cases o:a.fmod b=0
   .rw [o];exact stop _ _ (by lia) (by lia)
   .have i:0<a.fmod b:=by lia
    rw[d _ _ _ i,<-qcd b _ i]
    have q:=half c i
    have e:(2:Int)^(k+1)=2*2^k:=by rw[Int.pow_succ];lia
    exact l m _ _ (by lia) (wn b i) (by lia) (by lia)
noncomputable def lw(t b:Int):Int×Int:=(t.fdiv (Int.gcd t b:Int),b.fdiv (Int.gcd t b:Int))
structure Lw (p:Int×Int):Prop where
 pos:1<=p.2
 one:Int.gcd p.1 p.2=1
theorem yC{t b:Int}(a:1<=b):0<Int.gcd t b:=Int.gcd_pos_of_ne_zero_right t (by lia)
theorem qce{t g:Int}(a:0<g)(h:g∣t):t.fdiv g*g=t:=by
 rw[uJ _ (by lia)]
 exact Int.ediv_mul_cancel h
theorem qai{t b:Int}(a:1<=b):(lw t b).1*(Int.gcd t b:Int)=t/\(lw t b).2*(Int.gcd t b:Int)=b :=
 ⟨qce (by have:=yC (t:=t) a;lia) (Int.gcd_dvd_left t b),qce (by have:=yC (t:=t) a;lia) (Int.gcd_dvd_right t b)⟩
theorem jw{t b:Int}(a:1<=b):(lw t b).1*b=t*(lw t b).2:=by
 obtain⟨c,d⟩:=qai (t:=t) a
 calc (lw t b).1*b=(lw t b).1*((lw t b).2*(Int.gcd t b:Int)):=by rw[d]
  _=((lw t b).1*(Int.gcd t b:Int))*(lw t b).2:=by rw[Int.mul_assoc,Int.mul_comm (lw t b).2]
  _=t*(lw t b).2:=by rw[c]
theorem z0{t b:Int}(a:1<=b):Lw (lw t b):=by
 have c:=yC (t:=t) a
 obtain⟨h,d⟩:=qai (t:=t) a
 have e:0<(Int.gcd t b:Int):=by lia
 refine⟨?_,?_⟩
 .rcases Int.lt_or_le 0 (lw t b).2 with z|z
  .exact z
  .exfalso
   have:=vk z (show 0<=(Int.gcd t b:Int) by lia)
   rw[d]at this;lia
 .have e1:(lw t b).1=t / (Int.gcd t b:Int):=uJ _ (by lia)
  have f:(lw t b).2=b / (Int.gcd t b:Int):=uJ _ (by lia)
  rw[e1,f]
  exact Int.gcd_ediv_gcd_ediv_gcd c
theorem qdM{p a b:Int}(h:p∣a*b)(g:Int.gcd p a=1):p∣b:=by
 rw[<-Int.natAbs_dvd_natAbs]at h ⊢
 rw[Int.natAbs_mul]at h
 exact Nat.Coprime.dvd_of_dvd_mul_left (show Nat.Coprime _ _ from g) h
theorem jm{p q:Int×Int}(c:Lw p)(d:Lw q)(h:p.1*q.2=q.1*p.2):p=q:=by
 have d1:p.2∣q.2:=by
  have:p.2∣p.1*q.2:=by rw[h];exact Int.dvd_mul_left _ _
  exact qdM this (by rw[Int.gcd_comm];exact c.one)
 have d2:q.2∣p.2:=by
  have:q.2∣q.1*p.2:=by rw[<-h];exact Int.dvd_mul_left _ _
  exact qdM this (by rw[Int.gcd_comm];exact d.one)
 have f:=c.pos
 have i:=d.pos
 have e:p.2=q.2:=by
  have a:=Int.le_of_dvd (by lia) d1
  have b:=Int.le_of_dvd (by lia) d2
  lia
 have e1:p.1=q.1:=by
  rw[e]at h
  exact Int.eq_of_mul_eq_mul_right (by lia) h
 exact Prod.ext e1 e
end RP
namespace RP
open R
theorem qcf{a b:List Int}(h:a.Perm b):a.sum=b.sum:=by
 induction h with
 |nil=>rfl
 |cons x _ c=>simp[c]
 |swap x y l=>simp;lia
 |trans _ _ d e=>exact d.trans e
theorem qcX:∀{a b:List Int},a.Pairwise (· < ·)->b.Pairwise (· < ·)->(∀x,x∈a ↔ x∈b)->a=b
 |[],[],_,_,_=>rfl
 |[],y::s,_,_,h=>by have:=(h y).mpr wE;simp at this
 |x::r,[],_,_,h=>by have:=(h x).mp wE;simp at this
 |x::r,y::s,h1,h2,h=>by
  obtain⟨f,i⟩:=wy.mp h1
  obtain⟨b1,b2⟩:=wy.mp h2
  have e:x=y:=by
   rcases wR.mp ((h x).mp wE)with z|z
   .exact z
   .rcases wR.mp ((h y).mpr wE)with d|d
    .exact d.symm
    .have:=f y d;have:=b1 x z;lia
  subst e
  have:r=s:=qcX i b2 λq=>by
   constructor
   .intro c
    rcases wR.mp ((h q).mp (wH _ c))with z|z
    .have:=f q c;lia
    .exact z
   .intro c
    rcases wR.mp ((h q).mpr (wH _ c))with z|z
    .have:=b1 q c;lia
    .exact z
  rw[this]
noncomputable def nth(o:List Int)(x:Int):Int:=o.getD x.toNat 0
def InR(many:Nat)(x:Int):Prop:=0<=x/\x<many
theorem jH{o:List Int}{x:Int}(h:0<=x)(b:x<o.length):o[x.toNat]?=some (nth o x):=by
 have a:x.toNat<o.length:=by lia
 unfold nth
 rw[wN,wC a];rfl
section
variable{many:Nat}{o:List Int}(hp:o.Perm (rI many))
include hp
theorem yZ:o.length=many:=by rw[hp.length_eq,qE]
theorem zV{x:Int}(h:InR many x):InR many (nth o x):=by
 have e:=jH (o:=o) h.1 (by rw[yZ hp];exact h.2)
 exact ql.mp (hp.mem_iff.mp (wo e))
theorem y4{x y:Int}(a:InR many x)(b:InR many y)(e:nth o x=nth o y):x=y:=by
 have nd:o.Nodup:=hp.nodup_iff.mpr (yt many)
 have l:=yZ hp
 have e1:=jH (o:=o) a.1 (by rw[l];exact a.2)
 have c:=jH (o:=o) b.1 (by rw[l];exact b.2)
 rw[e,<-c]at e1
 have:=(List.getElem?_inj (by have:=a.1;have:=a.2;lia) nd).mp e1
 have:=a.1;have:=b.1;lia
theorem qaj{j:Int}(h:InR many j):∃x,InR many x/\nth o x=j:=by
 have hm:j∈o:=hp.mem_iff.mpr (ql.mpr h)
 obtain⟨i,hi,e⟩:=va hm
 have l:=yZ hp
 refine⟨i,⟨by lia,by lia⟩,?_⟩
 unfold nth
 rw[wN,show((i:Int)).toNat=i by lia,wC hi,e];rfl
end
noncomputable def cal(o p:List Int):List Int:=sortI (p.map (nth o))
theorem qdN(o p:List Int):(cal o p).length=p.length:=by unfold cal;rw[(qU _).length_eq,wG]
theorem yD{o p:List Int}{y:Int}:y∈cal o p ↔ ∃x∈p,nth o x=y:=by
 unfold cal;rw[(qU _).mem_iff,wX]
section
variable{many:Nat}{o:List Int}(hp:o.Perm (rI many))
include hp
theorem zW{p:List Int}(h:∀x∈p,InR many x){x:Int}(b:InR many x):nth o x∈cal o p ↔ x∈p:=by
 rw[yD]
 constructor
 .rintro ⟨y,a,e⟩
  rw[<-y4 hp (h y a) b e];exact a
 .exact λh=>⟨x,h,rfl⟩
theorem qkv{p:List Int}(h:PlOk many p):PlOk many (cal o p):=by
 refine⟨?_,?_,?_⟩
 .intro e
  have:=qdN o p
  rw[e]at this
  exact h.ne (wa.mp this.symm)
 .intro y b
  obtain⟨x,c,rfl⟩:=yD.mp b
  exact zV hp (h.rng x c)
 .apply qae
  have nd:=yu h.up
  exact v6.mpr ((xN.mp nd).imp λ⟨ha,d,a⟩ e=>a (y4 hp (h.rng _ ha) (h.rng _ d) e))
theorem qiA{a b:List Int}(ha:PlOk many a)(d:PlOk many b)(e:cal o a=cal o b):a=b:=by
 refine qcX ha.up d.up λx=>?_
 constructor
 .intro c
  have f:=(zW hp ha.rng (ha.rng x c)).mpr c
  rw[e]at f
  exact(zW hp d.rng (ha.rng x c)).mp f
 .intro c
  have f:=(zW hp d.rng (d.rng x c)).mpr c
  rw[<-e]at f
  exact(zW hp ha.rng (d.rng x c)).mp f
theorem qiB{a p:List Int}(ha:∀x∈a,InR many x)(h:∀x∈p,InR many x):subB (cal o a) (cal o p)=subB a p:=by
 unfold subB
 rw[vP,ww,ww]
 constructor
 .intro z x b
  have:=z (nth o x) (yD.mpr ⟨x,b,rfl⟩)
  rw[wV]at this ⊢
  exact(zW hp h (ha x b)).mp this
 .intro z y c
  obtain⟨x,b,rfl⟩:=yD.mp c
  have:=z x b
  rw[wV]at this ⊢
  exact(zW hp h (ha x b)).mpr this
end
theorem qgA:∀{ps:List (List Int×Int)} {p:List Int×Int},(ps.map (·.1)).Nodup->p∈ps->atP p.1 ps=p.2
 |[],p,_,h=>by simp at h
 |q::r,p,nd,h=>by
  rw[wI,vS]at nd
  unfold atP
  rcases wR.mp h with z|z
  .subst z;rw[wM rfl]
  .rw [wO (λe=>nd.1 (by rw[e];exact List.mem_map_of_mem z)),qgA nd.2 z]
theorem qcY{ps:List (List Int×Int)}(nd:(ps.map (·.1)).Nodup):(sortP ps).Perm ps:=by
 unfold sortP
 refine((qH _).map _).trans ?_
 rw[wS]
 have:ps.map ((λk=>(k,atP k ps))∘(·.1))=ps.map id:=by
  apply we
  intro p a
  show(p.1,atP p.1 ps)=p
  rw[qgA nd a]
 rw[this,List.map_id]
theorem qcZ(ps:List (List Int×Int)):(sortP ps).map (·.1)=sortT (ps.map (·.1)):=by
 unfold sortP;rw[wS]
 have:((λt:List Int×Int=>t.1)∘λk=>(k,atP k ps))=id:=rfl
 rw[this,List.map_id]
noncomputable def calT1(o:List Int)(t:Tie):Tie:=(cal o t.1,t.2)
noncomputable def calT(o:List Int)(ts:List Tie):List Tie:=sortP (ts.map (calT1 o))
theorem jn{l:List (List Int)}(h:l.Pairwise λa b=>HT.lexLt a b=true):l.Nodup:=h.imp λ{a b} z e=>by
 subst e
 have:∀a:List Int,HT.lexLt a a=false:=λa=>by
  induction a with
  |nil=>rfl
  |cons x r c=>simp[HT.lexLt,c]
 rw[this]at z;cases z
section
variable{w:Wb}(hw:WbOk w){o:List Int}(hp:o.Perm (rI w.costs.length))
include hw hp
theorem qbq:((w.ties.map (calT1 o)).map (·.1)).Nodup:=by
 rw[wS]
 have nd:=jn hw.t3
 have a:=v6.mp nd
 exact v6.mpr ((xN.mp a).imp λ⟨ha,c,b⟩ e=>b (qiA hp (hw.t2 _ ha).1 (hw.t2 _ c).1 e))
theorem jo:(calT o w.ties).Perm (w.ties.map (calT1 o)):=qcY (qbq hw hp)
theorem qdO{cs:List Int}(f:cs.length=w.costs.length)(p:∀x,InR w.costs.length x->nth cs (nth o x)=cstI w x):WbOk ⟨cs,calT o w.ties⟩:=by
 refine⟨by show 1<=cs.length;rw[f];exact hw.c1,by show cs.length<=12;rw[f];exact hw.c2,?_,?_,?_,?_⟩
 .intro c h
  obtain⟨i,hi,e⟩:=va h
  obtain⟨x,l,ex⟩:=qaj hp (j:=i) ⟨by lia,by show(i:Int)<_;have:i<cs.length:=hi;lia⟩
  have n:=p x l
  rw[ex]at n
  have q:nth cs (i:Int)=c:=by
   unfold nth
   rw[wN,show((i:Int)).toNat=i by lia,wC hi,e];rfl
  rw[<-q,n]
  have d:x.toNat<w.costs.length:=by have:=l.1;have:=l.2;lia
  have:cstI w x∈w.costs:=by
   unfold cstI
   rw[wN,wC d]
   exact uY d
  exact hw.c3 _ this
 .show (calT o w.ties).length<=30
  rw[(jo hw hp).length_eq,wG];exact hw.t1
 .intro t r
  have m:t∈w.ties.map (calT1 o):=(jo hw hp).mem_iff.mp r
  obtain⟨s,u,rfl⟩:=wX.mp m
  obtain⟨a,b,c⟩:=hw.t2 s u
  show PlOk cs.length (cal o s.1)/\(cal o s.1).length<=4/\_
  rw[f,qdN]
  exact⟨qkv hp a,b,c⟩
 .show ((calT o w.ties).map (·.1)).Pairwise _
  unfold calT
  rw[qcZ]
  exact yA (qbq hw hp)
theorem qgB{cs p:List Int}(h:PlOk w.costs.length p):(tin ⟨cs,calT o w.ties⟩ (cal o p)).Perm ((tin w p).map (calT1 o)):=by
 unfold tin
 refine((jo hw hp).filter _).trans ?_
 rw[uS]
 have:w.ties.filter ((λt=>subB t.1 (cal o p))∘calT1 o)=w.ties.filter λt=>subB t.1 p:=by
  apply uG
  intro t a
  exact qiB hp (hw.t2 t a).1.rng h.rng
 rw[this]
theorem qgC{cs p:List Int}(h:PlOk w.costs.length p){x:Int}(a:x∈p):deg (tin ⟨cs,calT o w.ties⟩ (cal o p)) (nth o x)=deg (tin w p) x:=by
 unfold deg
 rw[qcf (((qgB hw hp (cs:=cs) h).filter _).map _),uS,wS]
 have:(tin w p).filter ((λt=>t.1.contains (nth o x))∘calT1 o)=(tin w p).filter λt=>t.1.contains x:=by
  apply uG
  intro t b
  have c:=(hw.t2 t (wm.mp b).1).1.rng
  show(cal o t.1).contains (nth o x)=t.1.contains x
  rw[vP,wV,wV]
  exact zW hp c (h.rng x a)
 rw[this];rfl
end
end RP
namespace RP
open R PySem
noncomputable def tx(p:Int×Int):Str:=if p.2=1 then Str.ofString (toString p.1)else Str.ofString (toString p.1)++Str.ofString "/"++Str.ofString (toString p.2)
end RP
namespace RP
open R
noncomputable abbrev NW:Nat:=60
@[irreducible] noncomputable def G(d:Nat):Fs:=run prg NW d
theorem qgD(d:Nat):G d=run prg NW d:=by unfold G;rfl
theorem G_at{d i:Nat}{c:CF}(h:prg[i]?=some c)(l:List D)(S:Sr):G (d+1) i l S=callC (G d) NW c l S:=by
 rw[qgD,qgD]
 show(match prg[i]? with|some c=>callC (run prg NW d) NW c l S|none=>.no)=_
 rw[h]
theorem qc0{d:Nat}{i:Int}{S:Sr}:G (d+1) 0 [.int i] S=.ok (.bl true) S:=by
 rw[G_at (c:=c_0) rfl]
 simp[callC,c_0,Res.bind,exs,ex,ev,varE,isiD,leave]
theorem qT{d:Nat}{i a b:Int}{S:Sr}:G (d+2) 1 [.int i,.int a,.int b] S=.ok (.bl (decide (a<=i)&&decide (i<=b))) S:=by
 rw[G_at (c:=c_1) rfl]
 by_cases h:a<=i <;> simp[callC,c_1,exs,ex,ev,evs,varE,Res.bind,qc0,cmpD,h,leave]
theorem qcg{d:Nat}{p:List Int}{S:Sr}(a:p≠[])(h:p.Pairwise (· < ·)):G (d+1) 11 [tupI p] S=.ok (.bl true) S:=by
 rw[G_at (c:=c_11) rfl]
 have e:evI (G d) (.zip (.var 0) (.slc (.var 0) (.some (.cst (.int 1))) .none)) [some (tupI p)] S=.ok ((p.zip (p.drop 1)).map λq=>.tup [.int q.1,.int q.2]) S:=by
  have:slcD S (tupI p) (some 1) none=some (tupI (p.drop 1)):=by
   unfold slcD tupI
   simp only[cut1];simp
  simp[Res.bind,callC,exs,ex,ev,evs,evO,evI,asg,asgs,tst,tsts,varE,frE,bltD,one,two,leave,ofO,truD,this]
  simp only[tupI,walkF,List.zip_map',List.zip_map,wS]
  simp
 refine qR rfl (qL ?_)
 rw[<-qgn h]
 exact jF (p.zip (p.drop 1)) (λq=>decide (q.1<q.2)) (λρ=>∃x y,ρ=[x,y]) e rfl ⟨_,_,rfl⟩ (by
  rintro q _ ρ ⟨x,y,rfl⟩
  exact⟨_,rfl,⟨_,_,rfl⟩,by simp[Res.bind,callC,exs,ex,ev,evs,evO,evI,asg,asgs,tst,tsts,varE,frE,bltD,one,two,leave,ofO,truD,cmpD]⟩)
theorem qbr{d:Nat}{p:List (List Int)}{S:Sr}(h:p.Pairwise λa b=>HT.lexLt a b=true):G (d+1) 11 [.lst (p.map tupI)] S=.ok (.bl true) S:=by
 rw[G_at (c:=c_11) rfl]
 have e:evI (G d) (.zip (.var 0) (.slc (.var 0) (.some (.cst (.int 1))) .none)) [some (.lst (p.map tupI))] S=.ok ((p.zip (p.drop 1)).map λq=>.tup [tupI q.1,tupI q.2]) S:=by
  have:slcD S (.lst (p.map tupI)) (some 1) none=some (.lst ((p.drop 1).map tupI)):=by
   unfold slcD lstOf
   simp[cut1]
  rw[<-qgp]
  simp only[evI,ev,evO,varE,Res.bind,vZ,this,ofO,walkF]
 refine qR rfl (qL ?_)
 rw[<-qdF h]
 exact jF (p.zip (p.drop 1)) (λq=>HT.lexLt q.1 q.2) (λρ=>∃x y,ρ=[x,y]) e rfl ⟨_,_,rfl⟩ (by
  rintro q _ ρ ⟨x,y,rfl⟩
  exact⟨_,rfl,⟨_,_,rfl⟩,by simp[Res.bind,callC,exs,ex,ev,evs,evO,evI,asg,asgs,tst,tsts,varE,frE,bltD,one,two,leave,ofO,truD,cmpD,tupI,qK]⟩)
theorem qbs{d n:Nat}{p:List Int}{S:Sr}(h:PlOk n p):G (d+3) 10 [tupI p,.int n] S=.ok (.bl true) S:=by
 rw[G_at (c:=c_10) rfl]
 have hn:(List.map D.int p).isEmpty=false:=by
  cases p with
  |nil=>exact absurd rfl h.ne
  |cons a r=>rfl
 refine qR rfl (x_no (S1:=S) ?_ (qL (qdH (x:=true) (y:=true) ?_ ?_)))
 .simp [Res.bind,callC,exs,ex,ev,evs,evO,evI,asg,asgs,tst,tsts,varE,frE,bltD,one,two,leave,ofO,truD,tupI,isiD,hn]
 .exact qab (g:=.int) p (λρ=>∃x,ρ=[some (.int n),x]) rfl rfl ⟨_,rfl⟩ (by
   rintro q b ρ ⟨x,rfl⟩
   have e:=(h.rng q b).1
   have f:q<=(n:Int)-1:=by have:=(h.rng q b).2;omega
   exact⟨_,rfl,⟨_,rfl⟩,by simp[Res.bind,callC,exs,ex,ev,evs,evO,evI,asg,asgs,tst,tsts,varE,frE,bltD,one,two,leave,ofO,truD,binD,binI,qT,e,f]⟩)
 .exact qi rfl (qcg h.ne h.up)
theorem y6{d n:Nat}{p:List Int}{S:Sr}(h:PlOk n p)(a:p.length<=4):G (d+4) 9 [tupI p,.int n] S=.ok (.bl true) S:=by
 rw[G_at (c:=c_9) rfl]
 exact qR rfl (qL (qdH (x:=true) (y:=true) (qi rfl (qbs h)) (zZ (qC rfl (zP _ _)) rfl (by simp[cmpD];omega))))
theorem qgE{d n:Nat}{t:Tie}{S:Sr}(h:PlOk n t.1)(b:t.1.length<=4)(a:1<=t.2/\t.2<=1000000):G (d+5) 8 [tieD t,.int n] S=.ok (.bl true) S:=by
 rw[G_at (c:=c_8) rfl]
 refine qR rfl (x_no (S1:=S) ?_ (qm (d:=tieD t) (S1:=S) rfl (ρ1:=[some (tieD t),some (.int n),some (tupI t.1),some (.int t.2)]) rfl (qL (qdH (x:=true) (y:=true) (qi rfl (y6 h b)) ?_))))
 .simp [Res.bind,callC,exs,ex,ev,evs,evO,evI,asg,asgs,tst,tsts,varE,frE,bltD,one,two,leave,ofO,truD,tieD,isiD,bLen,lenD,cmpD,eqD]
 .simp [Res.bind,callC,exs,ex,ev,evs,evO,evI,asg,asgs,tst,tsts,varE,frE,bltD,one,two,leave,ofO,truD,qT,a.1,a.2]
theorem qc1{d:Nat}{w:Wb}{S:Sr}(h:WbOk w):G (d+6) 7 [.tup (w.ties.map tieD),.int w.costs.length] S=.ok (.bl true) S:=by
 rw[G_at (c:=c_7) rfl]
 refine qR rfl (x_no (S1:=S) ?_ (x_no (S1:=S) (t_no (x:=true) (t_of ?_)) (qL (qi (l:=[.lst ((w.ties.map (·.1)).map tupI)]) (qe ?_ rfl) (qbr h.t3)))))
 .simp [Res.bind,callC,exs,ex,ev,evs,evO,evI,asg,asgs,tst,tsts,varE,frE,bltD,one,two,leave,ofO,truD,isiD,bLen,lenD,cmpD];have:=h.t1;omega
 .exact qab (g:=tieD) w.ties (λρ=>∃x,ρ=[some (.int w.costs.length),x]) rfl rfl ⟨_,rfl⟩ (by
   rintro t e ρ ⟨x,rfl⟩
   obtain⟨a,b,c⟩:=h.t2 t e
   exact⟨_,rfl,⟨_,rfl⟩,qi rfl (qgE a b c)⟩)
 .have:=zN (g:=tieD) (F:=G (d+5)) (fr:=[]) (nt:=2) (elt:=.var 0) (tg:=.tup (.cons (.var 0) (.cons (.var 1) .nil))) (it:=.seq (.var 0)) (ifs:=.nil) (ρ:=[some (.tup (w.ties.map tieD)),some (.int w.costs.length)]) (S:=S) (S1:=S) w.ties (λ_=>true) (λt=>tupI t.1) (λρ=>∃x y,ρ=[x,y]) rfl rfl ⟨_,_,rfl⟩ (by have:=h.t1;unfold PySem.sizeLine;omega) (by
   rintro t e ρ m ⟨x,y,rfl⟩
   exact⟨_,rfl,⟨_,_,rfl⟩,rfl,λ_=>⟨rfl,yB _ t.1⟩⟩)
  rw[qG]at this
  rw[wS]
  exact this
theorem qch{d:Nat}{w:Wb}{S:Sr}(h:WbOk w):G (d+4) 6 [tupI w.costs] S=.ok (.bl true) S:=by
 rw[G_at (c:=c_6) rfl]
 refine qR rfl (x_no (S1:=S) ?_ (qL ?_))
 .have b:(1:Int)<=w.costs.length:=by have:=h.c1;omega
  have e:(w.costs.length:Int)<=12:=by have:=h.c2;omega
  simp[Res.bind,callC,exs,ex,ev,evs,evO,evI,asg,asgs,tst,tsts,varE,frE,bltD,one,two,leave,ofO,truD,tupI,isiD,bLen,lenD,cmpD,b,e]
 .exact qab (g:=.int) w.costs (λρ=>∃x,ρ=[x]) rfl rfl ⟨_,rfl⟩ (by
   rintro q a ρ ⟨x,rfl⟩
   exact⟨_,rfl,⟨_,rfl⟩,by simp[Res.bind,callC,exs,ex,ev,evs,evO,evI,asg,asgs,tst,tsts,varE,frE,bltD,one,two,leave,ofO,truD,qT,(h.c3 q a).1,(h.c3 q a).2]⟩)
theorem qgF{d:Nat}{w:Wb}{S:Sr}(h:WbOk w):G (d+7) 5 [webD w] S=.ok (.bl true) S:=by
 rw[G_at (c:=c_5) rfl]
 refine qR rfl (x_no (S1:=S) ?_ (qm (d:=webD w) (S1:=S) rfl rfl (qL (qdH (x:=true) (y:=true) (qi rfl (qch h)) (qi (l:=[.tup (w.ties.map tieD),.int w.costs.length]) (qe rfl (qe (qC rfl (zP _ _)) rfl)) (qc1 h))))))
 simp[Res.bind,callC,exs,ex,ev,evs,evO,evI,asg,asgs,tst,tsts,varE,frE,bltD,one,two,leave,ofO,truD,webD,isiD,bLen,lenD,cmpD,eqD]
theorem qak{d:Nat}{w:Wb}{S:Sr}(h:WbOk w):G (d+8) 12 [webD w] S=.ok .non S:=by
 rw[G_at (c:=c_12) rfl]
 exact qdG rfl (x_no (S1:=S) (t_no (x:=true) (t_of (qi rfl (qgF h)))) zh)
theorem qiC(x:Int)(p:List Int):inD (.int x) (p.map .int)=some (p.contains x):=by
 have a:(p.map D.int).all flatD=true:=by simp[flatD]
 unfold inD
 rw[a]
 simp only[flatD,Bool.and_self,wr,List.any_map]
 congr 1
 rw[<-List.any_beq']
 rfl
end RP
namespace RP
open R
theorem qiD{d:Nat}{c:Int}{S:Sr}:∃m:Int,0<=m/\m<10^60/\G (d+1) 20 [.int c] S=.ok (.int m) S:=by
 have a:(0:Int)<10^60:=by decide
 have b:=wn c a
 have f:=vf c a
 refine⟨(c.fmod (10^60)*845098040014256830712216258592636193483572396323965406503637).fmod (10^60),wn _ a,vf _ a,?_⟩
 rw[G_at (c:=c_20) rfl]
 refine qR rfl (qL (qA (d1:=.int (c.fmod (10^60)*845098040014256830712216258592636193483572396323965406503637)) (d2:=.int (10^60)) (S1:=S) (qA (d1:=.int (c.fmod (10^60))) (S1:=S) (qA (d1:=.int c) (d2:=.int (10^60)) (S1:=S) rfl rfl rfl) rfl ?_) rfl rfl))
 exact bmul (qdI (by
  have e:(10:Int)^60<2^250:=by decide
  have:(((2:Nat)^250:Nat):Int)=(2:Int)^250:=by norm_cast
  lia) (by decide))
theorem zE{d n:Nat}{v m:Int}{S:Sr}(hn:n<S.length)(h0:0<m)(hm:m.natAbs<2^64):G (d+1) 22 [.ref n,.int m] (pk S n v)=.ok (.int (v.fmod m)) (pk S n (v.fdiv m)):=by
 rw[G_at (c:=c_22) rfl]
 have e:=qlY hn v
 have a:exs (G d) NW c_22.body [some (.ref n),some (.int m),none] (pk S n v)=.ok (.rt (.int (v.fmod m))) (pk S n (v.fdiv m)):=by
  refine qm (d:=.tup [.int (v.fdiv m),.int (v.fmod m)]) (S1:=pk S n v) (qC (qe (qw (d:=.int v) rfl rfl ?_) (qe rfl rfl)) ?_) (ρ1:=[some (.ref n),some (.int m),some (.int (v.fmod m))]) (S2:=pk S n (v.fdiv m)) ?_ (qL rfl)
  .simp [idxD,seqOf,lstOf,e,L2.atI,L2.ixN]
  .simp [bltD,two,bDivmod,qdJ h0 hm]
  .have:putE (pk S n v) (.ref n) (.int 0) (.int (v.fdiv m))=some (pk S n (v.fdiv m)):=by
    simp[putE,putN,e,L2.ixN,refsLt]
    unfold pk;simp
   simp only[asg,asgs,ev,varE,Res.bind,vZ,this]
   rfl
 exact yW (S2:=[]) rfl rfl (by rw[uC];exact a) (by simp[qu]) rfl
theorem qci(l:List Int)(x:Int)(S:Sr):∃c:Int,idxD S (.lst (l.map .int++[.int x])) (.int 0)=some (.int c):=by
 cases l with
 |nil=>exact⟨x,rfl⟩
 |cons a r=>exact⟨a,by simp[idxD,seqOf,lstOf,L2.atI,L2.ixN]⟩
theorem qiE(l:List Int)(a b:Option Int):∃m:List Int,cutD (l.map .int) a b=m.map .int/\m.length<=l.length:=by
 unfold cutD
 rw[wG,<-List.map_drop,<-List.map_take]
 exact⟨_,rfl,by simp;lia⟩
theorem bcat{a b:List D}{S:Sr}(h:a.length+b.length<=1000):binD .add (.lst a) (.lst b) S=some (.lst (a++b)):=by
 have:catOk a b=true:=by unfold catOk PySem.sizeLine;rw[wk];lia
 simp[binD,lstOf,this]
theorem qaS{d:Nat}{ns:List Int}(n:ns.length<=63){k f a:Int}{x y:Option D}{S:Sr}(p:0<=f)(u:f<10^60)(ha:0<=a)(q:a<100):∃m c:Int,0<=m/\m<10^60 /\
  (asg (G (d+1)) (.var 3) (.int a) [some (.lst (ns.map .int)),some (.int k),some (.int f),x,y] S).bind (λρ1 S1=>exs (G (d+1)) NW (.cons (.set (.var 4) (.idx (.bin .add (.slc (.var 0) (.some (.var 3)) (.some (.bin .add (.var 3) (.cst (.int 1))))) (.lst false (.cons (.bin .add (.bin .add (.bin .mul (.cst (.int 5701)) (.var 3)) (.cst (.int 43))) (.bin .mul (.cst (.int 7)) (.idx (.bin .add (.var 0) (.lst false (.cons (.cst (.int 0)) .nil))) (.cst (.int 0))))) .nil))) (.cst (.int 0)))) (.cons (.set (.var 2) (.bin .add (.bin .mul (.var 2) (.bin .pow (.cst (.int 10)) (.cst (.int 60)))) (.call 20 (.cons (.var 4) .nil)))) .nil)) ρ1 S1)
   = .ok (.nx [some (.lst (ns.map .int)),some (.int k),some (.int (f*10^60+m)),some (.int a),some (.int c)]) S:=by
 obtain⟨x0,b⟩:=qci ns 0 S
 obtain⟨h,i,v⟩:=qiE ns (some a) (some (a+1))
 obtain⟨c,r⟩:=qci h (5701*a+43+7*x0) S
 obtain⟨m,j,l,hm⟩:=qiD (d:=d) (c:=c) (S:=S)
 refine⟨m,c,j,l,?_⟩
 rw[show asg (G (d+1)) (.var 3) (.int a) [some (.lst (ns.map .int)),some (.int k),some (.int f),x,y] S=.ok [some (.lst (ns.map .int)),some (.int k),some (.int f),some (.int a),y] S from rfl,Res.bind_ok]
 refine qm (d:=.int c) (S1:=S) (qw (d1:=.lst (h.map .int++[.int (5701*a+43+7*x0)])) (S1:=S) (qA (d1:=.lst (h.map .int)) (d2:=.lst [.int (5701*a+43+7*x0)]) (S1:=S) ?_ ?_ (bcat (by simp;lia))) rfl r) rfl (qm (d:=.int (f*10^60+m)) (S1:=S) (qA (d1:=.int (f*10^60)) (S1:=S) (qA (d2:=.int (10^60)) (S1:=S) rfl rfl (bmul (qdI ?_ (by decide)))) (qi rfl hm) badd) rfl zh)
 .simp only[ev,evO,varE,Res.bind,vZ,List.getElem?_cons_succ,badd,ofO,slcD,lstOf]
  simp only[wZ,i]
 .have e1:ev (G (d+1)) (.bin .mul (.cst (.int 7)) (.idx (.bin .add (.var 0) (.lst false (.cons (.cst (.int 0)) .nil))) (.cst (.int 0)))) [some (.lst (ns.map .int)),some (.int k),some (.int f),some (.int a),y] S=.ok (.int (7*x0)) S :=
   qA (S1:=S) rfl (qw (d1:=.lst (ns.map .int++[.int 0])) (S1:=S) (qA (d2:=.lst [.int 0]) (S1:=S) rfl rfl (bcat (by simp;lia))) rfl b) (bmul (qZ (by decide)))
  have s:=qA (F:=G (d+1)) (o:=.add) (S:=S) (S1:=S) (e1:=.bin .add (.bin .mul (.cst (.int 5701)) (.var 3)) (.cst (.int 43))) (d1:=.int (5701*a+43)) (qA (S1:=S) (qA (S1:=S) rfl rfl (bmul (qZ (by decide)))) rfl badd) e1 badd
  exact qdK (qe s rfl) (by simp)
 .have e:(10:Int)^60<2^250:=by decide
  have:(((2:Nat)^250:Nat):Int)=(2:Int)^250:=by norm_cast
  lia
theorem qc2{d:Nat}{ns:List Int}(b:ns.length<=63){k:Int}{S:Sr}(o:0<=k)(i:k<90):∃v:Int,0<=v/\G (d+2) 21 [.lst (ns.map .int),.int k] S=.ok (.ref S.length) (S++[.lst [.int v]]):=by
 obtain⟨m,c,j,l,e1⟩:=qaS (d:=d) b (k:=k) (f:=0) (a:=k+1) (x:=none) (y:=none) (S:=S) (Int.le_refl 0) (by decide) (by lia) (by lia)
 obtain⟨m2,c2,e,h,n⟩:=qaS (d:=d) b (k:=k) (f:=0*10^60+m) (a:=k) (x:=some (.int (k+1))) (y:=some (.int c)) (S:=S) (by lia) (by lia) (by lia) (by lia)
 refine⟨(0*10^60+m)*10^60+m2,by lia,?_⟩
 rw[G_at (c:=c_21) rfl]
 refine qkr rfl rfl (qm (d:=.int 0) (S1:=S) rfl (ρ1:=[some (.lst (ns.map .int)),some (.int k),some (.int 0),none,none]) rfl (yV (ds:=[.int (k+1),.int k]) (S1:=S) ?_ (ρ1:=[some (.lst (ns.map .int)),some (.int k),some (.int ((0*10^60+m)*10^60+m2)),some (.int k),some (.int c2)]) (S2:=S) ?_ (qL (qgq rfl (by simp) rfl))))
 .have:ev (G (d+1)) (.lst false (.cons (.bin .add (.var 1) (.cst (.int 1))) (.cons (.var 1) .nil))) [some (.lst (ns.map .int)),some (.int k),some (.int 0),none,none] S=.ok (.lst [.int (k+1),.int k]) S:=qdK (qe (qA (S1:=S) rfl rfl badd) (qe rfl rfl)) (by simp)
  simp only[evI,this,Res.bind]
 .rw [qad e1,qad n];rfl
end RP
namespace RP
open R
theorem qiF{r:Int}(h:0<=r/\r<8)(S:Sr):∃s:Nat,1<=s/\s<=4/\idxD S (.lst [.int 2,.int 2,.int 2,.int 3,.int 3,.int 1,.int 4,.int 2]) (.int r)=some (.int s):=by
 have:r=0\/r=1\/r=2\/r=3\/r=4\/r=5\/r=6\/r=7:=by lia
 rcases this with rfl|rfl|rfl|rfl|rfl|rfl|rfl|rfl
 .exact ⟨2,by decide,by decide,rfl⟩
 .exact ⟨2,by decide,by decide,rfl⟩
 .exact ⟨2,by decide,by decide,rfl⟩
 .exact ⟨3,by decide,by decide,rfl⟩
 .exact ⟨3,by decide,by decide,rfl⟩
 .exact ⟨1,by decide,by decide,rfl⟩
 .exact ⟨4,by decide,by decide,rfl⟩
 .exact ⟨2,by decide,by decide,rfl⟩
theorem qcj{d n many:Nat}{v:Int}{S:Sr}(hn:n<S.length)(K:0<=v)(W:1<=many)(X:many<=60):∃(p:List Int) (u:Int),PlOk many p/\p.length<=4/\0<=u/\G (d+2) 25 [.ref n,.int many] (pk S n v)=.ok (tupI p) (pk S n u):=by
 obtain⟨s,L,M,N⟩:=qiF (fm (v:=v) (m:=8) (by decide)) (pk S n (v.fdiv 8))
 have w:0<=v.fdiv 8:=vO K (by decide)
 have O:(pk S n (v.fdiv 8)).length=S.length:=qu ..
 have j:(if(many:Int)<(s:Int)then(many:Int)else(s:Int))=((min s many:Nat):Int):=by split <;> lia
 obtain⟨h,Y,e,⟨b,a,u,rfl,rfl,z,l⟩,H,A⟩:=qcU (g:=.int) (F:=G (d+1)) (fr:=[3,0]) (nt:=1) (elt:=.popAt (.var 0) (.call 22 (.cons (.var 1) (.cons (.blt .len (.cons (.var 0) .nil)) .nil)))) (tg:=.var 2) (it:=.rng (.cons (.blt .min2 (.cons (.var 2) (.cons (.var 1) .nil))) .nil))
  (ρ:=[some (.ref n),some (.int many),some (.int s),some (.ref S.length),none]) (S:=pk S n (v.fdiv 8)++[.lst ((rI many).map .int)]) (S1:=pk S n (v.fdiv 8)++[.lst ((rI many).map .int)]) (rI (min s many)) (λρ=>∃x,ρ=[some (.ref S.length),some (.ref n),x])
  (λh T=>∃b a u,h=b.map .int/\T=pk S n u++[.lst (a.map .int)]/\0<=u/\(b++a).Perm (rI many))
  (i_rng (n:=min s many) (qe (qC (qe rfl (qe rfl rfl)) (by simp only[bltD,two,bMin,j])) rfl) (by lia)) rfl ⟨_,rfl⟩ (by rw[qE];lia) ⟨[],rI many,_,rfl,rfl,w,.refl _⟩ (by
   rintro q Z ρ m T ⟨x,rfl⟩ ⟨b,a,u,rfl,rfl,z,l⟩ hT hm
   have B:=l.length_eq
   rw[wd,qE]at B
   rw[wG,qE]at hm
   have P:0<a.length:=by lia
   have f:=fm (v:=u) (m:=(a.length:Int)) (by lia)
   have I:=zE (d:=d) (n:=n) (v:=u) (m:=a.length) (S:=(S++[.lst (a.map .int)])++[.lst (b.map .int)]) (by simp;lia) (by lia) (by lia)
   rw[<-qS (by simp;lia),<-qS hn,<-qS (by simp;lia),<-qS hn]at I
   obtain⟨y,J⟩:∃y,a[(u.fmod a.length).toNat]?=some y:=⟨_,wC (by lia)⟩
   refine⟨[some (.ref S.length),some (.ref n),some (.int q)],.int y,pk S n (u.fdiv a.length)++[.lst ((a.eraseIdx (u.fmod a.length).toNat).map .int)],rfl,⟨_,rfl⟩,?_,by simp[qu],rfl,b++[y],a.eraseIdx (u.fmod a.length).toNat,u.fdiv a.length,by simp,rfl,vO z (by lia),?_⟩
   .have i:∀u,(pk S n u++[.lst (a.map .int)]++[.lst (b.map .int)])[S.length]?=some (.lst (a.map .int)):=by
     intro u
     rw[v8,w8 (by rw[qu];lia),qu];simp
    have Q:bltD .len [.ref S.length] (pk S n u++[.lst (a.map .int)]++[.lst (b.map .int)])=.ok (.int a.length) (pk S n u++[.lst (a.map .int)]++[.lst (b.map .int)]):=by
     simp only[bltD,one,bLen,lenD,i,wZ,wG,ofO];rfl
    have R:ev (G (d+1)) (.call 22 (.cons (.var 1) (.cons (.blt .len (.cons (.var 0) .nil)) .nil))) [some (.ref S.length),some (.ref n),some (.int q)] (pk S n u++[.lst (a.map .int)]++[.lst (b.map .int)])=.ok (.int (u.fmod a.length)) (pk S n (u.fdiv a.length)++[.lst (a.map .int)]++[.lst (b.map .int)]) :=
     qi (qe rfl (qe (qC rfl Q) rfl)) I
    have o:popD (pk S n (u.fdiv a.length)++[.lst (a.map .int)]++[.lst (b.map .int)]) (.ref S.length) (.int (u.fmod a.length))=.ok (.int y) (pk S n (u.fdiv a.length)++[.lst ((a.eraseIdx (u.fmod a.length).toNat).map .int)]++[.lst (b.map .int)]):=by
     unfold popD
     simp only[i]
     rw[wM ⟨f.1,by lia⟩,wb,J]
     simp only[wZ]
     rw[qcV,v8,uA _ _ (by rw[qu];lia),qu]
     simp
    have hi:isLst (pk S n u++[.lst (a.map .int)]++[.lst (b.map .int)]) (.ref S.length)=true:=by simp only[isLst,i]
    exact qi6 rfl hi R o
   .rw [v8]
    exact((qbn J).append_left b).trans l)
 have C:b.Nodup:=(v7.mp (l.nodup_iff.mpr (yt many))).1
 have r:∀x∈b,0<=x/\x<many:=λx E=>ql.mp (l.mem_iff.mp (wp _ E))
 rw[wG,qE]at A
 refine⟨sortI b,u,⟨?_,?_,qae C⟩,?_,z,?_⟩
 .intro U
  have:=(qU b).length_eq
  rw[U]at this;simp at this;lia
 .exact λx E=>r x ((qU b).mem_iff.mp E)
 .rw [(qU b).length_eq];lia
 .rw [G_at (c:=c_25) rfl]
  refine yW (S2:=[.lst (a.map .int)]) rfl rfl (qm (d:=.int s) (S1:=pk S n (v.fdiv 8)) (qw (S1:=pk S n v) (d2:=.int (v.fmod 8)) rfl (qi rfl (zE hn (by decide) (by decide))) N) (ρ1:=[some (.ref n),some (.int many),some (.int s),none,none]) rfl (qm (qcW (n:=many) rfl (by lia)) (ρ1:=[some (.ref n),some (.int many),some (.int s),some (.ref S.length),none]) (by rw[O];rfl) (qm e rfl (qL (qC (qe (qC (d:=.lst ((sortI b).map .int)) (S2:=pk S n u++[.lst (a.map .int)]) rfl ?_) rfl) ?_))))) (by rw[qu,qu]) (yB _ _)
  .simp only[bltD,one,bSorted,walkD,wQ]
   rw[jl (by lia)];rfl
  .rfl
end RP
namespace RP
open R
theorem eq0(r:Int)(S:Sr):cmpD .eq (.int r) (.int 0) S=some (r == 0):=rfl
theorem qgG{S:Sr}{j:Nat}{ts:List Tie}{k:List Int}{w:Int}(h:S[j]?=some (dicD ts))(a:ts.length<1000):putE S (.ref j) (tupI k) (.int w)=some (S.set j (dicD (putTie k w ts))):=by
 unfold putE
 rw[wM (show refsLt 0 (D.int w)=true from rfl)]
 simp only[putN,h,dicD,tupI,qK,wQ,wG,a,wr,qcb]
theorem qck{F:Fs}{ρ:En}{S S1 S2 a:Sr}{o i:CE}{x y v:D}(h:ev F o ρ S=.ok x S1)(b:ev F i ρ S1=.ok y S2)(c:putE S2 x y v=some a):asg F (.sub o i) v ρ S=.ok ρ a:=by
 simp only[asg,h,b,c,Res.bind]
def Sm(w:Wb):Prop:=(∀c∈w.costs,c<=5)/\∀t∈w.ties,t.2<=9
theorem qkw{ts:List Tie}{m:Int}(h:∀t∈ts,t.2<=m){k:List Int}{w:Int}(b:w<=m):∀t∈putTie k w ts,t.2<=m:=by
 unfold putTie
 split
 .intro t a
  obtain⟨s,c,rfl⟩:=wX.mp a
  split
  .exact b
  .exact h s c
 .intro t a
  rcases wu.mp a with z|z
  .exact h t z
  .simp at z;subst z;exact b
theorem qkx{ts:List Tie}{m:Int}(h:∀t∈ts,t.2<=m):∀t∈srt ts,t.2<=m:=by
 intro t a
 unfold srt at a
 obtain⟨k,b,rfl⟩:=wX.mp a
 obtain⟨_,s,c,e1,d⟩:=yX ((qH _).mem_iff.mp b)
 show look ts k<=m
 rw[<-d];exact h s c
theorem qcl{d n many:Nat}{v tn:Int}{S:Sr}{cs:List Int}{x0:Option D}(hn:n<S.length)(L:0<=v)(M:1<=many)(Y:many<=12)(N:0<=tn)(Z:tn<=30)(f:cs.length=many)(s:∀c∈cs,1<=c/\c<=100)(z:∀c∈cs,c<=5):∃(w:Wb) (u:Int) (T:Sr),WbOk w/\w.costs.length=many/\Sm w/\(w.ties.length:Int)<=tn/\0<=u /\
  exs (G (d+2)) NW (tl (tl (tl c_26.body))) [some (.ref n),x0,some (.int tn),some (.int many),some (.lst (cs.map .int)),none,none,none] (pk S n v)=.ok (.rt (webD w)) (pk S n u++T):=by
 have hm:0<tn+1:=by lia
 have fr:=fm (v:=v) hm
 obtain⟨c,O⟩:∃c:Nat,v.fmod (tn+1)=c:=⟨(v.fmod (tn+1)).toNat,by lia⟩
 have I:=zE (d:=d+1) (n:=n) (v:=v) (m:=tn+1) (S:=S++[dicD []]) (by simp;lia) hm (by lia)
 rw[<-qS hn,<-qS hn,O]at I
 obtain⟨P,S',Q,x,y,ts,u,rfl,rfl,A,r,i,a⟩:=zI (g:=.int) (body:=λR ρ S=>(asg (G (d+2)) (.var 6) R ρ S).bind λρ1 S1=>exs (G (d+2)) NW (.cons (.set (.var 7) (.call 25 (.cons (.var 0) (.cons (.var 3) .nil)))) (.cons (.set (.sub (.var 5) (.var 7)) (.bin .add (.cst (.int 1)) (.call 22 (.cons (.var 0) (.cons (.cst (.int 9)) .nil))))) .nil)) ρ1 S1)
  (λ(pre:List Int) ρ T=>∃x y ts u,ρ=[some (.ref n),x0,some (.int tn),some (.int many),some (.lst (cs.map .int)),some (.ref S.length),x,y]/\T=pk S n u++[dicD ts]/\0<=u/\KnOk many ts/\ts.length<=pre.length/\∀t∈ts,t.2<=9) (rI c)
  (ρ:=[some (.ref n),x0,some (.int tn),some (.int many),some (.lst (cs.map .int)),some (.ref S.length),none,none]) (S:=pk S n (v.fdiv (tn+1))++[dicD []])
  ⟨_,_,[],_,rfl,rfl,vO L (by lia),⟨List.nodup_nil,λt h=>by simp at h⟩,by simp,by simp⟩ (by
   rintro pre q U ρ T l ⟨x,y,ts,u,rfl,rfl,A,r,i,a⟩
   have o:=congrArg List.length l
   rw[qE,wd,w4]at o
   obtain⟨p,e,W,B,C,J⟩:=qcj (d:=d) (n:=n) (many:=many) (v:=u) (S:=S++[dicD ts]) (by simp;lia) A M (by lia)
   have K:=zE (d:=d+1) (n:=n) (v:=e) (m:=9) (S:=S++[dicD ts]) (by simp;lia) (by decide) (by decide)
   rw[<-qS hn,<-qS hn]at J K
   have f9:=fm (v:=e) (m:=9) (by decide)
   have b:(pk S n (e.fdiv 9)++[dicD ts])[S.length]?=some (dicD ts):=by
    rw[w8 (by rw[qu];lia),qu];simp
   obtain⟨E,X⟩:=r.put (k:=p) (w:=1+e.fmod 9) W B (by lia) (by lia)
   refine⟨[some (.ref n),x0,some (.int tn),some (.int many),some (.lst (cs.map .int)),some (.ref S.length),some (.int q),some (tupI p)],pk S n (e.fdiv 9)++[dicD (putTie p (1+e.fmod 9) ts)],?_,_,_,_,_,rfl,rfl,vO C (by decide),E,by simp;lia,qkw a (by lia)⟩
   rw[show asg (G (d+2)) (.var 6) (.int q) [some (.ref n),x0,some (.int tn),some (.int many),some (.lst (cs.map .int)),some (.ref S.length),x,y] (pk S n u++[dicD ts])=.ok [some (.ref n),x0,some (.int tn),some (.int many),some (.lst (cs.map .int)),some (.ref S.length),some (.int q),y] (pk S n u++[dicD ts])from rfl,Res.bind_ok]
   refine qm (qi rfl J) (ρ1:=[some (.ref n),x0,some (.int tn),some (.int many),some (.lst (cs.map .int)),some (.ref S.length),some (.int q),some (tupI p)]) rfl (qm (qA rfl (qi rfl K) badd) (qck rfl rfl (qgG b (by lia))) ?_)
   rw[uA _ _ (by rw[qu];lia),qu]
   simp[exs])
 obtain⟨F,H⟩:=qgu r
 rw[qE]at i
 refine⟨⟨cs,srt ts⟩,u,[dicD ts],⟨by show 1<=cs.length;lia,by show cs.length<=12;lia,s,by show(srt ts).length<=30;rw[qbo];lia,by show ∀t∈srt ts,PlOk cs.length t.1/\_;rw[f];exact F,H⟩,f,⟨z,qkx a⟩,by show((srt ts).length:Int)<=tn;rw[qbo];lia,A,?_⟩
 have b:(pk S n u++[dicD ts])[S.length]?=some (dicD ts):=by
  rw[w8 (by rw[qu];lia),qu];simp
 refine qm (d:=.ref S.length) (S1:=pk S n v++[dicD []]) ?_ (ρ1:=[some (.ref n),x0,some (.int tn),some (.int many),some (.lst (cs.map .int)),some (.ref S.length),none,none]) rfl (yV (i_rng (n:=c) (qe (qi (qe rfl (qe (qA rfl rfl badd) rfl)) I) rfl) (by lia)) Q (qL (qP (qe (qC (d:=tupI cs) (S2:=pk S n u++[dicD ts]) rfl rfl) (qe (qgv (kx:=5) (j:=S.length) rfl b r (by lia)) rfl)) (by simp[PySem.sizeLine]))))
 have:(pk S n v).length=S.length:=qu ..
 simp only[ev,wr,this];rfl
theorem rep1(m:Nat):rep [D.int 1] (m:Int)=(List.replicate m (1:Int)).map .int:=by
 unfold rep
 have:((m:Int)).toNat=m:=by lia
 rw[this,List.map_replicate]
 induction m with
 |zero=>rfl
 |succ k a =>
  rw[vC,vi,a (by lia),vC];rfl
theorem qi8{d n:Nat}{v mo tn:Int}{S:Sr}(hn:n<S.length)(N:0<=v)(O:1<=mo)(P:mo<=12)(y:0<=tn)(L:tn<=30):∃(w:Wb) (u:Int),WbOk w/\(w.costs.length:Int)<=mo/\Sm w/\(w.ties.length:Int)<=tn/\0<=u/\G (d+3) 26 [.ref n,.int mo,.int tn] (pk S n v)=.ok (webD w) (pk S n u):=by
 have f:=fm (v:=v) (m:=mo) (by lia)
 obtain⟨many,i⟩:∃c:Nat,1+v.fmod mo=c:=⟨(1+v.fmod mo).toNat,by lia⟩
 have E:0<=v.fdiv mo:=vO N (by lia)
 have A:0<=(v.fdiv mo).fdiv 3:=vO E (by decide)
 have a:∀{w:Wb} {u:Int} {T:Sr} {cs:List Int} {v3:Int},exs (G (d+2)) NW (tl (tl c_26.body)) [some (.ref n),some (.int mo),some (.int tn),some (.int many),some (.lst ((List.replicate many (1:Int)).map .int)),none,none,none] (pk S n (v.fdiv mo))=.ok (.rt (webD w)) (pk S n u++T)->G (d+3) 26 [.ref n,.int mo,.int tn] (pk S n v)=.ok (webD w) (pk S n u):=by
  intro w u T cs v3 h
  rw[G_at (c:=c_26) rfl]
  refine yW (S2:=T) rfl rfl (qm (d:=.int many) (S1:=pk S n (v.fdiv mo)) (qA (d2:=.int (v.fmod mo)) (S1:=pk S n v) rfl (qi rfl (zE hn (by lia) (by lia))) (by rw[badd,i])) (ρ1:=[some (.ref n),some (.int mo),some (.int tn),some (.int many),none,none,none,none]) rfl (qm (d:=.lst ((List.replicate many (1:Int)).map .int)) (S1:=pk S n (v.fdiv mo)) (qA (S1:=pk S n (v.fdiv mo)) (qdK rfl (by simp)) rfl ?_) (ρ1:=[some (.ref n),some (.int mo),some (.int tn),some (.int many),some (.lst ((List.replicate many (1:Int)).map .int)),none,none,none]) rfl h)) (by rw[qu,qu]) (qac _ _)
  have:repOk [D.int 1] (many:Int)=true:=by
   unfold repOk PySem.sizeLine
   rw[wk]
   refine⟨by lia,by lia,?_⟩
   simp;lia
  simp only[binD,lstOf]
  rw[wM this,rep1]
 have j:=zE (d:=d+1) (n:=n) (v:=v.fdiv mo) (m:=3) hn (by decide) (by decide)
 by_cases z:((v.fdiv mo).fmod 3)=0
 .rw [z]at j
  obtain⟨b,R,e,⟨cs,Q,rfl,rfl,H,l,o⟩,_,B⟩:=qcU (g:=.int) (F:=G (d+2)) (fr:=[0]) (nt:=1) (elt:=.bin .add (.cst (.int 1)) (.call 22 (.cons (.var 0) (.cons (.cst (.int 5)) .nil)))) (tg:=.var 1) (it:=.rng (.cons (.var 3) .nil))
   (ρ:=[some (.ref n),some (.int mo),some (.int tn),some (.int many),some (.lst ((List.replicate many (1:Int)).map .int)),none,none,none]) (S:=pk S n ((v.fdiv mo).fdiv 3)) (S1:=pk S n ((v.fdiv mo).fdiv 3)) (rI many) (λρ=>∃x,ρ=[some (.ref n),x])
   (λb T=>∃cs u,b=cs.map .int/\T=pk S n u/\0<=u/\(∀c∈cs,(1:Int)<=c/\c<=100)/\∀c∈cs,c<=(5:Int)) (i_rng rfl (by lia)) rfl ⟨_,rfl⟩ (by rw[qE];lia) ⟨[],_,rfl,rfl,A,by simp,by simp⟩ (by
    rintro q U ρ m T ⟨x,rfl⟩ ⟨cs,u,rfl,rfl,C,l,o⟩ _ _
    have M:=zE (d:=d+1) (n:=n) (v:=u) (m:=5) (S:=S++[.lst (cs.map .int)]) (by simp;lia) (by decide) (by decide)
    rw[<-qS hn,<-qS hn]at M
    have W:=fm (v:=u) (m:=5) (by decide)
    refine⟨_,.int (1+u.fmod 5),pk S n (u.fdiv 5),rfl,⟨_,rfl⟩,qA rfl (qi rfl M) badd,by rw[qu,qu],rfl,cs++[1+u.fmod 5],_,by simp,rfl,vO C (by decide),?_,?_⟩
    .intro c p
     rcases wu.mp p with z|z
     .exact l c z
     .simp at z;lia
    .intro c p
     rcases wu.mp p with z|z
     .exact o c z
     .simp at z;lia)
  rw[wG,qE]at B
  obtain⟨w,u,T,I,J,r,s,C,K⟩:=qcl (d:=d) (tn:=tn) (x0:=some (.int mo)) hn H (by lia) (by lia) y L B l o
  refine⟨w,u,I,by lia,r,s,C,a (cs:=cs) (v3:=Q) (qbl (t_of (zZ (qi rfl j) rfl (eq0 _ _))) (qm e rfl zh) K)⟩
 .obtain ⟨w,u,T,I,J,r,s,C,K⟩:=qcl (d:=d) (many:=many) (tn:=tn) (x0:=some (.int mo)) (cs:=List.replicate many 1) hn A (by lia) (by lia) y L (by simp) (by intro c p;rw[List.mem_replicate]at p;lia) (by intro c p;rw[List.mem_replicate]at p;lia)
  refine⟨w,u,I,by lia,r,s,C,a (cs:=[]) (v3:=0) (x_no (t_of (zZ (qi rfl j) rfl ?_)) K)⟩
  rw[eq0,vB.mpr z]
end RP
namespace RP
open R
theorem ql5{d:Nat}{a b:Int}{S:Sr}(ha:0<=a)(f:0<=b)(e:b<2^20):G (d+1) 2 [.int a,.int b] S=.ok (.int (eu NW a b)) S:=by
 rw[G_at (c:=c_2) rfl]
 have h:=wl (S:=S) (test:=λρ S=>tst (G d) (.val (.var 1)) ρ S) (body:=λρ S=>exs (G d) NW (.cons (.set (.tup (.cons (.var 0) (.cons (.var 1) .nil))) (.tup (.cons (.var 1) (.cons (.bin .mod (.var 0) (.var 1)) .nil)))) .nil) ρ S) (E:=λa b=>[some (.int a),some (.int b)]) (λa b=>rfl) (λa b h=>qm (qP (qe rfl (qe (qA rfl rfl (bmod (by omega))) rfl)) (by simp[PySem.sizeLine])) rfl zh) 20 NW a b ha f e (by decide)
 exact qR rfl (qbp h (qL rfl))
theorem qgH{d:Nat}{t b:Int}{S:Sr}(e:0<=t)(h:1<=b)(f:b<2^20):G (d+2) 3 [.int t,.int b] S=.ok (low NW t b) S:=by
 rw[G_at (c:=c_3) rfl]
 have a:=qcc (n:=59) e (show 0<b by omega)
 refine qR rfl (qm (d:=.int (eu NW t b)) (S1:=S) (qi (qe (qC rfl (qgx e)) rfl) (ql5 e (by omega) f)) (ρ1:=[some (.int t),some (.int b),some (.int (eu NW t b))]) rfl (qL (qP (qe (qA rfl rfl (bdiv a.1 (by have:=a.2;show(eu (59+1) t b).natAbs<2^64;omega))) (qe (qA rfl rfl (bdiv a.1 (by have:=a.2;show(eu (59+1) t b).natAbs<2^64;omega))) rfl)) (by simp[PySem.sizeLine]))))
noncomputable def nmD(p:Int×Int):D:=.tup [.int p.1,.int p.2]
theorem qgI{t b:Int}(c:0<=t)(d:1<=b)(a:b<2^20):low NW t b=nmD (lw t b):=by
 unfold low nmD lw
 rw[qku 20 NW t b c (by lia) a (by decide)]
theorem qgJ{d:Nat}{t b:Int}{S:Sr}(c:0<=t)(e:1<=b)(a:b<2^20):G (d+2) 3 [.int t,.int b] S=.ok (nmD (lw t b)) S:=by
 rw[<-qgI c e a];exact qgH c e a
theorem qky{d:Nat}{t b:Int}{S:Sr}(e:0<=t)(j:1<=b)(a:b<2^20):G (d+1) 23 [.int t,.int b] S=.ok (nmD (lw t b)) S:=by
 rw[<-qgI e j a]
 have f:=qcc (n:=59) e (show 0<b by lia)
 have h:=wl (S:=S) (test:=λρ S=>tst (G d) (.val (.cmp .ne (.var 3) (.cst (.int 0)))) ρ S) (body:=λρ S=>exs (G d) NW (.cons (.set (.tup (.cons (.var 2) (.cons (.var 3) .nil))) (.tup (.cons (.var 3) (.cons (.bin .mod (.var 2) (.var 3)) .nil)))) .nil) ρ S) (E:=λx y=>[some (.int t),some (.int b),some (.int x),some (.int y)]) (λx y=>rfl) (λx y h=>qm (qP (qe rfl (qe (qA rfl rfl (bmod (by lia))) rfl)) (by simp[PySem.sizeLine])) rfl zh) 20 NW t b e (by lia) a (by decide)
 have i:cmpD .lt (.int b) (.int 0) S=some false:=by simp only[cmpD];rw[wt (by lia)]
 rw[G_at (c:=c_23) rfl]
 exact qR rfl (qm (qP (qe (qC rfl (qgx e)) (qe (qC rfl (qgx (show 0<=b by lia))) rfl)) (by simp[PySem.sizeLine])) (ρ1:=[some (.int t),some (.int b),some (.int t),some (.int b)]) rfl (qbp h (x_no (t_of (zZ rfl rfl i)) (qL (qP (qe (qA rfl rfl (bdiv f.1 (by have:=f.2;show(eu (59+1) t b).natAbs<2^64;lia))) (qe (qA rfl rfl (bdiv f.1 (by have:=f.2;show(eu (59+1) t b).natAbs<2^64;lia))) rfl)) (by simp[PySem.sizeLine]))))))
structure Nm (p:Int×Int):Prop where
 t:p.1.natAbs<2^60
 b1:1<=p.2
 b2:p.2<2^60
theorem qgK{t b:Int}(a:1<=b):(lw t b).1.natAbs<=t.natAbs:=by
 obtain⟨c,_⟩:=qai (t:=t) a
 have d:=yC (t:=t) a
 have:((lw t b).1*(Int.gcd t b:Int)).natAbs=t.natAbs:=by rw[c]
 rw[Int.natAbs_mul]at this
 rw[<-this]
 exact Nat.le_mul_of_pos_right _ (by lia)
theorem qgL{t b:Int}(c:0<=t)(a:1<=b):0<=(lw t b).1:=by
 obtain⟨d,_⟩:=qai (t:=t) a
 have e:=yC (t:=t) a
 rcases Int.lt_or_le (lw t b).1 0 with z|z
 .have:=Int.mul_neg_of_neg_of_pos z (show(0:Int)<(Int.gcd t b:Int) by lia)
  lia
 .exact z
theorem qi9{t b:Int}(a:1<=b):(lw t b).2<=b:=by
 obtain⟨d,c⟩:=qai (t:=t) a
 have e:=yC (t:=t) a
 have f:=(z0 (t:=t) a).pos
 have:=uZ (show(1:Int)<=(Int.gcd t b:Int) by lia) (show 0<=(lw t b).2 by lia)
 rw[c]at this;lia
theorem qja{t b:Int}(d:t.natAbs<2^60)(a:1<=b)(c:b<2^60):Nm (lw t b):=⟨Nat.lt_of_le_of_lt (qgK a) d,(z0 a).pos,Int.lt_of_le_of_lt (qi9 a) c⟩
noncomputable def und(p q:Int×Int):Bool:=decide (p.1*q.2<q.1*p.2)
theorem zG(p:Int×Int):und p p=false:=by unfold und;rw[wt (by lia)]
theorem y7{d:Nat}{p q:Int×Int}{S:Sr}(a:Nm p)(b:Nm q):G (d+1) 4 [nmD p,nmD q] S=.ok (.bl (und p q)) S:=by
 rw[G_at (c:=c_4) rfl]
 have e:=a.t
 have f:=b.t
 exact qR rfl (qL (zZ (qA (S1:=S) (qw (S1:=S) rfl rfl rfl) (qw (S1:=S) rfl rfl rfl) (bmul (qZ (by lia)))) (qA (S1:=S) (qw (S1:=S) rfl rfl rfl) (qw (S1:=S) rfl rfl rfl) (bmul (qZ (by lia)))) rfl))
theorem qiG{d:Nat}{p q:Int×Int}{S:Sr}(a:Nm p)(b:Nm q):G (d+1) 24 [nmD p,nmD q] S=.ok (.bl (und p q)) S:=by
 rw[G_at (c:=c_24) rfl]
 have e:=a.t
 have f:=b.t
 exact qR rfl (qL (zZ (qA (S1:=S) (qw (S1:=S) rfl rfl rfl) (qw (S1:=S) rfl rfl rfl) (bmul (qZ (by lia)))) (qA (S1:=S) (qw (S1:=S) rfl rfl rfl) (qw (S1:=S) rfl rfl rfl) (bmul (qZ (by lia)))) rfl))
structure Rdl (x:D) (S:Sr) (p:List Int):Prop where
 sq:∀X,seqOf (S++X) x=some (p.map .int)
 rx:∃gd,refX x S=some (p.map .int,gd)/\∀X,gd (S++X)
theorem qkz{S:Sr}{n:Nat}{p:List Int}(h:S[n]?=some (.lst (p.map .int))):Rdl (.ref n) S p:=by
 have b:=(wP.mp h).1
 have a:∀X,(S++X)[n]?=some (.lst (p.map .int)):=λX=>by rw[wY b];exact h
 refine⟨λX=>?_,own n (p.map .int),?_,λX=>a X⟩
 .simp only[seqOf,lstOf,a X]
 .simp only[refX,h]
theorem qcm{b:Type}{g:b->D}{gd:Sr->Prop}{bind:D->En->Sr->Res En}{test:En->Sr->Res Bool}{elt:En->Sr->Res D}{v:b->Int}(R:En->Prop){S:Sr}(c:gd S):∀(ds:List b) (ρ:En) (a:Int),R ρ ->
  (∀d∈ds,∀ρ:En,R ρ->∃ρ1,bind (g d) ρ S=.ok ρ1 S/\R ρ1/\test ρ1 S=.ok true S/\elt ρ1 S=.ok (.int (v d)) S) ->
  genLoopG gd bind test elt (stepG .sum) (finG .sum) (ds.map g) ρ (.int a) S=.ok (.int (a+(ds.map v).sum)) S
 |[],ρ,a,_,_=>by rw[xK];unfold genLoopG;rw[zy c];simp[finG]
 |d::ds,ρ,a,hR,H=>by
  obtain⟨ρ1,e1,e,f,h⟩:=H d wE ρ hR
  rw[wI]
  unfold genLoopG
  rw[zy c,e1,Res.bind_ok,f,Res.bind_ok,wM rfl,h,Res.bind_ok]
  simp only[stepG]
  rw[qcm R c ds ρ1 _ e λd' hd=>H d' (wH _ hd)]
  simp[Int.add_assoc]
theorem qkA{F:Fs}{ρ:En}{S S1:Sr}{w:GW}{fr:List Nat}{nt:Nat}{a e:CE}{t:CT}{b:CBs}{x:D}{ds:List D}{gd:Sr->Prop}{r:Res D}(h:ev F e ρ S=.ok x S1)(c:refX x S1=some (ds,gd))(f:genLoopG gd (λd ρ S=>asg F t d ρ S) (λρ S=>tsts F b ρ S) (λρ S=>ev F a ρ S) (stepG w) (finG w) ds (frE ρ fr nt) (startG w) S1=r):ev F (.genX w fr nt a t e b) ρ S=r:=by
 simp only[ev,h,Res.bind,c];exact f
theorem e_tw{d:Nat}{w:Wb}{x:D}{p:List Int}{S:Sr}(h:WbOk w)(hx:Rdl x S p):G (d+2) 15 [webD w,x] S=.ok (.lst ((tin w p).map tieD)) S:=by
 rw[G_at (c:=c_15) rfl]
 refine qR rfl (qL ?_)
 exact zN (g:=tieD) (S1:=S) w.ties (λt=>subB t.1 p) tieD (λρ=>∃y,ρ=[some x,y]) rfl rfl ⟨_,rfl⟩ (by have:=h.t1;unfold PySem.sizeLine;lia) (by
   rintro t ht ρ m ⟨y,rfl⟩
   refine⟨_,rfl,⟨_,rfl⟩,qgo (t_of ?_),λ_=>⟨rfl,zO _ t⟩⟩
   exact jF (g:=.int) t.1 (λq=>p.contains q) (λρ=>∃y,ρ=[some x,y]) rfl rfl ⟨_,rfl⟩ (by
    rintro q hq ρ ⟨y,rfl⟩
    exact⟨_,rfl,⟨_,rfl⟩,zZ rfl rfl (by show(seqOf (S++[.lst m]) x).bind (inD (.int q))=_;rw[hx.sq,wQ,qiC])⟩))
noncomputable def shr(w:Wb)(p:List Int):Int×Int:=lw (mass w p) (price w p)
end RP
namespace RP
open R
theorem qgM{M:Int}(b:0<=M):∀l:List Tie,(∀t∈l,0<=t.2/\t.2<=M)->0<=(l.map (·.2)).sum/\(l.map (·.2)).sum<=M*l.length
 |[],_=>by simp
 |a::r,h=>by
  have d:=qgM b r λt c=>h t (wH _ c)
  have f:=h a wE
  rw[wI,vl,w4]
  have e:M*((r.length+1:Nat):Int)=M*r.length+M:=by rw[Int.natCast_add,Int.mul_add];simp
  rw[e]
  lia
theorem qal{w:Wb}(h:WbOk w)(p:List Int):(tin w p).length<=30/\∀t∈tin w p,0<=t.2/\t.2<=1000000:=by
 refine⟨vI (uW _ _) h.t1,λt a=>?_⟩
 have:=(h.t2 t (wm.mp a).1).2.2
 lia
theorem qgN{w:Wb}(h:WbOk w)(p:List Int):0<=mass w p/\mass w p<=30000000:=by
 obtain⟨a,b⟩:=qal h p
 have:=qgM (M:=1000000) (by decide) (tin w p) b
 unfold mass
 lia
theorem qdP{T:List Tie}(h:T.length<=30)(a:∀t∈T,0<=t.2/\t.2<=1000000)(x:Int):0<=deg T x/\deg T x<=30000000:=by
 have:=qgM (M:=1000000) (by decide) (T.filter λt=>t.1.contains x) λt b=>a t (wm.mp b).1
 have c:=uW (λt:Tie=>t.1.contains x) T
 unfold deg
 lia
theorem jx{w:Wb}(h:WbOk w){x:Int}(h0:0<=x)(b:x<w.costs.length):1<=cstI w x/\cstI w x<=100:=by
 have a:x.toNat<w.costs.length:=by lia
 refine h.c3 _ ?_
 unfold cstI
 rw[wN,wC a]
 exact uY a
theorem qbt{w:Wb}(h:WbOk w){p:List Int}(e:PlOk w.costs.length p):Nm (shr w p):=by
 obtain⟨a,b⟩:=qgN h p
 obtain⟨c,d⟩:=qah h e
 exact qja (by lia) c (by lia)
noncomputable def rat(w:Wb)(left:List Int)(x:Int):Int×Int:=lw (deg (tin w left) x) (cstI w x)
theorem jp{w:Wb}(h:WbOk w)(left:List Int){x:Int}(h0:0<=x)(i:x<w.costs.length):Nm (rat w left x):=by
 obtain⟨a,b⟩:=qal h left
 obtain⟨c,d⟩:=qdP a b x
 obtain⟨e,f⟩:=jx h h0 i
 exact qja (by lia) e (by lia)
noncomputable abbrev Of:=Int×(Int×Int)
noncomputable def offD(o:Of):D:=.tup [.int o.1,nmD o.2]
noncomputable def offS(r:Int->Int×Int)(a:Of)(x:Int):Of:=if und (r x) a.2 then(x,r x)else a
noncomputable def offP(r:Int->Int×Int):List Int->Of
 |[]=>(0,(0,1))
 |p::ps=>ps.foldl (offS r) (p,r p)
theorem zQ(r:Int->Int×Int){l:List Int}(h:l≠[])(x:Int):offP r (l++[x])=offS r (offP r l) x:=by
 cases l with
 |nil=>exact absurd rfl h
 |cons a l=>simp[offP]
theorem y8(r:Int->Int×Int):∀(n:Nat) (l:List Int),l.length=n->l≠[]->∃x∈l,offP r l=(x,r x):=by
 intro n
 induction n with
 |zero=>intro l h a;exact absurd (wa.mp h) a
 |succ n c =>
  intro l h a
  rcases xL l with rfl|⟨ys,y,rfl⟩
  .exact absurd rfl a
  .rw [xM]at h a ⊢
   by_cases b:ys=[]
   .subst b;exact⟨y,by simp,rfl⟩
   .obtain ⟨x,d,e⟩:=c ys (by simpa using h) b
    rw[zQ r b]
    unfold offS
    split
    .exact ⟨y,by simp,rfl⟩
    .exact ⟨x,by simp[d],e⟩
theorem qgO(T:List Tie)(t:Tie)(x:Int):deg (T++[t]) x=deg T x+if t.1.contains x then t.2 else 0:=by
 unfold deg
 rw[uk,vJ,List.sum_append]
 congr 1
 by_cases h:t.1.contains x=true
 .rw [wM h,vX,wM h];simp
 .rw [wO h,vX,wO h];simp
end RP
namespace RP
open R
noncomputable def dgL(f:Int->Int)(ps:List Int):List ((Int ⊕ PySem.Str)×D):=ps.map λp=>((.inl p:Int ⊕ PySem.Str),.int (f p))
theorem qdQ(f:Int->Int){p:Int}:∀{ps:List Int},p∈ps->lookT (.inl p:Int ⊕ PySem.Str) (dgL f ps)=some (.int (f p))
 |[],h=>by simp at h
 |a::r,h=>by
  show lookT _ (((.inl a:Int ⊕ PySem.Str),D.int (f a))::dgL f r)=_
  unfold lookT
  by_cases e:a=p
  .subst e;rw[wM rfl]
  .rw [wO (by simpa using e)]
   exact qdQ f ((wR.mp h).resolve_left λz=>e z.symm)
theorem qkB(f:Int->Int){p v:Int}{ps:List Int}(h:p∈ps):putT (.inl p:Int ⊕ PySem.Str) (.int v) (dgL f ps)=dgL (λx=>if x=p then v else f x) ps:=by
 unfold putT
 have ha:(dgL f ps).any (λq=>decide (q.1=(.inl p:Int ⊕ PySem.Str)))=true:=by
  rw[vd]
  exact⟨_,List.mem_map_of_mem h,by simp⟩
 rw[wM ha]
 unfold dgL
 rw[wS]
 apply we
 intro x _
 show(if(.inl x:Int ⊕ PySem.Str)=.inl p then((.inl x:Int ⊕ PySem.Str),D.int v)else(.inl x,.int (f x)))=_
 by_cases e:x=p
 .subst e;rw[wM rfl];simp
 .rw [wO (by simpa using e)];simp[e]
theorem qgP:∀(ns:List Int) (a:List Int),(a++ns).Nodup->ns.foldl (λl k=>putT (.inl k:Int ⊕ PySem.Str) (.int 0) l) (dgL (λ_=>0) a)=dgL (λ_=>0) (a++ns)
 |[],a,_=>by simp
 |k::r,a,nd=>by
  have b:k∉a:=λh=>(v7.mp nd).2.2 k h k (by simp) rfl
  have e:putT (.inl k:Int ⊕ PySem.Str) (.int 0) (dgL (λ_=>0) a)=dgL (λ_=>0) (a++[k]):=by
   unfold putT
   have ha:¬(dgL (λ_=>0) a).any (λq=>decide (q.1=(.inl k:Int ⊕ PySem.Str)))=true:=by
    rw[vd]
    rintro⟨q,c,e⟩
    obtain⟨x,d,rfl⟩:=wX.mp c
    simp at e
    exact b (e ▸ d)
   rw[wO ha]
   unfold dgL
   rw[vJ];rfl
  rw[vT,e,qgP r (a++[k]) (by simpa using nd)]
  simp
theorem qiH{ns:List Int}(nd:ns.Nodup):dcKL 0 ns=dgL (λ_=>0) ns:=qgP ns [] (by simpa using nd)
theorem qkC{F:Fs}{N:Nat}{ρ:En}{S c:Sr}{o i e:CE}{r:CSs}{x y:D}{a b:Int}{Y:Res Fl}(d:ev F o ρ S=.ok x S)(f:ev F i ρ S=.ok y S)(h:idkD S x y=some (.int a))(j:ev F e ρ S=.ok (.int b) S)(l:putE S x y (.int (a+b))=some c)(m:exs F N r ρ c=Y):exs F N (.cons (.augK o i e) r) ρ S=Y:=by
 simp only[exs,ex,d,f,h,j,l,Res.bind];exact m
theorem qgQ{F:Fs}{ρ:En}{S S1 S2:Sr}{a i:CE}{x y d:D}(h:ev F a ρ S=.ok x S1)(b:ev F i ρ S1=.ok y S2)(c:idkD S2 x y=some d):ev F (.idk a i) ρ S=.ok d S2:=by
 simp only[ev,h,b,c,Res.bind];rfl
theorem ql6{F:Fs}{ρ:En}{S S1:Sr}{e:CE}{x:D}{ns:List Int}{gd:Sr->Prop}(h:ev F e ρ S=.ok x S1)(a:refX x S1=some (ns.map .int,gd))(b:ns.length<=100)(nd:ns.Nodup):ev F (.dcK 0 e) ρ S=.ok (.ref S1.length) (S1++[.dis (dgL (λ_=>0) ns)]):=by
 simp only[ev,h,Res.bind,a,qK,qiH nd]
 rw[wM (by lia)]
noncomputable abbrev dS(S:Sr)(f:Int->Int)(ps:List Int):Sr:=S++[.dis (dgL f ps)]
theorem qjb(S:Sr)(f:Int->Int)(ps:List Int):(dS S f ps)[S.length]?=some (.dis (dgL f ps)):=by simp[dS]
theorem qc3{S:Sr}{f:Int->Int}{ps:List Int}{p:Int}(h:p∈ps):idkD (dS S f ps) (.ref S.length) (.int p)=some (.int (f p)):=by
 simp only[idkD,qjb,keyD,wQ,qdQ f h]
theorem qkD{S:Sr}{f:Int->Int}{ps:List Int}{p v:Int}(h:p∈ps)(b:ps.length<=100):putE (dS S f ps) (.ref S.length) (.int p) (.int v)=some (dS S (λx=>if x=p then v else f x) ps):=by
 have a:(dgL f ps).length<1000:=by unfold dgL;rw[wG];lia
 unfold putE
 rw[wM (show refsLt 0 (D.int v)=true from rfl)]
 simp only[putN,qjb,keyD,wQ]
 rw[wM a,qkB f h]
 simp[dS]
theorem qam{S:Sr}{f g:Int->Int}{ps:List Int}(h:∀p∈ps,f p=g p):dS S f ps=dS S g ps:=by
 unfold dS dgL
 congr 3
 apply we
 intro x a
 rw[h x a]
theorem qgR{S:Sr}{n:Nat}{l:List Int}{x:Int}{r:List Int}(h:S[n]?=some (.lst (l.map .int)))(a:l=x::r):idxD S (.ref n) (.int 0)=some (.int x):=by
 subst a
 have b:L2.ixN ((x::r).map D.int).length (0:Int)=some 0:=by
  unfold L2.ixN
  rw[wM (by decide),wM (by simp)];rfl
 simp only[idxD,seqOf,lstOf,h,wQ,L2.atI,b]
 rfl
theorem qc4{d n:Nat}{w:Wb}{left:List Int}{S:Sr}(h:WbOk w)(hn:S[n]?=some (.lst (left.map .int)))(u:PlOk w.costs.length left):G (d+3) 17 [tupI w.costs,.lst ((tin w left).map tieD),.ref n] S=.ok (offD (offP (rat w left) left)) S:=by
 have hl:=qag h u
 have nd:=yu u.up
 have W:=(wP.mp hn).1
 have A:∀X,(S++X)[n]?=some (.lst (left.map .int)):=λX=>by rw[wY W];exact hn
 have z2:PySem.sizeLine>=2:=by unfold PySem.sizeLine;lia
 rw[G_at (c:=c_17) rfl]
 obtain⟨T,N⟩:∃T,T=tin w left:=⟨_,rfl⟩
 rw[<-N]
 have B:∀t∈T,t∈w.ties/\subB t.1 left=true:=λt O=>by rw[N]at O;exact wm.mp O
 have C:∀x,lw (deg T x) (cstI w x)=rat w left x:=λx=>by rw[N];rfl
 obtain⟨b1,b2⟩:=qal h left
 rw[<-N]at b1 b2
 obtain⟨ρ1,S1,ef,P,m,a6,rfl,rfl⟩:=zI (g:=tieD) (body:=λE ρ S=>(asg (G (d+2)) (.tup (.cons (.var 5) (.cons (.var 6) .nil))) E ρ S).bind λρ1 S1=>exs (G (d+2)) NW (.cons (.forS (.var 4) (.seq (.var 5)) (.cons (.augK (.var 3) (.var 4) (.var 6)) .nil)) .nil) ρ1 S1)
  (λpre ρ U=>∃a b c,ρ=[some (tupI w.costs),some (.lst (T.map tieD)),some (.ref n),some (.ref S.length),a,b,c,none,none]/\U=dS S (deg pre) left) T (ρ:=[some (tupI w.costs),some (.lst (T.map tieD)),some (.ref n),some (.ref S.length),none,none,none,none,none]) (S:=dS S (deg []) left) ⟨_,_,_,rfl,rfl⟩ (by
   rintro pre t Y ρ U j ⟨a,b,c,rfl,rfl⟩
   obtain⟨O,hs⟩:=B t (by rw[j];simp)
   have Z:∀q∈t.1,q∈left:=λq o=>by
    have:=ww.mp hs q o
    exact wV.mp this
   have H:=yu (h.t2 t O).1.up
   rw[show asg (G (d+2)) (.tup (.cons (.var 5) (.cons (.var 6) .nil))) (tieD t) [some (tupI w.costs),some (.lst (T.map tieD)),some (.ref n),some (.ref S.length),a,b,c,none,none] (dS S (deg pre) left)=.ok [some (tupI w.costs),some (.lst (T.map tieD)),some (.ref n),some (.ref S.length),a,some (tupI t.1),some (.int t.2),none,none] (dS S (deg pre) left)from rfl,Res.bind_ok]
   obtain⟨a9,S2,I,a',rfl,rfl⟩:=zI (g:=D.int) (body:=λE ρ S=>(asg (G (d+2)) (.var 4) E ρ S).bind λρ1 S1=>exs (G (d+2)) NW (.cons (.augK (.var 3) (.var 4) (.var 6)) .nil) ρ1 S1)
    (λs ρ U=>∃a,ρ=[some (tupI w.costs),some (.lst (T.map tieD)),some (.ref n),some (.ref S.length),a,some (tupI t.1),some (.int t.2),none,none]/\U=dS S (λx=>deg pre x+if s.contains x then t.2 else 0) left) t.1 (ρ:=[some (tupI w.costs),some (.lst (T.map tieD)),some (.ref n),some (.ref S.length),a,some (tupI t.1),some (.int t.2),none,none]) (S:=dS S (deg pre) left) ⟨_,rfl,qam λp _=>by simp⟩ (by
     rintro s q su ρ U J ⟨a,rfl,rfl⟩
     have o:q∈left:=Z q (by rw[J];simp)
     have a0:q∉s:=λz=>by
      rw[J]at H
      exact(v7.mp H).2.2 q z q (by simp) rfl
     rw[show asg (G (d+2)) (.var 4) (.int q) [some (tupI w.costs),some (.lst (T.map tieD)),some (.ref n),some (.ref S.length),a,some (tupI t.1),some (.int t.2),none,none] (dS S (λx=>deg pre x+if s.contains x then t.2 else 0) left)=.ok [some (tupI w.costs),some (.lst (T.map tieD)),some (.ref n),some (.ref S.length),some (.int q),some (tupI t.1),some (.int t.2),none,none] (dS S (λx=>deg pre x+if s.contains x then t.2 else 0) left)from rfl,Res.bind_ok]
     refine⟨_,_,qkC rfl rfl (qc3 o) rfl (qkD o (by lia)) zh,_,rfl,qam λx hx=>?_⟩
     have a1:s.contains q=false:=by rw[<-Bool.not_eq_true,wV];exact a0
     by_cases e:x=q
     .subst e
      rw[wM rfl,a1]
      simp
     .rw [wO e]
      have:(s++[q]).contains x=s.contains x:=by
       rw[vP,wV,wV];simp[e]
      rw[this])
   have e3:dS S (λx=>deg pre x+if t.1.contains x then t.2 else 0) left=dS S (deg (pre++[t])) left:=qam λx _=>(qgO pre t x).symm
   rw[e3]at I
   exact⟨_,_,yV (ds:=t.1.map .int) (S1:=dS S (deg pre) left) rfl I zh,_,_,_,rfl,rfl⟩)
 obtain⟨i,ps,l⟩:∃i ps,left=i::ps:=by
  cases left with
  |nil=>exact absurd rfl u.ne
  |cons a r=>exact⟨a,r,rfl⟩
 have v:i∈left:=by rw[l];simp
 have K:∀(x:Int),x∈left->∀U,G (d+2) 3 [.int (deg T x),.int (cstI w x)] U=.ok (nmD (rat w left x)) U:=λx hx U=>by
  obtain⟨Q,q1⟩:=u.rng x hx
  obtain⟨c1,c2⟩:=qdP b1 b2 x
  obtain⟨c3,c4⟩:=jx h Q q1
  rw[<-C]
  exact qgJ c1 c3 (by lia)
 obtain⟨aa,S3,L,ab,a8,rfl,rfl⟩:=zI (g:=D.int) (body:=λE ρ S=>(asg (G (d+2)) (.var 4) E ρ S).bind λρ1 S1=>exs (G (d+2)) NW (.cons (.set (.var 8) (.call 3 (.cons (.idk (.var 3) (.var 4)) (.cons (.idx (.var 0) (.var 4)) .nil)))) (.cons (.ifs (.val (.call 4 (.cons (.var 8) (.cons (.idx (.var 7) (.cst (.int 1))) .nil)))) (.cons (.set (.var 7) (.tup (.cons (.var 4) (.cons (.var 8) .nil)))) .nil) .nil) .nil)) ρ1 S1)
  (λpre ρ U=>∃a b,ρ=[some (tupI w.costs),some (.lst (T.map tieD)),some (.ref n),some (.ref S.length),a,m,a6,some (offD (offP (rat w left) (i::pre))),b]/\U=dS S (deg T) left) ps (ρ:=[some (tupI w.costs),some (.lst (T.map tieD)),some (.ref n),some (.ref S.length),P,m,a6,some (offD (offP (rat w left) [i])),none]) (S:=dS S (deg T) left) ⟨_,_,rfl,rfl⟩ (by
   rintro pre q Y ρ U j ⟨a,b,rfl,rfl⟩
   have o:q∈left:=by rw[l,j];simp
   obtain⟨Q,q1⟩:=u.rng q o
   rw[show asg (G (d+2)) (.var 4) (.int q) [some (tupI w.costs),some (.lst (T.map tieD)),some (.ref n),some (.ref S.length),a,m,a6,some (offD (offP (rat w left) (i::pre))),b] (dS S (deg T) left)=.ok [some (tupI w.costs),some (.lst (T.map tieD)),some (.ref n),some (.ref S.length),some (.int q),m,a6,some (offD (offP (rat w left) (i::pre))),b] (dS S (deg T) left)from rfl,Res.bind_ok]
   have es:ev (G (d+2)) (.call 3 (.cons (.idk (.var 3) (.var 4)) (.cons (.idx (.var 0) (.var 4)) .nil))) [some (tupI w.costs),some (.lst (T.map tieD)),some (.ref n),some (.ref S.length),some (.int q),m,a6,some (offD (offP (rat w left) (i::pre))),b] (dS S (deg T) left)=.ok (nmD (rat w left q)) (dS S (deg T) left):=qi (qe (qgQ rfl rfl (qc3 o)) (qe (qw rfl rfl (yY Q q1)) rfl)) (K q o _)
   obtain⟨y,hy,ey⟩:=y8 (rat w left) _ (i::pre) rfl (by simp)
   have a2:y∈left:=by
    rw[l,j]
    rcases wR.mp hy with z|z
    .simp [z]
    .simp [z]
   obtain⟨y0,y1⟩:=u.rng y a2
   have eu:=y7 (d:=d+1) (S:=dS S (deg T) left) (jp h left Q q1) (show Nm (offP (rat w left) (i::pre)).2 by rw[ey];exact jp h left y0 y1)
   have R:tst (G (d+2)) (.val (.call 4 (.cons (.var 8) (.cons (.idx (.var 7) (.cst (.int 1))) .nil)))) [some (tupI w.costs),some (.lst (T.map tieD)),some (.ref n),some (.ref S.length),some (.int q),m,a6,some (offD (offP (rat w left) (i::pre))),some (nmD (rat w left q))] (dS S (deg T) left)=.ok (und (rat w left q) (offP (rat w left) (i::pre)).2) (dS S (deg T) left):=t_of (qi (qe rfl (qe (qw rfl rfl rfl) rfl)) eu)
   have ec:i::(pre++[q])=(i::pre)++[q]:=rfl
   rw[ec,zQ _ (by simp:i::pre≠[])]
   unfold offS
   cases hu:und (rat w left q) (offP (rat w left) (i::pre)).2 with
   |true =>
    rw[hu]at R
    rw[wM rfl]
    exact⟨_,_,qm es rfl (qbl R (qm (qP (qe rfl (qe rfl rfl)) z2) rfl zh) zh),_,_,rfl,rfl⟩
   |false =>
    rw[hu]at R
    rw[wO (by simp)]
    exact⟨_,_,qm es rfl (x_no R zh),_,_,rfl,rfl⟩)
 rw[<-l]at L
 refine yW (f:=c_17) (S1:=S) (S2:=[.dis (dgL (deg T) left)]) rfl rfl ?_ rfl rfl
 have ed:ev (G (d+2)) (.dcK 0 (.var 2)) [some (tupI w.costs),some (.lst (T.map tieD)),some (.ref n),none,none,none,none,none,none] S=.ok (.ref S.length) (dS S (deg []) left):=by
  have:=ql6 (F:=G (d+2)) (e:=.var 2) (ρ:=[some (tupI w.costs),some (.lst (T.map tieD)),some (.ref n),none,none,none,none,none,none]) (S:=S) (S1:=S) (x:=.ref n) (ns:=left) (gd:=own n (left.map .int)) rfl (by simp only[refX,hn]) (by lia) nd
  refine this.trans ?_
  congr 1
 have e0:∀ρ,ρ[2]?=some (some (.ref n))->ev (G (d+2)) (.idx (.var 2) (.cst (.int 0))) ρ (dS S (deg T) left)=.ok (.int i) (dS S (deg T) left):=λρ a3=>qw (by simp only[ev,varE,a3]) rfl (qgR (A _) l)
 have e7:ev (G (d+2)) (.tup (.cons (.idx (.var 2) (.cst (.int 0))) (.cons (.call 3 (.cons (.idk (.var 3) (.idx (.var 2) (.cst (.int 0)))) (.cons (.idx (.var 0) (.idx (.var 2) (.cst (.int 0)))) .nil))) .nil))) [some (tupI w.costs),some (.lst (T.map tieD)),some (.ref n),some (.ref S.length),P,m,a6,none,none] (dS S (deg T) left)=.ok (offD (offP (rat w left) [i])) (dS S (deg T) left):=by
  have i0:=u.rng i v
  exact qP (qe (e0 _ rfl) (qe (qi (qe (qgQ rfl (e0 _ rfl) (qc3 v)) (qe (qw rfl (e0 _ rfl) (yY i0.1 i0.2)) rfl)) (K i v _)) rfl)) z2
 have a7:evI (G (d+2)) (.seq (.slc (.var 2) (.some (.cst (.int 1))) .none)) [some (tupI w.costs),some (.lst (T.map tieD)),some (.ref n),some (.ref S.length),P,m,a6,some (offD (offP (rat w left) [i])),none] (dS S (deg T) left)=.ok (ps.map .int) (dS S (deg T) left):=by
  have M:slcD (dS S (deg T) left) (.ref n) (some 1) none=some (.lst (ps.map .int)):=by
   simp only[slcD,lstOf,A,wZ,cut1]
   rw[l];rfl
  have:ev (G (d+2)) (.slc (.var 2) (.some (.cst (.int 1))) .none) [some (tupI w.costs),some (.lst (T.map tieD)),some (.ref n),some (.ref S.length),P,m,a6,some (offD (offP (rat w left) [i])),none] (dS S (deg T) left)=.ok (.lst (ps.map .int)) (dS S (deg T) left):=by
   simp only[ev,evO,varE,List.getElem?_cons_succ,vZ,Res.bind,M,ofO]
  simp only[evI,this,Res.bind]
 exact qm ed rfl (yV (ds:=T.map tieD) (S1:=dS S (deg []) left) rfl ef (qm e7 rfl (yV a7 L (qL rfl))))
end RP
namespace RP
open R
noncomputable def stp(w:Wb):Nat->List Int->List Of->List Int->List Of×List Int
 |0,_,ord,best=>(ord,best)
 |_+1,[],ord,best=>(ord,best)
 |k+1,a::l,ord,best=>stp w k ((a::l).erase (offP (rat w (a::l)) (a::l)).1) (ord++[offP (rat w (a::l)) (a::l)]) (if und (shr w best) (shr w (a::l))then a::l else best)
noncomputable abbrev stS(S:Sr)(left:List Int)(ord:List Of):Sr:=S++[.lst (left.map .int),.lst (ord.map offD)]
theorem qcn(S:Sr)(left:List Int)(ord:List Of):(stS S left ord)[S.length]?=some (.lst (left.map .int)):=by simp[stS]
theorem qgS(S:Sr)(left:List Int)(ord:List Of):(stS S left ord)[S.length+1]?=some (.lst (ord.map offD)):=by simp[stS]
theorem qiI{S:Sr}{left:List Int}{ord:List Of}(o:Of)(h:ord.length<=100):appD (stS S left ord) (.ref (S.length+1)) (offD o)=.ok .non (stS S left (ord++[o])):=by
 have a:ord.length<PySem.sizeLine:=by unfold PySem.sizeLine;lia
 simp only[appD,qgS]
 rw[wM ⟨by rw[wG];exact a,rfl⟩]
 simp[stS]
theorem qiJ{S:Sr}{left:List Int}{ord:List Of}{x:Int}(h:x∈left):remD (stS S left ord) (.ref S.length) (.int x)=.ok .non (stS S (left.erase x) ord):=by
 simp only[remD,qcn,qK]
 rw[wM h]
 simp[stS]
theorem ql7{F:Fs}{ρ:En}{S S1 S2 a:Sr}{o i:CE}{x y d:D}(h:ev F o ρ S=.ok x S1)(hi:isLst S1 x=true)(b:ev F i ρ S1=.ok y S2)(c:remD S2 x y=.ok d a):ev F (.rem o i) ρ S=.ok d a:=by
 simp only[ev,h,Res.bind,hi,wr,b,c]
theorem qco{m:Nat}{left:List Int}(h:PlOk m left)(x:Int):left.erase x=[]\/PlOk m (left.erase x):=by
 by_cases e:left.erase x=[]
 .exact .inl e
 .exact .inr ⟨e,λy a=>h.rng y (List.mem_of_mem_erase a),h.up.sublist List.erase_sublist⟩
theorem qgT{m:Nat}{left:List Int}(h:PlOk m left)(r:Int->Int×Int):(offP r left).1∈left:=by
 obtain⟨x,a,e⟩:=y8 r _ left rfl h.ne
 rw[e];exact a
theorem qc5{m:Nat}(h:1<=m):PlOk m (rI m):=⟨λe=>by have:=congrArg List.length e;rw[qE]at this;simp at this;lia,λx a=>ql.mp a,qdL m⟩
theorem qiK{S:Sr}{n:Nat}{p:List Int}(h:S[n]?=some (.lst (p.map .int))):bltD .tuple [.ref n] S=.ok (tupI p) S:=by
 simp only[bltD,one,bTuple,seqOf,lstOf,h,wZ,ofO];rfl
def Agr(w:Wb)(left a:List Int)(part:List Int)(most:Int×Int):Prop:=(part=a/\most=shr w a)\/(most=(-1,1)/\left=a/\left≠[])
theorem qeO{p:Int×Int}(a:0<=p.1)(b:1<=p.2):und (-1,1) p=true:=by unfold und;rw[wk];show -1*p.2<p.1*1;lia
noncomputable abbrev pE(w:Wb)(n:Nat)(part:List Int)(most:Int×Int)(a6 a7 a8:Option D):En:=[some (webD w),some (tupI w.costs),some (.ref n),some (.ref (n+1)),some (tupI part),some (nmD most),a6,a7,a8]
noncomputable def sBody:CSs:=match c_16.body with|.cons _ (.cons _ (.cons _ (.cons _ (.cons _ (.cons (.whileS _ b) _)))))=>b|_=>.nil
theorem qdR{S:Sr}{n:Nat}{p:List Int}(h:S[n]?=some (.lst (p.map .int))):truD S (.ref n)=some (!p.isEmpty):=by
 simp only[truD,lstOf,h,wZ];cases p <;> rfl
theorem qkE{d:Nat}{w:Wb}{S:Sr}{left a part:List Int}{most:Int×Int}{ord:List Of}{a6 a7 a8:Option D}(h:WbOk w)(e:PlOk w.costs.length left)(r:PlOk w.costs.length a)(ha:Agr w left a part most)(s:ord.length<=100):
  ∃u z A,exs (G (d+3)) NW sBody (pE w S.length part most a6 a7 a8) (stS S left ord)=.ok (.nx (pE w S.length (if und (shr w a) (shr w left)then left else a) (shr w (if und (shr w a) (shr w left)then left else a)) u z A)) (stS S (left.erase (offP (rat w left) left).1) (ord++[offP (rat w left) left])):=by
 have h0:=qcn S left ord
 have n:=qkz h0
 obtain⟨m1,m2⟩:=qgN h left
 obtain⟨o,B⟩:=qah h e
 have X:=qag h e
 have C:=e_tw (d:=d+1) (S:=stS S left ord) h n
 obtain⟨gd,E,H⟩:=n.rx
 have I:gd (stS S left ord):=by have:=H [];rwa [uC]at this
 have J:ev (G (d+3)) (.call 3 (.cons (.gen .sum [] 2 (.var 1) (.tup (.cons (.var 0) (.cons (.var 1) .nil))) (.seq (.var 6)) .nil) (.cons (.genX .sum [1] 1 (.idx (.var 0) (.var 1)) (.var 1) (.var 2) .nil) .nil))) (pE w S.length part most (some (.lst ((tin w left).map tieD))) a7 a8) (stS S left ord)=.ok (nmD (shr w left)) (stS S left ord):=by
  have s1:=qiw (g:=tieD) (F:=G (d+3)) (fr:=[]) (nt:=2) (elt:=.var 1) (tg:=.tup (.cons (.var 0) (.cons (.var 1) .nil))) (it:=.seq (.var 6)) (ifs:=.nil) (ρ:=pE w S.length part most (some (.lst ((tin w left).map tieD))) a7 a8) (S:=stS S left ord) (S1:=stS S left ord) (tin w left) (λ_=>true) (·.2) (λρ=>∃x y,ρ=[x,y]) rfl rfl ⟨_,_,rfl⟩ (by
   rintro t Y ρ ⟨x,y,rfl⟩
   exact⟨_,rfl,⟨_,_,rfl⟩,rfl,λ_=>rfl⟩)
  rw[qG]at s1
  have s2:=qcm (g:=D.int) (v:=cstI w) (bind:=λK ρ T=>asg (G (d+3)) (.var 1) K ρ T) (test:=λρ T=>tsts (G (d+3)) .nil ρ T) (elt:=λρ T=>ev (G (d+3)) (.idx (.var 0) (.var 1)) ρ T) (λρ=>∃y,ρ=[some (tupI w.costs),y]) I left [some (tupI w.costs),none] 0 ⟨_,rfl⟩ (by
   rintro q L ρ ⟨y,rfl⟩
   obtain⟨M,q1⟩:=e.rng q L
   exact⟨_,rfl,⟨_,rfl⟩,rfl,qw rfl rfl (yY M q1)⟩)
  rw[Int.zero_add]at s2
  exact qi (qe s1 (qe (qkA rfl E s2) rfl)) (qgJ m1 o (Int.lt_of_le_of_lt B (by decide)))
 have p:=qc4 (d:=d) (S:=stS S left ord) h h0 e
 have f:=qgT e (rat w left)
 have i:=qbt h e
 have j:=qbt h r
 generalize Z:offP (rat w left) left=O at p f ⊢
 have c:∀(pt:List Int) (mo:Int×Int),exs (G (d+3)) NW (tl (tl (tl sBody))) (pE w S.length pt mo (some (.lst ((tin w left).map tieD))) (some (nmD (shr w left))) a8) (stS S left ord)=.ok (.nx (pE w S.length pt mo (some (.lst ((tin w left).map tieD))) (some (nmD (shr w left))) (some (offD O)))) (stS S (left.erase O.1) (ord++[O])):=by
  intro pt mo
  have N:ev (G (d+3)) (.call 17 (.cons (.var 1) (.cons (.var 6) (.cons (.var 2) .nil)))) (pE w S.length pt mo (some (.lst ((tin w left).map tieD))) (some (nmD (shr w left))) a8) (stS S left ord)=.ok (offD O) (stS S left ord):=qi rfl p
  have P:ev (G (d+3)) (.app (.var 3) (.var 8)) (pE w S.length pt mo (some (.lst ((tin w left).map tieD))) (some (nmD (shr w left))) (some (offD O))) (stS S left ord)=.ok .non (stS S left (ord++[O])):=ql0 rfl (by simp only[isLst,qgS]) rfl (qiI O s)
  have l:ev (G (d+3)) (.rem (.var 2) (.idx (.var 8) (.cst (.int 0)))) (pE w S.length pt mo (some (.lst ((tin w left).map tieD))) (some (nmD (shr w left))) (some (offD O))) (stS S left (ord++[O]))=.ok .non (stS S (left.erase O.1) (ord++[O])):=ql7 rfl (by simp only[isLst,qcn]) (qw rfl rfl rfl) (qiJ f)
  exact qm N rfl (qaa P (qaa l zh))
 have m:∃b:Bool,und most (shr w left)=b/\(if b then left else part)=(if und (shr w a) (shr w left)then left else a)/\(if b then shr w left else most)=shr w (if und (shr w a) (shr w left)then left else a)/\Nm most:=by
  rcases ha with ⟨rfl,rfl⟩|⟨rfl,rfl,_⟩
  .refine ⟨_,rfl,rfl,?_,j⟩
   split <;> rfl
  .refine ⟨true,qeO ?_ i.b1,?_,?_,⟨by decide,by decide,by decide⟩⟩
   .exact qgL m1 o
   .rw [zG];simp
   .rw [zG];simp
 obtain⟨b,Q,R,U,W⟩:=m
 have eu:=y7 (d:=d+2) (S:=stS S left ord) W i
 rw[Q]at eu
 rw[<-U,<-R]
 have t1:tst (G (d+3)) (.val (.call 4 (.cons (.var 5) (.cons (.var 7) .nil)))) (pE w S.length part most (some (.lst ((tin w left).map tieD))) (some (nmD (shr w left))) a8) (stS S left ord)=.ok b (stS S left ord):=t_of (qi rfl eu)
 refine⟨some (.lst ((tin w left).map tieD)),some (nmD (shr w left)),some (offD O),?_⟩
 show exs (G (d+3)) NW (.cons (.set (.var 6) (.call 15 (.cons (.var 0) (.cons (.var 2) .nil)))) _) _ _=_
 refine qm (qi rfl C) (ρ1:=pE w S.length part most (some (.lst ((tin w left).map tieD))) a7 a8) rfl (qm J (ρ1:=pE w S.length part most (some (.lst ((tin w left).map tieD))) (some (nmD (shr w left))) a8) rfl ?_)
 cases b with
 |true=>exact qbl t1 (qm (qP (qe (qC rfl (qiK h0)) (qe rfl rfl)) (by simp[PySem.sizeLine])) rfl zh) (c left (shr w left))
 |false=>exact x_no t1 (c part most)
theorem qkF{d:Nat}{w:Wb}{S:Sr}(h:WbOk w):∀(k N:Nat) (left b part:List Int) (most:Int×Int) (ord:List Of) (a6 a7 a8:Option D),left.length=k->k<N->(left=[]\/PlOk w.costs.length left)->PlOk w.costs.length b->Agr w left b part most->ord.length+k<=100 ->
  ∃c n o p,whileLoop (λρ S=>tst (G (d+3)) (.val (.var 2)) ρ S) (λρ S=>exs (G (d+3)) NW sBody ρ S) N (pE w S.length part most a6 a7 a8) (stS S left ord)=.ok (.nx (pE w S.length (stp w k left ord b).2 c n o p)) (stS S [] (stp w k left ord b).1):=by
 intro k
 induction k with
 |zero =>
  intro N left b part most ord a6 a7 a8 m v s u ha y
  have A:left=[]:=wa.mp m
  subst A
  obtain⟨N,rfl⟩:∃M,N=M+1:=⟨N-1,by lia⟩
  have e:part=b:=by
   rcases ha with ⟨rfl,_⟩|⟨_,_,z⟩
   .rfl
   .exact absurd rfl z
  subst e
  refine⟨most,a6,a7,a8,?_⟩
  have t:tst (G (d+3)) (.val (.var 2)) (pE w S.length part most a6 a7 a8) (stS S [] ord)=.ok false (stS S [] ord):=by
   show(Res.ok (D.ref S.length) (stS S [] ord)).bind (λx S1=>ofO (truD S1 x) S1)=_
   rw[Res.bind_ok,qdR (qcn S [] ord)];rfl
  simp only[whileLoop,t,Res.bind]
  rfl
 |succ k B =>
  intro N left b part most ord a6 a7 a8 m v s u ha y
  obtain⟨N,rfl⟩:∃M,N=M+1:=⟨N-1,by lia⟩
  have j:left≠[]:=λz=>by rw[z]at m;simp at m
  have f:=s.resolve_left j
  obtain⟨x0,xs,l⟩:∃x0 xs,left=x0::xs:=by
   cases left with
   |nil=>exact absurd rfl j
   |cons a r=>exact⟨a,r,rfl⟩
  have t:tst (G (d+3)) (.val (.var 2)) (pE w S.length part most a6 a7 a8) (stS S left ord)=.ok true (stS S left ord):=by
   show(Res.ok (D.ref S.length) (stS S left ord)).bind (λx S1=>ofO (truD S1 x) S1)=_
   rw[Res.bind_ok,qdR (qcn S left ord),l];rfl
  obtain⟨n,o,p,C⟩:=qkE (d:=d) (S:=S) (ord:=ord) (a6:=a6) (a7:=a7) (a8:=a8) h f u ha (by lia)
  have q:=qgT f (rat w left)
  have i:PlOk w.costs.length (if und (shr w b) (shr w left)then left else b):=by split <;> assumption
  have E:stp w (k+1) left ord b=stp w k (left.erase (offP (rat w left) left).1) (ord++[offP (rat w left) left]) (if und (shr w b) (shr w left)then left else b):=by rw[l];rfl
  obtain⟨F,H,I,J,K⟩:=B N (left.erase (offP (rat w left) left).1) _ _ _ (ord++[offP (rat w left) left]) n o p (by rw[ut q];lia) (by lia) (qco f _) i (.inl ⟨rfl,rfl⟩) (by rw[wd,ve];lia)
  refine⟨F,H,I,J,?_⟩
  rw[E,<-K]
  simp only[whileLoop,t,Res.bind,C]
  rfl
noncomputable def strD(r:List Of×List Int):D:=.tup [.tup (r.1.map offD),tupI r.2]
noncomputable def strW(w:Wb):List Of×List Int:=stp w w.costs.length (rI w.costs.length) [] (rI w.costs.length)
theorem qaT:∀l:List Of,refsLts 0 (l.map offD)=true
 |[]=>rfl
 |a::r=>by rw[wI,refsLts,qaT r];rfl
theorem qgU(r:List Of×List Int):refsLt 0 (strD r)=true:=by
 show(refsLts 0 (r.1.map offD)&&(refsLts 0 (r.2.map .int)&&true))=true
 rw[qaT,refsI];rfl
theorem qgV{S:Sr}{n:Nat}{l:List Of}(h:S[n]?=some (.lst (l.map offD))):bltD .tuple [.ref n] S=.ok (.tup (l.map offD)) S:=by
 simp only[bltD,one,bTuple,seqOf,lstOf,h,wZ,ofO]
theorem yM{d:Nat}{w:Wb}{S:Sr}(h:WbOk w):G (d+9) 16 [webD w] S=.ok (strD (strW w)) S:=by
 have hm:=h.c2
 have a:=qc5 h.c1
 rw[G_at (c:=c_16) rfl]
 obtain⟨mo,q,r,s,i⟩:=qkF (d:=d+5) (S:=S) h w.costs.length NW (rI w.costs.length) (rI w.costs.length) [] (-1,1) [] none none none (qE _) (by show _<60;lia) (.inr a) a (.inr ⟨rfl,rfl,a.ne⟩) (by simp;lia)
 have e:PySem.sizeLine>=2:=by unfold PySem.sizeLine;lia
 refine yW (f:=c_16) (S1:=S) (S2:=[.lst (([]:List Int).map .int),.lst ((strW w).1.map offD)]) rfl rfl ?_ rfl (zv _ (qgU _))
 have m:=qcW (F:=G (d+8)) (ρ:=[some (webD w),some (tupI w.costs),none,none,none,none,none,none,none]) (S:=S) (S1:=S) (es:=.cons (.blt .len (.cons (.var 1) .nil)) .nil) (n:=w.costs.length) (qe (qC rfl (zP _ _)) rfl) (by lia)
 have j:=qgq (F:=G (d+8)) (ρ:=[some (webD w),some (tupI w.costs),some (.ref S.length),none,none,none,none,none,none]) (S:=S++[.lst ((rI w.costs.length).map .int)]) (S1:=S++[.lst ((rI w.costs.length).map .int)]) (es:=.nil) (l:=[]) rfl (by simp) rfl
 have es:S++[.lst ((rI w.costs.length).map .int)]++[.lst []]=stS S (rI w.costs.length) []:=by simp[stS]
 have o:(S++[SO.lst ((rI w.costs.length).map .int)]).length=S.length+1:=by simp
 rw[es,o]at j
 have p:ev (G (d+8)) (.tup (.cons (.tup .nil) (.cons (.tup (.cons (.neg (.cst (.int 1))) (.cons (.cst (.int 1)) .nil))) .nil))) [some (webD w),some (tupI w.costs),some (.ref S.length),some (.ref (S.length+1)),none,none,none,none,none] (stS S (rI w.costs.length) [])=.ok (.tup [tupI [],nmD (-1,1)]) (stS S (rI w.costs.length) []):=qP (qe (qP rfl (by simp)) (qe (qP (qe rfl (qe rfl rfl)) e) rfl)) e
 have b:strW w=stp w w.costs.length (rI w.costs.length) [] (rI w.costs.length):=rfl
 rw[<-b]at i
 exact qaa (S1:=S) (qi rfl (qak h)) (qm (qw (S1:=S) rfl rfl rfl) rfl (qm m rfl (qm j rfl (qm p (ρ1:=pE w S.length [] (-1,1) none none none) rfl (qbp i (qL (qP (qe (qC rfl (qgV (qgS S [] (strW w).1))) (qe rfl rfl)) e)))))))
end RP
namespace RP
open R
theorem qan{p q:Int×Int}:und q p=false ↔ p.1*q.2<=q.1*p.2:=by
 unfold und
 rw[uy]
 constructor <;> intro h <;> lia
theorem jy{p q r:Int×Int}(e:0<p.2)(f:0<q.2)(h:0<r.2)(a:und q p=false)(b:und r q=false):und r p=false:=by
 rw[qan]at a b ⊢
 have c:=vk a (Int.le_of_lt h)
 have d:=vk b (Int.le_of_lt e)
 have e1:p.1*q.2*r.2=p.1*r.2*q.2:=by ac_rfl
 have i:q.1*p.2*r.2=q.1*r.2*p.2:=by ac_rfl
 have j:r.1*q.2*p.2=r.1*p.2*q.2:=by ac_rfl
 rw[e1,i]at c
 rw[j]at d
 exact Int.le_of_mul_le_mul_right (Int.le_trans c d) f
theorem qgW{p q:Int×Int}(h:und p q=true):und q p=false:=by
 unfold und at h
 rw[wk]at h
 rw[qan];lia
theorem qcp{a b c:Int}(d:1<=c)(h:a<=b):und (lw b c) (lw a c)=false:=by
 rw[qan]
 have e1:=jw (t:=a) d
 have e:=jw (t:=b) d
 have j:=(z0 (t:=a) d).pos
 have l:=(z0 (t:=b) d).pos
 refine Int.le_of_mul_le_mul_right (show(lw a c).1*(lw b c).2*c<=(lw b c).1*(lw a c).2*c from ?_) (show 0<c by lia)
 have f:(lw a c).1*(lw b c).2*c=a*((lw a c).2*(lw b c).2):=by
  rw[<-Int.mul_assoc,<-e1];ac_rfl
 have i:(lw b c).1*(lw a c).2*c=b*((lw a c).2*(lw b c).2):=by
  rw[Int.mul_comm (lw a c).2,<-Int.mul_assoc,<-e];ac_rfl
 rw[f,i]
 exact vk h (Int.mul_nonneg (by lia) (by lia))
theorem qdS:∀(T:List Tie) (p q:Tie->Bool),(∀t∈T,0<=t.2)->(∀t∈T,p t=true->q t=true)->((T.filter p).map (·.2)).sum<=((T.filter q).map (·.2)).sum
 |[],_,_,_,_=>by simp
 |t::r,p,q,h1,h2=>by
  have b:=qdS r p q (λs a=>h1 s (wH _ a)) λs a=>h2 s (wH _ a)
  have d:=h1 t wE
  have c:=h2 t wE
  rw[vX,vX]
  cases hp:p t with
  |true =>
   rw[c hp,wM rfl,wM rfl,wI,wI,vl,vl];lia
  |false =>
   rw[wO (by simp)]
   split
   .rw [wI,vl];lia
   .exact b
theorem qgX{w:Wb}(h:WbOk w){X Y:List Int}(a:∀x∈X,x∈Y)(x:Int):deg (tin w X) x<=deg (tin w Y) x:=by
 unfold deg tin
 rw[List.filter_filter,List.filter_filter]
 refine qdS _ _ _ (λt b=>by have:=h.t2 t b;lia) λt b e=>?_
 rw[wW]at e ⊢
 refine⟨e.1,?_⟩
 have:=e.2
 unfold subB at this ⊢
 rw[ww]at this ⊢
 exact λq c=>wV.mpr (a q (wV.mp (this q c)))
theorem qcq{w:Wb}(h:WbOk w){X Y:List Int}(a:∀x∈X,x∈Y){x:Int}(h0:0<=x)(b:x<w.costs.length):und (rat w Y x) (rat w X x)=false:=qcp (jx h h0 b).1 (qgX h a x)
theorem qiL(r:Int->Int×Int):∀(n:Nat) (l:List Int),l.length=n->l≠[]->(∀x∈l,0<(r x).2)->∀x∈l,und (r x) (offP r l).2=false:=by
 intro n
 induction n with
 |zero=>intro l h c;exact absurd (wa.mp h) c
 |succ n f =>
  intro l j c b x e
  obtain⟨i,a,rfl⟩:∃i a,l=i++[a]:=by
   rcases xL l with rfl|⟨ys,y,rfl⟩
   .exact absurd rfl c
   .exact ⟨ys,y,by rw[xM]⟩
  rw[wd,ve]at j
  by_cases hi:i=[]
  .subst hi
   simp at e;subst e
   exact zG _
  .have d:=f i (by lia) hi λy m=>b y (wp _ m)
   obtain⟨z,o,p⟩:=y8 r _ i rfl hi
   have s:=b z (wp _ o)
   have u:=b a (by simp)
   have v:=b x e
   rw[zQ r hi]
   unfold offS
   rw[p]at d ⊢
   cases hu:und (r a) (r z)with
   |true =>
    rw[wM rfl]
    show und (r x) (r a)=false
    rcases wu.mp e with q|q
    .exact jy u s v (qgW hu) (d x q)
    .simp at q;subst q;exact zG _
   |false =>
    rw[wO (by simp)]
    rcases wu.mp e with q|q
    .exact d x q
    .simp at q;subst q;exact hu
noncomputable def seqO(w:Wb):Nat->List Int->List Of
 |0,_=>[]
 |_+1,[]=>[]
 |k+1,a::l=>offP (rat w (a::l)) (a::l)::seqO w k ((a::l).erase (offP (rat w (a::l)) (a::l)).1)
theorem qdT(w:Wb):∀(k:Nat) (left:List Int) (ord:List Of) (b:List Int),(stp w k left ord b).1=ord++seqO w k left
 |0,left,ord,b=>by simp[stp,seqO]
 |k+1,[],ord,b=>by simp[stp,seqO]
 |k+1,a::l,ord,b=>by
  rw[stp,qdT w k,seqO,v8];rfl
noncomputable abbrev mx(m n:Int×Int):Int×Int:=if und m n then n else m
noncomputable def runC:Int×Int->List Of->List Of
 |_,[]=>[]
 |m,o::r=>(o.1,mx m o.2)::runC (mx m o.2) r
noncomputable def lkC:List Of->Int->Int×Int
 |[],_=>(0,1)
 |o::r,x=>if o.1=x then o.2 else lkC r x
theorem jq{l:List Int}(nd:l.Nodup){a x:Int}:x∈l.erase a ↔ x∈l/\x≠a:=by
 rw[nd.mem_erase_iff];exact And.comm
structure Lft (w:Wb) (k:Nat) (L:List Int):Prop where
 len:L.length=k
 nd:L.Nodup
 rng:∀x∈L,0<=x/\x<w.costs.length
theorem ze{w:Wb}(h:WbOk w)(L:List Int){x:Int}(a:0<=x/\x<w.costs.length):0<(rat w L x).2:=by
 have:=(jp h L a.1 a.2).b1;lia
theorem Lft.next{w:Wb}{k:Nat}{a:Int}{l:List Int}(h:Lft w (k+1) (a::l)):(offP (rat w (a::l)) (a::l)).1∈a::l/\(offP (rat w (a::l)) (a::l)).2=rat w (a::l) (offP (rat w (a::l)) (a::l)).1/\Lft w k ((a::l).erase (offP (rat w (a::l)) (a::l)).1):=by
 obtain⟨z,b,c⟩:=y8 (rat w (a::l)) _ (a::l) rfl (by simp)
 rw[c]
 refine⟨b,rfl,?_,h.nd.erase _,λx d=>h.rng x (List.mem_of_mem_erase d)⟩
 have:=h.len
 rw[ut b];lia
theorem qao{w:Wb}:∀(k:Nat) (L:List Int),Lft w k L->∀x,x∈(seqO w k L).map (·.1) ↔ x∈L
 |0,L,h,x=>by
  have:=wa.mp h.len
  subst this;simp[seqO]
 |k+1,[],h,x=>by simp[seqO]
 |k+1,a::l,h,x=>by
  obtain⟨c,_,d⟩:=h.next
  rw[seqO,wI,wR,qao k _ d,jq h.nd]
  generalize (offP (rat w (a::l)) (a::l)).1=b at c ⊢
  constructor
  .rintro (rfl|⟨q,_⟩)
   .exact c
   .exact q
  .intro q
   by_cases e:x=b
   .exact .inl e
   .exact .inr ⟨q,e⟩
theorem qdU{w:Wb}:∀(k:Nat) (L:List Int),Lft w k L->((seqO w k L).map (·.1)).Nodup
 |0,L,h=>by simp[seqO]
 |k+1,[],h=>by simp[seqO]
 |k+1,a::l,h=>by
  obtain⟨c,_,b⟩:=h.next
  rw[seqO,wI,vS,qao k _ b,jq h.nd]
  exact⟨λq=>q.2 rfl,qdU k _ b⟩
theorem qc6{w:Wb}(h:WbOk w){c:Int×Int}(i:0<c.2):∀(k:Nat) (L:List Int) (m:Int×Int),Lft w k L->0<m.2->und m c=false->∀x∈L,und (lkC (runC m (seqO w k L)) x) c=false
 |0,L,m,hL,hm,hu,x,hx=>by
  have:=wa.mp hL.len
  subst this;simp at hx
 |k+1,[],m,hL,hm,hu,x,hx=>by simp at hx
 |k+1,a::l,m,hL,hm,hu,x,hx=>by
  obtain⟨j,n,o⟩:=hL.next
  rw[seqO,runC,lkC]
  obtain⟨O,p⟩:∃O,O=offP (rat w (a::l)) (a::l):=⟨_,rfl⟩
  rw[<-p]at j n o ⊢
  have d:0<O.2.2:=by rw[n];exact ze h _ (hL.rng _ j)
  have f:0<(mx m O.2).2:=by unfold mx;split <;> assumption
  have b:und (mx m O.2) c=false:=by
   unfold mx
   split
   .rename_i z
    exact jy i hm d hu (qgW z)
   .exact hu
  split
  .exact b
  .rename_i z
   exact qc6 h i k _ _ o f b x ((jq hL.nd).mpr ⟨hx,λe=>z e.symm⟩)
theorem qap{w:Wb}(h:WbOk w){c:Int×Int}(n:0<c.2):∀(k:Nat) (L:List Int) (m:Int×Int),Lft w k L->0<m.2->und m c=true ->
  (∀K:List Int,(∀x,x∈K ↔ x∈L/\und (lkC (runC m (seqO w k L)) x) c=false)->∀x∈K,und (rat w K x) c=false) /\
  (∀X:List Int,(∀x∈X,x∈L)->(∀x∈X,und (rat w X x) c=false)->∀x∈X,und (lkC (runC m (seqO w k L)) x) c=false)
 |0,L,m,hL,hm,hu=>by
  have:=wa.mp hL.len
  subst this
  exact⟨λK f x b=>by simpa using((f x).mp b).1,λX i _ x b=>by simpa using i x b⟩
 |k+1,[],m,hL,hm,hu=>⟨λK f x b=>by simpa using((f x).mp b).1,λX i _ x b=>by simpa using i x b⟩
 |k+1,a::l,m,hL,hm,hu=>by
  obtain⟨o,v,A⟩:=hL.next
  have p:=qiL (rat w (a::l)) _ (a::l) rfl (by simp) λx b=>ze h _ (hL.rng x b)
  rw[seqO,runC]
  obtain⟨O,H⟩:∃O,O=offP (rat w (a::l)) (a::l):=⟨_,rfl⟩
  rw[<-H]at o v A p ⊢
  have r:0<O.2.2:=by rw[v];exact ze h _ (hL.rng _ o)
  have s:0<(mx m O.2).2:=by unfold mx;split <;> assumption
  cases hu':und (mx m O.2) c with
  |true =>
   have F:=qap h n k _ _ A s hu'
   have j:und O.2 c=true:=by
    unfold mx at hu'
    split at hu'
    .exact hu'
    .rename_i z
     cases q:und O.2 c with
     |true=>rfl
     |false =>
      have:=jy n r hm q (by simpa using z)
      rw[hu]at this;cases this
   refine⟨λK f x b=>F.1 K (λy=>?_) x b,λX i B x b=>?_⟩
   .rw [f y,lkC,jq hL.nd]
    constructor
    .rintro ⟨q1,q2⟩
     by_cases e:O.1=y
     .rw [wM e,hu']at q2;cases q2
     .rw [wO e]at q2
      exact⟨⟨q1,λz=>e z.symm⟩,q2⟩
    .rintro ⟨⟨q1,q2⟩,I⟩
     rw[wO λz=>q2 z.symm]
     exact⟨q1,I⟩
   .have hn:O.1∉X:=λz=>by
     have C:=qcq h i (hL.rng _ o).1 (hL.rng _ o).2
     have E:=B _ z
     have:=jy n (ze h X (hL.rng _ o)) (ze h (a::l) (hL.rng _ o)) E C
     rw[<-v,j]at this;cases this
    rw[lkC,wO λz=>hn (by rw[z];exact b)]
    exact F.2 X (λy u=>(jq hL.nd).mpr ⟨i y u,λe=>hn (by rw[<-e];exact u)⟩) B x b
  |false =>
   have j:und O.2 c=false:=by
    unfold mx at hu'
    split at hu'
    .exact hu'
    .rw [hu]at hu';cases hu'
   have all:∀x∈a::l,und (lkC ((O.1,mx m O.2)::runC (mx m O.2) (seqO w k ((a::l).erase O.1))) x) c=false:=by
    intro x b
    rw[lkC]
    split
    .exact hu'
    .rename_i z
     exact qc6 h n k _ _ A s hu' x ((jq hL.nd).mpr ⟨b,λe=>z e.symm⟩)
   refine⟨λK f x b=>?_,λX i B x b=>all x (i x b)⟩
   have d:=((f x).mp b).1
   have C:=qcq h (X:=a::l) (Y:=K) (λy u=>(f y).mpr ⟨u,all y u⟩) (hL.rng _ d).1 (hL.rng _ d).2
   have E:=jy n r (ze h (a::l) (hL.rng _ d)) j (p x d)
   exact jy n (ze h (a::l) (hL.rng _ d)) (ze h K (hL.rng _ d)) E C
noncomputable def cor(w:Wb)(x:Int):Int×Int:=lkC (runC (0,1) (strW w).1) x
theorem zf(w:Wb):(strW w).1=seqO w w.costs.length (rI w.costs.length):=by
 unfold strW
 rw[qdT];rfl
theorem q8(w:Wb):Lft w w.costs.length (rI w.costs.length):=⟨qE _,yt _,λx a=>ql.mp a⟩
theorem und0{w:Wb}(h:WbOk w){c:Int×Int}(b:0<c.2)(L:List Int){x:Int}(a:0<=x/\x<w.costs.length)(d:und (0,1) c=false):und (rat w L x) c=false:=by
 have h0:und (rat w L x) (0,1)=false:=by
  rw[qan]
  have:0<=(rat w L x).1:=qgL (qdP (qal h L).1 (qal h L).2 x).1 (jx h a.1 a.2).1
  lia
 exact jy b (by decide) (ze h L a) d h0
theorem qiM{w:Wb}(h:WbOk w){c:Int×Int}(a:0<c.2)(K:List Int)(b:∀x,x∈K ↔ x∈rI w.costs.length/\und (cor w x) c=false):∀x∈K,und (rat w K x) c=false:=by
 cases hu:und (0,1) c with
 |true=>exact(qap h a _ _ (0,1) (q8 w) (by decide) hu).1 K λx=>by rw[b x,cor,zf]
 |false=>exact λx d=>und0 h a K (ql.mp ((b x).mp d).1) hu
theorem qgY{w:Wb}(h:WbOk w){c:Int×Int}(a:0<c.2)(X:List Int)(b:∀x∈X,x∈rI w.costs.length)(d:∀x∈X,und (rat w X x) c=false):∀x∈X,und (cor w x) c=false:=by
 unfold cor
 rw[zf]
 cases hu:und (0,1) c with
 |true=>exact(qap h a _ _ (0,1) (q8 w) (by decide) hu).2 X b d
 |false=>exact λx e=>qc6 h a _ _ (0,1) (q8 w) (by decide) hu x (b x e)
end RP
namespace RP
open R
theorem qbu{e:Type}{g:e->D}{bind:D->En->Sr->Res En}{test:En->Sr->Res Bool}{elt:En->Sr->Res D}{b:e->Bool}{v:e->D}(R:En->Prop){S:Sr}:∀(ds:List e) (ρ:En) (a:List D),a.length+ds.length<=PySem.sizeLine->R ρ ->
  (∀d∈ds,∀ρ:En,R ρ->∃ρ1,bind (g d) ρ S=.ok ρ1 S/\R ρ1/\test ρ1 S=.ok (b d) S/\(b d=true->elt ρ1 S=.ok (v d) S)) ->
  genLoop bind test elt (stepG .tuple) (finG .tuple) (ds.map g) ρ (.tup a) S=.ok (.tup (a++(ds.filter b).map v)) S
 |[],ρ,a,_,_,_=>by simp[genLoop,finG]
 |d::ds,ρ,a,hl,hR,H=>by
  obtain⟨ρ1,e1,c,f,h⟩:=H d wE ρ hR
  rw[w4]at hl
  rw[wI]
  unfold genLoop
  rw[e1,Res.bind_ok,f,Res.bind_ok]
  cases z:b d with
  |false =>
   rw[wO (by simp),qbu R ds ρ1 a (by lia) c λd' hd=>H d' (wH _ hd),vX,wO (by rw[z];simp)]
  |true =>
   rw[wM rfl,h z,Res.bind_ok]
   simp only[stepG]
   rw[wM (show a.length<PySem.sizeLine by lia)]
   have:=qbu R ds ρ1 (a++[v d]) (by rw[wd,ve];lia) c λd' hd=>H d' (wH _ hd)
   rw[vX,wM z,wI]
   refine this.trans ?_
   simp
theorem qdV{a:Type}{g:a->D}{F:Fs}{fr:List Nat}{nt:Nat}{elt:CE}{tg:CT}{it:CI}{ifs:CBs}{ρ:En}{S S1:Sr}{ds:List D}(xs:List a)(b:a->Bool)(v:a->D)(R:En->Prop)(c:evI F it ρ S=.ok ds S1)(hd:ds=xs.map g)(h0:R (frE ρ fr nt))(e:xs.length<=PySem.sizeLine)(H:∀d∈xs,∀ρ:En,R ρ->∃ρ1,asg F tg (g d) ρ S1=.ok ρ1 S1/\R ρ1/\tsts F ifs ρ1 S1=.ok (b d) S1/\(b d=true->ev F elt ρ1 S1=.ok (v d) S1)):
  ev F (.gen .tuple fr nt elt tg it ifs) ρ S=.ok (.tup ((xs.filter b).map v)) S1:=by
 simp only[ev,c,Res.bind,hd,startG]
 rw[qbu R xs _ [] (by simpa using e) h0 H];rfl
noncomputable def cD(l:List Of):List ((Int ⊕ PySem.Str)×D):=l.map λo=>((.inl o.1:Int ⊕ PySem.Str),nmD o.2)
theorem qdW:∀{l:List Of} {x:Int},x∈l.map (·.1)->lookT (.inl x:Int ⊕ PySem.Str) (cD l)=some (nmD (lkC l x))
 |[],x,h=>by simp at h
 |o::r,x,h=>by
  show lookT _ ((_,_)::cD r)=_
  rw[lookT,lkC]
  by_cases e:o.1=x
  .rw [wM (by rw[e]),wM e]
  .rw [wO (by simpa using e),wO e]
   refine qdW ?_
   rw[wI,wR]at h
   exact h.resolve_left λz=>e z.symm
theorem qkG{l:List Of}{x:Int}{m:Int×Int}(h:x∉l.map (·.1)):putT (.inl x:Int ⊕ PySem.Str) (nmD m) (cD l)=cD (l++[(x,m)]):=by
 unfold putT
 have:(cD l).any (λp=>decide (p.1=(.inl x:Int ⊕ PySem.Str)))=false:=by
  rw[uu]
  intro p a
  obtain⟨o,b,rfl⟩:=wX.mp a
  simp only[wk,Sum.inl.injEq]
  exact λe=>h (wX.mpr ⟨o,b,e⟩)
 rw[this,wO (by simp)]
 unfold cD;simp
theorem ql8{T:Sr}{j:Nat}{l:List Of}{x:Int}(a:T[j]?=some (.dis (cD l)))(h:x∈l.map (·.1)):idkD T (.ref j) (.int x)=some (nmD (lkC l x)):=by
 simp only[idkD,a,keyD,wQ,qdW h]
theorem ql9{S:Sr}{l:List Of}{x:Int}{m:Int×Int}(c:l.length<=100)(h:x∉l.map (·.1)):putE (S++[.dis (cD l)]) (.ref S.length) (.int x) (nmD m)=some (S++[.dis (cD (l++[(x,m)]))]):=by
 have b:(cD l).length<1000:=by unfold cD;rw[wG];lia
 have a:(S++[SO.dis (cD l)])[S.length]?=some (.dis (cD l)):=by simp
 unfold putE
 rw[wM (show refsLt 0 (nmD m)=true from rfl)]
 simp only[putN,a,keyD,wQ]
 rw[wM b,qkG h]
 simp
theorem y9:∀(l:List Of) (m:Int×Int),(runC m l).map (·.1)=l.map (·.1)
 |[],_=>rfl
 |o::r,m=>by rw[runC,wI,wI,y9 r]
noncomputable def mxE(m:Int×Int)(l:List Of):Int×Int:=l.foldl (λm o=>mx m o.2) m
theorem qcr:∀(l:List Of) (m:Int×Int) (o:Of),runC m (l++[o])=runC m l++[(o.1,mx (mxE m l) o.2)]
 |[],m,o=>rfl
 |a::r,m,o=>by rw[List.cons_append,runC,qcr r,runC];rfl
theorem qgZ(l:List Of)(m:Int×Int)(o:Of):mxE m (l++[o])=mx (mxE m l) o.2:=by unfold mxE;rw[List.foldl_append];rfl
theorem qdX{w:Wb}(h:WbOk w):∀(k:Nat) (L:List Int),Lft w k L->∀o∈seqO w k L,Nm o.2
 |0,L,hL,o,ho=>by simp[seqO]at ho
 |k+1,[],hL,o,ho=>by simp[seqO]at ho
 |k+1,a::l,hL,o,ho=>by
  obtain⟨b,c,d⟩:=hL.next
  rw[seqO,wR]at ho
  rcases ho with rfl|ho
  .rw [c];exact jp h _ (hL.rng _ b).1 (hL.rng _ b).2
  .exact qdX h k _ d o ho
theorem qjc{m n:Int×Int}(h:Nm m)(a:Nm n):Nm (mx m n):=by
 unfold mx
 split
 .exact a
 .exact h
theorem qg0:∀(l:List Of) (m:Int×Int),Nm m->(∀o∈l,Nm o.2)->Nm (mxE m l)
 |[],m,h,_=>h
 |o::r,m,h,h2=>qg0 r _ (qjc h (h2 o wE)) λx a=>h2 x (wH _ a)
theorem qg1:∀(l:List Of) (m:Int×Int),Nm m->(∀o∈l,Nm o.2)->∀x,Nm (lkC (runC m l) x)
 |[],m,h,_,x=>⟨by show(0:Int).natAbs<_;decide,by show(1:Int)<=1;decide,by show(1:Int)<_;decide⟩
 |o::r,m,h,h2,x=>by
  have hm:Nm (mx m o.2):=qjc h (h2 o wE)
  rw[runC,lkC]
  split
  .exact hm
  .exact qg1 r _ hm (λy a=>h2 y (wH _ a)) x
theorem nm0:Nm (0,1):=⟨by decide,by decide,by decide⟩
theorem qbv(w:Wb):(strW w).1.length=w.costs.length:=by
 have b:∀(k:Nat) (L:List Int),Lft w k L->(seqO w k L).length=k:=by
  intro k
  induction k with
  |zero=>intro L _;rfl
  |succ k d =>
   intro L c
   cases L with
   |nil=>have:=c.len;simp at this
   |cons a l=>rw[seqO,w4,d _ c.next.2.2]
 rw[zf,b _ _ (q8 w)]
theorem qiN(w:Wb)(x:Int):x∈(strW w).1.map (·.1) ↔ x∈rI w.costs.length:=by rw[zf];exact qao _ _ (q8 w) x
theorem qc7{w:Wb}(h:WbOk w):∀o∈(strW w).1,Nm o.2:=by rw[zf];exact qdX h _ _ (q8 w)
theorem qbw{w:Wb}(h:WbOk w)(x:Int):Nm (cor w x):=qg1 _ _ nm0 (qc7 h) x
theorem qma{w:Wb}{T:Sr}{j:Nat}(a:T[j]?=some (.dis (cD (runC (0,1) (strW w).1)))){x:Int}(h:x∈rI w.costs.length):idkD T (.ref j) (.int x)=some (nmD (cor w x)):=ql8 a (by rw[y9];exact(qiN w x).mpr h)
theorem qg2{F:Fs}{w:Wb}{S:Sr}{c:Nat}(h:WbOk w)(j f i p:Nat)(mk:D->Option D->Option D->En){x5 x6:Option D}(H:∀(o:Of) (m:Int×Int) (l:List Of) (a b:Option D),Nm m->Nm o.2->l.length<=100->o.1∉l.map (·.1)->(asg F (.tup (.cons (.var j) (.cons (.var f) .nil))) (offD o) (mk (nmD m) a b) (S++[.dis (cD l)])).bind (λρ1 S1=>exs F NW (.cons (.ifs (.val (.call c (.cons (.var i) (.cons (.var f) .nil)))) (.cons (.set (.var i) (.var f)) .nil) .nil) (.cons (.set (.sub (.var p) (.var j)) (.var i)) .nil)) ρ1 S1)=.ok (.nx (mk (nmD (mx m o.2)) (some (.int o.1)) (some (nmD o.2)))) (S++[.dis (cD (l++[(o.1,mx m o.2)]))])):
  ∃m a b,forLoop (λq ρ S=>(asg F (.tup (.cons (.var j) (.cons (.var f) .nil))) q ρ S).bind λρ1 S1=>exs F NW (.cons (.ifs (.val (.call c (.cons (.var i) (.cons (.var f) .nil)))) (.cons (.set (.var i) (.var f)) .nil) .nil) (.cons (.set (.sub (.var p) (.var j)) (.var i)) .nil)) ρ1 S1) ((strW w).1.map offD) (mk (nmD (0,1)) x5 x6) (S++[.dis []])=.ok (.nx (mk m a b)) (S++[.dis (cD (runC (0,1) (strW w).1))]):=by
 have A:=h.c2
 have n:((strW w).1.map (·.1)).Nodup:=by rw[zf];exact qdU _ _ (q8 w)
 obtain⟨ρ1,S1,e,a,b,rfl,rfl⟩:=zI (g:=offD) (body:=λq ρ S=>(asg F (.tup (.cons (.var j) (.cons (.var f) .nil))) q ρ S).bind λρ1 S1=>exs F NW (.cons (.ifs (.val (.call c (.cons (.var i) (.cons (.var f) .nil)))) (.cons (.set (.var i) (.var f)) .nil) .nil) (.cons (.set (.sub (.var p) (.var j)) (.var i)) .nil)) ρ1 S1)
  (λpre ρ U=>∃a b,ρ=mk (nmD (mxE (0,1) pre)) a b/\U=S++[.dis (cD (runC (0,1) pre))]) (strW w).1 (ρ:=mk (nmD (0,1)) x5 x6) (S:=S++[.dis []]) ⟨_,_,rfl,rfl⟩ (by
   rintro pre o u ρ U d ⟨a,b,rfl,rfl⟩
   have v:=congrArg List.length d
   rw[qbv,wd,w4]at v
   have r:o.1∉(runC (0,1) pre).map (·.1):=λz=>by
    rw[y9]at z
    rw[d,vJ,wI]at n
    exact(v7.mp n).2.2 _ z _ wE rfl
   have s:(runC (0,1) pre).length<=100:=by
    have:=congrArg List.length (y9 pre (0,1))
    rw[wG,wG]at this;lia
   refine⟨_,_,H o _ _ a b (qg0 _ _ nm0 λx y=>qc7 h x (by rw[d];simp[y])) (qc7 h o (by rw[d];simp)) s r,_,_,by rw[qgZ],by rw[qcr]⟩)
 exact⟨_,_,_,e⟩
theorem qdY{d:Nat}{w:Wb}{S:Sr}(h:WbOk w):G (d+10) 18 [webD w] S=.ok (.tup ((rI w.costs.length).map λx=>nmD (cor w x))) S:=by
 have hm:=h.c2
 have u:PySem.sizeLine>=2:=by unfold PySem.sizeLine;lia
 rw[G_at (c:=c_18) rfl]
 obtain⟨m,a,b,v⟩:=qg2 (F:=G (d+9)) (S:=S) (c:=4) h 5 6 4 3 (λm a b=>[some (webD w),some (.tup ((strW w).1.map offD)),some (tupI (strW w).2),some (.ref S.length),some m,a,b]) (x5:=none) (x6:=none) (λo m l a b y z A B=>by
  have eu:=y7 (d:=d+8) (S:=S++[.dis (cD l)]) y z
  rw[show asg (G (d+9)) (.tup (.cons (.var 5) (.cons (.var 6) .nil))) (offD o) [some (webD w),some (.tup ((strW w).1.map offD)),some (tupI (strW w).2),some (.ref S.length),some (nmD m),a,b] (S++[.dis (cD l)])=.ok [some (webD w),some (.tup ((strW w).1.map offD)),some (tupI (strW w).2),some (.ref S.length),some (nmD m),some (.int o.1),some (nmD o.2)] (S++[.dis (cD l)])from rfl,Res.bind_ok]
  have e:tst (G (d+9)) (.val (.call 4 (.cons (.var 4) (.cons (.var 6) .nil)))) [some (webD w),some (.tup ((strW w).1.map offD)),some (tupI (strW w).2),some (.ref S.length),some (nmD m),some (.int o.1),some (nmD o.2)] (S++[.dis (cD l)])=.ok (und m o.2) (S++[.dis (cD l)]):=t_of (qi rfl eu)
  have p:=λm=>ql9 (S:=S) (m:=m) A B
  unfold mx
  cases hu:und m o.2 with
  |true =>
   rw[hu]at e
   rw[wM rfl]
   exact qbl e (qm rfl rfl zh) (qm rfl (qck rfl rfl (p _)) zh)
  |false =>
   rw[hu]at e
   rw[wO (by simp)]
   exact x_no e (qm rfl (qck rfl rfl (p _)) zh))
 refine yW (f:=c_18) (S1:=S) (S2:=[.dis (cD (runC (0,1) (strW w).1))]) rfl rfl ?_ rfl ?_
 .have i:(S++[SO.dis (cD (runC (0,1) (strW w).1))])[S.length]?=some (.dis (cD (runC (0,1) (strW w).1))):=by simp
  have j:bltD .len [.tup ((strW w).1.map offD)] (S++[SO.dis (cD (runC (0,1) (strW w).1))])=.ok (.int w.costs.length) (S++[SO.dis (cD (runC (0,1) (strW w).1))]):=by
   rw[<-qbv w];simp[bltD,one,bLen,lenD]
  have s:=qdV (g:=.int) (F:=G (d+9)) (fr:=[3]) (nt:=1) (elt:=.idk (.var 0) (.var 1)) (tg:=.var 1) (it:=.rng (.cons (.blt .len (.cons (.var 1) .nil)) .nil)) (ifs:=.nil) (ρ:=[some (webD w),some (.tup ((strW w).1.map offD)),some (tupI (strW w).2),some (.ref S.length),some m,a,b]) (S:=S++[SO.dis (cD (runC (0,1) (strW w).1))]) (S1:=S++[SO.dis (cD (runC (0,1) (strW w).1))]) (rI w.costs.length) (λ_=>true) (λx=>nmD (cor w x)) (λρ=>∃x,ρ=[some (.ref S.length),x]) (i_rng (n:=w.costs.length) (qe (qC rfl j) rfl) (by lia)) rfl ⟨_,rfl⟩ (by rw[qE];unfold PySem.sizeLine;lia) (by
   rintro q C ρ ⟨x,rfl⟩
   exact⟨_,rfl,⟨_,rfl⟩,rfl,λ_=>qgQ rfl rfl (qma i C)⟩)
  rw[qG]at s
  exact qm (qi rfl (yM h)) (ρ1:=[some (webD w),some (.tup ((strW w).1.map offD)),some (tupI (strW w).2),none,none,none,none]) rfl (qm (d:=.ref S.length) (S1:=S++[.dis []]) (by simp only[ev]) (ρ1:=[some (webD w),some (.tup ((strW w).1.map offD)),some (tupI (strW w).2),some (.ref S.length),none,none,none]) rfl (qm (d:=nmD (0,1)) (qP (qe rfl (qe rfl rfl)) u) (ρ1:=[some (webD w),some (.tup ((strW w).1.map offD)),some (tupI (strW w).2),some (.ref S.length),some (nmD (0,1)),none,none]) rfl (yV rfl v (qL s))))
 .refine zv _ ?_
  show refsLts 0 _=true
  generalize rI w.costs.length=l
  induction l with
  |nil=>rfl
  |cons a r E=>rw[wI,refsLts,E];rfl
theorem qbx{f:Int->D}{n:Nat}{q:Int}(h0:0<=q)(c:q<n)(T:Sr):idxD T (.tup ((rI n).map f)) (.int q)=some (f q):=by
 obtain⟨k,rfl⟩:∃k:Nat,q=k:=⟨q.toNat,by lia⟩
 have a:k<n:=by lia
 have b:L2.ixN ((rI n).map f).length (k:Int)=some k:=by
  unfold L2.ixN
  rw[wM (by lia),wG,qE,wM (by lia)];rfl
 simp only[idxD,seqOf,wQ,L2.atI,b]
 unfold rI
 rw[wS,wb,List.getElem?_range a];rfl
theorem qby{d:Nat}{w:Wb}{q:Int}{S:Sr}(h0:0<=q)(e:q<w.costs.length):G (d+4) 14 [webD w,.int q] S=.ok .non S:=by
 rw[G_at (c:=c_14) rfl]
 have e1:G (d+3) 13 [webD w,.int q] S=.ok (.bl true) S:=by
  rw[G_at (c:=c_13) rfl]
  have:=qT (d:=d) (i:=q) (a:=0) (b:=(w.costs.length:Int)-1) (S:=S)
  rw[vK h0,vK (show q<=(w.costs.length:Int)-1 by lia)]at this
  exact qR rfl (qL (qi (qe rfl (qe rfl (qe (qA (qC (qe (qw (S1:=S) rfl rfl rfl) rfl) (zP _ _)) rfl rfl) rfl))) this))
 exact qdG rfl (x_no (S1:=S) (t_no (x:=true) (t_of (qi rfl e1))) zh)
noncomputable def cprt(w:Wb)(c:Int×Int):List Int:=(rI w.costs.length).filter λx=>!und (cor w x) c
theorem jz{d:Nat}{w:Wb}{q:Int}{S:Sr}(h:WbOk w)(h0:0<=q)(e:q<w.costs.length):G (d+11) 19 [webD w,.int q] S=.ok (tupI (cprt w (cor w q))) S:=by
 have hm:=h.c2
 rw[G_at (c:=c_19) rfl]
 have b:bltD .len [.tup ((rI w.costs.length).map λx=>nmD (cor w x))] S=.ok (.int w.costs.length) S:=by
  have:=qE w.costs.length
  simp[bltD,one,bLen,lenD,this]
 have f:=qdV (g:=.int) (F:=G (d+10)) (fr:=[2,1]) (nt:=1) (elt:=.var 2) (tg:=.var 2) (it:=.rng (.cons (.blt .len (.cons (.var 2) .nil)) .nil)) (ifs:=.cons (.not (.val (.call 4 (.cons (.idx (.var 0) (.var 2)) (.cons (.idx (.var 0) (.var 1)) .nil))))) .nil) (ρ:=[some (webD w),some (.int q),some (.tup ((rI w.costs.length).map λx=>nmD (cor w x)))]) (S:=S) (S1:=S) (rI w.costs.length) (λx=>!und (cor w x) (cor w q)) D.int (λρ=>∃x,ρ=[some (.tup ((rI w.costs.length).map λx=>nmD (cor w x))),some (.int q),x]) (i_rng (n:=w.costs.length) (qe (qC rfl b) rfl) (by lia)) rfl ⟨_,rfl⟩ (by rw[qE];unfold PySem.sizeLine;lia) (by
  rintro x i ρ ⟨y,rfl⟩
  have a:=ql.mp i
  exact⟨_,rfl,⟨_,rfl⟩,qgo (t_no (t_of (qi (qe (qw rfl rfl (qbx a.1 a.2 S)) (qe (qw rfl rfl (qbx h0 e S)) rfl)) (y7 (d:=d+9) (qbw h x) (qbw h q))))),λ_=>rfl⟩)
 exact qR rfl (qaa (qi rfl (qak h)) (qaa (qi rfl (qby h0 e)) (qm (qi rfl (qdY h)) rfl (qL f))))
end RP
namespace RP
open R
theorem zx{w:Wb}(h:WbOk w){c:Int×Int}(b:0<c.2){x:Int}(d:x∈rI w.costs.length):und (cor w x) c=false ↔ ∃X:List Int,(∀y∈X,y∈rI w.costs.length)/\x∈X/\∀y∈X,und (rat w X y) c=false:=by
 constructor
 .intro e
  have a:∀z,z∈(rI w.costs.length).filter (λx=>!und (cor w x) c) ↔ z∈rI w.costs.length/\und (cor w z) c=false:=λz=>by
   rw[wm];simp
  exact⟨_,λy f=>((a y).mp f).1,(a x).mpr ⟨d,e⟩,qiM h b _ a⟩
 .rintro ⟨X,i,j,l⟩
  exact qgY h b X i l x j
theorem qbz{w:Wb}(h:WbOk w):∀(k:Nat) (L:List Int),Lft w k L->∀o∈seqO w k L,Lw o.2
 |0,L,hL,o,ho=>by simp[seqO]at ho
 |k+1,[],hL,o,ho=>by simp[seqO]at ho
 |k+1,a::l,hL,o,ho=>by
  obtain⟨b,c,d⟩:=hL.next
  rw[seqO,wR]at ho
  rcases ho with rfl|ho
  .rw [c];exact z0 (jx h (hL.rng _ b).1 (hL.rng _ b).2).1
  .exact qbz h k _ d o ho
theorem lw01:Lw (0,1):=⟨by decide,by decide⟩
theorem qg3:∀(l:List Of) (m:Int×Int),Lw m->(∀o∈l,Lw o.2)->∀x,Lw (lkC (runC m l) x)
 |[],m,h,_,x=>lw01
 |o::r,m,h,h2,x=>by
  have hm:Lw (mx m o.2):=by
   unfold mx
   split
   .exact h2 o wE
   .exact h
  rw[runC,lkC]
  split
  .exact hm
  .exact qg3 r _ hm (λy a=>h2 y (wH _ a)) x
theorem qc8{w:Wb}(h:WbOk w)(x:Int):Lw (cor w x):=by
 unfold cor
 rw[zf]
 exact qg3 _ _ lw01 (qbz h _ _ (q8 w)) x
theorem qkH{p q:Int×Int}(a:Lw p)(b:Lw q)(c:und p q=false)(d:und q p=false):p=q:=by
 rw[qan]at c d
 exact jm a b (by lia)
theorem qc9{w a:Wb}(h:WbOk w)(h':WbOk a){x b:Int}(d:∀c:Int×Int,0<c.2->(und (cor w x) c=false ↔ und (cor a b) c=false)):cor a b=cor w x:=by
 have e:=qc8 h x
 have f:=qc8 h' b
 refine qkH f e ?_ ?_
 .exact (d _ (by have:=e.pos;lia)).mp (zG _)
 .exact (d _ (by have:=f.pos;lia)).mpr (zG _)
theorem qaU{w:Wb}{X Y:List Int}(h:∀z,z∈X ↔ z∈Y)(x:Int):rat w X x=rat w Y x:=by
 have:tin w X=tin w Y:=by
  unfold tin
  apply uG
  intro t _
  unfold subB
  rw[vP,ww,ww]
  simp only[wV,h]
 unfold rat
 rw[this]
section
variable{w:Wb}(hw:WbOk w){o cs:List Int}(hp:o.Perm (rI w.costs.length))(hl:cs.length=w.costs.length)(hc:∀x,InR w.costs.length x->nth cs (nth o x)=cstI w x)
include hw hp hc
theorem qaq{X Y:List Int}(d:∀x∈X,InR w.costs.length x)(i:∀y∈Y,InR w.costs.length y)(a:∀z,InR w.costs.length z->(nth o z∈Y ↔ z∈X)){x:Int}(h:x∈X):rat ⟨cs,calT o w.ties⟩ Y (nth o x)=rat w X x:=by
 obtain⟨b,c⟩:∃b,b=(rI w.costs.length).filter λz=>X.contains z:=⟨_,rfl⟩
 have m1:∀z,z∈b ↔ z∈X:=λz=>by
  rw[c,wm,wV]
  exact⟨λq=>q.2,λq=>⟨ql.mpr (d z q),q⟩⟩
 have ok:PlOk w.costs.length b:=⟨λz=>by have:=(m1 x).mpr h;rw[z]at this;simp at this,λz e=>d z ((m1 z).mp e),by rw[c];exact(qdL _).filter _⟩
 have m2:∀z,z∈cal o b ↔ z∈Y:=λz=>by
  rw[yD]
  constructor
  .rintro ⟨y,f,rfl⟩
   exact(a y (d y ((m1 y).mp f))).mpr ((m1 y).mp f)
  .intro e
   obtain⟨y,f,rfl⟩:=qaj hp (i z e)
   exact⟨y,(m1 y).mpr ((a y f).mp e),rfl⟩
 rw[<-qaU m2,<-qaU m1]
 unfold rat
 rw[qgC hw hp ok ((m1 x).mpr h)]
 congr 1
 exact hc x (d x h)
include hl
theorem zX{x:Int}(j:InR w.costs.length x):cor ⟨cs,calT o w.ties⟩ (nth o x)=cor w x:=by
 have d:WbOk ⟨cs,calT o w.ties⟩:=qdO hw hp hl hc
 have f:(⟨cs,calT o w.ties⟩:Wb).costs.length=w.costs.length:=hl
 refine qc9 hw d λc h=>?_
 rw[zx hw h (ql.mpr j),zx d h (by rw[f];exact ql.mpr (zV hp j)),f]
 constructor
 .rintro ⟨X,l,m,n⟩
  have p:∀z∈X,InR w.costs.length z:=λz a=>ql.mp (l z a)
  have i:∀z∈X.map (nth o),InR w.costs.length z:=λz a=>by
   obtain⟨y,b,rfl⟩:=wX.mp a
   exact zV hp (p y b)
  have r:∀z,InR w.costs.length z->(nth o z∈X.map (nth o) ↔ z∈X):=λz a=>by
   rw[wX]
   constructor
   .rintro ⟨y,b,e⟩
    rw[<-y4 hp (p y b) a e];exact b
   .exact λq=>⟨z,q,rfl⟩
  refine⟨X.map (nth o),λy b=>ql.mpr (i y b),wX.mpr ⟨x,m,rfl⟩,λy b=>?_⟩
  obtain⟨z,a,rfl⟩:=wX.mp b
  rw[qaq hw hp hc p i r a]
  exact n z a
 .rintro ⟨Y,l,m,n⟩
  have i:∀z∈Y,InR w.costs.length z:=λz a=>ql.mp (l z a)
  have mX:∀z,z∈(rI w.costs.length).filter (λz=>Y.contains (nth o z)) ↔ InR w.costs.length z/\nth o z∈Y:=λz=>by
   rw[wm,wV]
   exact⟨λq=>⟨ql.mp q.1,q.2⟩,λq=>⟨ql.mpr q.1,q.2⟩⟩
  refine⟨_,λy b=>ql.mpr ((mX y).mp b).1,(mX x).mpr ⟨j,m⟩,λy b=>?_⟩
  rw[<-qaq hw hp hc (λz a=>((mX z).mp a).1) i (λz a=>⟨λq=>(mX z).mpr ⟨a,q⟩,λq=>((mX z).mp q).2⟩) b]
  exact n _ ((mX y).mp b).2
end
noncomputable def sc(a b:Int)(p:Int×Int):Int×Int:=lw (p.1*a) (p.2*b)
theorem qkI{t t' b a:Int}(d:1<=b)(c:1<=a):und (lw t b) (lw t' a)=decide (t*a<t'*b):=by
 have e1:=jw (t:=t) d
 have j:=jw (t:=t') c
 have l:=(z0 (t:=t) d).pos
 have m:=(z0 (t:=t') c).pos
 unfold und
 generalize lw t b=P at *
 generalize lw t' a=Q at *
 have h:0<b*a:=vo (by lia) (by lia)
 have i:0<P.2*Q.2:=vo (by lia) (by lia)
 have e:P.1*Q.2*(b*a)=t*a*(P.2*Q.2):=by grind
 have f:Q.1*P.2*(b*a)=t'*b*(P.2*Q.2):=by grind
 rw[decide_eq_decide]
 constructor
 .intro q
  have:=ud q h
  rw[e,f]at this
  exact uf this (by lia)
 .intro q
  have:=ud q i
  rw[<-e,<-f]at this
  exact uf this (by lia)
theorem qda{a b:Int}(ha:1<=a)(e:1<=b){p q:Int×Int}(f:1<=p.2)(h:1<=q.2):und (sc a b p) (sc a b q)=und p q:=by
 have c:1<=p.2*b:=by have:=vo (show 0<p.2 by lia) (show 0<b by lia);lia
 have d:1<=q.2*b:=by have:=vo (show 0<q.2 by lia) (show 0<b by lia);lia
 unfold sc
 rw[qkI c d]
 unfold und
 have k:0<a*b:=vo (by lia) (by lia)
 rw[show p.1*a*(q.2*b)=p.1*q.2*(a*b) by ac_rfl,show q.1*a*(p.2*b)=q.1*p.2*(a*b) by ac_rfl,decide_eq_decide]
 exact⟨λz=>uf z (by lia),λz=>ud z k⟩
theorem qjd{a b m c:Int}(j:1<=b)(d:1<=c):sc a b (lw m c)=lw (m*a) (c*b):=by
 have i:=z0 (t:=m) d
 have l:=i.pos
 have e:=jw (t:=m) d
 have f:1<=c*b:=by have:=vo (show 0<c by lia) (show 0<b by lia);lia
 have h:1<=(lw m c).2*b:=by have:=vo (show 0<(lw m c).2 by lia) (show 0<b by lia);lia
 unfold sc
 refine jm (z0 h) (z0 f) ?_
 have n:=jw (t:=(lw m c).1*a) (b:=(lw m c).2*b) h
 have o:=jw (t:=m*a) (b:=c*b) f
 generalize lw ((lw m c).1*a) ((lw m c).2*b)=A at *
 generalize lw (m*a) (c*b)=B at *
 generalize lw m c=L at *
 have:(A.1*B.2)*(L.2*b*(c*b))=(B.1*A.2)*(L.2*b*(c*b)):=by grind
 exact Int.eq_of_mul_eq_mul_right (by have:=vo (show 0<L.2*b by lia) (show 0<c*b by lia);lia) this
theorem sc01{a b:Int}(c:1<=b):sc a b (0,1)=(0,1):=by
 unfold sc
 refine jm (z0 (by lia)) lw01 ?_
 have:=jw (t:=0*a) (b:=1*b) (by lia)
 show(lw (0*a) (1*b)).1*1=0*(lw (0*a) (1*b)).2
 rw[Int.zero_mul,Int.zero_mul,Int.one_mul]at this
 rw[Int.zero_mul,Int.zero_mul,Int.one_mul,Int.mul_one]
 rcases Int.mul_eq_zero.mp this with z|z
 .exact z
 .lia
noncomputable def grW(w:Wb)(a b:Int):Wb:=⟨w.costs.map (·*b),w.ties.map λt=>(t.1,t.2*a)⟩
theorem jr(w:Wb)(a b:Int):(grW w a b).costs.length=w.costs.length:=by show(w.costs.map _).length=_;rw[wG]
theorem qg4(w:Wb)(a b:Int)(X:List Int):tin (grW w a b) X=(tin w X).map λt=>(t.1,t.2*a):=by
 unfold tin
 show(w.ties.map _).filter _=_
 rw[uS];rfl
theorem qbA(a:Int):∀l:List Int,(l.map (·*a)).sum=l.sum*a
 |[]=>by simp
 |x::r=>by rw[wI,vl,vl,qbA a r,Int.add_mul]
theorem qkJ(w:Wb)(a b:Int)(X:List Int)(x:Int):deg (tin (grW w a b) X) x=deg (tin w X) x*a:=by
 rw[qg4]
 unfold deg
 rw[uS,wS,<-qbA,wS];rfl
theorem qg5(w:Wb)(a b:Int){x:Int}(c:InR w.costs.length x):cstI (grW w a b) x=cstI w x*b:=by
 have d:x.toNat<w.costs.length:=by have:=c.1;have:=c.2;lia
 unfold cstI
 show(w.costs.map (·*b)).getD _ 0=_
 rw[wN,wN,wb,wC d];rfl
theorem qg6{w:Wb}(h:WbOk w){a b:Int}(d:1<=b)(X:List Int){x:Int}(c:InR w.costs.length x):rat (grW w a b) X x=sc a b (rat w X x):=by
 unfold rat
 rw[qkJ,qg5 w a b c,qjd d (jx h c.1 c.2).1]
theorem qdZ{a b:Int}(ha:1<=a)(f:1<=b){r r':Int->Int×Int}:∀(n:Nat) (l:List Int),l.length=n->l≠[]->(∀x∈l,r' x=sc a b (r x)/\1<=(r x).2)->offP r' l=((offP r l).1,sc a b (offP r l).2):=by
 intro n
 induction n with
 |zero=>intro l h c;exact absurd (wa.mp h) c
 |succ n j =>
  intro l m c H
  obtain⟨i,y,rfl⟩:∃i y,l=i++[y]:=by
   rcases xL l with rfl|⟨ys,y,rfl⟩
   .exact absurd rfl c
   .exact ⟨ys,y,by rw[xM]⟩
  rw[wd,ve]at m
  have d:=H y (by simp)
  by_cases hi:i=[]
  .subst hi
   show(y,r' y)=(y,sc a b (r y))
   rw[d.1]
  .have e:=j i (by lia) hi λx o=>H x (wp _ o)
   obtain⟨z,p,q⟩:=y8 r _ i rfl hi
   rw[zQ r hi,zQ r' hi,e,q]
   unfold offS
   rw[d.1,qda ha f d.2 (H z (wp _ p)).2]
   split <;> rfl
noncomputable def scO(a b:Int)(o:Of):Of:=(o.1,sc a b o.2)
theorem qg7{w:Wb}(h:WbOk w){a b:Int}(ha:1<=a)(c:1<=b):∀(k:Nat) (L:List Int),Lft w k L->seqO (grW w a b) k L=(seqO w k L).map (scO a b)
 |0,L,hL=>rfl
 |k+1,[],hL=>rfl
 |k+1,x::l,hL=>by
  have e:=qdZ (r:=rat w (x::l)) (r':=rat (grW w a b) (x::l)) ha c _ (x::l) rfl (by simp) λy d=>⟨qg6 h c _ (hL.rng y d),(jp h _ (hL.rng y d).1 (hL.rng y d).2).b1⟩
  rw[seqO,seqO,wI,e,qg7 h ha c k _ hL.next.2.2];rfl
theorem qmb{a b:Int}(ha:1<=a)(c:1<=b){m n:Int×Int}(hm:1<=m.2)(hn:1<=n.2):mx (sc a b m) (sc a b n)=sc a b (mx m n):=by
 unfold mx
 rw[qda ha c hm hn]
 split <;> rfl
theorem qg8{a b:Int}(ha:1<=a)(c:1<=b):∀(l:List Of) (m:Int×Int),1<=m.2->(∀o∈l,1<=o.2.2)->runC (sc a b m) (l.map (scO a b))=(runC m l).map (scO a b)
 |[],m,hm,h=>rfl
 |o::r,m,hm,h=>by
  have d:=h o wE
  rw[wI,runC,runC,wI]
  show(o.1,mx (sc a b m) (sc a b o.2))::runC (mx (sc a b m) (sc a b o.2)) _=_
  rw[qmb ha c hm d,qg8 ha c r _ (by unfold mx;split <;> assumption) λp e=>h p (wH _ e)]
  rfl
theorem qje{a b:Int}(c:1<=b):∀(l:List Of) (x:Int),lkC (l.map (scO a b)) x=sc a b (lkC l x)
 |[],x=>(sc01 c).symm
 |o::r,x=>by
  rw[wI,lkC,lkC]
  show(if o.1=x then sc a b o.2 else _)=_
  split
  .rfl
  .exact qje c r x
theorem qiO{w:Wb}(h:WbOk w):∀o∈(strW w).1,1<=o.2.2:=by
 rw[zf]
 exact λo a=>(qbz h _ _ (q8 w) o a).pos
theorem qg9{w:Wb}(h:WbOk w){a b:Int}(ha:1<=a)(c:1<=b):(strW (grW w a b)).1=(strW w).1.map (scO a b):=by
 rw[zf,zf,jr]
 exact qg7 h ha c _ _ (q8 w)
theorem qkK{w:Wb}(h:WbOk w){a b:Int}(ha:1<=a)(c:1<=b)(x:Int):cor (grW w a b) x=sc a b (cor w x):=by
 unfold cor
 rw[qg9 h ha c]
 have:=qg8 ha c (strW w).1 (0,1) (by decide) (qiO h)
 rw[sc01 c]at this
 rw[this,qje c]
theorem qiP(w:Wb)(a b:Int)(X:List Int):mass (grW w a b) X=mass w X*a:=by
 unfold mass
 rw[qg4,wS,<-qbA,wS];rfl
theorem qha(w:Wb)(a b:Int){X:List Int}(c:∀x∈X,InR w.costs.length x):price (grW w a b) X=price w X*b:=by
 unfold price
 rw[<-qbA,wS]
 congr 1
 apply we
 exact λx d=>qg5 w a b (c x d)
theorem qhb{w:Wb}(h:WbOk w){a b:Int}(d:1<=b){p:List Int}(c:PlOk w.costs.length p):shr (grW w a b) p=sc a b (shr w p):=by
 unfold shr
 rw[qiP,qha w a b c.rng,qjd d (qah h c).1]
theorem qhc{w:Wb}(h:WbOk w){a b:Int}(ha:1<=a)(i:1<=b):∀(k:Nat) (L:List Int) (ord d:List Of) (c:List Int),Lft w k L->(L=[]\/PlOk w.costs.length L)->PlOk w.costs.length c->(stp (grW w a b) k L d c).2=(stp w k L ord c).2
 |0,L,ord,d,c,hL,hl,hbst=>rfl
 |k+1,[],ord,d,c,hL,hl,hbst=>rfl
 |k+1,x::l,ord,d,c,hL,hl,hbst=>by
  have f:=hl.resolve_left (by simp)
  have e:=qdZ (r:=rat w (x::l)) (r':=rat (grW w a b) (x::l)) ha i _ (x::l) rfl (by simp) λy j=>⟨qg6 h i _ (hL.rng y j),(jp h _ (hL.rng y j).1 (hL.rng y j).2).b1⟩
  rw[stp,stp,e,qhb h i f,qhb h i hbst,qda ha i (qbt h hbst).b1 (qbt h f).b1]
  exact qhc h ha i k _ _ _ _ hL.next.2.2 (qco f _) (by split <;> assumption)
theorem qkL{w:Wb}(h:WbOk w){a b:Int}(ha:1<=a)(c:1<=b):strW (grW w a b)=((strW w).1.map (scO a b),(strW w).2):=by
 have d:(strW (grW w a b)).2=(strW w).2:=by
  unfold strW
  rw[jr]
  exact qhc h ha c _ _ _ _ _ (q8 w) (.inr (qc5 h.c1)) (qc5 h.c1)
 rw[<-qg9 h ha c,<-d]
end RP
namespace RP
open R
noncomputable def shf(n:Nat)(t:Tie):Tie:=(t.1.map λx=>x+n,t.2)
noncomputable def bsW(w v:Wb):Wb:=⟨w.costs++v.costs,w.ties++v.ties.map (shf w.costs.length)⟩
theorem yv(w v:Wb):(bsW w v).costs.length=w.costs.length+v.costs.length:=wd
theorem qd0(n:Nat):∀a b:List Int,HT.lexLt (a.map λx=>x+n) (b.map λx=>x+n)=HT.lexLt a b
 |[],[]=>rfl
 |[],_::_=>rfl
 |_::_,[]=>rfl
 |x::r,y::s=>by
  rw[wI,wI,HT.lexLt,HT.lexLt,qd0 n r s]
  have e1:decide (x+(n:Int)<y+n)=decide (x<y):=by rw[decide_eq_decide];lia
  have c:(x+(n:Int)=y+n)=(x=y):=propext ⟨λh=>by lia,λh=>by rw[h]⟩
  simp only[e1,c]
theorem qhd{x y:Int}(h:x<y)(r s:List Int):HT.lexLt (x::r) (y::s)=true:=by
 rw[HT.lexLt];simp[h];exact .inl (by lia)
theorem qhe{w v:Wb}(d:WbOk w)(f:WbOk v)(o:w.costs.length+v.costs.length<=12)(u:w.ties.length+v.ties.length<=30):WbOk (bsW w v):=by
 refine⟨by rw[yv];have:=d.c1;lia,by rw[yv];exact o,?_,?_,?_,?_⟩
 .intro c A
  rcases wu.mp A with z|z
  .exact d.c3 c z
  .exact f.c3 c z
 .show (w.ties++v.ties.map _).length<=30
  rw[wd,wG];exact u
 .intro t h
  rw[yv]
  rcases wu.mp h with z|z
  .obtain ⟨a,b,c⟩:=d.t2 t z
   exact⟨⟨a.ne,λx i=>by have:=a.rng x i;lia,a.up⟩,b,c⟩
  .obtain ⟨s,j,rfl⟩:=wX.mp z
   obtain⟨a,b,c⟩:=f.t2 s j
   refine⟨⟨λe=>a.ne (List.map_eq_nil_iff.mp e),λx i=>?_,?_⟩,by show(s.1.map _).length<=4;rw[wG];exact b,c⟩
   .obtain ⟨y,B,rfl⟩:=wX.mp i
    have:=a.rng y B;lia
   .exact v6.mpr (a.up.imp λ{p q} z=>by lia)
 .show ((w.ties++v.ties.map (shf w.costs.length)).map (·.1)).Pairwise _
  rw[vJ,List.pairwise_append]
  refine⟨d.t3,?_,?_⟩
  .rw [wS]
   exact v6.mpr ((v6.mp f.t3).imp λ{p q} z=>by
    show HT.lexLt (p.1.map _) (q.1.map _)=true
    rw[qd0];exact z)
  .intro a ha b C
   obtain⟨t,h,rfl⟩:=wX.mp ha
   obtain⟨s',l,rfl⟩:=wX.mp C
   obtain⟨s,j,rfl⟩:=wX.mp l
   have m:=(d.t2 t h).1
   have n:=(f.t2 s j).1
   show HT.lexLt t.1 (s.1.map _)=true
   cases e1:t.1 with
   |nil=>exact absurd e1 m.ne
   |cons x r =>
    cases e2:s.1 with
    |nil=>exact absurd e2 n.ne
    |cons y q =>
     have E:=m.rng x (by rw[e1];simp)
     have F:=n.rng y (by rw[e2];simp)
     exact qhd (by lia) _ _
theorem qd1(A B:List Tie)(x:Int):deg (A++B) x=deg A x+deg B x:=by
 unfold deg
 rw[uk,vJ,List.sum_append]
theorem qcs{T:List Tie}{x:Int}(h:∀t∈T,x∉t.1):deg T x=0:=by
 unfold deg
 have:T.filter (λt=>t.1.contains x)=[]:=by
  rw[List.filter_eq_nil_iff]
  intro t a
  rw[wV];exact h t a
 rw[this];rfl
theorem qhf(w v:Wb)(X:List Int):tin (bsW w v) X=tin w X++(v.ties.filter λt=>subB (shf w.costs.length t).1 X).map (shf w.costs.length):=by
 unfold tin
 show(w.ties++v.ties.map _).filter _=_
 rw[uk,uS];rfl
theorem qhg{w:Wb}{X Y:List Int}(h:∀t∈w.ties,∀z∈t.1,(z∈X ↔ z∈Y)):tin w X=tin w Y:=by
 unfold tin
 apply uG
 intro t b
 unfold subB
 rw[vP,ww,ww]
 simp only[wV]
 exact⟨λq z a=>(h t b z a).mp (q z a),λq z a=>(h t b z a).mpr (q z a)⟩
theorem qd2{w v:Wb}(c:WbOk w)(d:WbOk v){X X1:List Int}(f:∀z,InR w.costs.length z->(z∈X ↔ z∈X1)){x:Int}(a:InR w.costs.length x):rat (bsW w v) X x=rat w X1 x:=by
 unfold rat
 have e1:tin w X=tin w X1:=qhg λt b z h=>f z ((c.t2 t b).1.rng z h)
 have i:deg (tin (bsW w v) X) x=deg (tin w X1) x:=by
  rw[qhf,qd1,qcs (T:=List.map _ _),e1,Int.add_zero]
  intro t b
  obtain⟨s,j,rfl⟩:=wX.mp b
  intro z
  obtain⟨y,l,e⟩:=wX.mp z
  have:=((d.t2 s (wm.mp j).1).1.rng y l).1
  have:=a.2
  lia
 rw[i]
 congr 1
 have m:x.toNat<w.costs.length:=by have:=a.1;have:=a.2;lia
 unfold cstI
 show(w.costs++v.costs).getD _ 0=_
 rw[wN,wN,wY m]
theorem qd3{w v:Wb}(i:WbOk w)(f:WbOk v){X a:List Int}(h:∀z,InR v.costs.length z->(z+w.costs.length∈X ↔ z∈a)){x:Int}(d:InR v.costs.length x):rat (bsW w v) X (x+w.costs.length)=rat v a x:=by
 unfold rat
 have e1:(v.ties.filter λt=>subB (shf w.costs.length t).1 X)=tin v a:=by
  unfold tin
  apply uG
  intro t b
  unfold subB shf
  rw[vP,ww,ww]
  simp only[wV,wX]
  constructor
  .exact λq z c=>(h z ((f.t2 t b).1.rng z c)).mp (q _ ⟨z,c,rfl⟩)
  .rintro q y ⟨z,c,rfl⟩
   exact(h z ((f.t2 t b).1.rng z c)).mpr (q z c)
 have j:deg (tin (bsW w v) X) (x+w.costs.length)=deg (tin v a) x:=by
  rw[qhf,qd1,qcs (T:=tin w X),e1,Int.zero_add]
  .unfold deg
   rw[uS,wS]
   have:(tin v a).filter ((λt=>t.1.contains (x+(w.costs.length:Int)))∘shf w.costs.length)=(tin v a).filter λt=>t.1.contains x:=by
    apply uG
    intro t b
    show(t.1.map _).contains _=t.1.contains x
    rw[vP,wV,wV,wX]
    constructor
    .rintro ⟨y,l,e⟩
     rw[show x=y by lia];exact l
    .exact λq=>⟨x,q,rfl⟩
   rw[this];rfl
  .intro t b z
   have:=((i.t2 t (wm.mp b).1).1.rng _ z).2
   have:=d.1
   lia
 rw[j]
 congr 1
 have m:¬(x+(w.costs.length:Int)).toNat<w.costs.length:=by have:=d.1;lia
 unfold cstI
 show(w.costs++v.costs).getD _ 0=_
 rw[wN,wN,w8 (by lia)]
 congr 2
 have:=d.1
 lia
section
variable{w v:Wb}(hw:WbOk w)(hv:WbOk v)(h1:w.costs.length+v.costs.length<=12)(h2:w.ties.length+v.ties.length<=30)
include hw hv h1 h2
theorem qiQ{x:Int}(b:InR w.costs.length x):cor (bsW w v) x=cor w x:=by
 have i:=qhe hw hv h1 h2
 have d:x∈rI (bsW w v).costs.length:=by rw[yv,ql];have:=b.1;have:=b.2;lia
 refine qc9 hw i λc j=>?_
 rw[zx hw j (ql.mpr b),zx i j d]
 constructor
 .rintro ⟨X,e,f,h⟩
  refine⟨X,λy a=>?_,f,λy a=>?_⟩
  .have:=ql.mp (e y a)
   rw[yv,ql];lia
  .rw [qd2 hw hv (X1:=X) (λ_ _=>Iff.rfl) (ql.mp (e y a))]
   exact h y a
 .rintro ⟨X,e,f,h⟩
  have mX:∀z,z∈(rI w.costs.length).filter (λz=>X.contains z) ↔ InR w.costs.length z/\z∈X:=λz=>by
   rw[wm,wV]
   exact⟨λq=>⟨ql.mp q.1,q.2⟩,λq=>⟨ql.mpr q.1,q.2⟩⟩
  refine⟨_,λy a=>ql.mpr ((mX y).mp a).1,(mX x).mpr ⟨b,f⟩,λy a=>?_⟩
  rw[<-qd2 hw hv (X:=X) (λz l=>⟨λq=>(mX z).mpr ⟨l,q⟩,λq=>((mX z).mp q).2⟩) ((mX y).mp a).1]
  exact h y ((mX y).mp a).2
theorem qiR{x:Int}(d:InR v.costs.length x):cor (bsW w v) (x+w.costs.length)=cor v x:=by
 have l:=qhe hw hv h1 h2
 have f:x+(w.costs.length:Int)∈rI (bsW w v).costs.length:=by rw[yv,ql];have:=d.1;have:=d.2;lia
 refine qc9 hv l λc m=>?_
 rw[zx hv m (ql.mpr d),zx l m f]
 constructor
 .rintro ⟨X,h,i,j⟩
  have mX:∀z,InR v.costs.length z->(z+(w.costs.length:Int)∈X.map (λy=>y+(w.costs.length:Int)) ↔ z∈X):=λz _=>by
   rw[wX]
   constructor
   .rintro ⟨y,a,e⟩
    rw[show z=y by lia];exact a
   .exact λq=>⟨z,q,rfl⟩
  refine⟨X.map λy=>y+(w.costs.length:Int),λy a=>?_,(mX x d).mpr i,λy a=>?_⟩
  .obtain ⟨z,b,rfl⟩:=wX.mp a
   have:=ql.mp (h z b)
   rw[yv,ql];lia
  .obtain ⟨z,b,rfl⟩:=wX.mp a
   rw[qd3 hw hv mX (ql.mp (h z b))]
   exact j z b
 .rintro ⟨X,h,i,j⟩
  have mX:∀z,z∈(rI v.costs.length).filter (λz=>X.contains (z+(w.costs.length:Int))) ↔ InR v.costs.length z/\z+(w.costs.length:Int)∈X:=λz=>by
   rw[wm,wV]
   exact⟨λq=>⟨ql.mp q.1,q.2⟩,λq=>⟨ql.mpr q.1,q.2⟩⟩
  refine⟨_,λy a=>ql.mpr ((mX y).mp a).1,(mX x).mpr ⟨d,i⟩,λy a=>?_⟩
  rw[<-qd3 hw hv (X:=X) (λz b=>⟨λq=>(mX z).mpr ⟨b,q⟩,λq=>((mX z).mp q).2⟩) ((mX y).mp a).1]
  exact j _ ((mX y).mp a).2
end
theorem ja:∀{ts:List Tie},(ts.map (·.1)).Nodup->∀t∈ts,look ts t.1=t.2
 |[],_,t,h=>by simp at h
 |s::r,nd,t,h=>by
  rw[wI,vS]at nd
  rw[look]
  rcases wR.mp h with rfl|h
  .rw [wM rfl]
  .rw [wO λe=>nd.1 (by rw[e];exact wX.mpr ⟨t,h,rfl⟩)]
   exact ja nd.2 t h
theorem qhh{ts:List Tie}(nd:(ts.map (·.1)).Nodup):(srt ts).Perm ts:=by
 unfold srt
 refine((qH _).map _).trans ?_
 rw[wS]
 have:ts.map ((λk=>(k,look ts k))∘λt:Tie=>t.1)=ts:=by
  conv=>rhs;rw[<-List.map_id ts]
  apply we
  intro t a
  show(t.1,look ts t.1)=t
  rw[ja nd t a]
 rw[this]
noncomputable def wsum(p:Tie->Bool)(ts:List Tie):Int:=((ts.filter p).map (·.2)).sum
theorem qd4(w:Wb)(X:List Int)(x:Int):deg (tin w X) x=wsum (λt=>t.1.contains x&&subB t.1 X) w.ties:=by
 unfold deg tin wsum
 rw[List.filter_filter]
theorem qd5{p:Tie->Bool}(a:∀s t:Tie,s.1=t.1->p s=p t){k:List Int}{v:Int}:∀{ts:List Tie},(∀t∈ts,t.1=k->t.2<=v)->wsum p ts<=wsum p (ts.map λt=>if t.1=k then(t.1,v)else t)
 |[],_=>Int.le_refl _
 |t::r,h=>by
  have b:=qd5 a (ts:=r) λs c=>h s (wH _ c)
  have d:=h t wE
  unfold wsum at b ⊢
  rw[wI,vX,vX]
  have e:p (if t.1=k then(t.1,v)else t)=p t:=a _ _ (by split <;> rfl)
  rw[e]
  split
  .rw [wI,wI,vl,vl]
   have:t.2<=(if t.1=k then(t.1,v)else t).2:=by
    split
    .rename_i z;exact d z
    .exact Int.le_refl _
   lia
  .exact b
theorem qhi{p:Tie->Bool}(a:∀s t:Tie,s.1=t.1->p s=p t){k:List Int}{v:Int}{ts:List Tie}(h:∀t∈ts,t.1=k->t.2<=v)(b:0<=v):wsum p ts<=wsum p (putTie k v ts):=by
 unfold putTie
 split
 .exact qd5 a h
 .unfold wsum
  rw[uk,vJ,List.sum_append]
  have:0<=(([(k,v)].filter p).map (·.2)).sum:=by
   rw[vX]
   split
   .simpa using b
   .simp
  lia
theorem qeP{p:Tie->Bool}{a b:List Tie}(h:a.Perm b):wsum p a=wsum p b:=qcf ((h.filter p).map _)
theorem qhj{w:Wb}(b:WbOk w){k:List Int}{v:Int}(h':WbOk ⟨w.costs,srt (putTie k v w.ties)⟩)(nd:((putTie k v w.ties).map (·.1)).Nodup)(i:∀t∈w.ties,t.1=k->t.2<=v)(j:0<=v){x:Int}(d:InR w.costs.length x):und (cor ⟨w.costs,srt (putTie k v w.ties)⟩ x) (cor w x)=false:=by
 have l:=qc8 b x
 have c:0<(cor w x).2:=by have:=l.pos;lia
 obtain⟨X,f,m,n⟩:=(zx b c (ql.mpr d)).mp (zG _)
 refine(zx h' c (ql.mpr d)).mpr ⟨X,f,m,λy h=>?_⟩
 have a:=ql.mp (f y h)
 have e:und (rat ⟨w.costs,srt (putTie k v w.ties)⟩ X y) (rat w X y)=false:=by
  unfold rat
  refine qcp (jx b a.1 a.2).1 ?_
  rw[qd4,qd4,qeP (qhh nd)]
  exact qhi (λs t z=>by rw[z]) i j
 exact jy c (ze b X a) (ze h' X a) (n y h) e
end RP
namespace RP
open R
theorem qkM{d n many:Nat}{v:Int}{ρ0:En}{S:Sr}(hn:n<S.length)(B:0<=v)(L:many<=60)(C:ρ0[5]?=some (some (.ref S.length)))(E:ρ0[2]?=some (some (.ref n)))(H:ρ0[4]?=some (some (.int many))):∃(o:List Int) (u:Int),o.Perm (rI many)/\0<=u/\ev (G (d+1)) (.lc false [5,2] 1 (.popAt (.var 0) (.call 22 (.cons (.var 1) (.cons (.blt .len (.cons (.var 0) .nil)) .nil)))) (.var 2) (.rng (.cons (.var 4) .nil)) .nil) ρ0 (pk S n v++[.lst ((rI many).map .int)])=.ok (.lst (o.map .int)) (pk S n u++[.lst []]):=by
 obtain⟨c,M,e,⟨b,a,u,rfl,rfl,p,j⟩,w,r⟩:=qcU (g:=.int) (F:=G (d+1)) (fr:=[5,2]) (nt:=1) (elt:=.popAt (.var 0) (.call 22 (.cons (.var 1) (.cons (.blt .len (.cons (.var 0) .nil)) .nil)))) (tg:=.var 2) (it:=.rng (.cons (.var 4) .nil))
  (ρ:=ρ0) (S:=pk S n v++[.lst ((rI many).map .int)]) (S1:=pk S n v++[.lst ((rI many).map .int)]) (rI many) (λρ=>∃x,ρ=[some (.ref S.length),some (.ref n),x])
  (λc T=>∃b a u,c=b.map .int/\T=pk S n u++[.lst (a.map .int)]/\0<=u/\(b++a).Perm (rI many))
  (i_rng (n:=many) (qe (by simp only[ev,varE,H]) rfl) (by lia)) rfl ⟨none,by simp[frE,C,E]⟩ (by rw[qE];lia) ⟨[],rI many,_,rfl,rfl,B,.refl _⟩ (by
   rintro q N ρ m T ⟨x,rfl⟩ ⟨b,a,u,rfl,rfl,p,j⟩ O hm
   have h:=j.length_eq
   rw[wd,qE]at h
   rw[wG,qE]at hm
   have I:0<a.length:=by lia
   have f:=fm (v:=u) (m:=(a.length:Int)) (by lia)
   have z:=zE (d:=d) (n:=n) (v:=u) (m:=a.length) (S:=(S++[.lst (a.map .int)])++[.lst (b.map .int)]) (by simp;lia) (by lia) (by lia)
   rw[<-qS (by simp;lia),<-qS hn,<-qS (by simp;lia),<-qS hn]at z
   obtain⟨y,A⟩:∃y,a[(u.fmod a.length).toNat]?=some y:=⟨_,wC (by lia)⟩
   refine⟨[some (.ref S.length),some (.ref n),some (.int q)],.int y,pk S n (u.fdiv a.length)++[.lst ((a.eraseIdx (u.fmod a.length).toNat).map .int)],rfl,⟨_,rfl⟩,?_,by simp[qu],rfl,b++[y],a.eraseIdx (u.fmod a.length).toNat,u.fdiv a.length,by simp,rfl,vO p (by lia),?_⟩
   .have i:∀u,(pk S n u++[.lst (a.map .int)]++[.lst (b.map .int)])[S.length]?=some (.lst (a.map .int)):=by
     intro u
     rw[v8,w8 (by rw[qu];lia),qu];simp
    have J:bltD .len [.ref S.length] (pk S n u++[.lst (a.map .int)]++[.lst (b.map .int)])=.ok (.int a.length) (pk S n u++[.lst (a.map .int)]++[.lst (b.map .int)]):=by
     simp only[bltD,one,bLen,lenD,i,wZ,wG,ofO];rfl
    have K:ev (G (d+1)) (.call 22 (.cons (.var 1) (.cons (.blt .len (.cons (.var 0) .nil)) .nil))) [some (.ref S.length),some (.ref n),some (.int q)] (pk S n u++[.lst (a.map .int)]++[.lst (b.map .int)])=.ok (.int (u.fmod a.length)) (pk S n (u.fdiv a.length)++[.lst (a.map .int)]++[.lst (b.map .int)]) :=
     qi (qe rfl (qe (qC rfl J) rfl)) z
    have l:popD (pk S n (u.fdiv a.length)++[.lst (a.map .int)]++[.lst (b.map .int)]) (.ref S.length) (.int (u.fmod a.length))=.ok (.int y) (pk S n (u.fdiv a.length)++[.lst ((a.eraseIdx (u.fmod a.length).toNat).map .int)]++[.lst (b.map .int)]):=by
     unfold popD
     simp only[i]
     rw[wM ⟨f.1,by lia⟩,wb,A]
     simp only[wZ]
     rw[qcV,v8,uA _ _ (by rw[qu];lia),qu]
     simp
    have hi:isLst (pk S n u++[.lst (a.map .int)]++[.lst (b.map .int)]) (.ref S.length)=true:=by simp only[isLst,i]
    exact qi6 rfl hi K l
   .rw [v8]
    exact((qbn A).append_left b).trans j)
 rw[wG,qE]at r
 have h:=j.length_eq
 rw[wd,qE]at h
 have s:a=[]:=wa.mp (by lia)
 subst s
 rw[uC]at j
 exact⟨b,u,j,p,e⟩
theorem jI{l:List Int}{x:Int}{S:Sr}(h:0<=x)(a:x<l.length):idxD S (.lst (l.map .int)) (.int x)=some (.int (nth l x)):=by
 have b:x.toNat<l.length:=by lia
 have:L2.ixN (l.map D.int).length x=some x.toNat:=by
  unfold L2.ixN;rw[wM h,wG,wM a]
 simp only[idxD,seqOf,lstOf,wQ,L2.atI,this]
 rw[wb,jH h a];rfl
theorem qmc{F:Fs}{ρ:En}{S:Sr}{i j:Nat}{o p:List Int}(h0:ρ[i]?=some (some (.lst (o.map .int))))(c:ρ[j]?=some (some (tupI p)))(a:∀x∈p,0<=x/\x<o.length)(d:p.length<64):
  ev F (.blt .tuple (.cons (.blt (.sorted false) (.cons (.lc false [i] 1 (.idx (.var 0) (.var 1)) (.var 1) (.seq (.var j)) .nil) .nil)) .nil)) ρ S=.ok (tupI (cal o p)) S:=by
 have f:ev F (.var j) ρ S=.ok (tupI p) S:=by simp only[ev,varE,c]
 have e:=zN (g:=.int) (F:=F) (fr:=[i]) (nt:=1) (elt:=.idx (.var 0) (.var 1)) (tg:=.var 1) (it:=.seq (.var j)) (ifs:=.nil) (ρ:=ρ) (S:=S) (S1:=S) (ds:=p.map .int) p (λ_=>true) (λx=>.int (nth o x)) (λρ=>∃x,ρ=[some (.lst (o.map .int)),x]) (by simp only[evI,f,Res.bind,tupI]) rfl ⟨none,by simp[frE,h0]⟩ (by unfold PySem.sizeLine;lia) (by
  rintro q b ρ m ⟨x,rfl⟩
  exact⟨_,rfl,⟨_,rfl⟩,rfl,λ_=>⟨qw rfl rfl (jI (a q b).1 (a q b).2),rfl⟩⟩)
 rw[qG]at e
 have h:bltD (.sorted false) [.lst (p.map λx=>.int (nth o x))] S=.ok (.lst ((cal o p).map .int)) S:=by
  have:(p.map λx=>D.int (nth o x))=(p.map (nth o)).map .int:=by rw[wS];rfl
  simp only[bltD,one,bSorted,walkD,wQ,this]
  rw[jl (by simpa using d)];rfl
 exact qC (qe (qC (qe e rfl) h) rfl) rfl
theorem rep0(m:Nat):rep [D.int 0] (m:Int)=(List.replicate m (0:Int)).map .int:=by
 unfold rep
 have:((m:Int)).toNat=m:=by lia
 rw[this,List.map_replicate]
 induction m with
 |zero=>rfl
 |succ k a =>
  rw[vC,vi,a (by lia),vC];rfl
theorem qar:∀ps:List (List Int×Int),pairsD (ps.map tieD)=some ps
 |[]=>rfl
 |a::r=>by
  have:=qar r
  simp only[wI,tieD,tupI,pairsD,qK,wQ]at this ⊢
  rw[this];rfl
theorem put_lst{S:Sr}{j:Nat}{l:List Int}{i v:Int}(h:S[j]?=some (.lst (l.map .int)))(h0:0<=i)(a:i<l.length):putE S (.ref j) (.int i) (.int v)=some (S.set j (.lst ((l.set i.toNat v).map .int))):=by
 unfold putE
 rw[wM (show refsLt 0 (D.int v)=true from rfl)]
 have:L2.ixN (l.map D.int).length i=some i.toNat:=by
  unfold L2.ixN;rw[wM h0,wG,wM a]
 simp only[putN,h,this,wZ,List.map_set]
theorem qd6(l:List Int)(S:Sr):bltD .len [.lst (l.map .int)] S=.ok (.int l.length) S:=by simp[bltD,one,bLen,lenD]
theorem qd7{l:List Int}{i j v:Int}(hi:0<=i)(a:i<l.length)(c:0<=j):nth (l.set i.toNat v) j=if i=j then v else nth l j:=by
 unfold nth
 simp only[wN,List.getElem?_set]
 split
 .rename_i e
  have b:i=j:=by lia
  rw[wM (by lia),wM b];rfl
 .rename_i e
  rw[wO (by lia)]
theorem qkN{F:Fs}{ρ:En}{S S1 S2:Sr}{o:BOp}{e1 a:CE}{d1 d2:D}{r:Res D}(h:ev F e1 ρ S=.ok d1 S1)(b:ev F a ρ S1=.ok d2 S2)(c:R.binM o d1 d2 S2=r):ev F (.binM o e1 a) ρ S=r:=by
 simp only[ev,h,b,Res.bind,c]
theorem qhk{d:Nat}{w:Wb}{o:List Int}{S:Sr}(n:WbOk w)(r:o.Perm (rI w.costs.length)):∃cs:List Int,cs.length=w.costs.length/\(∀x,InR w.costs.length x->nth cs (nth o x)=cstI w x)/\G (d+1) 27 [webD w,.lst (o.map .int)] S=.ok (webD ⟨cs,calT o w.ties⟩) S:=by
 have u:=yZ r
 have I:=n.c2
 obtain⟨J,T,K,x,cs,rfl,rfl,i,v⟩:=zI (g:=.int) (body:=λL ρ S=>(asg (G d) (.var 3) L ρ S).bind λρ1 S1=>exs (G d) NW (.cons (.set (.sub (.var 2) (.idx (.var 1) (.var 3))) (.idx (.idx (.var 0) (.cst (.int 0))) (.var 3))) .nil) ρ1 S1)
  (λ(pre:List Int) ρ T=>∃x cs,ρ=[some (webD w),some (.lst (o.map .int)),some (.ref S.length),x,none]/\T=S++[.lst (cs.map .int)]/\cs.length=w.costs.length/\∀x∈pre,nth cs (nth o x)=cstI w x) (rI w.costs.length)
  (ρ:=[some (webD w),some (.lst (o.map .int)),some (.ref S.length),none,none]) (S:=S++[.lst ((List.replicate w.costs.length (0:Int)).map .int)]) ⟨_,_,rfl,rfl,by simp,by simp⟩ (by
   rintro pre q A ρ T f ⟨x,cs,rfl,rfl,i,v⟩
   have j:InR w.costs.length q:=ql.mp (by rw[f];simp)
   have h:=zV r j
   refine⟨[some (webD w),some (.lst (o.map .int)),some (.ref S.length),some (.int q),none],S++[.lst ((cs.set (nth o q).toNat (cstI w q)).map .int)],?_,_,_,rfl,rfl,by simpa using i,?_⟩
   .rw [show asg (G d) (.var 3) (.int q) [some (webD w),some (.lst (o.map .int)),some (.ref S.length),x,none] (S++[.lst (cs.map .int)])=.ok [some (webD w),some (.lst (o.map .int)),some (.ref S.length),some (.int q),none] (S++[.lst (cs.map .int)])from rfl,Res.bind_ok]
    refine qm (d:=.int (cstI w q)) (S1:=S++[.lst (cs.map .int)]) (qw (qw rfl rfl rfl) rfl (yY j.1 j.2)) (qck rfl (qw rfl rfl (jI j.1 (by rw[u];exact j.2))) (put_lst (l:=cs) (by simp) h.1 (by rw[i];exact h.2))) ?_
    rw[uA _ _ (by lia)]
    simp[exs]
   .have nd:(pre++q::A).Nodup:=by rw[<-f];exact yt _
    intro y M
    rcases wu.mp M with z|z
    .have s:InR w.costs.length y:=ql.mp (by rw[f];exact wp _ z)
     rw[qd7 h.1 (by rw[i];exact h.2) (zV r s).1,wO,v y z]
     intro e
     have:=y4 r j s e
     subst this
     exact(v7.mp nd).2.2 q z q wE rfl
    .simp at z;subst z
     rw[qd7 h.1 (by rw[i];exact h.2) h.1,wM rfl])
 have B:∀x,InR w.costs.length x->nth cs (nth o x)=cstI w x:=λx C=>v x (ql.mpr C)
 refine⟨cs,i,B,?_⟩
 rw[G_at (c:=c_27) rfl]
 have hn:(w.costs.length:Int)=(o.length:Int):=by rw[u]
 have e1:ev (G d) (.binM .mul (.lst false (.cons (.cst (.int 0)) .nil)) (.blt .len (.cons (.var 1) .nil))) [some (webD w),some (.lst (o.map .int)),none,none,none] S=.ok (.ref S.length) (S++[.lst ((List.replicate w.costs.length (0:Int)).map .int)]):=by
  have N:ev (G d) (.lst false (.cons (.cst (.int 0)) .nil)) [some (webD w),some (.lst (o.map .int)),none,none,none] S=.ok (.lst [.int 0]) S:=qdK rfl (by simp)
  have O:ev (G d) (.blt .len (.cons (.var 1) .nil)) [some (webD w),some (.lst (o.map .int)),none,none,none] S=.ok (.int w.costs.length) S:=by
   rw[hn];exact qC rfl (qd6 o S)
  have P:repOk [D.int 0] (w.costs.length:Int)=true:=by
   unfold repOk PySem.sizeLine
   rw[wk]
   refine⟨by lia,by lia,?_⟩
   simp;lia
  refine qkN N O ?_
  simp only[R.binM,lstOf]
  rw[wM P,rep0]
  simp only[newL,refsI,wr]
 have H:=zN (g:=tieD) (F:=G d) (fr:=[1]) (nt:=2) (elt:=.tup (.cons (.blt .tuple (.cons (.blt (.sorted false) (.cons (.lc false [0] 1 (.idx (.var 0) (.var 1)) (.var 1) (.seq (.var 1)) .nil) .nil)) .nil)) (.cons (.var 2) .nil))) (tg:=.tup (.cons (.var 1) (.cons (.var 2) .nil))) (it:=.seq (.idx (.var 0) (.cst (.int 1)))) (ifs:=.nil) (ρ:=[some (webD w),some (.lst (o.map .int)),some (.ref S.length),x,none]) (S:=S++[.lst (cs.map .int)]) (S1:=S++[.lst (cs.map .int)]) (ds:=w.ties.map tieD) w.ties (λ_=>true) (λt=>tieD (calT1 o t)) (λρ=>∃a b,ρ=[some (.lst (o.map .int)),a,b]) rfl rfl ⟨_,_,rfl⟩ (by have:=n.t1;unfold PySem.sizeLine;lia) (by
  rintro t Q ρ m ⟨a,b,rfl⟩
  have E:=n.t2 t Q
  exact⟨_,rfl,⟨_,_,rfl⟩,rfl,λ_=>⟨qP (qe (qmc (o:=o) (p:=t.1) rfl rfl (λx C=>by rw[u];exact E.1.rng x C) (by lia)) (qe rfl rfl)) (by simp[PySem.sizeLine]),zO _ _⟩⟩)
 rw[qG]at H
 have U:bltD (.sortp false) [.lst (w.ties.map λt=>tieD (calT1 o t))] (S++[.lst (cs.map .int)])=.ok (.lst ((calT o w.ties).map tieD)) (S++[.lst (cs.map .int)]):=by
  have:(w.ties.map λt=>tieD (calT1 o t))=(w.ties.map (calT1 o)).map tieD:=by rw[wS];rfl
  simp only[bltD,one,bSortp,lstOf,wQ,this,qar]
  rw[wM ⟨by have:=n.t1;simp;lia,qbq n r⟩]
  rfl
 refine yW (S2:=[.lst (cs.map .int)]) rfl rfl (qm e1 (ρ1:=[some (webD w),some (.lst (o.map .int)),some (.ref S.length),none,none]) rfl (yV (ds:=(rI w.costs.length).map .int) (S1:=S++[.lst ((List.replicate w.costs.length (0:Int)).map .int)]) (i_rng (qe (by rw[hn];exact qC rfl (qd6 o _)) rfl) (by lia)) K (qm (qC (qe H rfl) U) (ρ1:=[some (webD w),some (.lst (o.map .int)),some (.ref S.length),x,some (.lst ((calT o w.ties).map tieD))]) rfl (qL (qP (qe (qC (d:=tupI cs) rfl ?_) (qe (qC rfl rfl) rfl)) (by simp[PySem.sizeLine])))))) rfl (qac _ _)
 have:(S++[SO.lst (cs.map .int)])[S.length]?=some (.lst (cs.map .int)):=by simp
 simp only[bltD,one,bTuple,seqOf,lstOf,this,wZ,ofO]
 rfl
theorem qeQ{d:Nat}{w:Wb}{a b:Int}{S:Sr}(e:WbOk w)(ha:a.natAbs<2^64)(o:b.natAbs<2^64):G (d+1) 28 [webD w,.int a,.int b] S=.ok (webD (grW w a b)) S:=by
 have i:=e.c2
 have j:=e.t1
 rw[G_at (c:=c_28) rfl]
 have f:=zN (g:=.int) (F:=G d) (fr:=[2]) (nt:=1) (elt:=.bin .mul (.var 1) (.var 0)) (tg:=.var 1) (it:=.seq (.idx (.var 0) (.cst (.int 0)))) (ifs:=.nil) (ρ:=[some (webD w),some (.int a),some (.int b)]) (S:=S) (S1:=S) (ds:=w.costs.map .int) w.costs (λ_=>true) (λx=>.int (x*b)) (λρ=>∃y,ρ=[some (.int b),y]) rfl rfl ⟨_,rfl⟩ (by unfold PySem.sizeLine;lia) (by
  rintro x l ρ m ⟨y,rfl⟩
  have:=e.c3 x l
  exact⟨_,rfl,⟨_,rfl⟩,rfl,λ_=>⟨qA rfl rfl (bmul (qZ (by lia))),rfl⟩⟩)
 rw[qG]at f
 have h:=zN (g:=tieD) (F:=G d) (fr:=[1]) (nt:=2) (elt:=.tup (.cons (.var 1) (.cons (.bin .mul (.var 2) (.var 0)) .nil))) (tg:=.tup (.cons (.var 1) (.cons (.var 2) .nil))) (it:=.seq (.idx (.var 0) (.cst (.int 1)))) (ifs:=.nil) (ρ:=[some (webD w),some (.int a),some (.int b)]) (S:=S) (S1:=S) (ds:=w.ties.map tieD) w.ties (λ_=>true) (λt=>tieD (t.1,t.2*a)) (λρ=>∃y z,ρ=[some (.int a),y,z]) rfl rfl ⟨_,_,rfl⟩ (by unfold PySem.sizeLine;lia) (by
  rintro t n ρ m ⟨y,z,rfl⟩
  have:=e.t2 t n
  exact⟨_,rfl,⟨_,_,rfl⟩,rfl,λ_=>⟨qP (qe rfl (qe (qA rfl rfl (bmul (qZ (by lia)))) rfl)) (by simp[PySem.sizeLine]),zO _ _⟩⟩)
 rw[qG]at h
 refine qR rfl (qL (qP (qe (qC (d:=tupI (w.costs.map (·*b))) (qe f rfl) ?_) (qe (qC (d:=.tup ((w.ties.map λt=>(t.1,t.2*a)).map tieD)) (qe h rfl) ?_) rfl)) (by simp[PySem.sizeLine])))
 .simp only[bltD,one,bTuple,seqOf,lstOf,wZ,ofO,tupI,wS];rfl
 .simp only[bltD,one,bTuple,seqOf,lstOf,wZ,ofO,wS];rfl
theorem qhl{d:Nat}{w v:Wb}{S:Sr}(b:WbOk w)(a:WbOk v):G (d+1) 29 [webD w,webD v] S=.ok (webD (bsW w v)) S:=by
 have h:=b.c2
 have i:=a.c2
 have j:=b.t1
 have l:=a.t1
 rw[G_at (c:=c_29) rfl]
 have e:=zN (g:=tieD) (F:=G d) (fr:=[2]) (nt:=2) (elt:=.tup (.cons (.blt .tuple (.cons (.lc false [0] 1 (.bin .add (.var 1) (.var 0)) (.var 1) (.seq (.var 1)) .nil) .nil)) (.cons (.var 2) .nil))) (tg:=.tup (.cons (.var 1) (.cons (.var 2) .nil))) (it:=.seq (.idx (.var 1) (.cst (.int 1)))) (ifs:=.nil) (ρ:=[some (webD w),some (webD v),some (.int w.costs.length),none]) (S:=S) (S1:=S) (ds:=v.ties.map tieD) v.ties (λ_=>true) (λt=>tieD (shf w.costs.length t)) (λρ=>∃y z,ρ=[some (.int w.costs.length),y,z]) rfl rfl ⟨_,_,rfl⟩ (by unfold PySem.sizeLine;lia) (by
  rintro t n ρ m ⟨y,z,rfl⟩
  have o:=a.t2 t n
  have f:=zN (g:=.int) (F:=G d) (fr:=[0]) (nt:=1) (elt:=.bin .add (.var 1) (.var 0)) (tg:=.var 1) (it:=.seq (.var 1)) (ifs:=.nil) (ρ:=[some (.int w.costs.length),some (tupI t.1),some (.int t.2)]) (S:=S++[.lst m]) (S1:=S++[.lst m]) (ds:=t.1.map .int) t.1 (λ_=>true) (λx=>.int (x+w.costs.length)) (λρ=>∃y,ρ=[some (.int w.costs.length),y]) rfl rfl ⟨_,rfl⟩ (by unfold PySem.sizeLine;lia) (by
   rintro x p ρ q ⟨y,rfl⟩
   exact⟨_,rfl,⟨_,rfl⟩,rfl,λ_=>⟨qA rfl rfl badd,rfl⟩⟩)
  rw[qG]at f
  have e1:bltD .tuple [.lst (t.1.map λx=>.int (x+w.costs.length))] (S++[.lst m])=.ok (tupI (t.1.map λx=>x+(w.costs.length:Int))) (S++[.lst m]):=by
   simp only[bltD,one,bTuple,seqOf,lstOf,wZ,ofO,tupI,wS];rfl
  exact⟨_,rfl,⟨_,_,rfl⟩,rfl,λ_=>⟨qP (qe (qC (qe f rfl) e1) (qe rfl rfl)) (by simp[PySem.sizeLine]),zO _ _⟩⟩)
 rw[qG]at e
 have e1:bltD .tuple [.lst (v.ties.map λt=>tieD (shf w.costs.length t))] S=.ok (.tup ((v.ties.map (shf w.costs.length)).map tieD)) S:=by
  simp only[bltD,one,bTuple,seqOf,lstOf,wZ,ofO,wS];rfl
 have b1:binD .add (tupI w.costs) (tupI v.costs) S=some (tupI (w.costs++v.costs)):=by
  have:catOk (w.costs.map D.int) (v.costs.map D.int)=true:=by unfold catOk PySem.sizeLine;rw[wG,wG,wk];lia
  simp only[binD,tupI,this,wr,vJ]
 have b2:binD .add (.tup (w.ties.map tieD)) (.tup ((v.ties.map (shf w.costs.length)).map tieD)) S=some (.tup ((w.ties++v.ties.map (shf w.costs.length)).map tieD)):=by
  have:catOk (w.ties.map tieD) ((v.ties.map (shf w.costs.length)).map tieD)=true:=by unfold catOk PySem.sizeLine;rw[wG,wG,wG,wk];lia
  simp only[binD,this,wr,vJ]
 exact qR rfl (qm (d:=.int w.costs.length) (S1:=S) (qC (qe (qw (S1:=S) rfl rfl rfl) rfl) (zP _ _)) (ρ1:=[some (webD w),some (webD v),some (.int w.costs.length),none]) rfl (qm e (ρ1:=[some (webD w),some (webD v),some (.int w.costs.length),some (.lst (v.ties.map λt=>tieD (shf w.costs.length t)))]) rfl (qL (qP (qe (qA (qw rfl rfl rfl) (qw rfl rfl rfl) b1) (qe (qA (qw rfl rfl rfl) (qC rfl e1) b2) rfl)) (by simp[PySem.sizeLine])))))
theorem qas:∀ts:List Tie,pairsV (ts.map tieD)=some (ts.map ent)
 |[]=>rfl
 |a::r=>by
  have:=qas r
  simp only[wI,tieD,tupI,pairsV,refsLt,wr,qK,wQ]at this ⊢
  rw[this];rfl
theorem qhm{k:List Int}{v:Int}{ts:List Tie}(h:k∉ts.map (·.1)):putTie k v ts=ts++[(k,v)]:=by
 unfold putTie
 rw[wO]
 rw[vd]
 rintro⟨t,a,e⟩
 rw[wk]at e
 exact h (wX.mpr ⟨t,a,e⟩)
theorem qct:∀(ts a:List Tie),((a++ts).map (·.1)).Nodup->(ts.map ent).foldl (λl p=>putT p.1 p.2 l) (a.map ent)=(a++ts).map ent
 |[],a,_=>by simp
 |t::r,a,nd=>by
  rw[wI,vT]
  show(r.map ent).foldl _ (putT t.1 (.int t.2) (a.map ent))=_
  have hn:t.1∉a.map (·.1):=λz=>by
   rw[vJ,wI]at nd
   exact(v7.mp nd).2.2 _ z _ wE rfl
  rw[qcb,qhm hn,qct r (a++[(t.1,t.2)]) (by simpa using nd)]
  simp
theorem qkO{w:Wb}(a:WbOk w)(S:Sr):bltD .dict [.tup (w.ties.map tieD)] S=.ok (.ref S.length) (S++[dicD w.ties]):=by
 have b:=a.t1
 have e:dicL (w.ties.map ent)=w.ties.map ent:=by
  have:=qct w.ties [] (by simpa using jn a.t3)
  simpa[dicL]using this
 simp only[bltD,one,bDict,qas,e];rfl
theorem lookT_ent{k:List Int}:∀{ts:List Tie},(∃x,lookT k (ts.map ent)=some (.int x)/\∃t∈ts,t.1=k/\t.2=x)\/(lookT k (ts.map ent)=none/\k∉ts.map (·.1)):=by
 intro ts
 by_cases h:k∈ts.map (·.1)
 .obtain ⟨e,t,a,e1,b⟩:=yX h
  exact .inl ⟨_,e,t,a,e1,b⟩
 .refine .inr ⟨?_,h⟩
  induction ts with
  |nil=>rfl
  |cons t r c =>
   rw[wI,wR,not_or]at h
   rw[wI]
   show lookT k ((t.1,_)::r.map ent)=none
   rw[lookT,wO λe=>h.1 e.symm]
   exact c h.2
theorem qdb{d n:Nat}{w:Wb}{v:Int}{S:Sr}(f:WbOk w)(K:Sm w)(Z:w.ties.length<=12)(hn:n<S.length)(L:0<=v):∃(k:List Int) (x u:Int),0<=u/\WbOk ⟨w.costs,srt (putTie k x w.ties)⟩/\((putTie k x w.ties).map (·.1)).Nodup/\(∀t∈w.ties,t.1=k->t.2<=x)/\0<=x/\G (d+3) 30 [.ref n,webD w] (pk S n v)=.ok (webD ⟨w.costs,srt (putTie k x w.ties)⟩) (pk S n u):=by
 have M:=f.c2
 have nd:=jn f.t3
 have N:KnOk w.costs.length w.ties:=⟨nd,f.t2⟩
 obtain⟨p,a,O,y,z,l⟩:=qcj (d:=d) (n:=n) (many:=w.costs.length) (v:=v) (S:=S++[dicD w.ties]) (by simp;lia) L f.c1 (by lia)
 have J:=zE (d:=d+1) (n:=n) (v:=a) (m:=9) (S:=S++[dicD w.ties]) (by simp;lia) (by decide) (by decide)
 rw[<-qS hn,<-qS hn]at l J
 have f9:=fm (v:=a) (m:=9) (by decide)
 have o:∀u,(pk S n u++[dicD w.ties])[S.length]?=some (dicD w.ties):=λu=>by rw[w8 (by rw[qu];lia),qu];simp
 obtain⟨x0,A,q⟩:∃x0:Int,(0<=x0/\x0<=9/\∀t∈w.ties,t.1=p->t.2<=x0)/\((lookT p (w.ties.map ent)).getD (.int 0))=.int x0:=by
  rcases lookT_ent (k:=p) (ts:=w.ties)with ⟨x,e,t,h,e1,B⟩|⟨e,hno⟩
  .refine ⟨x,⟨by have:=f.t2 t h;lia,by rw[<-B];exact K.2 t h,λs C E=>?_⟩,by rw[e];rfl⟩
   have i1:=ja nd t h
   have i2:=ja nd s C
   rw[e1]at i1
   rw[E]at i2
   lia
  .exact ⟨0,⟨by decide,by decide,λt h E=>absurd (wX.mpr ⟨t,h,E⟩) hno⟩,by rw[e];rfl⟩
 obtain⟨i,P⟩:=N.put (k:=p) (w:=x0+1+a.fmod 9) O y (by lia) (by lia)
 obtain⟨F,H⟩:=qgu i
 refine⟨p,x0+1+a.fmod 9,a.fdiv 9,vO z (by decide),⟨f.c1,f.c2,f.c3,by show(srt _).length<=30;rw[qbo];lia,F,H⟩,i.nd,λt h e=>by have:=A.2.2 t h e;lia,by lia,?_⟩
 rw[G_at (c:=c_30) rfl]
 have e1:ev (G (d+2)) (.blt .dict (.cons (.idx (.var 1) (.cst (.int 1))) .nil)) [some (.ref n),some (webD w),none,none] (pk S n v)=.ok (.ref S.length) (pk S n v++[dicD w.ties]):=by
  have:=qkO f (pk S n v)
  rw[qu]at this
  exact qC (qe (qw rfl rfl rfl) rfl) this
 have B:ev (G (d+2)) (.call 25 (.cons (.var 0) (.cons (.blt .len (.cons (.idx (.var 1) (.cst (.int 0))) .nil)) .nil))) [some (.ref n),some (webD w),some (.ref S.length),none] (pk S n v++[dicD w.ties])=.ok (tupI p) (pk S n a++[dicD w.ties]):=qi (qe rfl (qe (qC (qe (qw rfl rfl rfl) rfl) (zP _ _)) rfl)) l
 have Q:ev (G (d+2)) (.get (.var 2) (.var 3) (.cst (.int 0))) [some (.ref n),some (webD w),some (.ref S.length),some (tupI p)] (pk S n a++[dicD w.ties])=.ok (.int x0) (pk S n a++[dicD w.ties]):=by
  have U:ev (G (d+2)) (.var 2) [some (.ref n),some (webD w),some (.ref S.length),some (tupI p)] (pk S n a++[dicD w.ties])=.ok (.ref S.length) (pk S n a++[dicD w.ties]):=rfl
  have W:ev (G (d+2)) (.var 3) [some (.ref n),some (webD w),some (.ref S.length),some (tupI p)] (pk S n a++[dicD w.ties])=.ok (tupI p) (pk S n a++[dicD w.ties]):=rfl
  have r:∀u,(pk S n u++[SO.dic (w.ties.map ent)])[S.length]?=some (.dic (w.ties.map ent)):=o
  have X:isDic (pk S n a++[dicD w.ties]) (.ref S.length)=true:=by simp only[isDic,dicD,r]
  have Y:R.getD (pk S n a++[dicD w.ties]) (.ref S.length) (tupI p) (.int 0)=some (.int x0):=by
   simp only[R.getD,tupI,dicD,r,qK,wZ,q]
  rw[ev,U,Res.bind_ok,wM X,W,Res.bind_ok]
  simp only[ev,Res.bind,Y,ofO]
 have b:=qgG (k:=p) (w:=x0+1+a.fmod 9) (o (a.fdiv 9)) (by lia)
 rw[uA _ _ (by rw[qu];lia),qu]at b
 simp only[Nat.sub_self,List.set_cons_zero]at b
 have I:(pk S n (a.fdiv 9)++[dicD (putTie p (x0+1+a.fmod 9) w.ties)])[S.length]?=some (dicD (putTie p (x0+1+a.fmod 9) w.ties)):=by rw[w8 (by rw[qu];lia),qu];simp
 exact yW (S2:=[dicD (putTie p (x0+1+a.fmod 9) w.ties)]) rfl rfl (qm e1 (ρ1:=[some (.ref n),some (webD w),some (.ref S.length),none]) rfl (qm B (ρ1:=[some (.ref n),some (webD w),some (.ref S.length),some (tupI p)]) rfl (qm (qA (qA Q rfl badd) (qi rfl J) badd) (qck rfl rfl b) (qL (qP (qe (qw rfl rfl rfl) (qe (qgv (kx:=2) (j:=S.length) rfl I i (by lia)) rfl)) (by simp[PySem.sizeLine])))))) (by rw[qu,qu]) (qac _ _)
end RP
namespace RP
open R
structure Bp (p:Int×Int):Prop where
 a:0<=p.1
 b:p.1<=30000000
 c:1<=p.2
 d:p.2<=100
theorem qkP{w:Wb}(h:WbOk w)(L:List Int){x:Int}(a:InR w.costs.length x):Bp (rat w L x):=by
 obtain⟨d1,d2⟩:=qdP (qal h L).1 (qal h L).2 x
 obtain⟨c1,c2⟩:=jx h a.1 a.2
 have b:=qgL d1 c1
 have c:=qgK (t:=deg (tin w L) x) c1
 exact⟨b,by show(lw _ _).1<=_;lia,(z0 c1).pos,Int.le_trans (qi9 c1) c2⟩
theorem qd8{w:Wb}(h:WbOk w):∀(k:Nat) (L:List Int),Lft w k L->∀o∈seqO w k L,Bp o.2
 |0,L,hL,o,ho=>by simp[seqO]at ho
 |k+1,[],hL,o,ho=>by simp[seqO]at ho
 |k+1,a::l,hL,o,ho=>by
  obtain⟨b,c,d⟩:=hL.next
  rw[seqO,wR]at ho
  rcases ho with rfl|ho
  .rw [c];exact qkP h _ (hL.rng _ b)
  .exact qd8 h k _ d o ho
theorem bp01:Bp (0,1):=⟨by decide,by decide,by decide,by decide⟩
theorem qhn:∀(l:List Of) (m:Int×Int),Bp m->(∀o∈l,Bp o.2)->∀x,Bp (lkC (runC m l) x)
 |[],m,h,_,x=>bp01
 |o::r,m,h,h2,x=>by
  have hm:Bp (mx m o.2):=by
   unfold mx
   split
   .exact h2 o wE
   .exact h
  rw[runC,lkC]
  split
  .exact hm
  .exact qhn r _ hm (λy a=>h2 y (wH _ a)) x
theorem qho{w:Wb}(h:WbOk w):∀o∈(strW w).1,Bp o.2:=by rw[zf];exact qd8 h _ _ (q8 w)
theorem qkQ{w:Wb}(h:WbOk w)(x:Int):Bp (cor w x):=qhn _ _ bp01 (qho h) x
theorem e_sc{d:Nat}{a b:Int}{p:Int×Int}{S:Sr}(e:Bp p)(ha:1<=a)(h:a<=50)(l:1<=b)(f:b<=20):G (d+1) 23 [.int (p.1*a),.int (p.2*b)] S=.ok (nmD (sc a b p)) S:=by
 have i:=Int.mul_nonneg e.a (show 0<=a by lia)
 have j:1<=p.2*b:=by have:=vo (show 0<p.2 by have:=e.c;lia) (show 0<b by lia);lia
 have m:p.2*b<=100*20:=Int.mul_le_mul e.d f (by lia) (by decide)
 exact qky i j (by lia)
theorem qmd{w:Wb}(d:WbOk w)(j:Sm w){a b:Int}(ha:1<=a)(f:a<=50)(v:1<=b)(h:b<=20):WbOk (grW w a b):=by
 refine⟨by rw[jr];exact d.c1,by rw[jr];exact d.c2,?_,by show(w.ties.map _).length<=30;rw[wG];exact d.t1,?_,?_⟩
 .intro c n
  obtain⟨x,m,rfl⟩:=wX.mp n
  have o:=(d.c3 x m).1
  have i:=j.1 x m
  have q:x*b<=5*20:=Int.mul_le_mul i h (by lia) (by decide)
  have r:=vo (show 0<x by lia) (show 0<b by lia)
  exact⟨by lia,by lia⟩
 .intro t u
  rw[jr]
  obtain⟨s,e,rfl⟩:=wX.mp u
  obtain⟨p,l,o,_⟩:=d.t2 s e
  have i:=j.2 s e
  have q:s.2*a<=9*50:=Int.mul_le_mul i f (by lia) (by decide)
  have r:=vo (show 0<s.2 by lia) (show 0<a by lia)
  exact⟨p,l,by show 1<=s.2*a;lia,by show s.2*a<=1000000;lia⟩
 .show ((w.ties.map λt=>(t.1,t.2*a)).map (·.1)).Pairwise _
  rw[wS]
  exact d.t3
theorem qkR(a b:Nat):rI (a+b)=rI a++(rI b).map λx=>x+(a:Int):=by
 unfold rI
 rw[List.range_add,vJ,wS,wS]
 congr 1
 apply we
 intro x _
 show((a+x:Nat):Int)=(x:Int)+a
 lia
theorem qcu{w:Wb}(j:WbOk w){o cs:List Int}(b:o.Perm (rI w.costs.length))(f:cs.length=w.costs.length)(l:∀x,InR w.costs.length x->nth cs (nth o x)=cstI w x)(c:Int×Int):cprt ⟨cs,calT o w.ties⟩ c=cal o (cprt w c):=by
 have h:(⟨cs,calT o w.ties⟩:Wb).costs.length=w.costs.length:=f
 have m1:∀z,z∈cprt w c ↔ InR w.costs.length z/\und (cor w z) c=false:=λz=>by
  unfold cprt
  rw[wm,ql];simp[InR]
 have nd:((cprt w c).map (nth o)).Nodup:=by
  refine v6.mpr ((xN.mp (yu ((qdL _).filter _))).imp λ⟨ha,n,i⟩ e=>i (y4 b ((m1 _).mp ha).1 ((m1 _).mp n).1 e))
 refine qcX ?_ (qae nd) λy=>?_
 .exact (qdL _).filter _
 .unfold cprt
  rw[wm,h,ql,yD]
  constructor
  .rintro ⟨p,m⟩
   obtain⟨x,d,rfl⟩:=qaj b p
   rw[zX j b f l d]at m
   exact⟨x,(m1 x).mpr ⟨d,by simpa using m⟩,rfl⟩
  .rintro ⟨x,d,rfl⟩
   have a:=(m1 x).mp d
   exact⟨zV b a.1,by rw[zX j b f l a.1,a.2];rfl⟩
theorem qkS{F:Fs}{ρ:En}{S:Sr}{it:CI}{i:Nat}{o p:List Int}(h0:ρ[i]?=some (some (.lst (o.map .int))))(c:evI F it ρ S=.ok (p.map .int) S)(a:∀x∈p,0<=x/\x<o.length)(d:p.length<64):
  ev F (.blt .tuple (.cons (.blt (.sorted false) (.cons (.lc false [i] 1 (.idx (.var 0) (.var 1)) (.var 1) it .nil) .nil)) .nil)) ρ S=.ok (tupI (cal o p)) S:=by
 have e:=zN (g:=.int) (F:=F) (fr:=[i]) (nt:=1) (elt:=.idx (.var 0) (.var 1)) (tg:=.var 1) (it:=it) (ifs:=.nil) (ρ:=ρ) (S:=S) (S1:=S) (ds:=p.map .int) p (λ_=>true) (λx=>.int (nth o x)) (λρ=>∃x,ρ=[some (.lst (o.map .int)),x]) c rfl ⟨none,by simp[frE,h0]⟩ (by unfold PySem.sizeLine;lia) (by
  rintro q b ρ m ⟨x,rfl⟩
  exact⟨_,rfl,⟨_,rfl⟩,rfl,λ_=>⟨qw rfl rfl (jI (a q b).1 (a q b).2),rfl⟩⟩)
 rw[qG]at e
 have f:bltD (.sorted false) [.lst (p.map λx=>.int (nth o x))] S=.ok (.lst ((cal o p).map .int)) S:=by
  have:(p.map λx=>D.int (nth o x))=(p.map (nth o)).map .int:=by rw[wS];rfl
  simp only[bltD,one,bSorted,walkD,wQ,this]
  rw[jl (by simpa using d)];rfl
 exact qC (qe (qC (qe e rfl) f) rfl) rfl
end RP
namespace RP
open R
theorem qhp(n:Nat):∀ps:List Int,eqL (eqD (n+1)) (ps.map .int) (ps.map .int)=some true
 |[]=>rfl
 |p::r=>by
  have e:eqD (n+1) (.int p) (.int p)=some true:=by
   show some (p == p)=_
   simp
  rw[wI,eqL,e,qhp n r];rfl
theorem ne_i(ps:List Int)(S:Sr):cmpD .ne (tupI ps) (tupI ps) S=some false:=by
 have e:eqD 20 (tupI ps) (tupI ps)=some true:=qhp 18 ps
 simp only[cmpD,e];rfl
theorem qd9(n:Nat):∀ps:List Of,eqL (eqD (n+3)) (ps.map offD) (ps.map offD)=some true
 |[]=>rfl
 |p::r=>by
  have e:eqD (n+3) (offD p) (offD p)=some true:=by
   show some ((p.1 == p.1)&&(((p.2.1 == p.2.1)&&((p.2.2 == p.2.2)&&true))&&true))=_
   simp
  rw[wI,eqL,e,qd9 n r];rfl
theorem qkT(r:List Of×List Int)(S:Sr):cmpD .ne (strD r) (strD r) S=some false:=by
 have e:eqD 20 (strD r) (strD r)=some true:=by
  have e1:eqD 19 (.tup (r.1.map offD)) (.tup (r.1.map offD))=some true:=qd9 15 r.1
  have a:eqD 19 (tupI r.2) (tupI r.2)=some true:=qhp 17 r.2
  show eqL (eqD 19) [.tup (r.1.map offD),tupI r.2] [.tup (r.1.map offD),tupI r.2]=_
  rw[eqL,eqL,eqL,e1,a];rfl
 simp only[cmpD,e];rfl
theorem qhq(n:Nat)(f:Int->Int×Int):∀ps:List Int,eqL (eqD (n+2)) (ps.map λx=>nmD (f x)) (ps.map λx=>nmD (f x))=some true
 |[]=>rfl
 |p::r=>by
  have e:eqD (n+2) (nmD (f p)) (nmD (f p))=some true:=by
   show some (((f p).1 == (f p).1)&&(((f p).2 == (f p).2)&&true))=_
   simp
  rw[wI,eqL,e,qhq n f r];rfl
theorem qjf(f:Int->Int×Int)(ps:List Int)(S:Sr):cmpD .ne (.tup (ps.map λx=>nmD (f x))) (.tup (ps.map λx=>nmD (f x))) S=some false:=by
 have e:eqD 20 (.tup (ps.map λx=>nmD (f x))) (.tup (ps.map λx=>nmD (f x)))=some true:=qhq 17 f ps
 simp only[cmpD,e];rfl
theorem qme(p:Int×Int)(S:Sr):cmpD .ne (nmD p) (nmD p) S=some false:=by
 have e:eqD 20 (nmD p) (nmD p)=some true:=by
  show some ((p.1 == p.1)&&((p.2 == p.2)&&true))=_
  simp
 simp only[cmpD,e];rfl
theorem qkU{b:Type}(l:List b)(S:Sr):bltD .any [.lst (l.map λ_=>.bl false)] S=.ok (.bl false) S:=by
 have h:∀l:List b,boolsOf (l.map λ_=>D.bl false)=some (l.map λ_=>false):=by
  intro l
  induction l with
  |nil=>rfl
  |cons a r c=>rw[wI,boolsOf,c];rfl
 simp only[bltD,one,bAny,seqOf,lstOf,wQ,h,wZ,ofO]
 congr 2
 rw[List.any_map,uu]
 simp
theorem qkV{F:Fs}{ρ:En}{S S1:Sr}{a:CE}{b:Bool}(h:ev F a ρ S=.ok (.bl b) S1):ev F (.not a) ρ S=.ok (.bl (!b)) S1:=by
 simp only[ev,h,Res.bind]
noncomputable def coD(w:Wb):D:=.tup ((rI w.costs.length).map λx=>nmD (cor w x))
theorem e_co{d:Nat}{w:Wb}{S:Sr}(h:WbOk w):G (d+10) 18 [webD w] S=.ok (coD w) S:=qdY h
theorem qea{w:Wb}{q:Int}(h:InR w.costs.length q)(T:Sr):idxD T (coD w) (.int q)=some (nmD (cor w q)):=qbx h.1 h.2 T
noncomputable abbrev rE(w v:Wb)(n:Nat)(a3 a4 a5 a6 a7 a8 a9 a10 a11 a12 a13 a14 a15:Option D):En:=[some (webD w),some (webD v),some (.ref n),a3,a4,a5,a6,a7,a8,a9,a10,a11,a12,a13,a14,a15]
noncomputable def rBody:CSs:=tl (tl (tl (tl (tl c_31.body))))
noncomputable def tBody:CSs:=match rBody with|.cons (.forS _ _ b) _=>b|_=>.nil
theorem qkW{d n:Nat}{w v:Wb}{o cs:List Int}{q:Int}{a a8:Option D}{T:Sr}(e:WbOk w)(f:o.Perm (rI w.costs.length))(h:cs.length=w.costs.length)(j:∀x,InR w.costs.length x->nth cs (nth o x)=cstI w x)(b:InR w.costs.length q):
  (asg (G (d+11)) (.var 8) (.int q) (rE w v n (some (coD w)) (some (.int w.costs.length)) a (some (.lst (o.map .int))) (some (webD ⟨cs,calT o w.ties⟩)) a8 none none none none none none none) T).bind (λρ1 S1=>exs (G (d+11)) NW tBody ρ1 S1)=.ok (.nx (rE w v n (some (coD w)) (some (.int w.costs.length)) a (some (.lst (o.map .int))) (some (webD ⟨cs,calT o w.ties⟩)) (some (.int q)) none none none none none none none)) T:=by
 have i:WbOk ⟨cs,calT o w.ties⟩:=qdO e f h j
 have m:=yZ f
 have r:=e.c2
 have s:=zV f b
 have c:InR (⟨cs,calT o w.ties⟩:Wb).costs.length (nth o q):=by show InR cs.length _;rw[h];exact s
 rw[show asg (G (d+11)) (.var 8) (.int q) (rE w v n (some (coD w)) (some (.int w.costs.length)) a (some (.lst (o.map .int))) (some (webD ⟨cs,calT o w.ties⟩)) a8 none none none none none none none) T=.ok (rE w v n (some (coD w)) (some (.int w.costs.length)) a (some (.lst (o.map .int))) (some (webD ⟨cs,calT o w.ties⟩)) (some (.int q)) none none none none none none none) T from rfl,Res.bind_ok]
 have p:idxD T (.lst (o.map .int)) (.int q)=some (.int (nth o q)):=jI b.1 (by rw[m];exact b.2)
 have i1:=qea c T
 rw[zX e f h j b]at i1
 have t1:tst (G (d+11)) (.val (.cmp .ne (.idx (.call 18 (.cons (.var 7) .nil)) (.idx (.var 6) (.var 8))) (.idx (.var 3) (.var 8)))) (rE w v n (some (coD w)) (some (.int w.costs.length)) a (some (.lst (o.map .int))) (some (webD ⟨cs,calT o w.ties⟩)) (some (.int q)) none none none none none none none) T=.ok false T :=
  t_of (zZ (qw (qi rfl (e_co (d:=d+1) i)) (qw rfl rfl p) i1) (qw rfl rfl (qea b T)) (qme _ _))
 have c1:=jz (d:=d) (S:=T) i c.1 c.2
 rw[zX e f h j b,qcu e f h j]at c1
 have c2:=jz (d:=d) (S:=T) e b.1 b.2
 have m1:∀x∈cprt w (cor w q),0<=x/\x<(w.costs.length:Int):=λx l=>ql.mp (wm.mp l).1
 have y:(cprt w (cor w q)).length<=w.costs.length:=by
  have:=uW (λx=>!und (cor w x) (cor w q)) (rI w.costs.length)
  rwa [qE]at this
 have u:evI (G (d+11)) (.seq (.call 19 (.cons (.var 0) (.cons (.var 8) .nil)))) (rE w v n (some (coD w)) (some (.int w.costs.length)) a (some (.lst (o.map .int))) (some (webD ⟨cs,calT o w.ties⟩)) (some (.int q)) none none none none none none none) T=.ok ((cprt w (cor w q)).map .int) T:=by
  have:ev (G (d+11)) (.call 19 (.cons (.var 0) (.cons (.var 8) .nil))) (rE w v n (some (coD w)) (some (.int w.costs.length)) a (some (.lst (o.map .int))) (some (webD ⟨cs,calT o w.ties⟩)) (some (.int q)) none none none none none none none) T=.ok (tupI (cprt w (cor w q))) T:=qi rfl c2
  simp only[evI,this,Res.bind,tupI]
 have t2:tst (G (d+11)) (.val (.cmp .ne (.call 19 (.cons (.var 7) (.cons (.idx (.var 6) (.var 8)) .nil))) (.blt .tuple (.cons (.blt (.sorted false) (.cons (.lc false [6] 1 (.idx (.var 0) (.var 1)) (.var 1) (.seq (.call 19 (.cons (.var 0) (.cons (.var 8) .nil)))) .nil) .nil)) .nil)))) (rE w v n (some (coD w)) (some (.int w.costs.length)) a (some (.lst (o.map .int))) (some (webD ⟨cs,calT o w.ties⟩)) (some (.int q)) none none none none none none none) T=.ok false T :=
  t_of (zZ (qi (qe rfl (qe (qw rfl rfl p) rfl)) c1) (qkS (o:=o) rfl u (λx l=>by rw[m];exact m1 x l) (by lia)) (ne_i _ _))
 exact x_no t1 (x_no t2 zh)
theorem qiS{d n:Nat}{w v:Wb}{u0:Int}{S:Sr}(r:WbOk w)(W:WbOk v)(hs:Sm w)(a4:w.costs.length<=6)(an:v.costs.length<=6)(ao:w.ties.length<=10)(ap:v.ties.length<=10)(hn:n<S.length)(a5:0<=u0):∃u,0<=u/\G (d+12) 31 [webD w,webD v,.ref n] (pk S n u0)=.ok (.bl true) (pk S n u):=by
 have z2:PySem.sizeLine>=2:=by unfold PySem.sizeLine;lia
 obtain⟨o,E,hp,a6,eo⟩:=qkM (d:=d+10) (n:=n) (many:=w.costs.length) (v:=u0) (ρ0:=rE w v n (some (coD w)) (some (.int w.costs.length)) (some (.ref S.length)) none none none none none none none none none none) (S:=S) hn a5 (by lia) rfl rfl rfl
 have O:n<(S++[SO.lst []]).length:=by simp;lia
 rw[qS hn E]at eo
 obtain⟨cs,hl,hc,a7⟩:=qhk (d:=d+10) (S:=pk (S++[SO.lst []]) n E) r hp
 have fa:=fm (v:=E) (m:=50) (by decide)
 have ta:=zE (d:=d+10) (n:=n) (v:=E) (m:=50) (S:=S++[.lst []]) O (by decide) (by decide)
 have X:0<=E.fdiv 50:=vO a6 (by decide)
 obtain⟨a,a9⟩:∃a,a=1+E.fmod 50:=⟨_,rfl⟩
 have ha:1<=a/\a<=50:=by lia
 generalize E.fdiv 50=u2 at ta X
 have fb:=fm (v:=u2) (m:=20) (by decide)
 have tb:=zE (d:=d+10) (n:=n) (v:=u2) (m:=20) (S:=S++[.lst []]) O (by decide) (by decide)
 have Y:0<=u2.fdiv 20:=vO X (by decide)
 obtain⟨b,aa⟩:∃b,b=1+u2.fmod 20:=⟨_,rfl⟩
 have M:1<=b/\b<=20:=by lia
 generalize u2.fdiv 20=u3 at tb Y
 obtain⟨k,x,u4,ab,J,ac,ad,ae,P⟩:=qdb (d:=d+8) (n:=n) (v:=u3) (S:=S++[.lst []]) r hs (by lia) O Y
 refine⟨u4,ab,?_⟩
 rw[G_at (c:=c_31) rfl]
 have hg:=qmd r hs ha.1 ha.2 M.1 M.2
 have af:=qhe r W (by lia) (by lia)
 obtain⟨ρ1,T1,ef,a8,rfl,ag⟩:=zI (g:=D.int) (body:=λdd ρ S=>(asg (G (d+11)) (.var 8) dd ρ S).bind λρ1 S1=>exs (G (d+11)) NW tBody ρ1 S1)
  (λpre ρ U=>∃a8,ρ=rE w v n (some (coD w)) (some (.int w.costs.length)) (some (.ref S.length)) (some (.lst (o.map .int))) (some (webD ⟨cs,calT o w.ties⟩)) a8 none none none none none none none/\pk (S++[.lst []]) n E=U) (rI w.costs.length) (ρ:=rE w v n (some (coD w)) (some (.int w.costs.length)) (some (.ref S.length)) (some (.lst (o.map .int))) (some (webD ⟨cs,calT o w.ties⟩)) none none none none none none none none) (S:=pk (S++[.lst []]) n E) ⟨_,rfl,rfl⟩ (by
   rintro pre q aq ρ U Z ⟨a8,rfl,rfl⟩
   have hq:InR w.costs.length q:=ql.mp (by rw[Z];simp)
   exact⟨_,_,qkW r hp hl hc hq,_,rfl,rfl⟩)
 subst ag
 obtain⟨H,l⟩:∃H,H=rE w v n (some (coD w)) (some (.int w.costs.length)) (some (.ref S.length)) (some (.lst (o.map .int))) (some (webD ⟨cs,calT o w.ties⟩)) a8 (some (.int a)) (some (.int b)) (some (webD (grW w a b))) none none none none:=⟨_,rfl⟩
 obtain⟨j,a0⟩:∃j,j=pk (S++[.lst []]) n u3:=⟨_,rfl⟩
 have s9:ev (G (d+11)) (.tup (.cons (.bin .add (.cst (.int 1)) (.call 22 (.cons (.var 2) (.cons (.cst (.int 50)) .nil)))) (.cons (.bin .add (.cst (.int 1)) (.call 22 (.cons (.var 2) (.cons (.cst (.int 20)) .nil)))) .nil))) (rE w v n (some (coD w)) (some (.int w.costs.length)) (some (.ref S.length)) (some (.lst (o.map .int))) (some (webD ⟨cs,calT o w.ties⟩)) a8 none none none none none none none) (pk (S++[.lst []]) n E)=.ok (.tup [.int a,.int b]) j:=by
  rw[a9,aa,a0]
  exact qP (qe (qA rfl (qi rfl ta) badd) (qe (qA rfl (qi rfl tb) badd) rfl)) z2
 have g1:=zN (g:=λx=>nmD (cor w x)) (F:=G (d+11)) (fr:=[9,10]) (nt:=1) (elt:=.call 23 (.cons (.bin .mul (.idx (.var 2) (.cst (.int 0))) (.var 0)) (.cons (.bin .mul (.idx (.var 2) (.cst (.int 1))) (.var 1)) .nil))) (tg:=.var 2) (it:=.seq (.var 3)) (ifs:=.nil) (ρ:=H) (S:=j) (S1:=j) (ds:=(rI w.costs.length).map λx=>nmD (cor w x)) (rI w.costs.length) (λ_=>true) (λx=>nmD (sc a b (cor w x))) (λρ=>∃y,ρ=[some (.int a),some (.int b),y]) (by rw[l];rfl) rfl ⟨_,by rw[l];rfl⟩ (by rw[qE];unfold PySem.sizeLine;lia) (by
  rintro x hx ρ m ⟨y,rfl⟩
  have i:=qkQ r x
  have k1:=i.a
  have k2:=i.b
  have k3:=i.c
  have k4:=i.d
  exact⟨_,rfl,⟨_,rfl⟩,rfl,λ_=>⟨qi (qe (qA (qw rfl rfl rfl) rfl (bmul (qZ (by lia)))) (qe (qA (qw rfl rfl rfl) rfl (bmul (qZ (by lia)))) rfl)) (e_sc (d:=d+10) i ha.1 ha.2 M.1 M.2),rfl⟩⟩)
 rw[qG]at g1
 have eg:coD (grW w a b)=.tup ((rI w.costs.length).map λx=>nmD (sc a b (cor w x))):=by
  unfold coD
  rw[jr]
  exact congrArg D.tup (we λx _=>by rw[qkK r ha.1 M.1])
 have n1:=qjf (λx=>sc a b (cor w x)) (rI w.costs.length) j
 rw[<-eg]at n1
 have b1:bltD .tuple [.lst ((rI w.costs.length).map λx=>nmD (sc a b (cor w x)))] j=.ok (coD (grW w a b)) j:=by rw[eg];rfl
 have t9:tst (G (d+11)) (.val (.cmp .ne (.call 18 (.cons (.var 11) .nil)) (.blt .tuple (.cons (.lc false [9,10] 1 (.call 23 (.cons (.bin .mul (.idx (.var 2) (.cst (.int 0))) (.var 0)) (.cons (.bin .mul (.idx (.var 2) (.cst (.int 1))) (.var 1)) .nil))) (.var 2) (.seq (.var 3)) .nil) .nil)))) H j=.ok false j :=
  t_of (zZ (d2:=coD (grW w a b)) (qi (by rw[l];rfl) (e_co (d:=d+1) hg)) (qC (qe g1 rfl) b1) (by rw[eg]at n1 ⊢;exact n1))
 obtain⟨K,s⟩:∃K,K=rE w v n (some (coD w)) (some (.int w.costs.length)) (some (.ref S.length)) (some (.lst (o.map .int))) (some (webD ⟨cs,calT o w.ties⟩)) a8 (some (.int a)) (some (.int b)) (some (webD (grW w a b))) (some (.tup ((strW w).1.map offD))) (some (tupI (strW w).2)) none none:=⟨_,rfl⟩
 have ar:(strW w).1.length<=6:=by rw[qbv];exact a4
 have g2:=zN (g:=offD) (F:=G (d+11)) (fr:=[9,10]) (nt:=2) (elt:=.tup (.cons (.var 2) (.cons (.call 23 (.cons (.bin .mul (.idx (.var 3) (.cst (.int 0))) (.var 0)) (.cons (.bin .mul (.idx (.var 3) (.cst (.int 1))) (.var 1)) .nil))) .nil))) (tg:=.tup (.cons (.var 2) (.cons (.var 3) .nil))) (it:=.seq (.var 12)) (ifs:=.nil) (ρ:=K) (S:=j) (S1:=j) (ds:=(strW w).1.map offD) (strW w).1 (λ_=>true) (λp=>offD (scO a b p)) (λρ=>∃y z,ρ=[some (.int a),some (.int b),y,z]) (by rw[s];rfl) rfl ⟨_,_,by rw[s];rfl⟩ (by unfold PySem.sizeLine;lia) (by
  rintro p ah ρ m ⟨y,z,rfl⟩
  have i:=qho r p ah
  have k1:=i.a
  have k2:=i.b
  have k3:=i.c
  have k4:=i.d
  exact⟨_,rfl,⟨_,_,rfl⟩,rfl,λ_=>⟨qP (qe rfl (qe (qi (qe (qA (qw rfl rfl rfl) rfl (bmul (qZ (by lia)))) (qe (qA (qw rfl rfl rfl) rfl (bmul (qZ (by lia)))) rfl)) (e_sc (d:=d+10) i ha.1 ha.2 M.1 M.2)) rfl)) z2,rfl⟩⟩)
 rw[qG]at g2
 have b2:bltD .tuple [.lst ((strW w).1.map λp=>offD (scO a b p))] j=.ok (.tup (((strW w).1.map (scO a b)).map offD)) j:=by
  simp only[bltD,one,bTuple,seqOf,lstOf,wZ,ofO,wS];rfl
 obtain⟨A,h⟩:∃A,A=rE w v n (some (coD w)) (some (.int w.costs.length)) (some (.ref S.length)) (some (.lst (o.map .int))) (some (webD ⟨cs,calT o w.ties⟩)) a8 (some (.int a)) (some (.int b)) (some (webD (grW w a b))) (some (.tup ((strW w).1.map offD))) (some (tupI (strW w).2)) (some (.tup (((strW w).1.map (scO a b)).map offD))) none:=⟨_,rfl⟩
 have eu:strD (strW (grW w a b))=.tup [.tup (((strW w).1.map (scO a b)).map offD),tupI (strW w).2]:=by rw[qkL r ha.1 M.1];rfl
 have ai:tst (G (d+11)) (.val (.cmp .ne (.call 16 (.cons (.var 11) .nil)) (.tup (.cons (.var 14) (.cons (.var 13) .nil))))) A j=.ok false j :=
  t_of (zZ (d2:=strD (strW (grW w a b))) (qi (by rw[h];rfl) (yM (d:=d+2) hg)) (by rw[eu];exact qP (qe (by rw[h];rfl) (qe (by rw[h];rfl) rfl)) z2) (qkT _ _))
 have eb:coD (bsW w v)=.tup (((rI w.costs.length).map λx=>nmD (cor w x))++(rI v.costs.length).map λx=>nmD (cor v x)):=by
  unfold coD
  rw[yv,qkR,vJ,wS]
  have q1:(rI w.costs.length).map (λx=>nmD (cor (bsW w v) x))=(rI w.costs.length).map λx=>nmD (cor w x):=we λx hx=>by rw[qiQ r W (by lia) (by lia) (ql.mp hx)]
  have q2:(rI v.costs.length).map ((λx=>nmD (cor (bsW w v) x))∘λx=>x+(w.costs.length:Int))=(rI v.costs.length).map λx=>nmD (cor v x):=we λx hx=>by
   show nmD (cor (bsW w v) (x+(w.costs.length:Int)))=_
   rw[qiR r W (by lia) (by lia) (ql.mp hx)]
  rw[q1,q2]
 have bb:binD .add (coD w) (coD v) j=some (coD (bsW w v)):=by
  have:catOk ((rI w.costs.length).map λx=>nmD (cor w x)) ((rI v.costs.length).map λx=>nmD (cor v x))=true:=by
   unfold catOk PySem.sizeLine;rw[wG,wG,qE,qE,wk];lia
  rw[eb]
  unfold coD
  simp only[binD,this,wr]
 have aj:tst (G (d+11)) (.val (.cmp .ne (.call 18 (.cons (.call 29 (.cons (.var 0) (.cons (.var 1) .nil))) .nil)) (.bin .add (.var 3) (.call 18 (.cons (.var 1) .nil))))) A j=.ok false j :=
  t_of (zZ (qi (qe (qi (by rw[h];rfl) (qhl (d:=d+10) r W)) rfl) (e_co (d:=d+1) af)) (qA (by rw[h];rfl) (qi (by rw[h];rfl) (e_co (d:=d+1) W)) bb) (qjf _ _ _))
 obtain⟨Q,L⟩:∃Q:Wb,Q=⟨w.costs,srt (putTie k x w.ties)⟩:=⟨_,rfl⟩
 rw[<-L]at P J
 have ak:Q.costs.length=w.costs.length:=by rw[L]
 obtain⟨B,a1⟩:∃B,B=pk (S++[.lst []]) n u4:=⟨_,rfl⟩
 rw[<-a0,<-a1]at P
 obtain⟨C,I⟩:∃C,C=rE w v n (some (coD w)) (some (.int w.costs.length)) (some (.ref S.length)) (some (.lst (o.map .int))) (some (webD ⟨cs,calT o w.ties⟩)) a8 (some (.int a)) (some (.int b)) (some (webD (grW w a b))) (some (.tup ((strW w).1.map offD))) (some (tupI (strW w).2)) (some (.tup (((strW w).1.map (scO a b)).map offD))) (some (coD Q)):=⟨_,rfl⟩
 have al:ev (G (d+11)) (.call 18 (.cons (.call 30 (.cons (.var 2) (.cons (.var 0) .nil))) .nil)) A j=.ok (coD Q) B:=qi (qe (qi (by rw[h];rfl) P) rfl) (e_co (d:=d+1) J)
 have g3:=zN (g:=.int) (F:=G (d+11)) (fr:=[15,3]) (nt:=1) (elt:=.call 24 (.cons (.idx (.var 0) (.var 2)) (.cons (.idx (.var 1) (.var 2)) .nil))) (tg:=.var 2) (it:=.rng (.cons (.var 4) .nil)) (ifs:=.nil) (ρ:=C) (S:=B) (S1:=B) (rI w.costs.length) (λ_=>true) (λ_=>.bl false) (λρ=>∃y,ρ=[some (coD Q),some (coD w),y]) (i_rng (n:=w.costs.length) (qe (by rw[I];rfl) rfl) (by lia)) rfl ⟨_,by rw[I];rfl⟩ (by rw[qE];unfold PySem.sizeLine;lia) (by
  rintro q hq ρ m ⟨y,rfl⟩
  have R:InR w.costs.length q:=ql.mp hq
  have hu:=qhj (x:=q) r (by rw[<-L];exact J) ac ad ae R
  rw[<-L]at hu
  have e:=qiG (d:=d+10) (S:=B++[.lst m]) (qbw J q) (qbw r q)
  rw[hu]at e
  exact⟨_,rfl,⟨_,rfl⟩,rfl,λ_=>⟨qi (qe (qw rfl rfl (qea (w:=Q) (by rw[ak];exact R) _)) (qe (qw rfl rfl (qea R _)) rfl)) e,rfl⟩⟩)
 rw[qG]at g3
 have am:ev (G (d+11)) (.not (.blt .any (.cons (.lc false [15,3] 1 (.call 24 (.cons (.idx (.var 0) (.var 2)) (.cons (.idx (.var 1) (.var 2)) .nil))) (.var 2) (.rng (.cons (.var 4) .nil)) .nil) .nil))) C B=.ok (.bl true) B:=by
  have:=qC (qe g3 (show evs (G (d+11)) .nil C B=.ok [] B from rfl)) (qkU (rI w.costs.length) B)
  exact qkV this
 have a2:bltD .len [coD w] (pk S n u0)=.ok (.int w.costs.length) (pk S n u0):=by
  have:=qE w.costs.length
  simp[coD,bltD,one,bLen,lenD,this]
 have e5:=qcW (F:=G (d+11)) (ρ:=rE w v n (some (coD w)) (some (.int w.costs.length)) none none none none none none none none none none none) (S:=pk S n u0) (S1:=pk S n u0) (es:=.cons (.var 4) .nil) (n:=w.costs.length) (qe rfl rfl) (by lia)
 rw[qu]at e5
 have N:exs (G (d+11)) NW (tl rBody) (rE w v n (some (coD w)) (some (.int w.costs.length)) (some (.ref S.length)) (some (.lst (o.map .int))) (some (webD ⟨cs,calT o w.ties⟩)) a8 none none none none none none none) (pk (S++[.lst []]) n E)=.ok (.rt (.bl true)) B:=by
  refine qm s9 (ρ1:=rE w v n (some (coD w)) (some (.int w.costs.length)) (some (.ref S.length)) (some (.lst (o.map .int))) (some (webD ⟨cs,calT o w.ties⟩)) a8 (some (.int a)) (some (.int b)) none none none none none) rfl (qm (qi rfl (qeQ (d:=d+10) r (by lia) (by lia))) (ρ1:=H) (by rw[l];rfl) (x_no t9 ?_))
  refine qm (d:=strD (strW w)) (S1:=j) (qi (by rw[l];rfl) (yM (d:=d+2) r)) (ρ1:=K) (by rw[l,s];rfl) (qm (qC (qe g2 rfl) b2) (ρ1:=A) (by rw[s,h];rfl) (x_no (t_or (x:=false) (y:=false) ai aj) (qm al (ρ1:=C) (by rw[h,I];rfl) (qL am))))
 have e6:∀U,evI (G (d+11)) (.rng (.cons (.var 4) .nil)) (rE w v n (some (coD w)) (some (.int w.costs.length)) (some (.ref S.length)) (some (.lst (o.map .int))) (some (webD ⟨cs,calT o w.ties⟩)) none none none none none none none none) U=.ok ((rI w.costs.length).map .int) U:=λU=>i_rng (n:=w.costs.length) (qe rfl rfl) (by lia)
 have a3:B=pk S n u4++[.lst []]:=by rw[a1,qS hn]
 rw[a3]at N
 refine yW (f:=c_31) (S1:=pk S n u4) (S2:=[.lst []]) rfl rfl ?_ (by rw[qu,qu]) rfl
 exact qm (qi rfl (e_co (d:=d+1) r)) (ρ1:=rE w v n (some (coD w)) none none none none none none none none none none none none) rfl (qm (qC rfl a2) (ρ1:=rE w v n (some (coD w)) (some (.int w.costs.length)) none none none none none none none none none none none) rfl (qm e5 (ρ1:=rE w v n (some (coD w)) (some (.int w.costs.length)) (some (.ref S.length)) none none none none none none none none none none) rfl (qm eo (ρ1:=rE w v n (some (coD w)) (some (.int w.costs.length)) (some (.ref S.length)) (some (.lst (o.map .int))) none none none none none none none none none) rfl (qm (qi rfl a7) (ρ1:=rE w v n (some (coD w)) (some (.int w.costs.length)) (some (.ref S.length)) (some (.lst (o.map .int))) (some (webD ⟨cs,calT o w.ties⟩)) none none none none none none none none) rfl (yV (e6 _) ef N)))))
theorem qkX{F:Fs}{ρ:En}{S:Sr}{ns:List Int}{c:Int}(h:ρ[0]?=some (some (.lst (ns.map .int))))(d:1<=c)(e:c<=1000):∃n:Nat,(4*n:Int)<=c+3/\evI F (.rng (.cons (.cst (.int 0)) (.cons (.blt .max2 (.cons (.cst (.int 1)) (.cons (.blt .min2 (.cons (.blt .len (.cons (.var 0) .nil)) (.cons (.cst (.int c)) .nil))) .nil))) (.cons (.cst (.int 4)) .nil)))) ρ S=.ok ((List.range n).map λ(k:Nat)=>D.int (0+4*k)) S:=by
 obtain⟨b,a⟩:∃b:Int,b=(if(if c<(ns.length:Int)then c else(ns.length:Int))>1 then(if c<(ns.length:Int)then c else(ns.length:Int))else 1):=⟨_,rfl⟩
 have f:1<=b/\b<=c:=by rw[a];split <;> split <;> lia
 refine⟨((b-0+4-1) / 4).toNat,by lia,?_⟩
 have i:ev F (.var 0) ρ S=.ok (.lst (ns.map .int)) S:=by simp only[ev,varE,h]
 have j:ev F (.blt .len (.cons (.var 0) .nil)) ρ S=.ok (.int ns.length) S:=qC (qe i rfl) (by simp[bltD,one,bLen,lenD])
 have l:ev F (.blt .min2 (.cons (.blt .len (.cons (.var 0) .nil)) (.cons (.cst (.int c)) .nil))) ρ S=.ok (.int (if c<(ns.length:Int)then c else(ns.length:Int))) S:=qC (qe j (qe rfl rfl)) rfl
 have m:ev F (.blt .max2 (.cons (.cst (.int 1)) (.cons (.blt .min2 (.cons (.blt .len (.cons (.var 0) .nil)) (.cons (.cst (.int c)) .nil))) .nil))) ρ S=.ok (.int b) S:=qC (qe rfl (qe l rfl)) (by rw[a];rfl)
 have o:evs F (.cons (.cst (.int 0)) (.cons (.blt .max2 (.cons (.cst (.int 1)) (.cons (.blt .min2 (.cons (.blt .len (.cons (.var 0) .nil)) (.cons (.cst (.int c)) .nil))) .nil))) (.cons (.cst (.int 4)) .nil))) ρ S=.ok [.int 0,.int b,.int 4] S:=qe rfl (qe m rfl)
 simp only[evI,o,Res.bind,rngD]
 have p:-(2^62)<=(0:Int)/\(0:Int)<2^62/\-(2^62)<=b/\b<2^62/\(0:Int)<4/\(4:Int)<2^62:=⟨by decide,by decide,by lia,by lia,by decide,by decide⟩
 rw[wM p];rfl
noncomputable abbrev lE(ns:List Int)(a b c:Option D):En:=[some (.lst (ns.map .int)),a,b,c]
theorem qkY{d:Nat}{ns:List Int}(e:ns.length<=63):Ok (G (d+14) 32 [.lst (ns.map .int)] []) λy _=>y=.bl true:=by
 have N:PySem.sizeLine>=2:=by unfold PySem.sizeLine;lia
 rw[G_at (c:=qdD) rfl]
 refine qiz (f:=qdD) rfl rfl ?_
 obtain⟨nn,O,P⟩:=qkX (F:=G (d+13)) (ρ:=lE ns none none none) (S:=[]) (ns:=ns) (c:=16) rfl (by decide) (by decide)
 refine ql4 (g:=λ(k:Nat)=>D.int (0+4*k)) (λpre ρ U=>∃a b c,ρ=lE ns a b c) (List.range nn) (Ok.of P ⟨rfl,_,_,_,rfl⟩) ?_ ?_
 .rintro pre q Q ρ U o ⟨R,K,L,rfl⟩
  have W:q∈List.range nn:=by rw[o];simp
  have X:=vg.mp W
  obtain⟨h,p⟩:∃h:Int,0+4*(q:Int)=h:=⟨_,rfl⟩
  rw[p]
  refine Ok.of (a:=lE ns (some (.int h)) K L) rfl ?_
  obtain⟨j,r,s⟩:=qc2 (d:=d+11) e (k:=h) (S:=U) (by lia) (by lia)
  have u:pk (U++[.lst [.int j]]) U.length j=U++[.lst [.int j]]:=qbm (by simp)
  obtain⟨w,Y,Z,a1,z,a2,a3,A⟩:=qi8 (d:=d+10) (n:=U.length) (v:=j) (mo:=6) (tn:=10) (S:=U++[.lst [.int j]]) (by simp) r (by decide) (by decide) (by decide) (by decide)
  rw[u]at A
  generalize pk (U++[.lst [.int j]]) U.length Y=U1 at A
  obtain⟨m,B,C⟩:=qc2 (d:=d+11) e (k:=h+2) (S:=U1) (by lia) (by lia)
  have E:pk (U1++[.lst [.int m]]) U1.length m=U1++[.lst [.int m]]:=qbm (by simp)
  obtain⟨x,u2,hx,a4,a5,a6,a7,i⟩:=qi8 (d:=d+10) (n:=U1.length) (v:=m) (mo:=6) (tn:=10) (S:=U1++[.lst [.int m]]) (by simp) B (by decide) (by decide) (by decide) (by decide)
  rw[E]at i
  generalize pk (U1++[.lst [.int m]]) U1.length u2=U2 at i
  obtain⟨v3,H,I⟩:=qc2 (d:=d+11) e (k:=h+16) (S:=U2) (by lia) (by lia)
  have J:pk (U2++[.lst [.int v3]]) U2.length v3=U2++[.lst [.int v3]]:=qbm (by simp)
  obtain⟨u3,a8,M⟩:=qiS (d:=d+1) (n:=U2.length) (u0:=v3) (S:=U2++[.lst [.int v3]]) Z hx z (by lia) (by lia) (by lia) (by lia) (by simp) H
  rw[J]at M
  refine ql3 (Ok.of (a:=.tup [webD w,webD x]) (S:=U2) (qP (l:=[webD w,webD x]) (qe (qi (qe (qi rfl s) rfl) A) (qe (qi (qe (qi (qe rfl (qe (qA rfl rfl badd) rfl)) C) rfl) i) rfl)) N) (Ok.of (a:=lE ns (some (.int h)) (some (webD w)) (some (webD x))) rfl ?_))
  exact o_no (Ok.of (t_no (t_of (qi (qe rfl (qe rfl (qe (qi (qe rfl (qe (qA rfl rfl badd) rfl)) I) rfl))) M))) ⟨rfl,ql1 ⟨_,_,_,rfl⟩⟩)
 .rintro ρ U ⟨R,K,L,rfl⟩
  exact ql2 (Ok.of rfl ⟨by simp,rfl,rfl⟩)
theorem pure_law:∀ns:List Int,ns.length<=63->∃b,run prg NW 16 32 [.lst (ns.map .int)] []=.ok (.bl true) b:=λns h=>by
 obtain⟨a,S,e,rfl⟩:=(qkY (d:=2) h).ex
 exact⟨S,by rw[<-qgD];exact e⟩
end RP
section
def PySem.W.Fast.tw8807479782908145251:Nat:=0
noncomputable def PySem.W.Fast.tw3881100408257862913:Nat:=0
noncomputable def PySem.W.Fast.tw15485740360478227742:Nat:=0
noncomputable def PySem.W.Fast.tw1549079338692793029:Nat:=0
noncomputable def PySem.W.Fast.tw2894758478372619427:Nat:=0
noncomputable def PySem.W.Fast.tw15362239787725713581:Nat:=0
noncomputable def PySem.W.Fast.tw1224540240573882900:Nat:=0
noncomputable def PySem.W.Fast.tw17066153536670972980:Nat:=0
noncomputable def PySem.W.Fast.tw911908479499428319:Nat:=0
noncomputable def PySem.W.Fast.tw16657774938817696920:Nat:=0
noncomputable def PySem.W.Fast.tw17844826182574858026:Nat:=0
noncomputable def PySem.W.Fast.tw4917534234649976928:Nat:=0
noncomputable def PySem.W.Fast.tw17614485980844301413:Nat:=0
noncomputable def PySem.W.Fast.tw7827561065841587542:Nat:=0
noncomputable def PySem.W.Fast.tw3138387542183388504:Nat:=0
noncomputable def PySem.W.Fast.tw11751891657820209380:Nat:=0
noncomputable def PySem.W.Fast.tw12884997383104397100:Nat:=0
noncomputable def PySem.W.Fast.tw13325831343814958012:Nat:=0
noncomputable def PySem.W.Fast.tw3281707218424766330:Nat:=0
noncomputable def PySem.W.Fast.tw137094865128230881:Nat:=0
noncomputable def PySem.W.Fast.tw16077328441640563551:Nat:=0
noncomputable def PySem.W.Fast.tw8297513123731084179:Nat:=0
noncomputable def PySem.W.Fast.tw6157820924225479555:Nat:=0
noncomputable def PySem.W.Fast.tw17017885190981835793:Nat:=0
noncomputable def PySem.W.Fast.tw8629702986199752928:Nat:=0
noncomputable def PySem.W.Fast.tw5033740363213439015:Nat:=0
noncomputable def PySem.W.Fast.tw15294770366880739528:Nat:=0
noncomputable def PySem.W.Fast.tw933218623743449068:Nat:=0
noncomputable def PySem.W.Fast.tw16362236035930761654:Nat:=0
noncomputable def PySem.W.Fast.tw1909860427991785134:Nat:=0
noncomputable def PySem.W.Fast.tw4892427137330881755:Nat:=0
noncomputable def PySem.W.Fast.tw18049846931858349782:Nat:=0
noncomputable def PySem.W.Fast.tw2897089439542125970:Nat:=0
noncomputable def PySem.W.Fast.tw3469971245036361267:Nat:=0
noncomputable def PySem.W.Fast.tw17606180271454690363:Nat:=0
noncomputable def PySem.W.Fast.tw2834255910048658236:Nat:=0
noncomputable def PySem.W.Fast.tw3146577426891316307:Nat:=0
noncomputable def PySem.W.Fast.tw4727583770255461571:Nat:=0
noncomputable def PySem.W.Fast.tw12434567586037378892:Nat:=0
noncomputable def PySem.W.Fast.tw16250130263601265428:Nat:=0
noncomputable def PySem.W.Fast.tw3096573662296226849:Nat:=0
noncomputable def PySem.W.Fast.tw9221908842376488459:Nat:=0
noncomputable def PySem.W.Fast.tw9920926239561753855:Nat:=0
noncomputable def PySem.W.Fast.tw15346228483893306161:Nat:=0
noncomputable def PySem.W.Fast.tw14247711065688848883:Nat:=0
noncomputable def PySem.W.Fast.tw569166404189032571:Nat:=0
noncomputable def PySem.W.Fast.tw3128211622393869223:Nat:=0
noncomputable def PySem.W.Fast.tw15231820927166030294:Nat:=0
noncomputable def PySem.W.Fast.tw6419775566592848447:Nat:=0
noncomputable def PySem.W.Fast.tw4246172494306118835:Nat:=0
noncomputable def PySem.W.Fast.tw190241489433947602:Nat:=0
noncomputable def PySem.W.Fast.tw11457003696029377345:Nat:=0
noncomputable def PySem.W.Fast.tw5387870907229601228:Nat:=0
noncomputable def PySem.W.Fast.tw16437843961096415373:Nat:=0
noncomputable def PySem.W.Fast.tw16287948370238069380:Nat:=0
noncomputable def PySem.W.Fast.tw15362870207322188826:Nat:=0
noncomputable def PySem.W.Fast.tw8238435711615169574:Nat:=0
noncomputable def PySem.W.Fast.tw7155050800364306483:Nat:=0
noncomputable def PySem.W.Fast.tw5444936452612916018:PySem.Program:=PySem.Challenge.pw_weblayers_k43_whole_webs_called_otherwis
theorem PySem.W.Fast.te5444936452612916018:PySem.Challenge.pw_weblayers_k43_whole_webs_called_otherwis=PySem.W.Fast.tw5444936452612916018:=rfl
namespace RP
open PySem PySem.W PyProof.Rows R
noncomputable abbrev KOf2{K:PySem.W.Frag}{h:Heap}(_:K.In h):PySem.W.Frag:=K
end RP
open PySem PySem.W PyProof.Rows R
set_option maxRecDepth 100000 in
set_option maxHeartbeats 0 in
theorem PySem.Challenge.cw_weblayers_k43_whole_webs_called_otherwis_holds : PySem.Challenge.rw_weblayers_k43_whole_webs_called_otherwis.Holds := by
 w_on;o_law;k_head;(case hw=>w_witness2)
 k_fill
 refine R.qj9 (l:=PySem.Challenge.rw_weblayers_k43_whole_webs_called_otherwis) (n:=63) (k:=48) (x:="_law_script") (g:=R.run RP.prg RP.NW 16 32) rfl (by decide) rfl ⟨rfl,by decide,by decide⟩ (λw h Y=>PySem.W.kIn_of Y) ?zp ?zc ?zF RP.pure_law
 case zp=>intro P;rfl
 case zc=>intro P;rfl
 case zF =>
  intro w mg fa h KX G hmg
  have p:RP.Pre (RP.KOf2 KX) mg:=by
   dsimp only[RP.KOf2]
   refine⟨?gb,?c_MOST_COST,?c_MOST_PLACES,?c_MOST_PLACES_OF_TIE,?c_MOST_TIES,?c_MOST_WEIGHT,?u_0,?u_1,?u_2,?u_3,?u_4,?u_5,?u_6,?u_7,?u_8,?u_9,?u_10,?u_11,?u_12,?u_13,?u_14,?u_15,?u_16,?u_17,?u_18,?u_19,?u_20,?u_21,?u_22,?u_23,?u_24,?u_25,?u_26,?u_27,?u_28,?u_29,?u_30,?u_31,?u_32⟩
   case gb =>
    refine⟨mg_none_of KX G ?x0,mg_none_of KX G ?x1,mg_none_of KX G ?x2,mg_none_of KX G ?x3,mg_none_of KX G ?x4,mg_none_of KX G ?x5,mg_none_of KX G ?x6,mg_none_of KX G ?x7,mg_none_of KX G ?x8,mg_none_of KX G ?x9,mg_none_of KX G ?x10,mg_none_of KX G ?x11,mg_none_of KX G ?x12,mg_none_of KX G ?x13,mg_none_of KX G ?x14,mg_none_of KX G ?x15,mg_none_of KX G ?x16,mg_none_of KX G ?x17⟩
    (case x0=>k_is);(case x1=>k_is);(case x2=>k_is);(case x3=>k_is);(case x4=>k_is);(case x5=>k_is);(case x6=>k_is);(case x7=>k_is);(case x8=>k_is);(case x9=>k_is);(case x10=>k_is);(case x11=>k_is);(case x12=>k_is);(case x13=>k_is);(case x14=>k_is);(case x15=>k_is);(case x16=>k_is);(case x17=>k_is)
   case c_MOST_COST=>refine' j9 KX G ?a ?b;(case a=>k_is);(case b=>exact rfl)
   case c_MOST_PLACES=>refine' j9 KX G ?a ?b;(case a=>k_is);(case b=>exact rfl)
   case c_MOST_PLACES_OF_TIE=>refine' j9 KX G ?a ?b;(case a=>k_is);(case b=>exact rfl)
   case c_MOST_TIES=>refine' j9 KX G ?a ?b;(case a=>k_is);(case b=>exact rfl)
   case c_MOST_WEIGHT=>refine' j9 KX G ?a ?b;(case a=>k_is);(case b=>exact rfl)
   case u_0 =>
    refine' qz KX G (ps:=["thing"]) ?a ?l ?c ?d ?h ?t ?k ?b
    (case a=>k_is);(case l=>k_is);(case c=>k_is);(case d=>k_is);(case h=>rfl);(case t=>rfl);(case k=>k_is)
    (case b=>intro _ _ _ _ _ _ _ q;obtain⟨_,rfl⟩:=len1 q;rfl)
   case u_1 =>
    refine' qz KX G (ps:=["thing","least","most"]) ?a ?l ?c ?d ?h ?t ?k ?b
    (case a=>k_is);(case l=>k_is);(case c=>k_is);(case d=>k_is);(case h=>rfl);(case t=>rfl);(case k=>k_is)
    (case b=>intro _ _ _ _ _ _ _ q;obtain⟨_,_,_,rfl⟩:=len3 q;rfl)
   case u_2 =>
    refine' qz KX G (ps:=["one","other"]) ?a ?l ?c ?d ?h ?t ?k ?b
    (case a=>k_is);(case l=>k_is);(case c=>k_is);(case d=>k_is);(case h=>rfl);(case t=>rfl);(case k=>k_is)
    (case b=>intro _ _ _ _ _ _ _ q;obtain⟨_,_,rfl⟩:=len2 q;rfl)
   case u_3 =>
    refine' qz KX G (ps:=["top","bottom"]) ?a ?l ?c ?d ?h ?t ?k ?b
    (case a=>k_is);(case l=>k_is);(case c=>k_is);(case d=>k_is);(case h=>rfl);(case t=>rfl);(case k=>k_is)
    (case b=>intro _ _ _ _ _ _ _ q;obtain⟨_,_,rfl⟩:=len2 q;rfl)
   case u_4 =>
    refine' qz KX G (ps:=["one","other"]) ?a ?l ?c ?d ?h ?t ?k ?b
    (case a=>k_is);(case l=>k_is);(case c=>k_is);(case d=>k_is);(case h=>rfl);(case t=>rfl);(case k=>k_is)
    (case b=>intro _ _ _ _ _ _ _ q;obtain⟨_,_,rfl⟩:=len2 q;rfl)
   case u_5 =>
    refine' qz KX G (ps:=["thing"]) ?a ?l ?c ?d ?h ?t ?k ?b
    (case a=>k_is);(case l=>k_is);(case c=>k_is);(case d=>k_is);(case h=>rfl);(case t=>rfl);(case k=>k_is)
    (case b=>intro _ _ _ _ _ _ _ q;obtain⟨_,rfl⟩:=len1 q;rfl)
   case u_6 =>
    refine' qz KX G (ps:=["thing"]) ?a ?l ?c ?d ?h ?t ?k ?b
    (case a=>k_is);(case l=>k_is);(case c=>k_is);(case d=>k_is);(case h=>rfl);(case t=>rfl);(case k=>k_is)
    (case b=>intro _ _ _ _ _ _ _ q;obtain⟨_,rfl⟩:=len1 q;rfl)
   case u_7 =>
    refine' qz KX G (ps:=["thing","many"]) ?a ?l ?c ?d ?h ?t ?k ?b
    (case a=>k_is);(case l=>k_is);(case c=>k_is);(case d=>k_is);(case h=>rfl);(case t=>rfl);(case k=>k_is)
    (case b=>intro _ _ _ _ _ _ _ q;obtain⟨_,_,rfl⟩:=len2 q;rfl)
   case u_8 =>
    refine' qz KX G (ps:=["thing","many"]) ?a ?l ?c ?d ?h ?t ?k ?b
    (case a=>k_is);(case l=>k_is);(case c=>k_is);(case d=>k_is);(case h=>rfl);(case t=>rfl);(case k=>k_is)
    (case b=>intro _ _ _ _ _ _ _ q;obtain⟨_,_,rfl⟩:=len2 q;rfl)
   case u_9 =>
    refine' qz KX G (ps:=["thing","many"]) ?a ?l ?c ?d ?h ?t ?k ?b
    (case a=>k_is);(case l=>k_is);(case c=>k_is);(case d=>k_is);(case h=>rfl);(case t=>rfl);(case k=>k_is)
    (case b=>intro _ _ _ _ _ _ _ q;obtain⟨_,_,rfl⟩:=len2 q;rfl)
   case u_10 =>
    refine' qz KX G (ps:=["thing","many"]) ?a ?l ?c ?d ?h ?t ?k ?b
    (case a=>k_is);(case l=>k_is);(case c=>k_is);(case d=>k_is);(case h=>rfl);(case t=>rfl);(case k=>k_is)
    (case b=>intro _ _ _ _ _ _ _ q;obtain⟨_,_,rfl⟩:=len2 q;rfl)
   case u_11 =>
    refine' qz KX G (ps:=["things"]) ?a ?l ?c ?d ?h ?t ?k ?b
    (case a=>k_is);(case l=>k_is);(case c=>k_is);(case d=>k_is);(case h=>rfl);(case t=>rfl);(case k=>k_is)
    (case b=>intro _ _ _ _ _ _ _ q;obtain⟨_,rfl⟩:=len1 q;rfl)
   case u_12 =>
    refine' qz KX G (ps:=["thing"]) ?a ?l ?c ?d ?h ?t ?k ?b
    (case a=>k_is);(case l=>k_is);(case c=>k_is);(case d=>k_is);(case h=>rfl);(case t=>rfl);(case k=>k_is)
    (case b=>intro _ _ _ _ _ _ _ q;obtain⟨_,rfl⟩:=len1 q;rfl)
   case u_13 =>
    refine' qz KX G (ps:=["web","thing"]) ?a ?l ?c ?d ?h ?t ?k ?b
    (case a=>k_is);(case l=>k_is);(case c=>k_is);(case d=>k_is);(case h=>rfl);(case t=>rfl);(case k=>k_is)
    (case b=>intro _ _ _ _ _ _ _ q;obtain⟨_,_,rfl⟩:=len2 q;rfl)
   case u_14 =>
    refine' qz KX G (ps:=["web","thing"]) ?a ?l ?c ?d ?h ?t ?k ?b
    (case a=>k_is);(case l=>k_is);(case c=>k_is);(case d=>k_is);(case h=>rfl);(case t=>rfl);(case k=>k_is)
    (case b=>intro _ _ _ _ _ _ _ q;obtain⟨_,_,rfl⟩:=len2 q;rfl)
   case u_15 =>
    refine' qz KX G (ps:=["web","part"]) ?a ?l ?c ?d ?h ?t ?k ?b
    (case a=>k_is);(case l=>k_is);(case c=>k_is);(case d=>k_is);(case h=>rfl);(case t=>rfl);(case k=>k_is)
    (case b=>intro _ _ _ _ _ _ _ q;obtain⟨_,_,rfl⟩:=len2 q;rfl)
   case u_16 =>
    refine' qz KX G (ps:=["web"]) ?a ?l ?c ?d ?h ?t ?k ?b
    (case a=>k_is);(case l=>k_is);(case c=>k_is);(case d=>k_is);(case h=>rfl);(case t=>rfl);(case k=>k_is)
    (case b=>intro _ _ _ _ _ _ _ q;obtain⟨_,rfl⟩:=len1 q;rfl)
   case u_17 =>
    refine' qz KX G (ps:=["costs","ties","left"]) ?a ?l ?c ?d ?h ?t ?k ?b
    (case a=>k_is);(case l=>k_is);(case c=>k_is);(case d=>k_is);(case h=>rfl);(case t=>rfl);(case k=>k_is)
    (case b=>intro _ _ _ _ _ _ _ q;obtain⟨_,_,_,rfl⟩:=len3 q;rfl)
   case u_18 =>
    refine' qz KX G (ps:=["web"]) ?a ?l ?c ?d ?h ?t ?k ?b
    (case a=>k_is);(case l=>k_is);(case c=>k_is);(case d=>k_is);(case h=>rfl);(case t=>rfl);(case k=>k_is)
    (case b=>intro _ _ _ _ _ _ _ q;obtain⟨_,rfl⟩:=len1 q;rfl)
   case u_19 =>
    refine' qz KX G (ps:=["web","place"]) ?a ?l ?c ?d ?h ?t ?k ?b
    (case a=>k_is);(case l=>k_is);(case c=>k_is);(case d=>k_is);(case h=>rfl);(case t=>rfl);(case k=>k_is)
    (case b=>intro _ _ _ _ _ _ _ q;obtain⟨_,_,rfl⟩:=len2 q;rfl)
   case u_20 =>
    refine' qz KX G (ps:=["_law_cell"]) ?a ?l ?c ?d ?h ?t ?k ?b
    (case a=>k_is);(case l=>k_is);(case c=>k_is);(case d=>k_is);(case h=>rfl);(case t=>rfl);(case k=>k_is)
    (case b=>intro _ _ _ _ _ _ _ q;obtain⟨_,rfl⟩:=len1 q;rfl)
   case u_21 =>
    refine' qz KX G (ps:=["_law_script","_law_k"]) ?a ?l ?c ?d ?h ?t ?k ?b
    (case a=>k_is);(case l=>k_is);(case c=>k_is);(case d=>k_is);(case h=>rfl);(case t=>rfl);(case k=>k_is)
    (case b=>intro _ _ _ _ _ _ _ q;obtain⟨_,_,rfl⟩:=len2 q;rfl)
   case u_22 =>
    refine' qz KX G (ps:=["_law_pack_here","_law_size"]) ?a ?l ?c ?d ?h ?t ?k ?b
    (case a=>k_is);(case l=>k_is);(case c=>k_is);(case d=>k_is);(case h=>rfl);(case t=>rfl);(case k=>k_is)
    (case b=>intro _ _ _ _ _ _ _ q;obtain⟨_,_,rfl⟩:=len2 q;rfl)
   case u_23 =>
    refine' qz KX G (ps:=["_law_top","_law_bottom"]) ?a ?l ?c ?d ?h ?t ?k ?b
    (case a=>k_is);(case l=>k_is);(case c=>k_is);(case d=>k_is);(case h=>rfl);(case t=>rfl);(case k=>k_is)
    (case b=>intro _ _ _ _ _ _ _ q;obtain⟨_,_,rfl⟩:=len2 q;rfl)
   case u_24 =>
    refine' qz KX G (ps:=["_law_one","_law_other"]) ?a ?l ?c ?d ?h ?t ?k ?b
    (case a=>k_is);(case l=>k_is);(case c=>k_is);(case d=>k_is);(case h=>rfl);(case t=>rfl);(case k=>k_is)
    (case b=>intro _ _ _ _ _ _ _ q;obtain⟨_,_,rfl⟩:=len2 q;rfl)
   case u_25 =>
    refine' qz KX G (ps:=["_law_pack_here","_law_many"]) ?a ?l ?c ?d ?h ?t ?k ?b
    (case a=>k_is);(case l=>k_is);(case c=>k_is);(case d=>k_is);(case h=>rfl);(case t=>rfl);(case k=>k_is)
    (case b=>intro _ _ _ _ _ _ _ q;obtain⟨_,_,rfl⟩:=len2 q;rfl)
   case u_26 =>
    refine' qz KX G (ps:=["_law_pack_here","_law_most","_law_ties"]) ?a ?l ?c ?d ?h ?t ?k ?b
    (case a=>k_is);(case l=>k_is);(case c=>k_is);(case d=>k_is);(case h=>rfl);(case t=>rfl);(case k=>k_is)
    (case b=>intro _ _ _ _ _ _ _ q;obtain⟨_,_,_,rfl⟩:=len3 q;rfl)
   case u_27 =>
    refine' qz KX G (ps:=["_law_web_here","_law_called_here"]) ?a ?l ?c ?d ?h ?t ?k ?b
    (case a=>k_is);(case l=>k_is);(case c=>k_is);(case d=>k_is);(case h=>rfl);(case t=>rfl);(case k=>k_is)
    (case b=>intro _ _ _ _ _ _ _ q;obtain⟨_,_,rfl⟩:=len2 q;rfl)
   case u_28 =>
    refine' qz KX G (ps:=["_law_web_here","_law_often","_law_dear"]) ?a ?l ?c ?d ?h ?t ?k ?b
    (case a=>k_is);(case l=>k_is);(case c=>k_is);(case d=>k_is);(case h=>rfl);(case t=>rfl);(case k=>k_is)
    (case b=>intro _ _ _ _ _ _ _ q;obtain⟨_,_,_,rfl⟩:=len3 q;rfl)
   case u_29 =>
    refine' qz KX G (ps:=["_law_one","_law_other"]) ?a ?l ?c ?d ?h ?t ?k ?b
    (case a=>k_is);(case l=>k_is);(case c=>k_is);(case d=>k_is);(case h=>rfl);(case t=>rfl);(case k=>k_is)
    (case b=>intro _ _ _ _ _ _ _ q;obtain⟨_,_,rfl⟩:=len2 q;rfl)
   case u_30 =>
    refine' qz KX G (ps:=["_law_pack_here","_law_web_here"]) ?a ?l ?c ?d ?h ?t ?k ?b
    (case a=>k_is);(case l=>k_is);(case c=>k_is);(case d=>k_is);(case h=>rfl);(case t=>rfl);(case k=>k_is)
    (case b=>intro _ _ _ _ _ _ _ q;obtain⟨_,_,rfl⟩:=len2 q;rfl)
   case u_31 =>
    refine' qz KX G (ps:=["_law_web_here","_law_other","_law_pack_here"]) ?a ?l ?c ?d ?h ?t ?k ?b
    (case a=>k_is);(case l=>k_is);(case c=>k_is);(case d=>k_is);(case h=>rfl);(case t=>rfl);(case k=>k_is)
    (case b=>intro _ _ _ _ _ _ _ q;obtain⟨_,_,_,rfl⟩:=len3 q;rfl)
   case u_32 =>
    refine' qz KX G (ps:=["_law_script"]) ?a ?l ?c ?d ?h ?t ?k ?b
    (case a=>k_is);(case l=>k_is);(case c=>k_is);(case d=>k_is);(case h=>rfl);(case t=>rfl);(case k=>k_is)
    (case b=>intro _ _ _ _ _ _ _ q;obtain⟨_,rfl⟩:=len1 q;rfl)
  obtain⟨f,fd,c,t,hm,U,hb⟩:=p.u_32
  have e0:=hmg.symm.trans hm
  cases e0
  obtain⟨oc,od,kV,doc,pm,an,ct,osl,rfl,lk,hcd⟩:=U.ex
  exact⟨_,λs u=>.of_eq rfl,λbase _ _=>RP.o_32 p (RP.qgm p 15) U⟩
end
