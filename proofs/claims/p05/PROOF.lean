import PyProof.Rows.All
import Wide.All
import OpenK.AllK
import Wide.FinOn
import Lean
import PyProof.EqAt
import PyProof.EqKinds
import PyProof.TupleCall
import PyProof.DictTruth
import PyProof.Conv_int_bool
import PyProof.SumAnyB
import PySem.Challenge.RW_weblayers_k05_webs_and_parts_refused
set_option Elab.async false
set_option linter.all false
set_option maxRecDepth 100000
set_option maxHeartbeats 4000000
set_option genSizeOf false
set_option genSizeOfSpec false
section
open PySem PySem.Spec PyProof.Rows Spec
def wA:=@wpAny_bind
def wB:=@Heap.get?_push_of_some
def wC:=@wpAny_pure
def wD:=@List.getElem?_eq_getElem
def wE:=@Heap.lt_size
def wF:=@List.size_toArray
def wG:=@Nat.le_refl
def wH:=@Heap.get?_push_size
def wI:=@List.getElem?_eq_some_iff
def wJ:=@if_pos
def wK:=@if_neg
def wL:=@Bool.and_eq_true
def wM:=@List.mem_cons_of_mem
def wN:=@List.mem_cons_self
def wO:=@List.mem_cons
def wP:=@List.length_map
def wQ:=@Nat.lt_of_lt_of_le
def wR:=@Bool.false_ne_true
def wS:=@Heap.get?_update_other
def wT:=@wpAny_newObj_type
def wU:=@List.getElem?_append_left
def wV:=@List.mem_append_right
def wW:=@Nat.ne_of_lt
def wX:=@Option.bind_some
def wY:=@List.getElem?_map
def wZ:=@List.getElem?_append_right
def w4:=@PyProof.Rows.slot_tuple_getitem
def w5:=@List.length_cons
def w6:=@decide_eq_false
def w8:=@List.pairwise_cons
def w9:=@List.mem_singleton
def wa:=@List.map_cons
def wb:=@wpAny_callSpecial?_slot
def wc:=@List.length_append
def wd:=@wpAny_field
def we:=@decide_eq_true_eq
def wf:=@List.not_mem_nil
def wg:=@wpAny_mono
def wj:=@wpAny_call_entry
def wk:=@Option.map_some
def wm:=@decide_eq_true
def wn:=@List.mem_map
def wo:=@List.getD_eq_getElem?_getD
def wp:=@wpAny_holding
def wq:=@List.mem_of_getElem?
def wt:=@Int.fmod_nonneg_of_pos
def wu:=@List.map_map
def wv:=@Heap.get?_update_self
def ww:=@of_decide_eq_true
def wx:=@Array.getElem?_eq_some_iff
def wy:=@PySem.W.kia_one
def wz:=@beq_eq_false_iff_ne
def vA:=@Nat.le_trans
def vB:=@Obj.data_mapFields
def vC:=@List.mem_append
def vD:=@List.length_nil
def vE:=@Int.fdiv_nonneg
def vF:=@List.length_take
def vG:=@PySem.F.excBase_ValueError
def vH:=@List.getElem?_set_self
def vI:=@wpAny_truthy_bool
def vJ:=@sizeLine_eq
def vK:=@PySem.mem_of_lookup
def vL:=@List.replicate_succ
def vM:=@List.filterMap_cons
def vN:=@Nat.ne_of_gt
def vO:=@Nat.zero_le
def vP:=@List.lookup_cons
end
namespace L2
open PySem PySem.Spec PyProof.Rows
noncomputable abbrev Key:=Sum Int Str
noncomputable def keyIs:Key→Value→Bool
 | .inl k,v=>Value.isInt k v
 | .inr x,v=>Value.isStrOf x v
noncomputable def keyH (w:World):Key→Int
 | .inl k=>hashInt k
 | .inr x=>hashStr w x
theorem keyIs_shape:∀ {k:Key} {v:Value},keyIs k v=true→(∃ i t,k=Sum.inl i∧v=Value.int i t)∨(∃ x t,k=Sum.inr x∧v=Value.str x t)
 | .inl i,v,h=>by
  obtain ⟨t,e⟩:=Value.isInt_shape (k:=i) (v:=v) h
  exact .inl ⟨i,t,rfl,e⟩
 | .inr x,v,h=>by
  obtain ⟨t,e⟩:=Value.isStrOf_shape (x:=x) (v:=v) h
  exact .inr ⟨x,t,rfl,e⟩
theorem qdo (i:Int) (t:Tok):keyIs (.inl i) (.int i t)=true:=by simp [keyIs,Value.isInt]
theorem qdp (x:Str) (t:Tok):keyIs (.inr x) (.str x t)=true:=by simp [keyIs,Value.isStrOf]
theorem qhI (a b:Int):decide ((Sum.inl a:Key)=Sum.inl b)=(a == b):=by
 by_cases e:a=b
 ·subst e;simp
 ·have h:¬ (Sum.inl a:Key)=Sum.inl b:=λq=>e (Sum.inl.inj q)
  rw [w6 h]
  exact (wz.mpr e).symm
theorem qhJ (a b:Str):decide ((Sum.inr a:Key)=Sum.inr b)=decide (a=b):=by
 by_cases e:a=b
 ·subst e;simp
 ·have h:¬ (Sum.inr a:Key)=Sum.inr b:=λq=>e (Sum.inr.inj q)
  rw [w6 h,w6 e]
theorem qhK (a:Int) (b:Str):decide ((Sum.inl a:Key)=Sum.inr b)=false:=w6 (λq=>nomatch q)
theorem qhL (a:Str) (b:Int):decide ((Sum.inr a:Key)=Sum.inl b)=false:=w6 (λq=>nomatch q)
noncomputable def mixKind (prog:Program) (w:World):PySem.KeyKind prog w Key where
 is:=keyIs
 hash:=keyH w
 inj:=λv a b ha hb=>by
  rcases keyIs_shape ha with ⟨i,t,rfl,rfl⟩ | ⟨x,t,rfl,rfl⟩
  ·rcases keyIs_shape hb with ⟨j,u,rfl,e⟩ | ⟨y,u,rfl,e⟩
   ·injection e with e1 _;rw [e1]
   ·exact nomatch e
  ·rcases keyIs_shape hb with ⟨j,u,rfl,e⟩ | ⟨y,u,rfl,e⟩
   ·exact nomatch e
   ·injection e with e1 _;rw [e1]
 byValue:=λk v h=>by
  rcases keyIs_shape h with ⟨i,t,rfl,rfl⟩ | ⟨x,t,rfl,rfl⟩ <;> rfl
 pyHash:=λhv h=>by
  rcases keyIs_shape hv with ⟨i,t,rfl,rfl⟩ | ⟨x,t,rfl,rfl⟩
  ·exact wpAny_pyHash_int h
  ·exact wpAny_pyHash_str h
 eqBool:=λhu hv h=>by
  rcases keyIs_shape hu with ⟨i,t,rfl,rfl⟩ | ⟨x,t,rfl,rfl⟩
  ·rcases keyIs_shape hv with ⟨j,u,rfl,rfl⟩ | ⟨y,u,rfl,rfl⟩
   ·rw [qhI] at h;exact wpAny_eqBool_int h
   ·rw [qhK] at h;exact SeqAt.EqAt.int_str i t y u _ _ _ _ h
  ·rcases keyIs_shape hv with ⟨j,u,rfl,rfl⟩ | ⟨y,u,rfl,rfl⟩
   ·rw [qhL] at h;exact SeqAt.EqAt.str_int x t j u _ _ _ _ h
   ·rw [qhJ] at h;exact wpAny_eqBool_str h
 «strs»:=λk x t v h=>by
  rcases keyIs_shape h with ⟨i,u,rfl,e⟩ | ⟨y,u,rfl,e⟩
  ·exact nomatch e
  ·injection e with e1 _
   subst e1
   cases v <;> rfl
theorem qbc (prog:Program) (w:World) (i:Int) (t:Tok):(mixKind prog w).is (.inl i) (.int i t)=true:=qdo i t
theorem qbd (prog:Program) (w:World) (x:Str) (t:Tok):(mixKind prog w).is (.inr x) (.str x t)=true:=qdp x t
end L2
namespace L2
open PySem PySem.Spec PyProof.Rows
inductive V where
 | non | bl (b:Bool) | int (i:Int) | str (x:Str) | byt (b:Array UInt8) | flt (b:UInt64) | ref (a:Addr) | ty (n:String)
 deriving DecidableEq
noncomputable def RelV:V→Value→Prop
 | .non,u=>u=Value.none
 | .bl b,u=>u=Value.bool b
 | .int i,u=>∃ t,u=Value.int i t
 | .str x,u=>∃ t,u=Value.str x t
 | .byt b,u=>∃ t,u=Value.bytes b t
 | .flt b,u=>∃ t,u=Value.float b t
 | .ref a,u=>u=Value.ref a
 | .ty n,u=>u=Value.type n
noncomputable abbrev Vals:List V→List Value→Prop:=Paired RelV
theorem Vals.length {xs:List V} {us:List Value} (r:Vals xs us):xs.length=us.length:=Paired.length r
theorem Vals.get:∀ {xs:List V} {us:List Value} {i:Nat} {x:V},Vals xs us→xs[i]?=some x→∃ u,us[i]?=some u∧RelV x u
 | _,_,_,_,.nil,e=>by simp at e
 | _,_,0,_,.cons r _,e=>by simp at e;subst e;exact ⟨_,rfl,r⟩
 | _,_,i+1,x,.cons _ t,e=>by
  obtain ⟨u,h1,h2⟩:=Vals.get (i:=i) (x:=x) t (by simpa using e)
  exact ⟨u,by simpa using h1,h2⟩
theorem Vals.set {x:V} {u:Value} (r:RelV x u):∀ {xs:List V} {us:List Value} (i:Nat),Vals xs us→Vals (xs.set i x) (us.set i u)
 | _,_,_,.nil=>.nil
 | _,_,0,.cons _ t=>.cons r t
 | _,_,i+1,.cons q t=>.cons q (Vals.set r i t)
theorem Vals.append:∀ {xs ys:List V} {us ws:List Value},Vals xs us→Vals ys ws→Vals (xs++ys) (us++ws)
 | _,_,_,_,.nil,s=>s
 | _,_,_,_,.cons r t,s=>.cons r (Vals.append t s)
theorem Vals.take:∀ {xs:List V} {us:List Value} (n:Nat),Vals xs us→Vals (xs.take n) (us.take n)
 | _,_,0,_=>.nil
 | _,_,_+1,.nil=>.nil
 | _,_,n+1,.cons r t=>.cons r (Vals.take n t)
theorem Vals.drop:∀ {xs:List V} {us:List Value} (n:Nat),Vals xs us→Vals (xs.drop n) (us.drop n)
 | _,_,0,r=>r
 | _,_,_+1,.nil=>.nil
 | _,_,n+1,.cons _ t=>Vals.drop n t
noncomputable def RelO:Option V→Option Value→Prop
 | some v,some u=>RelV v u
 | none,none=>True
 | _,_=>False
noncomputable def KV {κ:Type}:List (κ × V)→List (κ × Value)→Prop:=Paired λ(p:κ × V) (q:κ × Value)=>p.1=q.1∧RelV p.2 q.2
noncomputable def kV:Key→V
 | .inl i=>.int i
 | .inr x=>.str x
inductive HO where
 | lst (xs:List V)
 | tup (xs:List V)
 | dK (kvs:List (Key × V)) | dT (kvs:List (List Key × V))
 | set (S:Int→Bool) (n:Nat)
 | ins (C dx:Addr) (fs:List (Str × V))
 | own (x:Addr)
 | xd (fs:List (Str × V))
 | met (f x:Addr)
 | rng (lo hi:Int)
 | frz (o:Obj) (u:HO)
 | tbl (ps:Array Value)
 | ext (φ:Heap→Prop)
noncomputable abbrev Hp:=Addr→Option HO
noncomputable def upd (H:Hp) (a:Addr) (o:HO):Hp:=λb=>if b=a then some o else H b
theorem qC {H:Hp} {a:Addr} {o:HO}:upd H a o a=some o:=by unfold upd;rw [wJ rfl]
theorem qk {H:Hp} {a b:Addr} {o:HO} (h:b≠a):upd H a o b=H b:=by unfold upd;rw [wK h]
theorem qjl {H:Hp} {a b:Addr} {o u:HO} (h:H a=some o) (h':H b=some u) (d:o≠u):a≠b:=by
 intro e;subst e;rw [h] at h';exact d (Option.some.inj h')
theorem zo {H:Hp} {a b:Addr} {o:HO} (h:H a=some o) (h':H b=none):a≠b:=by
 intro e;subst e;rw [h] at h';cases h'
theorem zZ (h:Heap) (its:Array Value):∀ o,(h.push { cls:=.type "tuple",data:=.seq its }).get? h.objs.size=some o→o.dict=none:=λo q=>by
 rw [wH _ rfl] at q;cases q;rfl
section
variable (P:Program) (w:World)
noncomputable def ObjOk (H:Hp) (h:Heap) (a:Addr):HO→Prop
 | .lst xs=>xs.length≤sizeLine∧∃ (its:List Value) (n:Nat),Vals xs its∧h.get? a=some { cls:=.type "list",data:=.seq its.toArray n }
 | .tup xs=>xs.length≤sizeLine∧∃ its:List Value,Vals xs its∧IsTup h a its.toArray∧∀ o,h.get? a=some o→o.dict=none
 | .dK kvs=>kvs.length≤sizeLine∧(a == sysModules)=false∧∃ vs,KV kvs vs∧h.DictOf (mixKind P w) a vs
 | .dT kvs=>kvs.length≤sizeLine∧(a == sysModules)=false∧∃ xs:List (List Key × Addr × Value),
   Paired (λ(p:List Key × V) (q:List Key × Addr × Value)=>p.1=q.1∧H q.2.1=some (.tup (p.1.map kV))∧RelV p.2 q.2.2) kvs xs ∧
   ∃ o es ep,h.get? a=some o∧o.ExactDict∧o.data=.dict es ep∧es.toList=xs.map (entryOfKey (tupleKind (mixKind P w)))∧(xs.map (·.1)).Nodup
 | .set S n=>h.SetOf (intKind P w) a S n
 | .ins C dx fs=>H dx=some (.own a)∧fs.length≤1000∧dx≠a∧h.get? a=some (PySem.W.instObj C dx) ∧
   ∃ mA,h.Ns1 dx mA∧(∀ f,RelO (fs.lookup f) (mA f))∧PySem.Within mA (fs.map (·.1))
 | .own _=>∃ o,h.get? a=some o
 | .xd fs=>∃ mA,h.Ns1 a mA∧∀ f,RelO (fs.lookup f) (mA f)
 | .rng lo hi=>∃ t u v,h.get? a=some { cls:=.type "range",data:=.fields #[.int lo t,.int hi u,.int 1 v] }
 | .frz o u=>h.get? a=some o∧ObjOk H h a u
 | .tbl ps=>h.get? a=some { cls:=.none,data:=.fields ps }∧TriplesOk ps.toList
 | .met f x=>h.get? a=some (PySem.W.methodObj (.ref f) (.ref x))
 | .ext φ=>φ h∧(∃ o,h.get? a=some o)∧∀ h1 h2:Heap,φ h1→(∀ o,h1.get? a=some o→h2.get? a=some o)→φ h2
noncomputable def HOk (H:Hp) (h:Heap):Prop:=∀ a o,H a=some o→ObjOk P w H h a o
end
section
variable {P:Program} {w:World} {H H':Hp} {h h':Heap} {a:Addr} {o:HO}
theorem ObjOk.lt (x:ObjOk P w H h a o):a<h.objs.size:=by
 cases o with
 | lst xs=>obtain ⟨_,_,_,_,e⟩:=x;exact wE e
 | tup xs=>obtain ⟨_,_,_,p,_⟩:=x;exact p.lt
 | dK kvs=>obtain ⟨_,_,_,_,o,_,_,e,_⟩:=x;exact wE e
 | dT kvs=>obtain ⟨_,_,_,_,o,_,_,e,_⟩:=x;exact wE e
 | set S n=>obtain ⟨o,_,_,_,e,_⟩:=x;exact wE e
 | ins C dx fs=>obtain ⟨_,_,_,e,_⟩:=x;exact wE e
 | own y=>obtain ⟨_,e⟩:=x;exact wE e
 | xd fs=>obtain ⟨_,⟨_,_,_,e,_⟩,_⟩:=x;exact wE e
 | rng lo hi=>obtain ⟨_,_,_,e⟩:=x;exact wE e
 | frz ob u=>obtain ⟨e,_⟩:=x;exact wE e
 | tbl ps=>exact wE (show h.get? a=some _ from x.1)
 | met f y=>exact wE (show h.get? a=some _ from x)
 | ext φ=>obtain ⟨_,⟨_,e⟩,_⟩:=x;exact wE e
theorem Paired.mapP {α β:Type} {F G:α→β→Prop}:∀ {l₁:List α} {l₂:List β},Paired F l₁ l₂→(∀ a b,F a b→G a b)→Paired G l₁ l₂
 | _,_,.nil,_=>.nil
 | _,_,.cons r t,f=>.cons (f _ _ r) (Paired.mapP t f)
theorem ObjOk.stay (x:ObjOk P w H h a o) (k:∀ b u,(b=a∨H b=some (.own a))→h.get? b=some u→h'.get? b=some u)
  (ho:∀ b,H b=some (.own a)→H' b=some (.own a)) (ht:∀ b xs,H b=some (.tup xs)→H' b=some (.tup xs)):ObjOk P w H' h' a o:=by
 induction o with
 | lst xs=>obtain ⟨z,its,n,r,e⟩:=x;exact ⟨z,its,n,r,k _ _ (.inl rfl) e⟩
 | tup xs=>obtain ⟨z,its,r,⟨ob,e,c⟩,nd⟩:=x;exact ⟨z,its,r,⟨ob,k _ _ (.inl rfl) e,c⟩,λo q=>by rw [k _ _ (.inl rfl) e] at q;cases q;exact nd _ e⟩
 | dK kvs=>obtain ⟨z,y,vs,r,ob,es,ep,e,c⟩:=x;exact ⟨z,y,vs,r,ob,es,ep,k _ _ (.inl rfl) e,c⟩
 | dT kvs =>
  obtain ⟨z,y,xs,r,ob,es,ep,e,c⟩:=x
  exact ⟨z,y,xs,Paired.mapP r λp q z=>⟨z.1,ht _ _ z.2.1,z.2.2⟩,ob,es,ep,k _ _ (.inl rfl) e,c⟩
 | set S n=>obtain ⟨ob,es,ep,t,e,c⟩:=x;exact ⟨ob,es,ep,t,k _ _ (.inl rfl) e,c⟩
 | ins C dx fs =>
  obtain ⟨d,z,ne,e,mA,⟨od,es,ep,e2,c⟩,r⟩:=x
  exact ⟨ho _ d,z,ne,k _ _ (.inl rfl) e,mA,⟨od,es,ep,k _ _ (.inr d) e2,c⟩,r⟩
 | own y=>obtain ⟨ob,e⟩:=x;exact ⟨ob,k _ _ (.inl rfl) e⟩
 | xd fs=>obtain ⟨mA,⟨od,es,ep,e,c⟩,r⟩:=x;exact ⟨mA,⟨od,es,ep,k _ _ (.inl rfl) e,c⟩,r⟩
 | rng lo hi=>obtain ⟨t,u,v,e⟩:=x;exact ⟨t,u,v,k _ _ (.inl rfl) e⟩
 | frz ob u ih=>obtain ⟨e,q⟩:=x;exact ⟨k _ _ (.inl rfl) e,ih q⟩
 | tbl ps =>
  obtain ⟨e,z⟩:=x
  exact ⟨k a _ (.inl rfl) e,z⟩
 | met f y =>
  have e:h.get? a=some (PySem.W.methodObj (.ref f) (.ref y)):=x
  show h'.get? a=some (PySem.W.methodObj (.ref f) (.ref y))
  exact k a _ (.inl rfl) e
 | ext φ=>obtain ⟨p,⟨o,e⟩,st⟩:=x;exact ⟨st _ _ p λo q=>k _ _ (.inl rfl) q,⟨o,k _ _ (.inl rfl) e⟩,st⟩
theorem HOk.lt (x:HOk P w H h) (e:H a=some o):a<h.objs.size:=(x a o e).lt
theorem HOk.fresh (x:HOk P w H h) (e:h.objs.size≤a):H a=none:=by
 cases q:H a with
 | none=>rfl
 | some u=>exact absurd (wQ (x.lt q) e) (Nat.lt_irrefl _)
theorem HOk.kept (x:HOk P w H h) (k:∀ b u,h.get? b=some u→h'.get? b=some u):HOk P w H h':=λa o e =>
 (x a o e).stay (λb u _ q=>k b u q) (λ_ q=>q) λ_ _ q=>q
theorem HOk.laid (x:HOk P w H h) (k:∀ b u,h.get? b=some u→h'.get? b=some u) (hp:h.objs.size≤a) (new:ObjOk P w (upd H a o) h' a o):HOk P w (upd H a o) h':=λb u e=>by
 have hn:=x.fresh hp
 by_cases hb:b=a
 ·subst hb;rw [qC] at e;cases e;exact new
 ·rw [qk hb] at e
  exact (x b u e).stay (λc v _ q=>k c v q) (λc q=>by rw [qk (zo q hn)];exact q) λc xs q=>by rw [qk (zo q hn)];exact q
end
noncomputable def Rd (H:Hp) (a:Addr) (u:HO):Prop:=H a=some u∨∃ o,H a=some (.frz o u)
theorem Rd.ok {P:Program} {w:World} {H:Hp} {h:Heap} {a:Addr} {u:HO} (r:Rd H a u) (x:HOk P w H h):ObjOk P w H h a u:=by
 rcases r with r | ⟨o,r⟩
 ·exact x a u r
 ·obtain ⟨_,q⟩:=x a _ r
  exact q
noncomputable def Mut:Option HO→Prop
 | some (.lst _)=>True
 | some (.dK _)=>True
 | some (.dT _)=>True
 | some (.set _ _)=>True
 | some (.ins _ _ _)=>True
 | some (.ext _)=>True
 | _=>False
section
variable {P:Program} {w:World} {H:Hp} {h h':Heap} {x e:Addr} {o':HO}
theorem HOk.write (ok:HOk P w H h) (mu:Mut (H x)) (he:e=x∨H e=some (.own x)) (k:∀ b u,b≠e→h.get? b=some u→h'.get? b=some u) (heo:∃ u,h'.get? e=some u)
  (new:ObjOk P w (upd H x o') h' x o'):HOk P w (upd H x o') h':=λb u q=>by
 have nown:∀ c y,H c=some (.own y)→c≠x:=λc y r z=>by subst z;rw [r] at mu;exact mu
 have ntup:∀ c xs,H c=some (.tup xs)→c≠x:=λc xs r z=>by subst z;rw [r] at mu;exact mu
 by_cases hb:b=x
 ·subst hb;rw [qC] at q;cases q;exact new
 ·rw [qk hb] at q
  by_cases hbe:b=e
  ·have q':H b=some (.own x):=by
    rcases he with z | z
    ·exact absurd (hbe.trans z) hb
    ·rw [hbe];exact z
   rw [q] at q';cases q'
   obtain ⟨v,hv⟩:=heo
   exact ⟨v,by rw [hbe];exact hv⟩
  ·refine (ok b u q).stay (λc v hc r=>k c v ?_ r) (λc r=>by rw [qk (nown c b r)];exact r) λc xs r=>by rw [qk (ntup c xs r)];exact r
   rcases hc with rfl | hc
   ·exact hbe
   ·rintro rfl
    rcases he with z | z
    ·exact nown c b hc z
    ·rw [hc] at z;cases z;exact hb rfl
end
structure Un (fs ex:List Addr) (H H':Hp) (h h':Heap):Prop where
 keep:∀ b o,h.get? b=some o→H b=none→b ∉ fs→b ∉ ex→h'.get? b=some o
 slot:∀ b o,h.get? b=some o→H b=none→b∈fs→b ∉ ex→∃ sl,h'.get? b=some { o with slots:=sl }
 free:∀ b o,h.get? b=some o→H b=none→b ∉ ex→H' b=none
 there:∀ b o,h.get? b=some o→b ∉ ex→∃ o',h'.get? b=some o'
 tups:∀ b xs,H b=some (.tup xs)→H' b=some (.tup xs)
 frzs:∀ b o u,H b=some (.frz o u)→H' b=some (.frz o u)
 tbls:∀ b ps,H b=some (.tbl ps)→∃ more,H' b=some (.tbl (ps++more))
section
variable {fs fs' ex ex':List Addr} {H H1 H2:Hp} {h h1 h2 h':Heap} {a x e:Addr} {o:HO}
theorem Un.any (u:Un fs ex H H1 h h1) {b:Addr} {ob:Obj} (q:h.get? b=some ob) (n:H b=none) (hx:b ∉ ex):∃ sl,h1.get? b=some { ob with slots:=sl }:=by
 by_cases hb:b∈fs
 ·exact u.slot b ob q n hb hx
 ·exact ⟨ob.slots,u.keep b ob q n hb hx⟩
theorem Un.kept (k:∀ b u,h.get? b=some u→h'.get? b=some u):Un fs ex H H h h' :=
 ⟨λb ob q _ _ _=>k b ob q,λb ob q _ _ _=>⟨ob.slots,k b ob q⟩,λ_ _ _ n _=>n,λb ob q _=>⟨ob,k b ob q⟩,λ_ _ q=>q,λ_ _ _ q=>q,λ_ ps q=>⟨#[],by rw [q];simp⟩⟩
theorem Un.refl:Un fs ex H H h h:=Un.kept λ_ _ q=>q
theorem Un.laid (k:∀ b u,h.get? b=some u→h'.get? b=some u) (hp:h.objs.size≤a) (hn:H a=none):Un fs ex H (upd H a o) h h' where
 keep:=λb u q _ _ _=>k b u q
 slot:=λb u q _ _ _=>⟨u.slots,k b u q⟩
 free:=λb u q n _=>by rw [qk (wW (wQ (wE q) hp))];exact n
 there:=λb u q _=>⟨u,k b u q⟩
 tups:=λb xs q=>by rw [qk (zo q hn)];exact q
 frzs:=λb u xs q=>by rw [qk (zo q hn)];exact q
 tbls:=λb ps q=>⟨#[],by rw [qk (zo q hn),q];simp⟩
theorem Un.write (mu:Mut (H x)) (he:e=x∨H e=some (.own x)) (k:∀ b u,b≠e→h.get? b=some u→h'.get? b=some u) (heo:∃ u,h'.get? e=some u):Un fs ex H (upd H x o) h h':=by
 have hx:∀ b,H b=none→b≠x:=λb n z=>by subst z;rw [n] at mu;exact mu
 have hb:∀ b,H b=none→b≠e:=λb n z=>by
  subst z
  rcases he with r | r
  ·exact hx b n r
  ·rw [n] at r;cases r
 have hm:∀ b u,H b=some u→¬ Mut (some u)→b≠x:=λb u q nm z=>by subst z;rw [q] at mu;exact nm mu
 refine ⟨λb u q n _ _=>k b u (hb b n) q,λb u q n _ _=>⟨u.slots,k b u (hb b n) q⟩,λb u q n _=>by rw [qk (hx b n)];exact n,λb u q _=>?_,
  λb xs q=>by rw [qk (hm b _ q λz=>z)];exact q,λb u xs q=>by rw [qk (hm b _ q λz=>z)];exact q,λb ps q=>⟨#[],by rw [qk (hm b _ q λz=>z),q];simp⟩⟩
 by_cases hbe:b=e
 ·subst hbe;exact heo
 ·exact ⟨u,k b u hbe q⟩
end
structure GK (g g':Array GenState):Prop where
 bare:AllBare g'
 sz:g.size≤g'.size
 old:∀ i,i<g.size→g'[i]?=g[i]?
theorem GK.refl {g:Array GenState} (b:AllBare g):GK g g:=⟨b,wG _,λ_ _=>rfl⟩
theorem GK.self {g g':Array GenState} (x:GK g g'):GK g' g':=GK.refl x.bare
theorem GK.trans {g g1 g2:Array GenState} (a:GK g g1) (b:GK g1 g2):GK g g2:=⟨b.bare,vA a.sz b.sz,λi hi=>(b.old i (wQ hi a.sz)).trans (a.old i hi)⟩
noncomputable def sameName (vs:Array Value):Bool:=match (vs[0]?:Option Value),(vs[1]?:Option Value) with
 | some (.str a _),some (.str b _)=>a == b
 | _,_=>false
noncomputable def codeTab (K:PySem.W.Frag) (c T:Addr):Bool:=match K.lookup c with
 | some ⟨cls,_,.fields vs,_⟩=>(cls == .type "code"&&sameName vs)&&(match (vs.getD 11 Value.none:Value),(vs[11]?:Option Value),(vs.getD 18 Value.none:Value),(vs.getD 7 Value.none:Value),(vs.getD 9 Value.none:Value),(vs.getD 10 Value.none:Value) with
  | .ref a,some (.ref b),.str _ _,.int _ _,.bool _,.int _ _=>a == T&&b == T&&c != T
  | _,_,_,_,_,_=>false)
 | _=>false
noncomputable def trk (h:Heap) (H:Hp):List Addr:=(List.range h.objs.size).filter λa=>(H a).isSome
noncomputable def hidT (h:Heap) (H:Hp):Heap:=PySem.W.hideAll h (trk h H)
theorem qdq (h:Heap) (H:Hp):(hidT h H).objs.size=h.objs.size:=PySem.W.hideAll_size _ _
theorem qd8 {h:Heap} {H:Hp} {b:Addr} {o:Obj} (e:h.get? b=some o) (n:H b=none):(hidT h H).get? b=some o :=
 PySem.W.hideAll_get _ e λhm=>by
  have q:(H b).isSome=true:=(List.mem_filter.mp hm).2
  rw [n] at q;simp at q
theorem qf8 {h:Heap} {H:Hp} {b:Addr} {o:Obj} (e:(hidT h H).get? b=some o):h.get? b=some o∧H b=none:=by
 have e':h.get? b=some o:=PySem.W.of_hideAll (trk h H) e
 refine ⟨e',?_⟩
 cases q:H b with
 | none=>rfl
 | some x =>
  have hm:b∈trk h H:=List.mem_filter.mpr ⟨List.mem_range.mpr (wE e'),by simp [q]⟩
  have z:(hidT h H).get? b=none:=PySem.W.hideAll_none (trk h H) hm
  rw [z] at e;cases e
noncomputable def allNews (g h:Heap) (L:Addr):List (Addr × Obj):=(List.range h.objs.size).filterMap λa=>if a=L∨(g.get? a).isSome=true then none else (h.get? a).map λo=>(a,o)
noncomputable def rest (g h:Heap) (L d:Addr):List (Addr × Obj):=(allNews g h L).filter λp=>decide (p.1≠d)
end L2
namespace L2
open PySem PySem.Spec PyProof.Rows
structure Mod (K:PySem.W.Frag) (mg:Str→Option Value) (base:Heap):Prop where
 kin:K.In base
 glob:base.Ns mainGlobals mg
 blt:∃ mb,base.Ns builtinsNs mb∧∀ x:Str,x≠"__name__"→mb x=bootBuiltins x
 nolimit:base.NoLimit
 bmod:∃ bm ob,mg "__builtins__"=some (.ref bm)∧bm≠builtinsNs∧base.get? bm=some ob∧ob.cls=.type "module"∧ob.dict=some builtinsNs∧ob.data=.plain
structure Cx where
 prog:Program
 w:World
 K:PySem.W.Frag
 mg:Str→Option Value
 base:Heap
 A:Around
 N:List Str
 s₀:Shared
 H₀:Hp
 env:Env
 outer:List Env
 stack:List Env
 ex:List Addr
 fn:Str→Bool
 calm:Bool
 pn:List (Addr × Obj)
 xe:Value→Shared→Prop
noncomputable def frs (l:List Env):List Addr:=l.filterMap (·.frame)
noncomputable abbrev Cx.fs (X:Cx):List Addr:=frs X.outer
noncomputable def Vis (sc:Scope) (x:Str):Prop:=sc.names.lookup x=some .local∨sc.names.lookup x=some .cell∨sc.names.lookup x=some .free
noncomputable def Loc (sc:Scope) (x:Str):Prop:=sc.names.lookup x=some .local∨sc.names.lookup x=some .cell
noncomputable def Look (env:Env) (h:Heap) (m:Str→Option Value) (x:Str) (u:Value):Prop :=
 (env.kindOf x=some .local∧m x=some u)∨((env.kindOf x=some .cell∨env.kindOf x=some .free)∧∃ c,env.cells.lookup x=some c∧h.IsCell c (some u))
structure Cx.Ok (X:Cx):Prop where
 mod:Mod X.K X.mg X.base
 kind:X.env.scope.kind=.function
 glob:X.env.globals=mainGlobals
 blt:X.env.builtins=builtinsNs
 above:X.s₀.heap.objs.size≤X.env.locals
 inj:∀ x y c,X.env.cells.lookup x=some c→X.env.cells.lookup y=some c→x=y
 has:∀ x,(X.env.kindOf x=some .cell∨X.env.kindOf x=some .free)→∃ c,X.env.cells.lookup x=some c
 cab:∀ x c,X.fn x=true→X.env.cells.lookup x=some c→X.s₀.heap.objs.size≤c
 hd:X.calm=true→X.A.handled=none
 frames:X.A.frames=some X.stack
 stk:X.stack=X.outer∨(X.stack=X.env::X.outer∧X.env.frame=some X.env.locals)
 exf:∀ b∈X.ex,b≠X.env.locals∧∀ x c,X.env.cells.lookup x=some c→c≠b
 bs:∀ b o,X.base.get? b=some o→X.s₀.heap.get? b=some o∧X.H₀ b=none
 bsz:X.base.objs.size≤X.s₀.heap.objs.size
 noex:∀ b o,X.base.get? b=some o→b ∉ X.ex
 exfs:∀ b∈X.ex,b ∉ X.fs
 funs:X.s₀.heap.FunFrames X.base X.outer
 frf:∀ b∈X.fs,X.H₀ b=none
 tab:∀ c T,codeTab X.K c T=true→∃ ps,X.H₀ T=some (.tbl ps)
structure Inv (X:Cx) (pins:List (Addr × Obj)) (σ:List (Option V)) (H:Hp) (s:Shared):Prop where
 ok:X.Ok
 os:s.os=X.s₀.os
 bare:GK X.s₀.gens s.gens
 base:Un X.fs X.ex X.H₀ H X.s₀.heap s.heap
 loc:∃ m,s.heap.Ns X.env.locals m∧∀ (i:Nat) (x:Str) (v:V),X.N[i]?=some x→σ[i]?=some (some v)→Vis X.env.scope x→∃ u,RelV v u∧Look X.env s.heap m x u
 cell:∀ x c,X.env.cells.lookup x=some c→∃ v,s.heap.IsCell c v
 free:H X.env.locals=none
 freeC:∀ x c,X.env.cells.lookup x=some c→H c=none
 pin:∀ p∈X.pn++pins,s.heap.get? p.1=some p.2∧H p.1=none∧p.1≠X.env.locals∧p.1 ∉ X.fs∧∀ v,p.2.data≠.cell v
 hok:HOk X.prog X.w H s.heap
 len:σ.length=X.N.length
section
variable {X:Cx} {pins:List (Addr × Obj)} {σ:List (Option V)} {H H':Hp} {s:Shared} {h':Heap}
theorem Cx.Ok.nofr (ok:X.Ok) {b:Addr} {o:Obj} (e:X.base.get? b=some o):b ∉ X.fs:=λhb=>by
 have:=(ok.funs.mem hb).1
 rw [e] at this;cases this
theorem Inv.bs (I:Inv X pins σ H s):∀ b o,X.base.get? b=some o→s.heap.get? b=some o∧H b=none:=λb o e =>
 ⟨I.base.keep b o (I.ok.bs b o e).1 (I.ok.bs b o e).2 (I.ok.nofr e) (I.ok.noex b o e),I.base.free b o (I.ok.bs b o e).1 (I.ok.bs b o e).2 (I.ok.noex b o e)⟩
theorem Inv.bk (I:Inv X pins σ H s):∀ b o,X.base.get? b=some o→s.heap.get? b=some o:=λb o e=>(I.bs b o e).1
theorem Inv.mod (I:Inv X pins σ H s):Mod X.K X.mg X.base:=I.ok.mod
theorem Inv.kIn (I:Inv X pins σ H s):X.K.In s.heap:=I.ok.mod.kin.keeps I.bk
theorem Inv.nolimit (I:Inv X pins σ H s):s.heap.NoLimit:=I.ok.mod.nolimit.keeps I.bk
theorem Inv.lt (I:Inv X pins σ H s):X.env.locals<s.heap.objs.size:=let ⟨_,hn,_⟩:=I.loc;hn.lt
theorem Inv.sz (I:Inv X pins σ H s):X.s₀.heap.objs.size≤s.heap.objs.size:=vA I.ok.above (Nat.le_of_lt I.lt)
theorem Inv.nofs (I:Inv X pins σ H s) {a:Addr} (h:s.heap.objs.size≤a):a ∉ X.fs:=λhb=>by
 obtain ⟨_,o,ho,_⟩:=I.ok.funs.mem hb
 exact absurd (wQ (wE ho) (vA I.sz h)) (Nat.lt_irrefl _)
theorem Inv.cne (I:Inv X pins σ H s):∀ x c,X.env.cells.lookup x=some c→c≠X.env.locals:=λx c e z=>by
 obtain ⟨v,o,ho,hd⟩:=I.cell x c e
 obtain ⟨m,⟨o',es,ep,ho',hd',_⟩,_⟩:=I.loc
 rw [z,ho'] at ho;cases ho;rw [hd'] at hd;cases hd
theorem Inv.funs (I:Inv X pins σ H s):s.heap.FunFrames X.base X.outer:=by
 have all:∀ (l:List Env),(∀ b∈frs l,b∈X.fs)→X.s₀.heap.FunFrames X.base l→s.heap.FunFrames X.base l:=by
  intro l
  induction l with
  | nil=>intro _ _;trivial
  | cons env r ih =>
   intro hs hl
   obtain ⟨hk,⟨L,o,hf,hn,ho,hd⟩,hr⟩:=hl
   have hL:L∈X.fs:=hs L (by unfold frs;rw [vM,hf];exact wN)
   obtain ⟨sl,e⟩:=I.base.slot L o ho (I.ok.frf L hL) hL λz=>I.ok.exfs L z hL
   exact ⟨hk,⟨L,_,hf,hn,e,hd⟩,ih (λb hb=>hs b (by unfold frs;rw [vM,hf];exact wM _ hb)) hr⟩
 exact all X.outer (λ_ hb=>hb) I.ok.funs
theorem Inv.stack (I:Inv X pins σ H s):s.heap.FunFrames X.base X.stack:=by
 rcases I.ok.stk with e | ⟨e,hf⟩
 ·rw [e];exact I.funs
 ·rw [e]
  obtain ⟨m,hn,_⟩:=I.loc
  refine .cons (by rw [I.ok.kind];decide) hf hn ?_ I.funs
  exact Heap.get?_none_of_le (vA I.ok.bsz I.ok.above)
theorem Inv.stkSub (I:Inv X pins σ H s):∀ b∈frs X.stack,b∈X.env.locals::X.fs:=λb hb=>by
 rcases I.ok.stk with e | ⟨e,hf⟩
 ·rw [e] at hb;exact wM _ hb
 ·rw [e] at hb
  unfold frs at hb
  rw [vM,hf] at hb
  exact hb
theorem Inv.stkFree (I:Inv X pins σ H s):∀ b∈frs X.stack,H b=none:=λb hb=>by
 rcases wO.mp (I.stkSub b hb) with e | hb
 ·rw [e];exact I.free
 ·obtain ⟨_,o,ho,_⟩:=I.ok.funs.mem hb
  exact I.base.free b o ho (I.ok.frf b hb) λz=>I.ok.exfs b z hb
theorem Inv.step {g':Array GenState} {t':Nat} {d':Drawn} {ch:List Addr} (I:Inv X pins σ H s)
  (hch:∀ b∈ch,(b∈X.ex∨X.s₀.heap.objs.size≤b)∧b≠X.env.locals∧(∀ x c,X.env.cells.lookup x=some c→c≠b)∧∀ p∈X.pn++pins,p.1≠b)
  (keep:∀ b o,b≠X.env.locals→b ∉ X.fs→b ∉ ch→s.heap.get? b=some o→H b=none→h'.get? b=some o)
  (slot:∀ b o,b≠X.env.locals→b∈X.fs→b ∉ ch→s.heap.get? b=some o→H b=none→∃ sl,h'.get? b=some { o with slots:=sl }) (free:∀ b o,b ∉ ch→s.heap.get? b=some o→H b=none→H' b=none)
  (there:∀ b o,b ∉ ch→s.heap.get? b=some o→∃ o',h'.get? b=some o')
  (tups:∀ b xs,H b=some (.tup xs)→H' b=some (.tup xs)) (frzs:∀ b o u,H b=some (.frz o u)→H' b=some (.frz o u)) (tbls:∀ b ps,H b=some (.tbl ps)→∃ more,H' b=some (.tbl (ps++more)))
  (ns:∀ m,s.heap.Ns X.env.locals m→h'.Ns X.env.locals m) (hok:HOk X.prog X.w H' h') (hg:GK s.gens g') :
  Inv X pins σ H' { s with heap:=h',gens:=g',drawn:=d',toks:=t' }:=by
 have neL:∀ b o,X.s₀.heap.get? b=some o→b≠X.env.locals:=λb o e=>wW (wQ (wE e) I.ok.above)
 have neC:∀ b o,X.s₀.heap.get? b=some o→b ∉ X.ex→b ∉ ch:=λb o e hx hb=>by
  rcases (hch b hb).1 with z | z
  ·exact hx z
  ·exact absurd (wQ (wE e) z) (Nat.lt_irrefl _)
 have cellK:∀ x c,X.env.cells.lookup x=some c→∀ v,s.heap.IsCell c v→h'.IsCell c v:=λx c e v ⟨o,ho,hd⟩=>by
  have nch:c ∉ ch:=λz=>(hch c z).2.2.1 x c e rfl
  by_cases hc:c∈X.fs
  ·obtain ⟨sl,q⟩:=slot c o (I.cne x c e) hc nch ho (I.freeC x c e)
   exact ⟨_,q,hd⟩
  ·exact ⟨o,keep c o (I.cne x c e) hc nch ho (I.freeC x c e),hd⟩
 refine ⟨I.ok,I.os,I.bare.trans hg,⟨λb o e n hb hx=>?_,λb o e n hb hx=>?_,λb o e n hx=>?_,λb o e hx=>?_,λb xs e=>tups b xs (I.base.tups b xs e),λb o xs e=>frzs b o xs (I.base.frzs b o xs e),λb ps e=>?_⟩,?_,λx c e=>?_,?_,λx c e=>?_,λp hp=>?_,hok,I.len⟩
 ·exact keep b o (neL b o e) hb (neC b o e hx) (I.base.keep b o e n hb hx) (I.base.free b o e n hx)
 ·obtain ⟨sl,e1⟩:=I.base.slot b o e n hb hx
  obtain ⟨sl',e2⟩:=slot b _ (neL b o e) hb (neC b o e hx) e1 (I.base.free b o e n hx)
  exact ⟨sl',e2⟩
 ·obtain ⟨o',e1⟩:=I.base.there b o e hx
  exact free b o' (neC b o e hx) e1 (I.base.free b o e n hx)
 ·obtain ⟨o',e1⟩:=I.base.there b o e hx
  exact there b o' (neC b o e hx) e1
 ·obtain ⟨m1,e1⟩:=I.base.tbls b ps e
  obtain ⟨m2,e2⟩:=tbls b _ e1
  exact ⟨m1++m2,by rw [e2,Array.append_assoc]⟩
 ·obtain ⟨m,hn,hl⟩:=I.loc
  refine ⟨m,ns m hn,λi x v e1 e2 e3=>?_⟩
  obtain ⟨u,r,l⟩:=hl i x v e1 e2 e3
  refine ⟨u,r,?_⟩
  rcases l with l | ⟨k,c,e,z⟩
  ·exact .inl l
  ·exact .inr ⟨k,c,e,cellK x c e _ z⟩
 ·obtain ⟨v,z⟩:=I.cell x c e
  exact ⟨v,cellK x c e v z⟩
 ·obtain ⟨m,⟨o,_,_,ho,_⟩,_⟩:=I.loc
  exact free _ o (λz=>(hch _ z).2.1 rfl) ho I.free
 ·obtain ⟨v,o,ho,hd⟩:=I.cell x c e
  exact free c o (λz=>(hch c z).2.2.1 x c e rfl) ho (I.freeC x c e)
 ·obtain ⟨e,n,ne,nf,d⟩:=I.pin p hp
  have nch:p.1 ∉ ch:=λz=>(hch p.1 z).2.2.2 p hp rfl
  exact ⟨keep p.1 p.2 ne nf nch e n,free p.1 p.2 nch e n,ne,nf,d⟩
theorem Inv.un {t':Nat} (I:Inv X pins σ H s) (u:Un X.fs [] H H' s.heap h') (hok:HOk X.prog X.w H' h'):Inv X pins σ H' { s with heap:=h',toks:=t' }:=by
 obtain ⟨m,⟨o,es,ep,ho,r⟩,_⟩:=id I.loc
 obtain ⟨sl,hL⟩:=u.any ho I.free (by simp)
 exact I.step (g':=s.gens) (d':=s.drawn) (ch:=[]) (λ_ z=>nomatch z) (λb o _ hb _ e n=>u.keep b o e n hb (by simp)) (λb o _ hb _ e n=>u.slot b o e n hb (by simp)) (λb o _ e n=>u.free b o e n (by simp)) (λb o _ e=>u.there b o e (by simp)) u.tups u.frzs u.tbls (λm' hm=>by
  obtain ⟨o',es',ep',ho',r'⟩:=hm
  rw [ho] at ho';cases ho'
  exact ⟨_,es',ep',hL,r'⟩) hok I.bare.self
theorem Inv.call {g':Array GenState} {t':Nat} {d':Drawn} {ch:List Addr} (I:Inv X pins σ H s) (u:Un (frs X.stack) ch H H' s.heap h') (hok:HOk X.prog X.w H' h') (hg:GK s.gens g')
  (hch:∀ b∈ch,(b∈X.ex∨X.s₀.heap.objs.size≤b)∧b≠X.env.locals∧(∀ x c,X.env.cells.lookup x=some c→c≠b)∧∀ p∈X.pn++pins,p.1≠b) :
  Inv X pins σ H' { s with heap:=h',gens:=g',drawn:=d',toks:=t' }:=by
 obtain ⟨m,⟨o,es,ep,ho,r⟩,_⟩:=id I.loc
 obtain ⟨sl,hL⟩:=u.any ho I.free λz=>(hch _ z).2.1 rfl
 exact I.step (ch:=ch) hch (λb o hL hb hc e n=>u.keep b o e n (λz=>(wO.mp (I.stkSub b z)).elim hL hb) hc) (λb o _ _ hc e n=>u.any e n hc) (λb o hc e n=>u.free b o e n hc) (λb o hc e=>u.there b o e hc) u.tups u.frzs u.tbls (λm' hm=>by
  obtain ⟨o',es',ep',ho',r'⟩:=hm
  rw [ho] at ho';cases ho'
  exact ⟨_,es',ep',hL,r'⟩) hok hg
theorem Inv.turned {t':Nat} {it:Addr} (I:Inv X pins σ H s) (k:∀ b o,b≠it→s.heap.get? b=some o→h'.get? b=some o) (hn:H it=none) (hL:it≠X.env.locals)
  (h1:it∈X.ex∨X.s₀.heap.objs.size≤it) (h2:∀ x c,X.env.cells.lookup x=some c→c≠it) (h3:∀ p∈X.pn++pins,p.1≠it):Inv X pins σ H { s with heap:=h',toks:=t' }:=by
 have nit:∀ b u,H b=some u→b≠it:=λb u e z=>by rw [z,hn] at e;cases e
 refine I.step (g':=s.gens) (d':=s.drawn) (ch:=[it]) (λb hb=>?_) (λb o _ _ hc e _=>k b o (λz=>hc (by simp [z])) e) (λb o _ _ hc e _=>⟨o.slots,k b o (λz=>hc (by simp [z])) e⟩) (λ_ _ _ _ n=>n)
  (λb o hc e=>⟨o,k b o (λz=>hc (by simp [z])) e⟩) (λ_ _ e=>e) (λ_ _ _ e=>e) (λb ps e=>⟨#[],by rw [e];simp⟩) (λm hm=>?_) (λb u e=>?_) I.bare.self
 ·have e:b=it:=by simpa using hb
  subst e
  exact ⟨h1,hL,h2,h3⟩
 ·obtain ⟨o,es,ep,ho,r⟩:=hm
  exact ⟨o,es,ep,k _ o (Ne.symm hL) ho,r⟩
 ·refine (I.hok b u e).stay (λc v hc q=>k c v ?_ q) (λ_ q=>q) λ_ _ q=>q
  rcases hc with z | z
  ·rw [z];exact nit b u e
  ·exact nit c _ z
theorem Inv.tok (I:Inv X pins σ H s) (t:Nat):Inv X pins σ H { s with toks:=t }:=I.un (h':=s.heap) (t':=t) Un.refl I.hok
theorem Inv.kept {t':Nat} (I:Inv X pins σ H s) (k:∀ b u,s.heap.get? b=some u→h'.get? b=some u):Inv X pins σ H { s with heap:=h',toks:=t' }:=I.un (Un.kept k) (I.hok.kept k)
theorem Inv.laid {a:Addr} {o:HO} {t':Nat} (I:Inv X pins σ H s) (k:∀ b u,s.heap.get? b=some u→h'.get? b=some u) (hp:s.heap.objs.size≤a) (new:ObjOk X.prog X.w (upd H a o) h' a o) :
  Inv X pins σ (upd H a o) { s with heap:=h',toks:=t' }:=I.un (Un.laid k hp (I.hok.fresh hp)) (I.hok.laid k hp new)
theorem Inv.write {x e:Addr} {o:HO} {t':Nat} (I:Inv X pins σ H s) (mu:Mut (H x)) (he:e=x∨H e=some (.own x)) (k:∀ b u,b≠e→s.heap.get? b=some u→h'.get? b=some u) (heo:∃ u,h'.get? e=some u)
  (new:ObjOk X.prog X.w (upd H x o) h' x o):Inv X pins σ (upd H x o) { s with heap:=h',toks:=t' }:=I.un (Un.write mu he k heo) (I.hok.write mu he k heo new)
theorem Inv.pins_of {pins':List (Addr × Obj)} (I:Inv X pins σ H s) (h:∀ p∈pins',s.heap.get? p.1=some p.2∧H p.1=none∧p.1≠X.env.locals∧p.1 ∉ X.fs∧∀ v,p.2.data≠.cell v):Inv X pins' σ H s :=
 ⟨I.ok,I.os,I.bare,I.base,I.loc,I.cell,I.free,I.freeC,λp hp=>(vC.mp hp).elim (λz=>I.pin p (List.mem_append_left _ z)) (h p),I.hok,I.len⟩
theorem jD {N:List Str} (hN:N.Nodup) {i j:Nat} {x:Str} (a:N[i]?=some x) (b:N[j]?=some x):i=j:=by
 obtain ⟨h1,e1⟩:=wI.mp a
 obtain ⟨h2,e2⟩:=wI.mp b
 exact (List.getElem_inj hN).mp (e1.trans e2.symm)
theorem qah {M:Model} {A:Around} {E:Value→Shared→Prop} {i:Nat} {x:Str} {v:V} {u:Value} {Q:Unit→Shared→Prop} (I:Inv X pins σ H s) (hN:X.N.Nodup) (hi:X.N[i]?=some x) (hx:Loc X.env.scope x) (r:RelV v u)
  (h:∀ s',Inv X pins (σ.set i (some v)) H s'→(∃ a,Heap.SameBut a s.heap s'.heap∧(a=X.env.locals∨X.env.cells.lookup x=some a))→Q () s') (hf:X.fn x=true∨X.env.scope.names.lookup x=some .local:=by first | exact .inl rfl | exact .inr rfl | assumption):wpAny M A (storeName X.env x u) Q E s:=by
 obtain ⟨m,hn,hl⟩:=id I.loc
 have hcls:(X.env.scope.kind == .class || (X.env.scope.kind == .module&&X.env.locals != X.env.globals))=false:=by rw [I.ok.kind];rfl
 have hiσ:i<σ.length:=by rw [I.len];exact (wI.mp hi).1
 have cne:=I.cne
 have tracked:∀ {a:Addr} {h':Heap},(∃ o,s.heap.get? a=some o∧H a=none)→Heap.SameBut a s.heap h'→HOk X.prog X.w H h':=λ{a h'} ha hs b ob e=>by
  obtain ⟨_,_,hfree⟩:=ha
  refine (I.hok b ob e).stay (λc w' hc q=>(hs.2 c ?_).trans q) (λ_ q=>q) λ_ _ q=>q
  rintro rfl
  rcases hc with rfl | hc
  ·rw [hfree] at e;cases e
  ·rw [hfree] at hc;cases hc
 rcases hx with hk | hk
 ·refine wpAny_storeName_local hk hn (λh' hn' hs=>?_) hcls
  obtain ⟨oL,_,_,hoL,_⟩:=id hn
  refine h _ ⟨I.ok,I.os,I.bare,⟨λb o e n hb hx=>?_,λb o e n hb hx=>?_,I.base.free,λb o e hx=>?_,I.base.tups,I.base.frzs,I.base.tbls⟩,⟨_,hn',λj y v' e1 e2 e3=>?_⟩,λy c e=>?_,I.free,I.freeC,λp hp=>?_,tracked ⟨oL,hoL,I.free⟩ hs,by simpa using I.len⟩ ⟨_,hs,.inl rfl⟩
  ·exact (hs.2 b (wW (wQ (wE e) I.ok.above))).trans (I.base.keep b o e n hb hx)
  ·obtain ⟨sl,e1⟩:=I.base.slot b o e n hb hx
   exact ⟨sl,(hs.2 b (wW (wQ (wE e) I.ok.above))).trans e1⟩
  ·obtain ⟨o',e1⟩:=I.base.there b o e hx
   exact ⟨o',(hs.2 b (wW (wQ (wE e) I.ok.above))).trans e1⟩
  ·by_cases hj:j=i
   ·subst hj
    rw [hi] at e1;cases e1
    rw [vH hiσ] at e2
    cases e2
    exact ⟨u,r,.inl ⟨hk,by simp⟩⟩
   ·rw [List.getElem?_set_ne (Ne.symm hj)] at e2
    obtain ⟨u',r',q⟩:=hl j y v' e1 e2 e3
    refine ⟨u',r',?_⟩
    rcases q with ⟨k,e⟩ | ⟨k,c,e,z⟩
    ·refine .inl ⟨k,?_⟩
     have:y≠x:=λe=>hj (jD hN e1 (e ▸ hi))
     simp [this,e]
    ·exact .inr ⟨k,c,e,z.sameBut hs (cne y c e)⟩
  ·obtain ⟨w',z⟩:=I.cell y c e
   exact ⟨w',z.sameBut hs (cne y c e)⟩
  ·obtain ⟨e,n,ne,nf,d⟩:=I.pin p hp
   exact ⟨(hs.2 p.1 ne).trans e,n,ne,nf,d⟩
 ·have hfn:X.fn x=true:=by
   rcases hf with z | z
   ·exact z
   ·rw [z] at hk;cases hk
  obtain ⟨c,hc⟩:=I.ok.has x (.inl hk)
  obtain ⟨w',z⟩:=I.cell x c hc
  refine wpAny_storeName_cell I.ok.kind hk hc z (λh' hc' hs=>?_)
  obtain ⟨oc,hoc,hocd⟩:=id z
  refine h { s with heap:=h' } ⟨I.ok,I.os,I.bare,⟨λb o e n hb hx=>?_,λb o e n hb hx=>?_,I.base.free,λb o e hx=>?_,I.base.tups,I.base.frzs,I.base.tbls⟩,⟨m,hn.sameBut hs (Ne.symm (cne x c hc)),λj y v' e1 e2 e3=>?_⟩,λy c' e=>?_,I.free,I.freeC,λp hp=>?_,tracked ⟨oc,hoc,I.freeC x c hc⟩ hs,by simpa using I.len⟩ ⟨c,hs,.inr hc⟩
  ·exact (hs.2 b (wW (wQ (wE e) (I.ok.cab x c hfn hc)))).trans (I.base.keep b o e n hb hx)
  ·obtain ⟨sl,e1⟩:=I.base.slot b o e n hb hx
   exact ⟨sl,(hs.2 b (wW (wQ (wE e) (I.ok.cab x c hfn hc)))).trans e1⟩
  ·obtain ⟨o',e1⟩:=I.base.there b o e hx
   exact ⟨o',(hs.2 b (wW (wQ (wE e) (I.ok.cab x c hfn hc)))).trans e1⟩
  ·by_cases hj:j=i
   ·subst hj
    rw [hi] at e1;cases e1
    rw [vH hiσ] at e2
    cases e2
    exact ⟨u,r,.inr ⟨.inl hk,c,hc,hc'⟩⟩
   ·rw [List.getElem?_set_ne (Ne.symm hj)] at e2
    obtain ⟨u',r',q⟩:=hl j y v' e1 e2 e3
    refine ⟨u',r',?_⟩
    rcases q with q | ⟨k,c',e,z'⟩
    ·exact .inl q
    ·refine .inr ⟨k,c',e,z'.sameBut hs ?_⟩
     rintro rfl
     exact hj (jD hN e1 (I.ok.inj _ _ _ e hc ▸ hi))
  ·by_cases hcc:c'=c
   ·subst hcc;exact ⟨_,hc'⟩
   ·obtain ⟨w2,z2⟩:=I.cell y c' e
    exact ⟨w2,z2.sameBut hs hcc⟩
  ·obtain ⟨e,n,ne,nf,d⟩:=I.pin p hp
   refine ⟨(hs.2 p.1 ?_).trans e,n,ne,nf,d⟩
   intro q
   rw [q,hoc] at e
   have q':oc=p.2:=Option.some.inj e
   exact d w' (by rw [← q'];exact hocd)
theorem yh {M:Model} {A:Around} {E:Value→Shared→Prop} {i:Nat} {x:Str} {v:V} {u:Value} {Q:Unit→Shared→Prop} (I:Inv X pins σ H s) (hN:X.N.Nodup) (hi:X.N[i]?=some x) (hx:Loc X.env.scope x) (r:RelV v u)
  (h:∀ s',Inv X pins (σ.set i (some v)) H s'→Q () s') (hf:X.fn x=true∨X.env.scope.names.lookup x=some .local:=by first | exact .inl rfl | exact .inr rfl | assumption):wpAny M A (storeName X.env x u) Q E s :=
 qah I hN hi hx r (λs' I' _=>h s' I') hf
theorem Inv.call' {s':Shared} {ch:List Addr} (I:Inv X pins σ H s) (ho:s'.os=s.os) (u:Un (frs X.stack) ch H H' s.heap s'.heap) (hok:HOk X.prog X.w H' s'.heap) (hg:GK s.gens s'.gens)
  (hch:∀ b∈ch,(b∈X.ex∨X.s₀.heap.objs.size≤b)∧b≠X.env.locals∧(∀ x c,X.env.cells.lookup x=some c→c≠b)∧∀ p∈X.pn++pins,p.1≠b):Inv X pins σ H' s':=by
 obtain ⟨h',g',d',t',o'⟩:=s'
 have e:o'=s.os:=ho
 subst e
 exact I.call (g':=g') (t':=t') (d':=d') u hok hg hch
end
noncomputable abbrev XK:=Value→Option Addr→Hp→Prop
noncomputable abbrev St:=List (Option V)
noncomputable abbrev VK:=V→Hp→Prop
noncomputable abbrev TE:=St→Hp→VK→Prop
noncomputable abbrev TT:=St→Hp→(Bool→Hp→Prop)→Prop
noncomputable abbrev TA:=St→Hp→(List V→Hp→Prop)→Prop
structure Ends where
 nx:St→Hp→Prop
 rt:VK
 bk:St→Hp→Prop:=λ_ _=>False
 ct:St→Hp→Prop:=λ_ _=>False
noncomputable abbrev TS:=Ends→St→Hp→Prop
noncomputable def EP (X:Cx) (pins:List (Addr × Obj)) (σ:St) (Q:VK) (u:Value) (s':Shared):Prop:=∃ v H',Inv X pins σ H' s'∧RelV v u∧Q v H'
noncomputable def TP (X:Cx) (pins:List (Addr × Obj)) (σ:St) (Q:Bool→Hp→Prop) (b:Bool) (s':Shared):Prop:=∃ H',Inv X pins σ H' s'∧Q b H'
noncomputable def AP (X:Cx) (pins:List (Addr × Obj)) (σ:St) (Q:List V→Hp→Prop) (us:List Value) (s':Shared):Prop:=∃ vs H',Inv X pins σ H' s'∧Vals vs us∧Q vs H'
noncomputable def SP (X:Cx) (pins:List (Addr × Obj)) (D:Ends) (f:Flow) (s':Shared):Prop :=
 match f with
 | .next=>∃ σ' H',Inv X pins σ' H' s'∧D.nx σ' H'
 | .brk=>∃ σ' H',Inv X pins σ' H' s'∧D.bk σ' H'
 | .cont=>∃ σ' H',Inv X pins σ' H' s'∧D.ct σ' H'
 | .ret u=>∃ v σ' H',Inv X pins σ' H' s'∧RelV v u∧D.rt v H'
noncomputable def PE (X:Cx) (e:Expr) (t:TE):Prop :=
 ∀ (pins:List (Addr × Obj)) (s:Shared) (σ:St) (H:Hp) (Q:VK),Inv X pins σ H s→t σ H Q→wpAny (model X.prog X.w) X.A (eval e X.env) (EP X pins σ Q) X.xe s
noncomputable def PT (X:Cx) (e:Expr) (t:TT):Prop :=
 ∀ (pins:List (Addr × Obj)) (s:Shared) (σ:St) (H:Hp) (Q:Bool→Hp→Prop),Inv X pins σ H s→t σ H Q→wpAny (model X.prog X.w) X.A (isTrue e X.env (eval e X.env)) (TP X pins σ Q) X.xe s
noncomputable def PW (X:Cx) (e:Expr) (t:TT):Prop :=
 ∀ (whole:Sem Value) (pins:List (Addr × Obj)) (s:Shared) (σ:St) (H:Hp) (Q:Bool→Hp→Prop),Inv X pins σ H s→t σ H Q→wpAny (model X.prog X.w) X.A (isTrue e X.env whole) (TP X pins σ Q) X.xe s
theorem PW.pt {X:Cx} {e:Expr} {t:TT} (h:PW X e t):PT X e t:=h _
noncomputable def PA (X:Cx) (es:List Expr) (t:TA):Prop :=
 ∀ (pos:Pos) (pins:List (Addr × Obj)) (s:Shared) (σ:St) (H:Hp) (Q:List V→Hp→Prop),Inv X pins σ H s→t σ H Q→wpAny (model X.prog X.w) X.A (spliced (backTo pos (starEach es X.env))) (AP X pins σ Q) X.xe s
noncomputable def PS (X:Cx) (st:Stmt) (t:TS):Prop :=
 ∀ (pins:List (Addr × Obj)) (s:Shared) (σ:St) (H:Hp) (D:Ends),Inv X pins σ H s→t D σ H→wpAny (model X.prog X.w) X.A (exec st X.env) (SP X pins D) X.xe s
noncomputable def PSs (X:Cx) (st:List Stmt) (t:TS):Prop :=
 ∀ (pins:List (Addr × Obj)) (s:Shared) (σ:St) (H:Hp) (D:Ends),Inv X pins σ H s→t D σ H→wpAny (model X.prog X.w) X.A (execs st X.env) (SP X pins D) X.xe s
theorem thn {α:Type} {t:Sem α} {Q Q':α→Shared→Prop} {M:Model} {A:Around} {E:Value→Shared→Prop} {s:Shared} (h:wpAny M A t Q E s) (hQ:∀ a s,Q a s→Q' a s):wpAny M A t Q' E s:=wg h hQ λ_ _ x=>x
end L2
namespace L2
open PySem PySem.Spec PyProof.Rows
section
variable {X:Cx}
theorem bin {a b:Expr} {ta tb:TE} (ha:PE X a ta) (hb:PE X b tb) {pins:List (Addr × Obj)} {s:Shared} {σ:St} {H:Hp} {R:V→V→Hp→Prop} (I:Inv X pins σ H s) (h:ta σ H λx H1=>tb σ H1 λy H2=>R x y H2)
  {α:Type} {Q:α→Shared→Prop} {f:Value→Value→Sem α}
  (hf:∀ v u s2 x y H2,Inv X pins σ H2 s2→RelV x v→RelV y u→R x y H2→wpAny (model X.prog X.w) X.A (f v u) Q X.xe s2) :
  wpAny (model X.prog X.w) X.A (eval a X.env) (λv s₁=>wpAny (model X.prog X.w) X.A (eval b X.env) (λu s₂=>wpAny (model X.prog X.w) X.A (f v u) Q X.xe s₂) X.xe s₁) X.xe s:=by
 refine thn (ha pins s σ H _ I h) λv s1 ⟨x,H1,I1,r1,q1⟩=>?_
 refine thn (hb pins s1 σ H1 _ I1 q1) λu s2 ⟨y,H2,I2,r2,q2⟩=>?_
 exact hf v u s2 x y H2 I2 r1 r2 q2
noncomputable def tVar (i:Nat):TE:=λσ H Q=>∃ v,σ[i]?=some (some v)∧Q v H
noncomputable def tC (v:V):TE:=λ_ H Q=>Q v H
theorem qhM {i:Nat} {x:Str} {pos:Pos} (hN:X.N[i]?=some x) (hv:Vis X.env.scope x) (hd:(x == ("__debug__":Str))=false:=by decide) (hcd:(x == ("__classdict__":Str))=false:=by decide):PE X (.Name x pos) (tVar i):=by
 intro pins s σ H Q I h
 obtain ⟨v,e,h⟩:=h
 obtain ⟨m,hn,hl⟩:=I.loc
 obtain ⟨u,r,l⟩:=hl i x v hN e hv
 have fin:EP X pins σ Q u s:=⟨v,H,I,r,h⟩
 rcases l with ⟨hk,hm⟩ | ⟨hk,c,hc,hcell⟩
 ·exact wpAny_Name (wpAny_loadName_local I.ok.kind hk hn hm fin) hd
 ·rcases hk with hk | hk
  ·exact wpAny_Name (wpAny_loadName_cell I.ok.kind hk hc hcell fin) hd
  ·exact wpAny_Name (wpAny_loadName_free I.ok.kind hk hc hcell fin hcd) hd
theorem qd9 {i j pos}:PE X (.Constant (.int i) j pos) (tC (.int i)):=λ_ _ _ H _ I h=>wpAny_Constant_int ⟨.int i,H,I.tok _,⟨_,rfl⟩,h⟩
theorem qhm {b j pos}:PE X (.Constant (.bool b) j pos) (tC (.bl b)):=λ_ _ _ H _ I h=>Constant_bool ⟨.bl b,H,I,rfl,h⟩
theorem qhN {j pos}:PE X (.Constant .none j pos) (tC .non):=λ_ _ _ H _ I h=>Constant_none ⟨.non,H,I,rfl,h⟩
theorem qhO {x j pos}:PE X (.Constant (.str x) j pos) (tC (.str x)):=λ_ _ _ H _ I h=>Calls.Constant_str ⟨.str x,H,I.tok _,⟨_,rfl⟩,h⟩
noncomputable def Gl (X:Cx) (x:Str):Prop:=X.env.kindOf x=some .globalImplicit
theorem yP {E:Value→Shared→Prop} {pins:List (Addr × Obj)} {s:Shared} {σ:St} {H:Hp} {x:Str} {u:Value} {pos:Pos} {Q:Value→Shared→Prop} (I:Inv X pins σ H s) (hg:Gl X x) (hm:X.mg x=some u) (h:Q u s)
  (hd:(x == ("__debug__":Str))=false:=by decide):wpAny (model X.prog X.w) X.A (eval (.Name x pos) X.env) Q E s :=
 Calls.Name_function_global I.ok.kind hg (Calls.loadGlobal_global (by rw [I.ok.glob];exact I.mod.glob.keeps I.bk) hm h) hd
theorem yH {E:Value→Shared→Prop} {pins:List (Addr × Obj)} {s:Shared} {σ:St} {H:Hp} {x:Str} {u:Value} {pos:Pos} {Q:Value→Shared→Prop} (I:Inv X pins σ H s) (hg:Gl X x) (hm:X.mg x=none) (hv:bootBuiltins x=some u) (h:Q u s)
  (hn:x≠"__name__":=by decide) (hd:(x == ("__debug__":Str))=false:=by decide):wpAny (model X.prog X.w) X.A (eval (.Name x pos) X.env) Q E s:=by
 obtain ⟨mb,h1,h2⟩:=I.mod.blt
 exact Calls.Name_function_global I.ok.kind hg (Calls.loadGlobal_builtin (by rw [I.ok.glob];exact I.mod.glob.keeps I.bk) hm (by rw [I.ok.blt];exact h1.keeps I.bk) ((h2 x hn).trans hv) h) hd
theorem qcy {x:Str} {v:V} {u:Value} {pos:Pos} (hg:Gl X x) (hm:X.mg x=some u) (r:RelV v u) (hd:(x == ("__debug__":Str))=false:=by decide):PE X (.Name x pos) (tC v) :=
 λ_ _ _ H _ I h=>yP I hg hm ⟨v,H,I,r,h⟩ hd
theorem qcz {x:Str} {v:V} {u:Value} {pos:Pos} (hg:Gl X x) (hm:X.mg x=none) (hv:bootBuiltins x=some u) (r:RelV v u) (hn:x≠"__name__":=by decide) (hd:(x == ("__debug__":Str))=false:=by decide):PE X (.Name x pos) (tC v) :=
 λ_ _ _ H _ I h=>yH I hg hm hv ⟨v,H,I,r,h⟩ hn hd
variable {a b:Expr} {ta tb:TE} {pos:Pos}
variable {tA tB':TT} {rest:List Expr}
noncomputable def tOr (t u:TT):TT:=λσ H Q=>t σ H λc H1=>if c=true then Q true H1 else u σ H1 Q
noncomputable def tNot (t:TT):TT:=λσ H Q=>t σ H λc H1=>Q (!c) H1
theorem qhP (ha:PT X a tA):PW X (.BoolOp .Or [a] pos) tA:=by
 intro wh pins s σ H Q I h
 refine isTrue_or (thn (ha pins s σ H Q I h) λc s1 e=>?_)
 cases c with
 | false=>exact isTrue_or_nil e
 | true=>exact e
theorem qjm (ha:PT X a tA) (hb:PW X (.BoolOp .Or (b::rest) pos) tB'):PW X (.BoolOp .Or (a::b::rest) pos) (tOr tA tB'):=by
 intro wh pins s σ H Q I h
 refine isTrue_or (thn (ha pins s σ H _ I h) λc s1 ⟨H1,I1,q1⟩=>?_)
 cases c with
 | true=>exact ⟨H1,I1,q1⟩
 | false=>exact hb wh pins s1 σ H1 Q I1 q1
theorem qea (ha:PT X a tA):PT X (.UnaryOp .Not a pos) (tNot tA):=by
 intro pins s σ H Q I h
 exact isTrue_not (ha pins s σ H (λc H1=>Q (!c) H1) I h)
noncomputable def tAndV (ta tb:TE):TE:=λσ H Q=>ta σ H λx H1=>∃ c,x=.bl c∧if c=true then tb σ H1 Q else Q (.bl false) H1
noncomputable def tNotV (ta:TE):TE:=λσ H Q=>ta σ H λx H1=>∃ c,x=.bl c∧Q (.bl (!c)) H1
theorem qhQ {op} {t:TE} (h:PE X a t):PE X (.BoolOp op [a] pos) t:=λpins s σ H Q I hw=>BoolOp_one (h pins s σ H Q I hw)
theorem qhR (ha:PE X a ta) (hb:PE X (.BoolOp .And (b::rest) pos) tb):PE X (.BoolOp .And (a::b::rest) pos) (tAndV ta tb):=by
 intro pins s σ H Q I h
 refine BoolOp_and (thn (ha pins s σ H _ I h) λv s1 ⟨x,H1,I1,r1,q1⟩=>?_)
 obtain ⟨c,rfl,q1⟩:=q1
 cases r1
 refine vI ?_
 cases c with
 | true=>exact hb pins s1 σ H1 Q I1 q1
 | false=>exact ⟨.bl false,H1,I1,rfl,q1⟩
theorem qhS (ha:PE X a ta):PE X (.UnaryOp .Not a pos) (tNotV ta):=by
 intro pins s σ H Q I h
 refine UnaryOp_ (thn (ha pins s σ H _ I h) λv s1 ⟨x,H1,I1,r1,q1⟩=>?_)
 obtain ⟨c,rfl,q1⟩:=q1
 cases r1
 exact not_of (vI ⟨.bl (!c),H1,I1,rfl,q1⟩)
end
end L2
namespace L2
open PySem PySem.Spec PyProof.Rows
noncomputable def SqL (K:PySem.W.Frag) (H:Hp) (a:Addr) (xs:List V):Prop :=
 Rd H a (.lst xs) ∨
  ∃ (o:Obj) (its:Array Value) (n:Nat),K.lookup a=some o∧o.cls=.type "list"∧o.dict=none∧o.data=.seq its n∧its.size≤sizeLine∧Vals xs its.toList
noncomputable def SqT (K:PySem.W.Frag) (H:Hp) (a:Addr) (xs:List V):Prop :=
 Rd H a (.tup xs) ∨
  ∃ (o:Obj) (its:Array Value) (n:Nat),K.lookup a=some o∧o.cls=.type "tuple"∧o.data=.seq its n∧its.size≤sizeLine∧Vals xs its.toList
noncomputable def absV:Value→Option V
 | .none=>some .non
 | .bool b=>some (.bl b)
 | .int i _=>some (.int i)
 | .str x _=>some (.str x)
 | .bytes b _=>some (.byt b)
 | .float b _=>some (.flt b)
 | .ref a=>some (.ref a)
 | .type n=>some (.ty n)
 | _=>none
theorem RelV.abs {x:V} {u:Value} (r:RelV x u):absV u=some x:=by
 cases x with
 | non=>cases r;rfl
 | bl _=>cases r;rfl
 | int _=>obtain ⟨t,rfl⟩:=r;rfl
 | str _=>obtain ⟨t,rfl⟩:=r;rfl
 | byt _=>obtain ⟨t,rfl⟩:=r;rfl
 | flt _=>obtain ⟨t,rfl⟩:=r;rfl
 | ref _=>cases r;rfl
 | ty _=>cases r;rfl
theorem RelV.inj {x y:V} {u:Value} (r:RelV x u) (q:RelV y u):x=y:=Option.some.inj (r.abs.symm.trans q.abs)
theorem Vals.inj:∀ {xs ys:List V} {us:List Value},Vals xs us→Vals ys us→xs=ys
 | _,_,_,.nil,.nil=>rfl
 | _,_,_,.cons r t,.cons r' t'=>by rw [r.inj r',Vals.inj t t']
section
variable {X:Cx} {pins:List (Addr × Obj)} {σ:St} {H:Hp} {s:Shared} {a:Addr} {xs ys:List V}
theorem Inv.list (I:Inv X pins σ H s) (h:SqL X.K H a xs):∃ its:List Value,Vals xs its∧PlainL s.heap a its.toArray∧xs.length≤sizeLine:=by
 rcases h with h | ⟨o,its,n,hk,hc,hd,hs,hz,r⟩
 ·obtain ⟨z,its,n,r,e⟩:=h.ok I.hok
  exact ⟨its,r,⟨_,n,e,rfl,rfl,rfl⟩,z⟩
 ·refine ⟨its.toList,r,⟨o,n,I.kIn a o hk,hc,hd,by simpa using hs⟩,?_⟩
  have e:=r.length
  simp only [Array.length_toList] at e
  lia
theorem Inv.tuple (I:Inv X pins σ H s) (h:SqT X.K H a xs):∃ its:List Value,Vals xs its∧IsTup s.heap a its.toArray∧xs.length≤sizeLine:=by
 rcases h with h | ⟨o,its,n,hk,hc,hs,hz,r⟩
 ·obtain ⟨z,its,r,p,_⟩:=h.ok I.hok
  exact ⟨its,r,p,z⟩
 ·refine ⟨its.toList,r,⟨o,I.kIn a o hk,hc,n,by simpa using hs⟩,?_⟩
  have e:=r.length
  simp only [Array.length_toList] at e
  lia
theorem Inv.list_inj (I:Inv X pins σ H s) (h:SqL X.K H a xs) (h':SqL X.K H a ys):xs=ys:=by
 obtain ⟨its,r,⟨o,n,e,_,_,d⟩,_⟩:=I.list h
 obtain ⟨its',r',⟨o',n',e',_,_,d'⟩,_⟩:=I.list h'
 rw [e] at e';cases e'
 rw [d] at d'
 injection d' with d1 _
 have:its=its':=by simpa using congrArg Array.toList d1
 subst this
 exact r.inj r'
theorem Inv.tuple_inj (I:Inv X pins σ H s) (h:SqT X.K H a xs) (h':SqT X.K H a ys):xs=ys:=by
 obtain ⟨its,r,⟨o,e,_,n,d⟩,_⟩:=I.tuple h
 obtain ⟨its',r',⟨o',e',_,n',d'⟩,_⟩:=I.tuple h'
 rw [e] at e';cases e'
 rw [d] at d'
 injection d' with d1 _
 have:its=its':=by simpa using congrArg Array.toList d1
 subst this
 exact r.inj r'
end
noncomputable abbrev Cx.wish (X:Cx) (E:Value→Shared→Prop):Cx:={ X with xe:=E }
noncomputable abbrev Cx.nox (X:Cx):Cx:=X.wish λ_ _=>False
theorem Cx.Ok.wish {X:Cx} (ok:X.Ok) (E:Value→Shared→Prop):(X.wish E).Ok :=
 ⟨ok.mod,ok.kind,ok.glob,ok.blt,ok.above,ok.inj,ok.has,ok.cab,ok.hd,ok.frames,ok.stk,ok.exf,ok.bs,ok.bsz,ok.noex,ok.exfs,ok.funs,ok.frf,ok.tab⟩
theorem Cx.Ok.unwish {X:Cx} {E:Value→Shared→Prop} (ok:(X.wish E).Ok):X.Ok :=
 ⟨ok.mod,ok.kind,ok.glob,ok.blt,ok.above,ok.inj,ok.has,ok.cab,ok.hd,ok.frames,ok.stk,ok.exf,ok.bs,ok.bsz,ok.noex,ok.exfs,ok.funs,ok.frf,ok.tab⟩
section
variable {X:Cx} {pins:List (Addr × Obj)} {σ:St} {H:Hp} {s:Shared} {E:Value→Shared→Prop}
theorem Inv.wish (I:Inv X pins σ H s) (E:Value→Shared→Prop):Inv (X.wish E) pins σ H s:=⟨I.ok.wish E,I.os,I.bare,I.base,I.loc,I.cell,I.free,I.freeC,I.pin,I.hok,I.len⟩
theorem Inv.unwish (I:Inv (X.wish E) pins σ H s):Inv X pins σ H s:=⟨I.ok.unwish,I.os,I.bare,I.base,I.loc,I.cell,I.free,I.freeC,I.pin,I.hok,I.len⟩
theorem SP.unwish {D:Ends} {f:Flow} {s':Shared} (h:SP (X.wish E) pins D f s'):SP X pins D f s':=by
 cases f with
 | next=>obtain ⟨σ',H',I,q⟩:=h;exact ⟨σ',H',I.unwish,q⟩
 | brk=>obtain ⟨σ',H',I,q⟩:=h;exact ⟨σ',H',I.unwish,q⟩
 | cont=>obtain ⟨σ',H',I,q⟩:=h;exact ⟨σ',H',I.unwish,q⟩
 | ret u=>obtain ⟨v,σ',H',I,r,q⟩:=h;exact ⟨v,σ',H',I.unwish,r,q⟩
theorem PT.nox {e:Expr} {t:TT} (h:PT X.nox e t):PT X e t:=λpins s σ H Q I hw =>
 wg (h pins s σ H Q (I.wish _) hw) (λ_ _ ⟨H',I',q⟩=>⟨H',I'.unwish,q⟩) λ_ _ z=>False.elim z
theorem PSs.nox {st:List Stmt} {t:TS} (h:PSs X.nox st t):PSs X st t:=λpins s σ H D I hw =>
 wg (h pins s σ H D (I.wish _) hw) (λ_ _ q=>q.unwish) λ_ _ z=>False.elim z
end
section
variable {X:Cx} {st:Stmt} {rest:List Stmt} {t u:TS} {e:Expr} {te:TE} {pos:Pos}
noncomputable def tNext:TS:=λD σ H=>D.nx σ H
noncomputable def tSeq (t u:TS):TS:=λD σ H=>t { D with nx:=u D } σ H
theorem qcA:PSs X [] tNext:=λ_ _ σ H _ I h=>wpAny_execs_nil ⟨σ,H,I,h⟩
theorem qbe (h1:PS X st t) (h2:PSs X rest u):PSs X (st::rest) (tSeq t u):=by
 intro pins s σ H D I h
 refine wpAny_execs_cons (thn (h1 pins s σ H { D with nx:=u D } I h) λf s1 q=>?_)
 cases f with
 | next =>
  obtain ⟨σ',H',I',q⟩:=q
  exact h2 pins s1 σ' H' D I' q
 | ret v=>exact q
 | brk=>exact q
 | cont=>exact q
theorem Inv.quiet {pins:List (Addr × Obj)} {σ:St} {H:Hp} {s:Shared} (I:Inv X pins σ H s):interactive X.env=false:=by simp [interactive,I.ok.kind]
noncomputable def tDrop (te:TE):TS:=λD σ H=>te σ H λ_ H1=>D.nx σ H1
theorem qcB (he:PE X e te) (hs:swapsWith e none pos.line X.env=pure false:=by rfl):PS X (.Expr e pos) (tDrop te):=by
 intro pins s σ H D I h
 exact wpAny_Expr_any (thn (he pins s σ H _ I h) λv s1 ⟨x,H1,I1,r1,q1⟩=>⟨σ,H1,I1,q1⟩) I.quiet hs
noncomputable def tRet (te:TE):TS:=λD σ H=>te σ H D.rt
theorem qeb (he:PE X e te):PS X (.Return (some e) pos) (tRet te):=by
 intro pins s σ H D I h
 exact wpAny_Return_some (thn (he pins s σ H _ I h) λv s1 ⟨x,H1,I1,r1,q1⟩=>⟨x,σ,H1,I1,r1,q1⟩)
noncomputable def tIfS (c:TT) (t u:TS):TS:=λD σ H=>c σ H λb H1=>if b=true then t D σ H1 else u D σ H1
theorem qhn {c:Expr} {a b:List Stmt} {tc:TT} (hc:PT X c tc) (ha:PSs X a t) (hb:PSs X b u):PS X (.If c a b pos) (tIfS tc t u):=by
 intro pins s σ H D I h
 refine wpAny_If (thn (hc pins s σ H _ I h) λd s1 ⟨H1,I1,q1⟩=>?_)
 cases d with
 | true=>exact ha pins s1 σ H1 D I1 q1
 | false=>exact hb pins s1 σ H1 D I1 q1
noncomputable def tNever:TS:=λ_ _ _=>False
theorem qec:PS X st tNever:=λ_ _ _ _ _ _ h=>h.elim
end
noncomputable abbrev TG:=V→St→Hp→(St→Hp→Prop)→Prop
noncomputable abbrev TGs:=List V→St→Hp→(St→Hp→Prop)→Prop
noncomputable def PG (X:Cx) (target:Expr) (t:TG):Prop :=
 ∀ (pins:List (Addr × Obj)) (s:Shared) (σ:St) (H:Hp) (v:V) (u:Value) (Q:St→Hp→Prop),Inv X pins σ H s→RelV v u→t v σ H Q →
  wpAny (model X.prog X.w) X.A (assign target X.env u) (λ_ s'=>∃ σ' H',Inv X pins σ' H' s'∧Q σ' H') X.xe s
noncomputable def PGs (X:Cx) (ts:List Expr) (t:TGs):Prop :=
 ∀ (pins:List (Addr × Obj)) (s:Shared) (σ:St) (H:Hp) (vs:List V) (us:List Value) (Q:St→Hp→Prop),Inv X pins σ H s→Vals vs us→t vs σ H Q →
  wpAny (model X.prog X.w) X.A (assignInOrder ((assignEach ts X.env).map (·.2)) us) (λ_ s'=>∃ σ' H',Inv X pins σ' H' s'∧Q σ' H') X.xe s
noncomputable abbrev TSet:=V→V→V→Hp→(Hp→Prop)→Prop
noncomputable def PSet (X:Cx) (t:TSet):Prop :=
 ∀ (pins:List (Addr × Obj)) (s:Shared) (σ:St) (H:Hp) (o i v:V) (ov iv u:Value) (Q:Hp→Prop),Inv X pins σ H s→RelV o ov→RelV i iv→RelV v u→t o i v H Q →
  wpAny (model X.prog X.w) X.A (setItem ov iv u) (λ_ s'=>∃ H',Inv X pins σ H' s'∧Q H') X.xe s
section
variable {X:Cx} {pos:Pos}
noncomputable def gName (i:Nat):TG:=λv σ H Q=>Q (σ.set i (some v)) H
theorem qf9 {i:Nat} {x:Str} (hN:X.N.Nodup) (hi:X.N[i]?=some x) (hx:Loc X.env.scope x) (hf:X.fn x=true∨X.env.scope.names.lookup x=some .local:=by first | exact .inl rfl | exact .inr rfl | assumption):PG X (.Name x pos) (gName i):=by
 intro pins s σ H v u Q I r h
 exact wpAny_assign_Name (yh I hN hi hx r (λs' I'=>⟨_,H,I',h⟩) hf)
noncomputable def gNil:TGs:=λvs σ H Q=>vs=[]∧Q σ H
noncomputable def gCons (t:TG) (u:TGs):TGs:=λvs σ H Q=>∃ v r,vs=v::r∧t v σ H λσ' H'=>u r σ' H' Q
theorem qga:PGs X [] gNil:=by
 intro pins s σ H vs us Q I r h
 obtain ⟨e,h⟩:=h
 subst e
 cases r
 exact assignInOrder_nil ⟨σ,H,I,h⟩
theorem qed {e:Expr} {es:List Expr} {t:TG} {u:TGs} (h1:PG X e t) (h2:PGs X es u)
  (hs:(assignEach (e::es) X.env).map (·.2)=assign e X.env::(assignEach es X.env).map (·.2):=by rfl):PGs X (e::es) (gCons t u):=by
 intro pins s σ H vs us Q I r h
 obtain ⟨v,vr,e1,h⟩:=h
 subst e1
 cases r with
 | cons r rr =>
  rw [hs]
  refine assignInOrder_cons (thn (h1 pins s σ H _ _ _ I r h) λ_ s1 ⟨σ1,H1,I1,q1⟩=>?_)
  exact h2 pins s1 σ1 H1 _ _ Q I1 rr q1
noncomputable def gTup (K:PySem.W.Frag) (n:Nat) (t:TGs):TG:=λv σ H Q=>∃ a xs,v=.ref a∧SqT K H a xs∧xs.length=n∧t xs σ H Q
theorem qhT {es:List Expr} {k:Nat} {t:TGs} {n:Nat} (hc:X.calm=true) (h:PGs X es t)
  (hn:(assignEach es X.env).length=n:=by rfl) (hst:(assignEach es X.env).findIdx? (·.1)=none:=by rfl):PG X (.Tuple es k pos) (gTup X.K n t):=by
 intro pins s σ H v u Q I r hw
 obtain ⟨a,xs,e1,hq,hl,hw⟩:=hw
 subst e1
 cases r
 obtain ⟨its,rv,ht,hz⟩:=I.tuple hq
 refine assign_Tuple_tuple (I.ok.hd hc) ht (by simp [hn,← hl,rv.length]) hst λh' hx=>?_
 have I1:Inv X pins σ H { s with heap:=h' }:=I.kept (t':=s.toks) λb o e=>hx b o (wW (wE e)) e
 exact h pins _ σ H xs _ Q I1 (by simpa using rv) hw
noncomputable def gSub (to ti:TE) (t:TSet):TG:=λv σ H Q=>to σ H λo H1=>ti σ H1 λi H2=>t o i v H2 λH3=>Q σ H3
theorem qhU {o i:Expr} {to ti:TE} {t:TSet} (ho:PE X o to) (hi:PE X i ti) (hs:PSet X t)
  (ha:∀ v,assign (.Subscript o i pos) X.env v=(do
   let ov ← holding [v] (eval o X.env)
   let iv ← holding [v,ov] (eval i X.env)
   standAt pos
   holding [v,ov,iv] (setItem ov iv v)
   release [v,ov,iv] []):=by intro _;rfl):PG X (.Subscript o i pos) (gSub to ti t):=by
 intro pins s σ H v u Q I r h
 rw [ha]
 refine wA (wp (thn (ho pins s σ H _ I h) λov s1 ⟨x,H1,I1,r1,q1⟩=>?_))
 refine wA (wp (thn (hi pins s1 σ H1 _ I1 q1) λiv s2 ⟨y,H2,I2,r2,q2⟩=>?_))
 refine wA (wpAny_standAt (wA (wp (thn (hs pins s2 σ H2 x y v ov iv u _ I2 r1 r2 r q2) λ_ s3 ⟨H3,I3,q3⟩=>?_))))
 exact wpAny_release ⟨σ,H3,I3,q3⟩
noncomputable def tAsg (te:TE) (g:TG):TS:=λD σ H=>te σ H λx H1=>g x σ H1 D.nx
theorem qhV {tg e:Expr} {te:TE} {g:TG} (he:PE X e te) (hg:PG X tg g) (hs:swapsWithSole [tg] e pos.line X.env=pure false:=by rfl) (hw:swappedStores [tg] e X.env=pure none:=by rfl)
  (h1:(assignEach [tg] X.env).map (·.2)=[assign tg X.env]:=by rfl):PS X (.Assign [tg] e pos) (tAsg te g):=by
 intro pins s σ H D I h
 refine wpAny_Assign_stores (thn (he pins s σ H _ I h) λv s1 ⟨x,H1,I1,r1,q1⟩=>?_) hs hw
 rw [h1]
 exact thn (hg pins s1 σ H1 x v _ I1 r1 q1) λ_ s2 q=>q
theorem qhW {i:Nat} {x:Str} {e:Expr} {te:TE} {pos':Pos} (hN:X.N.Nodup) (hi:X.N[i]?=some x) (hx:Loc X.env.scope x) (he:PE X e te) (hs:swapsWith e (some (.Name x pos')) pos.line X.env=pure false:=by rfl) (hf:X.fn x=true∨X.env.scope.names.lookup x=some .local:=by first | exact .inl rfl | exact .inr rfl | assumption) :
  PS X (.Assign [.Name x pos'] e pos) (tAsg te (gName i)):=by
 intro pins s σ H D I h
 refine wpAny_Assign_Name (thn (he pins s σ H _ I h) λv s1 ⟨y,H1,I1,r1,q1⟩=>?_) hs
 exact yh I1 hN hi hx r1 (λs2 I2=>⟨_,H1,I2,q1⟩) hf
noncomputable def tPar (i j:Nat) (ta:TA):TS:=λD σ H=>ta σ H λvs H1=>∃ v w,vs=[v,w]∧D.nx ((σ.set i (some v)).set j (some w)) H1
theorem qhX {i j:Nat} {x y:Str} {a b:Expr} {ta:TA} {px py pt:Pos} {kt k2 pt2} (hc:X.calm=true) (hN:X.N.Nodup) (hi:X.N[i]?=some x) (hj:X.N[j]?=some y) (hij:i≠j)
  (hx:X.env.scope.names.lookup x=some .local) (hy:X.env.scope.names.lookup y=some .local) (ha:PA X [a,b] ta)
  (hw:swappedStores [.Tuple [.Name x px,.Name y py] kt pt] (.Tuple [a,b] k2 pt2) X.env=pure (some [x,y]))
  (hs:swapsWithSole [.Tuple [.Name x px,.Name y py] kt pt] (.Tuple [a,b] k2 pt2) pos.line X.env=pure false:=by rfl) :
  PS X (.Assign [.Tuple [.Name x px,.Name y py] kt pt] (.Tuple [a,b] k2 pt2) pos) (tPar i j ta):=by
 intro pins s σ H D I h
 rw [exec_Assign_arm]
 refine wA (wpAny_standAt ?_)
 rw [hs]
 refine wA (wC ?_)
 rw [wK (by decide)]
 refine wA (Tuple_ (thn (ha _ pins s σ H _ I h) λus s1 ⟨vs,H1,I1,r1,q1⟩=>?_))
 obtain ⟨v,w,e1,q1⟩:=q1
 subst e1
 obtain ⟨u1,u2,rfl,rv,rw'⟩:∃ u1 u2,us=[u1,u2]∧RelV v u1∧RelV w u2:=by
  cases r1 with
  | cons p q =>
   cases q with
   | cons p' q' =>
    cases q'
    exact ⟨_,_,rfl,p,p'⟩
 refine wT ?_ (by show 2≤sizeLine;decide)
 have I2:Inv X pins σ H1 { s1 with heap:=s1.heap.push { cls:=.type "tuple",data:=.seq [u1,u2].toArray } }:=I1.kept (t':=s1.toks) λb o e=>wB _ e
 rw [hw]
 refine wA (wC ?_)
 show wpAny (model X.prog X.w) X.A (do rule "assign.swapped-stores";let items ← unpackItems (.ref s1.heap.objs.size) 2 none;assignInOrder [λv=>bindName X.env y v,λv=>bindName X.env x v] items.reverse;pure Flow.next) _ _ _
 refine wA (wpAny_rule (wA (unpackItems_tuple (items:=#[u1,u2]) (I.ok.hd hc) (IsTup.new s1.heap _) λh' hx'=>?_)))
 have I3:=I2.kept (h':=h') (t':=s1.toks) λb o e=>hx' b o (wW (wE e)) e
 show wpAny _ _ (assignInOrder [λv=>bindName X.env y v,λv=>bindName X.env x v] [u2,u1] >>= λ_=>pure Flow.next) _ _ _
 refine wA (assignInOrder_cons (wpAny_bindName (yh I3 hN hj (.inl hy) rw' (λs2 I4=>?_) (.inr hy))))
 refine assignInOrder_cons (wpAny_bindName (yh I4 hN hi (.inl hx) rv (λs3 I5=>assignInOrder_nil (wC ?_)) (.inr hx)))
 rw [List.set_comm _ _ (Ne.symm hij)] at I5
 exact ⟨_,H1,I5,q1⟩
end
section
variable {X:Cx} {pos:Pos}
noncomputable def tWhile (c:TT) (tb:TS):TS:=λD σ H=>∃ W:Nat→St→Hp→Prop,(∃ m,W m σ H)∧∀ m σ H,W m σ H →
 c σ H λb H1=>if b=true then ∃ N:St→Hp→Prop,(∀ σ' H',N σ' H'→∃ m',m'<m∧W m' σ' H')∧tb { D with nx:=N,ct:=N,bk:=D.nx } σ H1 else D.nx σ H1
theorem qee {c:Expr} {body:List Stmt} {tc:TT} {tb:TS} (hp:PassesOwn (model X.prog X.w) X.A X.env X.xe) (hc:PT X c tc) (hb:PSs X body tb):PS X (.While c body [] pos) (tWhile tc tb):=by
 intro pins s σ H D I h
 obtain ⟨W,⟨m0,w0⟩,turn⟩:=h
 refine wpAny_While (codeAny_whileLoop (λn s'=>∃ σ' H',Inv X pins σ' H' s'∧W n σ' H') ?_ m0 ⟨σ,H,I,w0⟩)
 rintro n s1 ⟨σ1,H1,I1,w1⟩
 refine wpAny_passesOwn hp (thn (hc pins s1 σ1 H1 _ I1 (turn n σ1 H1 w1)) λb s2 ⟨H2,I2,q2⟩=>?_)
 cases b with
 | true =>
  obtain ⟨N,hN,q2⟩:=q2
  rw [wJ rfl]
  refine wpAny_passesOwn hp (thn (hb pins s2 σ1 H2 _ I2 q2) λf s3 q3=>?_)
  cases f with
  | next =>
   obtain ⟨σ3,H3,I3,n3⟩:=q3
   obtain ⟨m',hm,w3⟩:=hN σ3 H3 n3
   exact ⟨m',hm,σ3,H3,I3,w3⟩
  | cont =>
   obtain ⟨σ3,H3,I3,n3⟩:=q3
   obtain ⟨m',hm,w3⟩:=hN σ3 H3 n3
   exact ⟨m',hm,σ3,H3,I3,w3⟩
  | brk=>exact q3
  | ret v=>exact q3
 | false =>
  rw [wK wR]
  exact wpAny_execs_nil ⟨σ1,H2,I2,q2⟩
end
structure It where
 go:Nat→Hp→Prop
 yld:Nat→Hp→V→Hp→Prop
 stop:Nat→Hp→Prop
noncomputable def FpOk (X:Cx) (pins:List (Addr × Obj)) (H:Hp) (b:Addr):Prop :=
 H b=none∧b≠X.env.locals∧b ∉ X.fs∧(b∈X.ex∨X.s₀.heap.objs.size≤b)∧(∀ x c,X.env.cells.lookup x=some c→c≠b)∧∀ p∈X.pn++pins,p.1≠b
theorem Inv.fpOk {X:Cx} {pins:List (Addr × Obj)} {σ:St} {H H':Hp} {s:Shared} {b:Addr} (I:Inv X pins σ H s) (hb:s.heap.objs.size≤b) (hn:H' b=none):FpOk X pins H' b:=by
 refine ⟨hn,vN (wQ I.lt hb),I.nofs hb,.inr (vA I.sz hb),λx c e z=>?_,λp hp z=>?_⟩
 ·obtain ⟨v,q⟩:=I.cell x c e
  exact absurd (wQ q.lt (by rw [z];exact hb)) (Nat.lt_irrefl _)
 ·exact absurd (wQ (wE (I.pin p hp).1) (by rw [z];exact hb)) (Nat.lt_irrefl _)
structure Turn (P:Program) (w:World) (K:PySem.W.Frag) (tg:Expr) (J:It) (fp:List Addr) (it:Addr) (tn:Nat→Heap→Prop):Prop where
 mem:it∈fp
 obj:∀ i h,tn i h→∀ b∈fp,∃ o,h.get? b=some o∧∀ v,o.data≠.cell v
 keep:∀ i h h',tn i h→(∀ b∈fp,∀ o,h.get? b=some o→h'.get? b=some o)→tn i h'
 item:∀ (X:Cx),X.prog=P→X.w=w→X.K=K→X.calm=true→∀ (i:Nat) (pins:List (Addr × Obj)) (s:Shared) (σ:St) (H:Hp) (E:Value→Shared→Prop),Inv X pins σ H s→(∀ b∈fp,FpOk X pins H b)→tn i s.heap→J.go i H →
  wpAny (model P w) X.A (pyNext (.ref it)) (λr s1=>∃ u,r=some u ∧
   wpAny (model P w) X.A (letOwnedTupleGo tg (.ref it) u) (λ_ s2=>∃ x H',Inv X pins σ H' s2∧RelV x u∧J.yld i H x H'∧tn (i+1) s2.heap∧∀ b∈fp,H' b=none) E s1) E s
 done:∀ (X:Cx),X.prog=P→X.w=w→X.K=K→X.calm=true→∀ (i:Nat) (pins:List (Addr × Obj)) (s:Shared) (σ:St) (H:Hp) (E:Value→Shared→Prop),Inv X pins σ H s→(∀ b∈fp,FpOk X pins H b)→tn i s.heap→J.stop i H →
  wpAny (model P w) X.A (pyNext (.ref it)) (λr s1=>r=none∧Inv X pins σ H s1) E s
 self:∀ (A:Around) (i:Nat) (s:Shared) (Q:Value→Shared→Prop) (E:Value→Shared→Prop),tn i s.heap→Q (.ref it) s→wpAny (model P w) A (pyIter (.ref it)) Q E s
noncomputable abbrev TI:=St→Hp→(It→Hp→Prop)→Prop
noncomputable def PIE (X:Cx) (pins:List (Addr × Obj)) (σ:St) (tg:Expr) (R:It→Hp→Prop) (itv:Value) (s2:Shared):Prop :=
 ∃ (it:Addr) (fp:List Addr) (tn:Nat→Heap→Prop) (J:It) (H':Hp),itv=.ref it∧Inv X pins σ H' s2∧Turn X.prog X.w X.K tg J fp it tn∧tn 0 s2.heap∧(∀ b∈fp,FpOk X pins H' b)∧R J H'
noncomputable def PI (X:Cx) (tg iter:Expr) (wi:TI):Prop :=
 ∀ (pins:List (Addr × Obj)) (s:Shared) (σ:St) (H:Hp) (R:It→Hp→Prop),Inv X pins σ H s→wi σ H R →
  wpAny (model X.prog X.w) X.A (eval iter X.env) (λv s1=>wpAny (model X.prog X.w) X.A (pyIter v) (PIE X pins σ tg R) X.xe s1) X.xe s
theorem qef {M:Model} {A:Around} {E:Value→Shared→Prop} {s:Shared} {tg:Expr} {it:Addr} {u:Value} {o:Obj} {n:String} {vs:Array Value} {Q:Unit→Shared→Prop} (ho:s.heap.get? it=some o) (hc:o.cls=.type n) (hd:o.data=.fields vs)
  (hn:["enumerate","zip","dict_itemiterator","dict_reverseitemiterator","odict_iterator","itertools.zip_longest","itertools.pairwise"].contains n=false) (hQ:Q () s):wpAny M A (letOwnedTupleGo tg (.ref it) u) Q E s:=by
 unfold letOwnedTupleGo
 cases tg <;> first
  | exact wC hQ
  | (cases u <;> first
    | exact wC hQ
    | (refine wA (wpAny_load ho ?_)
       rw [hc,hd]
       show wpAny M A (if (["enumerate","zip","dict_itemiterator","dict_reverseitemiterator","odict_iterator","itertools.zip_longest","itertools.pairwise"].contains n&&vs[0]? == some (rawInt _))=true then _ else _) Q E s
       rw [wK (by intro h;rw [hn,Bool.false_and] at h;cases h)]
       exact wC hQ))
noncomputable def Itl (K:PySem.W.Frag) (a:Addr):It :=
 ⟨λi H=>∃ xs x,SqL K H a xs∧xs[i]?=some x,λi H x H'=>H'=H∧∀ xs,SqL K H a xs→xs[i]?=some x,λi H=>∃ xs,SqL K H a xs∧xs.length≤i⟩
noncomputable def Itt (K:PySem.W.Frag) (a:Addr):It :=
 ⟨λi H=>∃ xs x,SqT K H a xs∧xs[i]?=some x,λi H x H'=>H'=H∧∀ xs,SqT K H a xs→xs[i]?=some x,λi H=>∃ xs,SqT K H a xs∧xs.length≤i⟩
theorem qdr {P:Program} {w:World} {K:PySem.W.Frag} {tg:Expr} (a it:Addr):Turn P w K tg (Itl K a) [it] it (λi h=>h.IsListIter it a i) where
 mem:=by simp
 obj:=λi h st b hb=>by
  have e:b=it:=by simpa using hb
  subst e
  obtain ⟨o,e,c,d⟩:=st
  exact ⟨o,e,λv z=>by rw [d] at z;cases z⟩
 keep:=λi h h' st k=>st.at λo e=>k it (by simp) o e
 item:=by
  intro X hP hw hK hc i pins s σ H E I hf st hg
  subst hP hw hK
  obtain ⟨xs,x,hq,hx⟩:=hg
  obtain ⟨its,rv,p,hz⟩:=I.list hq
  obtain ⟨u,hu,ru⟩:=rv.get hx
  obtain ⟨f0,f1,f2,f3,f4,f5⟩:=hf it (by simp)
  refine wpAny_pyNext_list_item st p.isList (x:=u) (by simpa using hu) λh' st' sb=>?_
  have I1:Inv X pins σ H { s with heap:=h' }:=I.turned (t':=s.toks) (λb o hb e=>(sb.2 b hb).trans e) f0 f1 f3 f4 f5
  obtain ⟨o,e,c,d⟩:=id st'
  exact ⟨u,rfl,qef (s:={ s with heap:=h' }) e c d (by decide) ⟨x,H,I1,ru,⟨rfl,λys hy=>by rw [I.list_inj hy hq];exact hx⟩,st',λb hb=>(hf b hb).1⟩⟩
 done:=by
  intro X hP hw hK hc i pins s σ H E I hf st hg
  subst hP hw hK
  obtain ⟨xs,hq,hx⟩:=hg
  obtain ⟨its,rv,p,hz⟩:=I.list hq
  obtain ⟨f0,f1,f2,f3,f4,f5⟩:=hf it (by simp)
  have hl:=rv.length
  exact wpAny_pyNext_list_end (I.ok.hd hc) st p.isList (by simp;lia) λh' eb=>⟨rfl,I.turned (t':=s.toks) (λb o hb e=>eb b o hb e) f0 f1 f3 f4 f5⟩
 self:=λ_ _ _ _ _ st h=>wpAny_pyIter_listiter st h
theorem qb2 {P:Program} {w:World} {K:PySem.W.Frag} {tg:Expr} (a it:Addr):Turn P w K tg (Itt K a) [it] it (λi h=>h.IsTupleIter it a i) where
 mem:=by simp
 obj:=λi h st b hb=>by
  have e:b=it:=by simpa using hb
  subst e
  obtain ⟨o,e,c,d⟩:=st
  exact ⟨o,e,λv z=>by rw [d] at z;cases z⟩
 keep:=λi h h' st k=>st.at λo e=>k it (by simp) o e
 item:=by
  intro X hP hw hK hc i pins s σ H E I hf st hg
  subst hP hw hK
  obtain ⟨xs,x,hq,hx⟩:=hg
  obtain ⟨its,rv,p,hz⟩:=I.tuple hq
  obtain ⟨u,hu,ru⟩:=rv.get hx
  obtain ⟨f0,f1,f2,f3,f4,f5⟩:=hf it (by simp)
  refine wpAny_pyNext_tuple_item st (show s.heap.IsTuple a its.toArray from p) (x:=u) (by simpa using hu) λh' st' sb=>?_
  have I1:Inv X pins σ H { s with heap:=h' }:=I.turned (t':=s.toks) (λb o hb e=>(sb.2 b hb).trans e) f0 f1 f3 f4 f5
  obtain ⟨o,e,c,d⟩:=id st'
  exact ⟨u,rfl,qef (s:={ s with heap:=h' }) e c d (by decide) ⟨x,H,I1,ru,⟨rfl,λys hy=>by rw [I.tuple_inj hy hq];exact hx⟩,st',λb hb=>(hf b hb).1⟩⟩
 done:=by
  intro X hP hw hK hc i pins s σ H E I hf st hg
  subst hP hw hK
  obtain ⟨xs,hq,hx⟩:=hg
  obtain ⟨its,rv,p,hz⟩:=I.tuple hq
  obtain ⟨f0,f1,f2,f3,f4,f5⟩:=hf it (by simp)
  have hl:=rv.length
  exact wpAny_pyNext_tuple_end (I.ok.hd hc) st (show s.heap.IsTuple a its.toArray from p) (by simp;lia) λh' eb=>⟨rfl,I.turned (t':=s.toks) (λb o hb e=>eb b o hb e) f0 f1 f3 f4 f5⟩
 self:=λ_ _ _ _ _ st h=>wpAny_pyIter_tupleiter st h
end L2
namespace L2
open PySem PySem.Spec PyProof.Rows
section
variable {X:Cx} {tg:Expr}
noncomputable def tFor (wi:TI) (g:TG) (tb:TS):TS:=λD σ H=>wi σ H λJ H1=>∃ W:Nat→Nat→St→Hp→Prop,(∃ m,W 0 m σ H1)∧∀ i m σ H,W i m σ H →
 (J.stop i H∧D.nx σ H)∨(J.go i H∧∃ N:St→Hp→Prop,(∀ σ' H',N σ' H'→∃ m',m'<m∧W (i+1) m' σ' H')∧∀ x H',J.yld i H x H'→g x σ H' λσ2 H2=>tb { D with nx:=N,ct:=N,bk:=D.nx } σ2 H2)
noncomputable def pinsAt (fp:List Addr) (h:Heap):List (Addr × Obj):=fp.filterMap λb=>(h.get? b).map λo=>(b,o)
theorem zq {fp:List Addr} {h:Heap} {b:Addr} {o:Obj} (hb:b∈fp) (e:h.get? b=some o):(b,o)∈pinsAt fp h:=List.mem_filterMap.mpr ⟨b,hb,by rw [e];rfl⟩
theorem qds {fp:List Addr} {h:Heap} {p:Addr × Obj} (hp:p∈pinsAt fp h):p.1∈fp∧h.get? p.1=some p.2:=by
 obtain ⟨b,hb,e⟩:=List.mem_filterMap.mp hp
 cases q:h.get? b with
 | none=>rw [q] at e;cases e
 | some o =>
  rw [q] at e
  have e':(b,o)=p:=Option.some.inj e
  subst e'
  exact ⟨hb,q⟩
theorem Inv.pinned {pins:List (Addr × Obj)} {σ:St} {H:Hp} {s:Shared} {fp:List Addr} (I:Inv X pins σ H s) (hf:∀ b∈fp,FpOk X pins H b) (ho:∀ b∈fp,∃ o,s.heap.get? b=some o∧∀ v,o.data≠.cell v):Inv X (pins++pinsAt fp s.heap) σ H s :=
 I.pins_of λp hp=>(vC.mp hp).elim (λz=>I.pin p (wV _ z)) λz=>by
  obtain ⟨hb,e⟩:=qds z
  obtain ⟨f0,f1,f2,_⟩:=hf p.1 hb
  obtain ⟨o,e',d⟩:=ho p.1 hb
  rw [e] at e';cases e'
  exact ⟨e,f0,f1,f2,d⟩
theorem Inv.unpinned {pins pl:List (Addr × Obj)} {σ:St} {H:Hp} {s:Shared} (I:Inv X (pins++pl) σ H s):Inv X pins σ H s:=I.pins_of λp hp=>I.pin p (wV _ (List.mem_append_left _ hp))
theorem qhY {iter:Expr} {body:List Stmt} {wi:TI} {g:TG} {tb:TS} {pos:Pos} (hp:PassesOwn (model X.prog X.w) X.A X.env X.xe) (hc:X.calm=true) (hi:PI X tg iter wi) (hg:PG X tg g) (hb:PSs X body tb)
  (hs:∀ x,foldedSetIterable iter X.env x=pure x:=by intro _;rfl):PS X (.For tg iter body [] pos) (tFor wi g tb):=by
 intro pins s σ H D I h
 refine wpAny_For (thn (hi pins s σ H _ I h) λv s1 h1=>thn h1 λitv s2 h2=>?_) hs
 obtain ⟨it,fp,tn,J,H2,e,I2,T,st2,f2,W,⟨m0,w0⟩,turn⟩:=h2
 subst e
 have stat:∀ {H':Hp},(∀ b∈fp,H' b=none)→∀ b∈fp,FpOk X pins H' b:=λhn b hb=>⟨hn b hb,(f2 b hb).2⟩
 refine codeAny_forLoop_any (λn s'=>∃ i σ' H',Inv X pins σ' H' s'∧tn i s'.heap∧(∀ b∈fp,H' b=none)∧W i n σ' H') ?_ m0 ⟨0,σ,H2,I2,st2,λb hb=>(f2 b hb).1,w0⟩
 rintro n s3 ⟨i,σ3,H3,I3,st3,fr3,w3⟩
 rcases turn i n σ3 H3 w3 with ⟨stop,qn⟩ | ⟨go,N,hN,step⟩
 ·refine wpAny_passesOwn hp (thn (T.done X rfl rfl rfl hc i pins s3 σ3 H3 X.xe I3 (stat fr3) st3 stop) λr s4 ⟨hr,I4⟩=>?_)
  subst hr
  exact wpAny_execs_nil ⟨σ3,H3,I4,qn⟩
 ·refine wpAny_passesOwn hp (thn (T.item X rfl rfl rfl hc i pins s3 σ3 H3 X.xe I3 (stat fr3) st3 go) λr s4 ⟨u,hr,h4⟩=>?_)
  subst hr
  refine wpAny_passesOwn hp (thn h4 λ_ s5 ⟨x,H5,I5,r5,y5,st5,fr5⟩=>?_)
  have I5':=I5.pinned (stat fr5) (T.obj _ _ st5)
  refine wpAny_passesOwn hp (thn (hg _ s5 σ3 H5 x u _ I5' r5 (step x H5 y5)) λ_ s6 ⟨σ6,H6,I6,q6⟩=>?_)
  refine wpAny_passesOwn hp (thn (hb _ s6 σ6 H6 _ I6 q6) λf s7 q7=>?_)
  have again:∀ {σ7:St} {H7:Hp},Inv X (pins++pinsAt fp s5.heap) σ7 H7 s7→N σ7 H7→∃ m,m<n∧∃ i σ' H',Inv X pins σ' H' s7∧tn i s7.heap∧(∀ b∈fp,H' b=none)∧W i m σ' H':=λ{σ7 H7} I7 n7=>by
   obtain ⟨m',hm,w7⟩:=hN σ7 H7 n7
   refine ⟨m',hm,i+1,σ7,H7,I7.unpinned,T.keep _ _ _ st5 λb hb o e=>(I7.pin (b,o) (wV _ (wV _ (zq hb e)))).1,λb hb=>?_,w7⟩
   obtain ⟨o,e,d⟩:=T.obj _ _ st5 b hb
   exact (I7.pin (b,o) (wV _ (wV _ (zq hb e)))).2.1
  cases f with
  | next=>obtain ⟨σ7,H7,I7,n7⟩:=q7;exact again I7 n7
  | cont=>obtain ⟨σ7,H7,I7,n7⟩:=q7;exact again I7 n7
  | brk=>obtain ⟨σ7,H7,I7,q7⟩:=q7;exact ⟨σ7,H7,I7.unpinned,q7⟩
  | ret v=>obtain ⟨x7,σ7,H7,I7,r7,q7⟩:=q7;exact ⟨x7,σ7,H7,I7.unpinned,r7,q7⟩
end
end L2
namespace L2
open PySem PySem.Spec PyProof.Rows
noncomputable abbrev R2:=V→V→Hp→VK→Prop
noncomputable def OpR (X:Cx) (f:Value→Value→Sem Value) (r:R2):Prop :=
 ∀ (pins:List (Addr × Obj)) (s:Shared) (σ:St) (H:Hp) (x y:V) (v u:Value) (Q:VK),Inv X pins σ H s→RelV x v→RelV y u→r x y H Q →
  wpAny (model X.prog X.w) X.A (f v u) (EP X pins σ Q) X.xe s
noncomputable def UnR (X:Cx) (f:Value→Sem Value) (r:V→Hp→VK→Prop):Prop :=
 ∀ (pins:List (Addr × Obj)) (s:Shared) (σ:St) (H:Hp) (x:V) (v:Value) (Q:VK),Inv X pins σ H s→RelV x v→r x H Q →
  wpAny (model X.prog X.w) X.A (f v) (EP X pins σ Q) X.xe s
noncomputable def CallR (X:Cx) (f:Value) (r:List V→Hp→VK→Prop):Prop :=
 ∀ (pins:List (Addr × Obj)) (s:Shared) (σ:St) (H:Hp) (xs:List V) (us:List Value) (Q:VK),Inv X pins σ H s→Vals xs us→r xs H Q →
  wpAny (model X.prog X.w) X.A (call f us) (EP X pins σ Q) X.xe s
noncomputable def TruR (X:Cx) (r:V→Hp→(Bool→Hp→Prop)→Prop):Prop :=
 ∀ (pins:List (Addr × Obj)) (s:Shared) (σ:St) (H:Hp) (x:V) (v:Value) (Q:Bool→Hp→Prop),Inv X pins σ H s→RelV x v→r x H Q →
  wpAny (model X.prog X.w) X.A (truthy v) (TP X pins σ Q) X.xe s
noncomputable def tOp (r:R2) (ta tb:TE):TE:=λσ H Q=>ta σ H λx H1=>tb σ H1 λy H2=>r x y H2 Q
noncomputable def tUn (r:V→Hp→VK→Prop) (ta:TE):TE:=λσ H Q=>ta σ H λx H1=>r x H1 Q
noncomputable def rI (C:Int→Int→Prop) (g:Int→Int→V):R2:=λx y H Q=>∃ i j,x=.int i∧y=.int j∧C i j∧Q (g i j) H
noncomputable def rI0 (g:Int→Int→V):R2:=λx y H Q=>∃ i j,x=.int i∧y=.int j∧Q (g i j) H
noncomputable def rU (g:Int→V):V→Hp→VK→Prop:=λx H Q=>∃ i,x=.int i∧Q (g i) H
section
variable {X:Cx} {a b c:Expr} {ta tb tc:TE} {pos:Pos}
theorem binT (ha:PE X a ta) (hb:PE X b tb) {pins:List (Addr × Obj)} {s:Shared} {σ:St} {H:Hp} {R:V→V→Hp→Prop} (I:Inv X pins σ H s)
  (h:ta σ H λx H1=>tb σ H1 λy H2=>R x y H2) {Q:Value→Shared→Prop} {f:Value→Value→Sem Value}
  (hf:∀ v u s2 x y H2,Inv X pins σ H2 s2→RelV x v→RelV y u→R x y H2→wpAny (model X.prog X.w) X.A (f v u) Q X.xe s2) :
  wpAny (model X.prog X.w) X.A (eval a X.env) (λv s₁=>wpAny (model X.prog X.w) X.A (eval b X.env) (λu s₂=>wpAny (model X.prog X.w) X.A (f v u) Q X.xe s₂) X.xe s₁) X.xe s:=by
 refine thn (ha pins s σ H _ I h) λv s1 ⟨x,H1,I1,r1,q1⟩=>?_
 refine thn (hb pins s1 σ H1 _ I1 q1) λu s2 ⟨y,H2,I2,r2,q2⟩=>?_
 exact hf v u s2 x y H2 I2 r1 r2 q2
theorem qjn {op:Operator} {r:R2} (ho:OpR X (binaryOp op) r) (ha:PE X a ta) (hb:PE X b tb):PE X (.BinOp a op b pos) (tOp r ta tb):=by
 intro pins s σ H Q I h
 exact wpAny_BinOp (binT ha hb I h λv u s2 x y H2 I2 rx ry q=>ho pins s2 σ H2 x y v u Q I2 rx ry q)
theorem qho {op:UnaryOp} {r:V→Hp→VK→Prop} (ho:UnR X (unaryOp op) r) (ha:PE X a ta):PE X (.UnaryOp op a pos) (tUn r ta):=by
 intro pins s σ H Q I h
 exact UnaryOp_ (thn (ha pins s σ H _ I h) λv s1 ⟨x,H1,I1,r1,q1⟩=>ho pins s1 σ H1 x v Q I1 r1 q1)
theorem opI {f:Value→Value→Sem Value} {C:Int→Int→Prop} {g:Int→Int→Int}
  (rule:∀ (i j:Int) (t u:Tok) (s:Shared) (Q:Value→Shared→Prop) (E:Value→Shared→Prop),C i j→Q (.int (g i j) s.toks) { s with toks:=s.toks+1 }→wpAny (model X.prog X.w) X.A (f (.int i t) (.int j u)) Q E s) :
  OpR X f (rI C λi j=>.int (g i j)):=by
 intro pins s σ H x y v u Q I rx ry h
 obtain ⟨i,j,rfl,rfl,hc,q⟩:=h
 obtain ⟨t,rfl⟩:=rx
 obtain ⟨t',rfl⟩:=ry
 exact rule i j t t' s _ _ hc ⟨.int (g i j),H,I.tok _,⟨_,rfl⟩,q⟩
theorem opB0 {f:Value→Value→Sem Value} {g:Int→Int→Bool}
  (rule:∀ (i j:Int) (t u:Tok) (s:Shared) (Q:Value→Shared→Prop) (E:Value→Shared→Prop),Q (.bool (g i j)) s→wpAny (model X.prog X.w) X.A (f (.int i t) (.int j u)) Q E s) :
  OpR X f (rI0 λi j=>.bl (g i j)):=by
 intro pins s σ H x y v u Q I rx ry h
 obtain ⟨i,j,rfl,rfl,q⟩:=h
 obtain ⟨t,rfl⟩:=rx
 obtain ⟨t',rfl⟩:=ry
 exact rule i j t t' s _ _ ⟨.bl (g i j),H,I,rfl,q⟩
theorem qb3 (k:Nat):(0:Int)≤2^k:=by
 rw [two_pow_cast]
 exact Int.natCast_nonneg _
theorem qhZ:OpR X (binaryOp .RShift) (rI (λ_ j=>0≤j) λi j=>.int (i / 2^j.toNat)):=opI λi j _ _ _ _ _ hc q =>
 rshift_int hc (by rw [Int.fdiv_eq_ediv_of_nonneg i (qb3 _)];exact q)
theorem unI {f:Value→Sem Value} {g:Int→Int}
  (rule:∀ (i:Int) (t:Tok) (s:Shared) (Q:Value→Shared→Prop) (E:Value→Shared→Prop),Q (.int (g i) s.toks) { s with toks:=s.toks+1 }→wpAny (model X.prog X.w) X.A (f (.int i t)) Q E s) :
  UnR X f (rU λi=>.int (g i)):=by
 intro pins s σ H x v Q I rx h
 obtain ⟨i,rfl,q⟩:=h
 obtain ⟨t,rfl⟩:=rx
 exact rule i t s _ _ ⟨.int (g i),H,I.tok _,⟨_,rfl⟩,q⟩
theorem qeg:UnR X (unaryOp .USub) (rU λi=>.int (-i)):=unI λ_ _ _ _ _ q=>neg_int q
end
section
variable {X:Cx} {a b c:Expr} {ta tb tc:TE} {pos:Pos}
theorem qeh {pins:List (Addr × Obj)} {σ:St} {H:Hp} {s:Shared} {Q:VK} {k k':Bool} (I:Inv X pins σ H s) (q:Q (.bl k) H) (e:k=k'):EP X pins σ Q (.bool k') s:=by
 subst e
 exact ⟨.bl k,H,I,rfl,q⟩
theorem qjo:OpR X (compareOp .Lt) (rI0 λi j=>.bl (decide (i<j))):=opB0 λ_ _ _ _ _ _ _ q=>lt_int q
theorem qjp:OpR X (compareOp .LtE) (rI0 λi j=>.bl (decide (i≤j))):=opB0 λ_ _ _ _ _ _ _ q=>le_int q
theorem qjq:OpR X (compareOp .Gt) (rI0 λi j=>.bl (decide (j<i))):=opB0 λ_ _ _ _ _ _ _ q=>gt_int q
theorem qjr:OpR X (compareOp .GtE) (rI0 λi j=>.bl (decide (j≤i))):=opB0 λ_ _ _ _ _ _ _ q=>ge_int q
theorem qh0:OpR X (compareOp .Is) (λx y H Q=>y=.non∧Q (.bl (decide (x=.non))) H):=by
 intro pins s σ H x y v u Q I rx ry h
 obtain ⟨rfl,q⟩:=h
 cases ry
 refine is_none_gen (qeh I q ?_)
 cases x <;> first
  | (cases rx;rfl)
  | (obtain ⟨t,rfl⟩:=rx;rfl)
theorem qgb:OpR X (compareOp .IsNot) (λx y H Q=>y=.non∧Q (.bl (!decide (x=.non))) H):=by
 intro pins s σ H x y v u Q I rx ry h
 obtain ⟨rfl,q⟩:=h
 cases ry
 refine isnot_none_gen (qeh I q ?_)
 cases x <;> first
  | (cases rx;rfl)
  | (obtain ⟨t,rfl⟩:=rx;rfl)
theorem qgc {op:CmpOp} {r:R2} (ho:OpR X (compareOp op) r) (ha:PE X a ta) (hb:PE X b tb) (hm:behindInMarks op b=false):PE X (.Compare a [op] [b] pos) (tOp r ta tb):=by
 intro pins s σ H Q I h
 exact wpAny_Compare1 (binT ha hb I h λv u s2 x y H2 I2 rx ry q=>ho pins s2 σ H2 x y v u Q I2 rx ry q) hm
noncomputable def tTest (t:TE):TT:=λσ H Q=>t σ H λx H'=>∃ k,x=.bl k∧Q k H'
theorem qgd {op:CmpOp} {r:R2} (ho:OpR X (compareOp op) r) (ha:PE X a ta) (hb:PE X b tb) (hm:behindInMarks op b=false):PT X (.Compare a [op] [b] pos) (tTest (tOp r ta tb)):=by
 intro pins s σ H Q I h
 refine wpAny_isTrue_Compare1 (thn (ha pins s σ H _ I h) λv s1 ⟨x,H1,I1,r1,q1⟩=>thn (hb pins s1 σ H1 _ I1 q1) λu s2 ⟨y,H2,I2,r2,q2⟩ =>
  thn (ho pins s2 σ H2 x y v u _ I2 r1 r2 q2) λc s3 ⟨z,H3,I3,r3,k,e,q3⟩=>?_) hm
 subst e
 cases r3
 exact vI ⟨H3,I3,q3⟩
noncomputable def tChain (r r':R2) (ta tb tc:TE):TE:=λσ H Q=>ta σ H λx H1=>tb σ H1 λy H2=>r x y H2 λz H3=>∃ k,z=.bl k ∧
 (if k=true then tc σ H3 λw' H4=>r' y w' H4 Q else Q (.bl false) H3)
theorem qei {op op':CmpOp} {r r':R2} (ho:OpR X (compareOp op) r) (ho':OpR X (compareOp op') r') (ha:PE X a ta) (hb:PE X b tb) (hc:PE X c tc)
  (hm:lastMarks [op,op'] [b,c]=false:=by with_unfolding_all rfl):PE X (.Compare a [op,op'] [b,c] pos) (tChain r r' ta tb tc):=by
 intro pins s σ H Q I h
 refine Compare_chain (thn (ha pins s σ H _ I h) λv s1 ⟨x,H1,I1,r1,q1⟩=>chain_link (thn (hb pins s1 σ H1 _ I1 q1) λu s2 ⟨y,H2,I2,r2,q2⟩ =>
  thn (ho pins s2 σ H2 x y v u _ I2 r1 r2 q2) λd s3 ⟨z,H3,I3,r3,k,e,q3⟩=>?_)) hm
 subst e
 cases r3
 refine vI ?_
 cases k with
 | false=>exact ite_ff ⟨.bl false,H3,I3,rfl,q3⟩
 | true=>exact ite_tt (chain_last (thn (hc pins s3 σ H3 _ I3 q3) λw' s4 ⟨z',H4,I4,r4,q4⟩=>ho' pins s4 σ H4 y z' u w' Q I4 r2 r4 q4))
theorem qej {op op':CmpOp} {r r':R2} (ho:OpR X (compareOp op) r) (ho':OpR X (compareOp op') r') (ha:PE X a ta) (hb:PE X b tb) (hc:PE X c tc)
  (hm:lastMarks [op,op'] [b,c]=false:=by with_unfolding_all rfl):PT X (.Compare a [op,op'] [b,c] pos) (tTest (tChain r r' ta tb tc)):=by
 intro pins s σ H Q I h
 refine isTrue_chain (thn (ha pins s σ H _ I h) λv s1 ⟨x,H1,I1,r1,q1⟩=>test_link (thn (hb pins s1 σ H1 _ I1 q1) λu s2 ⟨y,H2,I2,r2,q2⟩ =>
  thn (ho pins s2 σ H2 x y v u _ I2 r1 r2 q2) λd s3 ⟨z,H3,I3,r3,k,e,q3⟩=>?_)) hm
 subst e
 cases r3
 refine vI ?_
 cases k with
 | false =>
  obtain ⟨k',e',q'⟩:=q3
  cases e'
  exact ite_ff ⟨H3,I3,q'⟩
 | true =>
  refine ite_tt (test_last (thn (hc pins s3 σ H3 _ I3 q3) λw' s4 ⟨z',H4,I4,r4,q4⟩=>thn (ho' pins s4 σ H4 y z' u w' _ I4 r2 r4 q4) λd' s5 ⟨z2,H5,I5,r5,k2,e2,q5⟩=>?_))
  subst e2
  cases r5
  exact vI ⟨H5,I5,q5⟩
noncomputable def TruV (K:PySem.W.Frag) (x:V) (H:Hp) (k:Bool):Prop :=
 match x with
 | .non=>k=false
 | .bl b=>k=b
 | .int i=>k=(i != 0)
 | .str y=>y.length≤sizeLine∧k=((y.length:Int) != 0)
 | .byt y=>y.size≤sizeLine∧k=((y.size:Int) != 0)
 | .ref p=>(∃ xs,SqL K H p xs∧k=!xs.isEmpty)∨(∃ xs,SqT K H p xs∧k=!xs.isEmpty)∨∃ kvs,H p=some (.dK kvs)∧k=!kvs.isEmpty
 | _=>False
theorem qb4 {κ:Type} {kvs:List (κ × V)} {vs:List (κ × Value)} (r:KV kvs vs):(!vs.isEmpty)=!kvs.isEmpty:=by
 cases r <;> rfl
theorem jE {xs:List V} {its:List Value} (r:Vals xs its):(!its.toArray.isEmpty)=!xs.isEmpty:=by
 cases r <;> simp
theorem line63:(sizeLine:Nat)<2^63:=by rw [vJ];decide
theorem qh1:TruR X (λx H Q=>∃ k,TruV X.K x H k∧Q k H):=by
 intro pins s σ H x v Q I rx h
 obtain ⟨k,e,q⟩:=h
 have hl:=line63
 have hs:sizeLine=16777216:=vJ
 cases x with
 | non =>
  cases rx
  have e':k=false:=e
  subst e'
  exact truthy_none ⟨H,I,q⟩
 | bl b =>
  cases rx
  have e':k=b:=e
  subst e'
  exact vI ⟨H,I,q⟩
 | int i =>
  obtain ⟨t,rfl⟩:=rx
  have e':k=(i != 0):=e
  subst e'
  exact PySem.P.truthy_int ⟨H,I,q⟩
 | str y =>
  obtain ⟨t,rfl⟩:=rx
  obtain ⟨hy,e'⟩:y.length≤sizeLine∧k=((y.length:Int) != 0):=e
  subst e'
  exact PySem.P.truthy_str (by lia) ⟨H,I.tok _,q⟩
 | byt y =>
  obtain ⟨t,rfl⟩:=rx
  obtain ⟨hy,e'⟩:y.size≤sizeLine∧k=((y.size:Int) != 0):=e
  subst e'
  exact PySem.W.truthy_bytes (by lia) ⟨H,I.tok _,q⟩
 | ref p =>
  cases rx
  have e':(∃ xs,SqL X.K H p xs∧k=!xs.isEmpty)∨(∃ xs,SqT X.K H p xs∧k=!xs.isEmpty)∨∃ kvs,H p=some (.dK kvs)∧k=!kvs.isEmpty:=e
  rcases e' with ⟨xs,hx,e'⟩ | ⟨xs,hx,e'⟩ | ⟨kvs,hx,e'⟩
  ·subst e'
   obtain ⟨its,r,pl,hz⟩:=I.list hx
   have hlen:=r.length
   exact wpAny_truthy_list pl.isList (by simp only [wF];lia) ⟨H,I.tok _,by rw [jE r];exact q⟩
  ·subst e'
   obtain ⟨its,r,pl,hz⟩:=I.tuple hx
   have hlen:=r.length
   exact truthy_tuple pl (by simp only [wF];lia) ⟨H,I.tok _,by rw [jE r];exact q⟩
  ·subst e'
   obtain ⟨hz,hS,vs,r,m⟩:kvs.length≤sizeLine∧(p == sysModules)=false∧∃ vs,KV kvs vs∧s.heap.DictOf (mixKind X.prog X.w) p vs:=I.hok p _ hx
   have hlen:kvs.length=vs.length:=Paired.length r
   exact wpAny_truthy_dict hS m (by lia) ⟨H,I.tok _,by rw [qb4 r];exact q⟩
 | _=>exact (show False from e).elim
theorem qbf (ha:PE X a ta) (he:∀ whole,isTrue a X.env whole=(do let v ← whole;standAt a.pos;holding [v] (truthy v))) :
  PT X a (λσ H Q=>ta σ H λx H'=>∃ k,TruV X.K x H' k∧Q k H'):=by
 intro pins s σ H Q I h
 exact isTrue_plain (thn (ha pins s σ H _ I h) λv s1 ⟨x,H1,I1,r1,q1⟩=>qh1 pins s1 σ H1 x v Q I1 r1 q1) (he _)
theorem qb5:OpR X (binaryOp .Add) (λx y H Q=>∃ i j,x=.str i∧y=.str j∧i.length+j.length≤sizeLine∧Q (.str (i++j)) H):=by
 intro pins s σ H x y v u Q I rx ry h
 obtain ⟨i,j,rfl,rfl,hz,q⟩:=h
 obtain ⟨t,rfl⟩:=rx
 obtain ⟨t',rfl⟩:=ry
 exact add_str (λt' tk=>⟨.str (i++j),H,I.tok _,⟨_,rfl⟩,q⟩) hz
theorem vals1 {x:V} {us:List Value} (r:Vals [x] us):∃ u,us=[u]∧RelV x u:=by
 cases r with
 | cons r1 r2=>cases r2;exact ⟨_,rfl,r1⟩
theorem vals2 {x y:V} {us:List Value} (r:Vals [x,y] us):∃ u w',us=[u,w']∧RelV x u∧RelV y w':=by
 cases r with
 | cons r1 r2 =>
  cases r2 with
  | cons r3 r4=>cases r4;exact ⟨_,_,rfl,r1,r3⟩
theorem qek:CallR X (.builtin "abs") (λxs H Q=>∃ i,xs=[.int i]∧Q (.int (if i<0 then -i else i)) H):=by
 intro pins s σ H xs us Q I r h
 obtain ⟨i,rfl,q⟩:=h
 obtain ⟨u,rfl,t,rfl⟩:=vals1 r
 exact call_abs_int λu tk=>⟨.int (if i<0 then -i else i),H,I.tok _,⟨_,rfl⟩,q⟩
theorem qdt (hc:X.calm=true):CallR X (.builtin "max") (λxs H Q=>∃ i j,xs=[.int i,.int j]∧Q (.int (if j>i then j else i)) H):=by
 intro pins s σ H xs us Q I r h
 obtain ⟨i,j,rfl,q⟩:=h
 obtain ⟨u,w',rfl,⟨t,rfl⟩,⟨t',rfl⟩⟩:=vals2 r
 refine max_two_ints (I.ok.hd hc) λh' tk k=>⟨_,H,I.kept k,?_,q⟩
 by_cases hj:j>i
 ·rw [wJ hj,wJ hj];exact ⟨_,rfl⟩
 ·rw [wK hj,wK hj];exact ⟨_,rfl⟩
theorem qdu (hc:X.calm=true):CallR X (.builtin "min") (λxs H Q=>∃ i j,xs=[.int i,.int j]∧Q (.int (if j<i then j else i)) H):=by
 intro pins s σ H xs us Q I r h
 obtain ⟨i,j,rfl,q⟩:=h
 obtain ⟨u,w',rfl,⟨t,rfl⟩,⟨t',rfl⟩⟩:=vals2 r
 refine min_two_ints (I.ok.hd hc) λh' tk k=>⟨_,H,I.kept k,?_,q⟩
 by_cases hj:j<i
 ·rw [wJ hj,wJ hj];exact ⟨_,rfl⟩
 ·rw [wK hj,wK hj];exact ⟨_,rfl⟩
noncomputable def LenV (K:PySem.W.Frag) (x:V) (H:Hp) (n:Nat):Prop :=
 match x with
 | .str y=>y.length≤sizeLine∧n=y.length
 | .byt y=>y.size≤sizeLine∧n=y.size
 | .ref p=>(∃ xs,SqL K H p xs∧n=xs.length)∨∃ xs,SqT K H p xs∧n=xs.length
 | _=>False
theorem qel:CallR X (.builtin "len") (λxs H Q=>∃ x n,xs=[x]∧LenV X.K x H n∧Q (.int n) H):=by
 intro pins s σ H xs us Q I r h
 obtain ⟨x,n,rfl,e,q⟩:=h
 obtain ⟨u,rfl,rx⟩:=vals1 r
 have hl:=line63
 have hs:sizeLine=16777216:=vJ
 cases x with
 | str y =>
  obtain ⟨t,rfl⟩:=rx
  obtain ⟨hy,e'⟩:y.length≤sizeLine∧n=y.length:=e
  subst e'
  exact len_str (by lia) ⟨.int _,H,I.tok _,⟨_,rfl⟩,q⟩
 | byt y =>
  obtain ⟨t,rfl⟩:=rx
  obtain ⟨hy,e'⟩:y.size≤sizeLine∧n=y.size:=e
  subst e'
  exact PySem.W.len_bytes (by lia) ⟨.int _,H,I.tok _,⟨_,rfl⟩,q⟩
 | ref p =>
  cases rx
  have e':(∃ xs,SqL X.K H p xs∧n=xs.length)∨∃ xs,SqT X.K H p xs∧n=xs.length:=e
  rcases e' with ⟨xs,hx,e'⟩ | ⟨xs,hx,e'⟩
  ·subst e'
   obtain ⟨its,r',pl,hz⟩:=I.list hx
   have hlen:=r'.length
   exact Calls.call_len_list pl.isList (by simp only [wF];lia) ⟨.int xs.length,H,I.tok _,⟨_,by simp only [wF];rw [hlen]⟩,q⟩
  ·subst e'
   obtain ⟨its,r',pl,hz⟩:=I.tuple hx
   have hlen:=r'.length
   exact len_tuple pl (by simp only [wF];lia) ⟨.int xs.length,H,I.tok _,⟨_,by simp only [wF];rw [hlen]⟩,q⟩
 | _=>exact (show False from e).elim
end
end L2
namespace L2
open PySem PySem.Spec PyProof.Rows
structure ObjM (h:Heap) (x dx C:Addr) (mA:Str→Option Value):Prop where
 obj:h.get? x=some (PySem.W.instObj C dx)
 ns:h.Ns1 dx mA
 ne:dx≠x
theorem qdv {h:Heap} {dx:Addr} {mA:Str→Option Value} (n:h.Ns1 dx mA):∃ od,h.get? dx=some od∧∀ name,PySem.W.lookIn name od=some (mA name):=by
 obtain ⟨o,es,ep,ho,hd,hk,_,hm⟩:=n
 refine ⟨o,ho,λname=>?_⟩
 have e:=hm name
 unfold nsFind findBy at e
 rw [← Array.find?_toList] at e
 unfold PySem.W.lookIn
 rw [hd]
 dsimp only
 split
 ·rename_i y q
  rw [q] at e
  exact congrArg some e
 ·rename_i q
  rw [q] at e
  have a:es.toList.any (·.refKey)=false:=by
   rw [List.any_eq_false]
   intro y hy
   obtain ⟨z,t,hkey⟩:=hk y (Array.mem_toList_iff.mp hy)
   simp [DictEntry.refKey,hkey]
  have a':¬ es.toList.any (·.refKey)=true:=by rw [a];exact wR
  rw [wK a']
  exact congrArg some e
theorem ObjM.look {h:Heap} {x dx C:Addr} {mA:Str→Option Value} (I:ObjM h x dx C mA):∃ od,PySem.W.InstAt h x (PySem.W.instObj C dx) C (some od)∧∀ name,PySem.W.lookIn name od=some (mA name) :=
 let ⟨od,ho,hl⟩:=qdv I.ns
 ⟨od,⟨I.obj,rfl,rfl,ho⟩,hl⟩
theorem RelO.some_of {v:V} {o:Option Value} (r:RelO (some v) o):∃ u,o=some u∧RelV v u:=by
 cases o with
 | none=>exact (show False from r).elim
 | some u=>exact ⟨u,rfl,r⟩
section
variable {P:Program} {w:World} {H H':Hp} {h h':Heap} {a C dx:Addr} {fs fs':List (Str × V)}
theorem qge (hok:HOk P w H h) (e:H a=some (.ins C dx fs)):∃ mA,ObjM h a dx C mA∧(∀ f,RelO (fs.lookup f) (mA f))∧PySem.Within mA (fs.map (·.1))∧fs.length≤1000∧H dx=some (.own a):=by
 obtain ⟨d,z,ne,ob,mA,n,r,q⟩:=(show ObjOk P w H h a (.ins C dx fs) from hok a _ e)
 exact ⟨mA,⟨ob,n,ne⟩,r,q,z,d⟩
end
structure Cls (K:PySem.W.Frag) (C:Addr):Prop where
 pg:PySem.W.plainGet K C Str.empty=true
 hd:PySem.W.hasDictIn K C=true
 po:PySem.W.plainOver K C=true
 sa:PySem.W.findIn K (.ref C) "__setattr__"=some (some (.builtin "object.__setattr__"))
theorem Cls.get {K:PySem.W.Frag} {C:Addr} (c:Cls K C) (f:Str):PySem.W.plainGet K C f=true:=c.pg
section
variable {X:Cx} {pins:List (Addr × Obj)} {σ:St} {H:Hp} {s:Shared} {A:Around} {E:Value→Shared→Prop} {Q:Value→Shared→Prop} {c:Value} {b:Bool}
inductive TyOf (K:PySem.W.Frag) (H:Hp):V→Value→Prop where
 | non:TyOf K H .non (.type "NoneType")
 | bl (x:Bool):TyOf K H (.bl x) (.type "bool")
 | int (i:Int):TyOf K H (.int i) (.type "int")
 | str (x:Str):TyOf K H (.str x) (.type "str")
 | flt (x:UInt64):TyOf K H (.flt x) (.type "float")
 | lst {a:Addr} {xs:List V} (e:H a=some (.lst xs)):TyOf K H (.ref a) (.type "list")
 | frz {a:Addr} {o:Obj} {xs:List V} (e:H a=some (.frz o (.lst xs))):TyOf K H (.ref a) (.type "list")
 | tup {a:Addr} {xs:List V} (e:H a=some (.tup xs)):TyOf K H (.ref a) (.type "tuple")
 | dK {a:Addr} {kvs:List (Key × V)} (e:H a=some (.dK kvs)):TyOf K H (.ref a) (.type "dict")
 | dT {a:Addr} {kvs:List (List Key × V)} (e:H a=some (.dT kvs)):TyOf K H (.ref a) (.type "dict")
 | ins {a C dx:Addr} {fs:List (Str × V)} (e:H a=some (.ins C dx fs)) (cl:Cls K C) (ha:PySem.W.findIn K (.ref C) "__class__"=some (some (.builtin "object.__class__")))
   (hn:PySem.W.specialIn K (.builtin "object.__class__") "__get__"=some (some (.builtin "getset_descriptor.__get__"))) (htk:PySem.W.takesIn K (.builtin "object.__class__")=some true)
   (hm:PySem.W.mroIn K C (.type "object")=some true):TyOf K H (.ref a) (.ref C)
theorem qdw {x:V} {u t:Value} (I:Inv X pins σ H s) (rx:RelV x u) (ty:TyOf X.K H x t) (e:PySem.W.kitOne X.K t c=some b) (h:∀ tk,Q (.bool b) { s with toks:=tk }) :
  wpAny (model X.prog X.w) A (call (.builtin "isinstance") [u,c]) Q E s:=by
 cases ty with
 | non=>cases (show u=Value.none from rx);exact wy PySem.W.kitx_none I.kIn True.intro e (λz=>nomatch z) h
 | bl y=>cases (show u=Value.bool y from rx);exact wy PySem.W.kitx_bool I.kIn True.intro e (λz=>nomatch z) h
 | int i=>obtain ⟨t,q⟩:=(show ∃ t,u=Value.int i t from rx);cases q;exact wy PySem.W.kitx_int I.kIn True.intro e (λz=>nomatch z) h
 | str y=>obtain ⟨t,q⟩:=(show ∃ t,u=Value.str y t from rx);cases q;exact wy PySem.W.kitx_str I.kIn True.intro e (λz=>nomatch z) h
 | flt y=>obtain ⟨t,q⟩:=(show ∃ t,u=Value.float y t from rx);cases q;exact wy PySem.W.kitx_float I.kIn True.intro e (λz=>nomatch z) h
 | @lst a xs ea =>
  cases (show u=Value.ref a from rx)
  obtain ⟨_,_,n,_,h1⟩:=(show ObjOk X.prog X.w H s.heap a (.lst xs) from I.hok a _ ea)
  exact wy PySem.W.kitx_list I.kIn ⟨_,h1,rfl⟩ e (λz=>nomatch z) h
 | @frz a ob xs ea =>
  cases (show u=Value.ref a from rx)
  obtain ⟨_,_,_,n,_,h1⟩:=(show ObjOk X.prog X.w H s.heap a (.frz ob (.lst xs)) from I.hok a _ ea)
  exact wy PySem.W.kitx_list I.kIn ⟨_,h1,rfl⟩ e (λz=>nomatch z) h
 | @tup a xs ea =>
  cases (show u=Value.ref a from rx)
  obtain ⟨_,_,_,p,_⟩:=(show ObjOk X.prog X.w H s.heap a (.tup xs) from I.hok a _ ea)
  obtain ⟨o,h1,h2,_⟩:=p
  exact wy PySem.W.kitx_tuple I.kIn ⟨o,h1,h2⟩ e (λz=>nomatch z) h
 | @dK a kvs ea =>
  cases (show u=Value.ref a from rx)
  obtain ⟨_,_,vs,_,p⟩:=(show ObjOk X.prog X.w H s.heap a (.dK kvs) from I.hok a _ ea)
  obtain ⟨o,es,ep,h1,h2,_⟩:=p
  exact wy PySem.W.kitx_dict I.kIn ⟨o,h1,h2.1⟩ e (λz=>nomatch z) h
 | @dT a kvs ea =>
  cases (show u=Value.ref a from rx)
  obtain ⟨_,_,xs,_,o,es,ep,h1,h2,_⟩:=(show ObjOk X.prog X.w H s.heap a (.dT kvs) from I.hok a _ ea)
  exact wy PySem.W.kitx_dict I.kIn ⟨o,h1,h2.1⟩ e (λz=>nomatch z) h
 | @ins a C dx fs ea cl ha hn htk hm =>
  cases (show u=Value.ref a from rx)
  obtain ⟨mA,O,_⟩:=qge I.hok ea
  obtain ⟨od,J,_⟩:=O.look
  exact wy (PySem.W.kitx_own (cl.get _) cl.hd ha hn htk hm) I.kIn J e (λz=>nomatch z) h
end
end L2
namespace L2
open PySem PySem.Spec PyProof.Rows
structure Room (k:Nat) (A:Around):Prop where
 hd:A.handled=none
 dp:A.depth+3*k+5<recursionLimit
 un:A.units+16*k+200<cLine
theorem Room.mono {j k:Nat} {A:Around} (r:Room k A) (h:j≤k):Room j A:=⟨r.hd,by have:=r.dp;lia,by have:=r.un;lia⟩
theorem Room.deeper {k:Nat} {A:Around} (r:Room (k+1) A) (env:Env):Room k (A.deeper env) :=
 ⟨r.hd,by have:=r.dp;show A.depth+1+3*k+5<_;lia,by have:=r.un;show A.units+3+16*k+200<_;lia⟩
theorem Room.depth {k:Nat} {A:Around} (r:Room k A):A.depth<recursionLimit:=by have:=r.dp;lia
theorem Room.units {k:Nat} {A:Around} (r:Room k A):A.units+64<cLine:=by have:=r.un;lia
noncomputable def tNil:TA:=λ_ H Q=>Q [] H
noncomputable def tCons (ta:TE) (tr:TA):TA:=λσ H Q=>ta σ H λx H1=>tr σ H1 λxs H2=>Q (x::xs) H2
section
variable {X:Cx} {e:Expr} {es:List Expr} {te:TE} {t:TA} {pos:Pos}
theorem jc:PA X [] tNil:=λ_ _ _ _ H Q I h=>Calls.spliced_nil ⟨[],H,I,.nil,h⟩
theorem zL (ha:PE X e te) (hr:PA X es t) (hs:starEach (e::es) X.env=(false,eval e X.env)::starEach es X.env:=by rfl):PA X (e::es) (tCons te t):=by
 intro pos pins s σ H Q I h
 rw [hs]
 show wpAny _ _ (spliced ((false,eval e X.env)::backTo pos (starEach es X.env))) _ _ s
 refine Calls.spliced_cons (thn (ha pins s σ H _ I h) λu s1 ⟨x,H1,I1,r1,q1⟩=>?_)
 exact thn (hr pos pins s1 σ H1 _ I1 q1) λus s2 ⟨xs,H2,I2,r2,q2⟩=>⟨x::xs,H2,I2,.cons r1 r2,q2⟩
noncomputable def tTup (t:TA):TE:=λσ H Q=>t σ H λxs H1=>xs.length≤sizeLine∧∀ p,H1 p=none→Q (.ref p) (upd H1 p (.tup xs))
noncomputable def tLst (t:TA):TE:=λσ H Q=>t σ H λxs H1=>xs.length≤sizeLine∧∀ p,H1 p=none→Q (.ref p) (upd H1 p (.lst xs))
theorem qh2 {x1} (h:PA X es t):PE X (.Tuple es x1 pos) (tTup t):=by
 intro pins s σ H Q I hq
 refine wpAny_Tuple_spliced (thn (h pos pins s σ H _ I hq) λus s1 ⟨xs,H1,I1,r,z,q⟩=>⟨by rw [← r.length];exact z,?_⟩)
 have hf:H1 s1.heap.objs.size=none:=I1.hok.fresh (wG _)
 refine ⟨.ref s1.heap.objs.size,upd H1 s1.heap.objs.size (.tup xs),I1.laid (t':=s1.toks) (λb u e=>wB _ e) (wG _) ?_,rfl,q _ hf⟩
 exact ⟨z,us,r,⟨_,wH _ rfl,rfl,_,rfl⟩,zZ _ _⟩
theorem qh3 (h:PA X es t):PE X (.List es pos) (tLst t):=by
 intro pins s σ H Q I hq
 refine wpAny_List_spliced (thn (h pos pins s σ H _ I hq) λus s1 ⟨xs,H1,I1,r,z,q⟩=>⟨by rw [← r.length];exact z,?_⟩)
 have hf:H1 s1.heap.objs.size=none:=I1.hok.fresh (wG _)
 refine ⟨.ref s1.heap.objs.size,upd H1 s1.heap.objs.size (.lst xs),I1.laid (t':=s1.toks) (λb u e=>wB _ e) (wG _) ?_,rfl,q _ hf⟩
 exact ⟨z,us,0,r,wH _ rfl⟩
end
noncomputable abbrev Sp:=List V→Hp→VK→XK→Prop
noncomputable abbrev CXT:=List Env→Hp→Shared→XK→Value→Shared→Prop
structure Env0 (P:Program) (w:World) (K:PySem.W.Frag) (mg:Str→Option Value) (base:Heap) (A:Around) (outer:List Env) (s:Shared) (H:Hp):Prop where
 frames:A.frames=some outer
 mod:Mod K mg base
 bs:∀ b o,base.get? b=some o→s.heap.get? b=some o∧H b=none
 bsz:base.objs.size≤s.heap.objs.size
 funs:s.heap.FunFrames base outer
 frf:∀ b∈frs outer,H b=none
 hok:HOk P w H s.heap
 bare:AllBare s.gens
 tab:∀ c T,codeTab K c T=true→∃ ps,H T=some (.tbl ps)
noncomputable def CE (outer:List Env) (P:Program) (w:World) (H:Hp) (s:Shared) (Q:VK) (u:Value) (s':Shared):Prop :=
 ∃ v H',s'.os=s.os∧GK s.gens s'.gens∧Un (frs outer) [] H H' s.heap s'.heap∧HOk P w H' s'.heap∧RelV v u∧Q v H'
noncomputable def CR (CX:CXT) (outer:List Env) (P:Program) (w:World) (H:Hp) (s:Shared) (Q:VK) (E:XK) (r:Result) (s':Shared):Prop :=
 match r with
 | .ok (.ret u)=>CE outer P w H s Q u s'
 | .ok _=>False
 | .error e=>CX outer H s E e s'
structure FnOk (P:Program) (w:World) (K:PySem.W.Frag) (mg:Str→Option Value) (base:Heap) (CX:CXT) (k:Nat) (f:Addr) (fd:FuncData) (ps:List Str) (sp:Sp):Prop where
 len:∀ vs H Q E,sp vs H Q E→vs.length=ps.length
 run:∀ (A:Around) (outer:List Env) (s:Shared) (H:Hp) (args:Args) (us:List Value) (vs:List V) (Q:VK) (E:XK),Room k A→Env0 P w K mg base A outer s H→BindsTo s fd args (ps.zip us)→Vals vs us→sp vs H Q E →
  codeAny (model P w) A (.call (.ref f) args) (CR CX outer P w H s Q E) s
section
variable {X:Cx} {pins:List (Addr × Obj)} {σ:St} {H:Hp} {s s':Shared}
theorem Inv.env0 (I:Inv X pins σ H s):Env0 X.prog X.w X.K X.mg X.base X.A X.stack s H :=
 ⟨I.ok.frames,I.ok.mod,I.bs,vA I.ok.bsz I.sz,I.stack,I.stkFree,I.hok,I.bare.bare,λc T z=>let ⟨ps,e⟩:=I.ok.tab c T z;let ⟨m,e'⟩:=I.base.tbls _ _ e;⟨_,e'⟩⟩
theorem Inv.after {Q:VK} {u:Value} (I:Inv X pins σ H s) (h:CE X.stack X.prog X.w H s Q u s'):EP X pins σ Q u s':=by
 obtain ⟨v,H',os,bare,un,hok,r,q⟩:=h
 obtain ⟨hh,g,d,t,os'⟩:=s'
 obtain rfl:os'=s.os:=os
 exact ⟨v,H',I.call (h':=hh) (g':=g) (d':=d) (t':=t) (ch:=[]) un hok bare (λb z=>absurd z (by simp)),r,q⟩
end
noncomputable def tCall (sp:Sp) (dvs:List V) (E:XK) (t:TA):TE:=λσ H Q=>t σ H λvs H1=>sp (vs++dvs) H1 Q E
noncomputable def Binds (K:PySem.W.Frag) (fd:FuncData) (ps:List Str) (ds:List Value):Prop :=
 ∀ (s:Shared) (us:List Value),K.In s.heap→(us++ds).length=ps.length→BindsTo s fd ⟨us,[]⟩ (ps.zip (us++ds))
theorem Binds.all {K:PySem.W.Frag} {fd:FuncData} {ps:List Str} (h:∀ us:List Value,us.length=ps.length→bindArgs fd ⟨us,[]⟩=pure (ps.zip us)):Binds K fd ps []:=λs us _ hl=>by
 rw [List.append_nil] at hl ⊢
 exact .of_eq (h us hl)
noncomputable def Passes (CX:CXT) (X:Cx) (E:XK):Prop:=∀ (pins:List (Addr × Obj)) (σ:St) (H:Hp) (s:Shared) (e:Value) (s':Shared),Inv X pins σ H s→CX X.stack H s E e s'→X.xe e s'
section
variable {X:Cx} {CX:CXT} {k:Nat} {f C:Addr} {fd:FuncData} {ps:List Str} {sp:Sp} {dvs:List V} {ds:List Value} {E:XK} {x m:Str} {p pos apos:Pos} {e o:Expr} {es:List Expr} {ta:TE} {t:TA}
theorem qh4 {pins:List (Addr × Obj)} {σ:St} {H:Hp} {s:Shared} {Q:VK} {us:List Value} {vs:List V} (F:FnOk X.prog X.w X.K X.mg X.base CX k f fd ps sp) (hr:Room k X.A) (hb:Binds X.K fd ps ds) (hd:Vals dvs ds) (hx:Passes CX X E)
  (I:Inv X pins σ H s) (r:Vals vs us) (h:sp (vs++dvs) H Q E):wpAny (model X.prog X.w) X.A (call (.ref f) us) (EP X pins σ Q) X.xe s:=by
 have r2:Vals (vs++dvs) (us++ds):=r.append hd
 have hl:(us++ds).length=ps.length:=by rw [← r2.length];exact F.len _ _ _ _ h
 refine wpAny_call (codeAny_mono (F.run X.A X.stack s H ⟨us,[]⟩ (us++ds) (vs++dvs) Q E hr I.env0 (hb s us I.kIn hl) r2 h) λr s' hq=>?_)
 cases r with
 | error e=>exact hx pins σ H s e s' I hq
 | ok fl =>
  cases fl with
  | ret u=>exact I.after hq
  | next=>exact False.elim hq
  | brk=>exact False.elim hq
  | cont=>exact False.elim hq
theorem qaD (F:FnOk X.prog X.w X.K X.mg X.base CX k f fd ps sp) (hr:Room k X.A) (hg:Gl X x) (hm:X.mg x=some (.ref f)) (hk:PySem.W.keepIn X.K (.ref f)=true) (hb:Binds X.K fd ps ds) (hd:Vals dvs ds) (hx:Passes CX X E)
  (ha:PA X (e::es) t) (hdb:(x == ("__debug__":Str))=false:=by decide) (he:starEach (e::es) X.env=(false,eval e X.env)::starEach es X.env:=by rfl) (hpl:(backTo pos (starEach es X.env)).any (·.1)=false:=by rfl) :
  PE X (.Call (.Name x p) (e::es) [] pos) (tCall sp dvs E t):=by
 intro pins s σ H Q I h
 refine wpAny_Call_Name_kw (yP I hg hm ?_ hdb)
 refine PySem.W.callWith_K (h₀:=X.base) I.ok.mod.kin hk (thn (ha pos pins s σ H _ I h) λus s1 ⟨vs,H1,I1,r,q⟩=>⟨I1.kIn,?_⟩) he hpl
 exact qh4 F hr hb hd hx I1 r q
end
structure FnScope (N P:List Str) (sc:Scope):Prop where
 kind:sc.kind=.function
 co:sc.isCoroutine=false
 gen:sc.isGenerator=false
 nd:N.Nodup
 pre:N.take P.length=P
 par:∀ x∈P,sc.names.lookup x=some .local∨sc.names.lookup x=some .cell
 nofree:∀ y∈sc.names,y.2≠.free
theorem qai {kindOf:Str→Option NameKind} {x:Str}:∀ {binds:List (Str × Value)} {m:Str→Option Value},(∀ v,(x,v) ∉ binds)→bindL kindOf binds m x=m x
 | [],_,_=>rfl
 | (n,v)::r,m,h=>by
  unfold bindL
  rw [qai λw hw=>h w (wM _ hw)]
  split
  ·have:x≠n:=by rintro rfl;exact h v wN
   simp [this]
  ·rfl
theorem qaj {kindOf:Str→Option NameKind} {x:Str}:∀ {binds:List (Str × Value)} {m:Str→Option Value},(∀ v,(x,v) ∉ binds)→bindC kindOf binds m x=m x
 | [],_,_=>rfl
 | (n,v)::r,m,h=>by
  unfold bindC
  rw [qaj λw hw=>h w (wM _ hw)]
  split
  ·rfl
  ·have:x≠n:=by rintro rfl;exact h v wN
   simp [this]
theorem qak {kindOf:Str→Option NameKind} {x:Str} {v:Value}:∀ {P:List Str} {vs:List Value} {i:Nat} {m:Str→Option Value},P.Nodup→P[i]?=some x→vs[i]?=some v→kindOf x=some .local →
  bindL kindOf (P.zip vs) m x=some v
 | [],_,_,_,_,h,_,_=>by simp at h
 | _::_,[],_,_,_,_,h,_=>by simp at h
 | p::P,w::vs,0,m,nd,h1,h2,hk=>by
  simp at h1 h2;subst h1;subst h2
  show bindL kindOf ((p,w)::P.zip vs) m p=_
  unfold bindL
  rw [qai λv hv=>(List.nodup_cons.mp nd).1 (List.of_mem_zip hv).1,wJ hk]
  simp
 | p::P,w::vs,i+1,m,nd,h1,h2,hk=>by
  show bindL kindOf ((p,w)::P.zip vs) m x=_
  unfold bindL
  exact qak (i:=i) (List.nodup_cons.mp nd).2 (by simpa using h1) (by simpa using h2) hk
theorem qal {kindOf:Str→Option NameKind} {x:Str} {v:Value}:∀ {P:List Str} {vs:List Value} {i:Nat} {m:Str→Option Value},P.Nodup→P[i]?=some x→vs[i]?=some v→kindOf x≠some .local →
  bindC kindOf (P.zip vs) m x=some v
 | [],_,_,_,_,h,_,_=>by simp at h
 | _::_,[],_,_,_,_,h,_=>by simp at h
 | p::P,w::vs,0,m,nd,h1,h2,hk=>by
  simp at h1 h2;subst h1;subst h2
  show bindC kindOf ((p,w)::P.zip vs) m p=_
  unfold bindC
  rw [qaj λv hv=>(List.nodup_cons.mp nd).1 (List.of_mem_zip hv).1,wK hk]
  simp
 | p::P,w::vs,i+1,m,nd,h1,h2,hk=>by
  show bindC kindOf ((p,w)::P.zip vs) m x=_
  unfold bindC
  exact qal (i:=i) (List.nodup_cons.mp nd).2 (by simpa using h1) (by simpa using h2) hk
noncomputable def start (N:List Str) (vs:List V):St:=vs.map some++List.replicate (N.length-vs.length) none
noncomputable def cxOf (CX:CXT) (P:Program) (w:World) (K:PySem.W.Frag) (mg:Str→Option Value) (base:Heap) (N:List Str) (qual:Str) (scope:Scope) (f:Addr) (cd:Value) (A:Around) (outer:List Env) (s:Shared) (H:Hp) (E:XK):Cx where
 prog:=P
 w:=w
 K:=K
 mg:=mg
 base:=base
 A:=A.deeper (envOfC qual scope s.heap.objs.size f cd)
 N:=N
 s₀:=s
 H₀:=H
 env:=envOfC qual scope s.heap.objs.size f cd
 outer:=outer
 stack:=envOfC qual scope s.heap.objs.size f cd::outer
 ex:=[]
 calm:=true
 fn:=λ_=>true
 pn:=[]
 xe:=λe s'=>wpAny (model P w) (A.deeper (envOfC qual scope s.heap.objs.size f cd)) (leaving (envOfC qual scope s.heap.objs.size f cd) e) (λ_ s''=>CX outer H s E e s'') (λe' s''=>CX outer H s E e' s'') s'
theorem qbg {sc:Scope} {n:Nat} {x:Str} (h:sc.names.lookup x=some .cell):∃ c,(cellsFrom n sc.names []).lookup x=some c:=by
 have q:=PySem.W.cellsFrom_some sc.names n [] (.inl h)
 exact Option.isSome_iff_exists.mp q
theorem qdx {CX:CXT} {P:Program} {w:World} {K:PySem.W.Frag} {mg:Str→Option Value} {base:Heap} {N ps:List Str} {qual:Str} {scope:Scope} {f:Addr} {cd:Value} {A:Around} {outer:List Env} {s s1:Shared} {H:Hp} {E:XK} {us:List Value} {vs:List V}
  (S:FnScope N ps scope) (hd:A.handled=none) (e0:Env0 P w K mg base A outer s H) (hl:vs.length=ps.length) (r:Vals vs us)
  (x:InCallC s s.heap.objs.size (bindL (envOfC qual scope s.heap.objs.size f cd).kindOf (ps.zip us) λ_=>none) (cellsFrom (s.heap.objs.size+1) scope.names []) (bindC (envOfC qual scope s.heap.objs.size f cd).kindOf (ps.zip us) λ_=>none) s1) :
  Inv (cxOf CX P w K mg base N qual scope f cd A outer s H E) [] (start N vs) H s1:=by
 have hpl:ps.length≤N.length:=by have:=congrArg List.length S.pre;rw [vF] at this;lia
 obtain ⟨h1,tk,rfl,hk⟩:=x.done
 have noA:∀ b:Addr,b ∉ (cxOf CX P w K mg base N qual scope f cd A outer s H E).ex:=λb z=>absurd (show b∈([]:List Addr) from z) (by simp)
 refine ⟨⟨e0.mod,S.kind,rfl,rfl,wG _,λy z c h1 h2=>?_,λy hy=>?_,λy c _ h=>?_,λ_=>hd,Around.frames_deeper e0.frames,.inr ⟨rfl,rfl⟩,λb z=>absurd z (noA b),e0.bs,e0.bsz,λb _ _=>noA b,λb z=>absurd z (noA b),e0.funs,e0.frf,e0.tab⟩,
  rfl,GK.refl e0.bare,Un.kept hk,⟨_,x.toInCall.ns,λi y v h1 h2 h3=>?_⟩,λy c h=>⟨_,x.cell y c h⟩,e0.hok.fresh (wG _),λy c h=>?_,λp hp=>absurd (show p∈([]:List (Addr × Obj)) from hp) (by simp),e0.hok.kept hk,?_⟩
 ·exact name_of_addr x.apart (vK h1) (vK h2)
 ·have hy:scope.names.lookup y=some .cell∨scope.names.lookup y=some .free:=hy
  rcases hy with hy | hy
  ·exact qbg hy
  ·exact absurd rfl (S.nofree _ (vK hy))
 ·exact Nat.le_of_lt (x.above y c (vK h))
 ·have hi:i<vs.length:=by
   unfold start at h2
   by_cases hi:i<vs.length
   ·exact hi
   ·rw [wZ (by simpa using hi)] at h2
    rw [List.getElem?_replicate] at h2
    split at h2 <;> cases h2
  have ha:vs[i]?=some v:=by
   unfold start at h2
   rw [wU (by simpa using hi),wY] at h2
   cases e:vs[i]? with
   | none=>rw [e] at h2;cases h2
   | some a=>rw [e] at h2;cases h2;rfl
  obtain ⟨u,hu,rv⟩:=r.get ha
  have hp:ps[i]?=some y:=by
   rw [← S.pre,List.getElem?_take_of_lt (by lia)];exact h1
  have ndP:ps.Nodup:=by rw [← S.pre];exact S.nd.sublist (List.take_sublist _ _)
  refine ⟨u,rv,?_⟩
  rcases S.par y (wq hp) with k | k
  ·exact .inl ⟨k,qak ndP hp hu k⟩
  ·obtain ⟨c,e⟩:=qbg (n:=s.heap.objs.size+1) k
   refine .inr ⟨.inl k,c,e,?_⟩
   have q:=x.cell y c e
   rw [qal ndP hp hu (by show scope.names.lookup y≠_;rw [k];decide)] at q
   exact q
 ·exact e0.hok.fresh (Nat.le_of_lt (x.above y c (vK h)))
 ·unfold start
  show _=N.length
  rw [wc,wP,List.length_replicate]
  lia
theorem qhp {CX:CXT} {P:Program} {w:World} {K:PySem.W.Frag} {mg:Str→Option Value} {base:Heap} {k:Nat} {f:Addr} {name qual:Str} {params:Arguments} {body:List Stmt} {scope:Scope} {dV kV doc pm cdv ct oc:Value} {an od:Option Addr}
  {osl:Array (Option Value)} {N ps:List Str} {sp:Sp} (lk:K.lookup f=some ⟨oc,od,.func (PySem.W.fnOf name qual params body scope dV kV doc pm an cdv ct),osl⟩) (hcd:PySem.W.codeIn K cdv qual=true) (S:FnScope N ps scope)
  (len:∀ vs H Q E,sp vs H Q E→vs.length=ps.length)
  (hbody:∀ (A:Around) (outer:List Env) (s:Shared) (H:Hp) (vs:List V) (Q:VK) (E:XK),Room k (A.deeper (envOfC qual scope s.heap.objs.size f cdv))→sp vs H Q E →
   ∃ t,PSs (cxOf CX P w K mg base N qual scope f cdv A outer s H E) body t∧t { nx:=λ_ H'=>Q .non H',rt:=Q } (start N vs) H) :
  FnOk P w K mg base CX (k+1) f (PySem.W.fnOf name qual params body scope dV kV doc pm an cdv ct) ps sp:=by
 refine ⟨len,λA outer s H args us vs Q E hr e0 hb r hsp=>?_⟩
 have hl:=len _ _ _ _ hsp
 have KX:K.In s.heap:=e0.mod.kin.keeps λb o e=>(e0.bs b o e).1
 have lim:s.heap.NoLimit:=e0.mod.nolimit.keeps λb o e=>(e0.bs b o e).1
 have hkind:∀ y∈ps.zip us,scope.names.lookup y.1=some .local∨(scope.names.lookup y.1=some .cell∧((cellsFrom (s.heap.objs.size+1) scope.names []).lookup y.1).isSome=true):=λ⟨n,v⟩ hy=>by
  rcases S.par n (List.of_mem_zip hy).1 with q | q
  ·exact .inl q
  ·exact .inr ⟨q,PySem.W.cellsFrom_some _ _ _ (.inl q)⟩
 refine codeAny_call_function hr.depth (KX _ _ lk) rfl S.co S.gen rfl (PySem.W.codeRec_of KX hcd) (hb _ _ _ _ ?_)
 refine wpAny_newFunctionEnv_cells S.kind hkind λenv he s1 x=>?_
 subst he
 refine ⟨lim.keeps x.toInCall.keep,codeAny_func ?_⟩
 obtain ⟨t,ht,hq⟩:=hbody A outer s H vs Q E (hr.deeper _) hsp
 have I:Inv (cxOf CX P w K mg base N qual scope f cdv A outer s H E) [] (start N vs) H s1:=qdx S hr.hd e0 hl r x
 refine wg (ht [] s1 (start N vs) H _ I hq) (λfl s' hs=>?_) λe s' hs=>hs
 have fin:∀ {σ':St} {H':Hp} {v:V} {u:Value},Inv (cxOf CX P w K mg base N qual scope f cdv A outer s H E) [] σ' H' s'→RelV v u→Q v H'→CE outer P w H s Q u s' :=
  λ{σ' H' v u} J rv q=>⟨v,H',J.os,J.bare,J.base,J.hok,rv,q⟩
 cases fl with
 | ret u =>
  obtain ⟨v,σ',H',J,rv,q⟩:=hs
  exact fin J rv q
 | next =>
  obtain ⟨σ',H',J,q⟩:=hs
  exact fin (v:=V.non) (u:=Value.none) J rfl q
 | brk =>
  obtain ⟨_,_,_,q⟩:=hs
  exact False.elim q
 | cont =>
  obtain ⟨_,_,_,q⟩:=hs
  exact False.elim q
end L2
namespace L2
open PySem PySem.Spec PyProof.Rows
section
variable {X:Cx} {x:Str} {p pos:Pos} {e:Expr} {es:List Expr} {t:TA} {id T:String} {r:List V→Hp→VK→Prop}
noncomputable def tCB (r:List V→Hp→VK→Prop) (t:TA):TE:=λσ H Q=>t σ H λvs H1=>r vs H1 Q
theorem jF (hc:CallR X (.builtin id) r) (hg:Gl X x) (hm:X.mg x=none) (hv:bootBuiltins x=some (.builtin id)) (ha:PA X (e::es) t) (hn:x≠"__name__":=by decide) (hdb:(x == ("__debug__":Str))=false:=by decide)
  (he:starEach (e::es) X.env=(false,eval e X.env)::starEach es X.env:=by rfl) (hpl:(backTo pos (starEach es X.env)).any (·.1)=false:=by rfl):PE X (.Call (.Name x p) (e::es) [] pos) (tCB r t):=by
 intro pins s σ H Q I h
 refine wpAny_Call_Name_kw (yH I hg hm hv ?_ hn hdb)
 exact PyProof.Rows.callWith_builtin1 (thn (ha pos pins s σ H _ I h) λus s1 ⟨vs,H1,I1,r1,q1⟩=>hc pins s1 σ H1 vs us Q I1 r1 q1) he hpl
theorem qdy (hc:CallR X (.type T) r) (hg:Gl X x) (hm:X.mg x=none) (hv:bootBuiltins x=some (.type T)) (ha:PA X (e::es) t) (hn:x≠"__name__":=by decide) (hdb:(x == ("__debug__":Str))=false:=by decide)
  (he:starEach (e::es) X.env=(false,eval e X.env)::starEach es X.env:=by rfl) (hpl:(backTo pos (starEach es X.env)).any (·.1)=false:=by rfl):PE X (.Call (.Name x p) (e::es) [] pos) (tCB r t):=by
 intro pins s σ H Q I h
 refine wpAny_Call_Name_kw (yH I hg hm hv ?_ hn hdb)
 exact PyProof.Rows.callWith_type1 (thn (ha pos pins s σ H _ I h) λus s1 ⟨vs,H1,I1,r1,q1⟩=>hc pins s1 σ H1 vs us Q I1 r1 q1) he hpl
end
end L2
namespace HT
open PySem PyProof.Rows
noncomputable def lexLt:List Int→List Int→Bool
 | [],[]=>false
 | [],_::_=>true
 | _::_,[]=>false
 | x::xs,y::ys=>if x=y then lexLt xs ys else decide (x<y)
theorem qZ (x y:Int) (xs ys:List Int):lexLt (x::xs) (y::ys)=if x=y then lexLt xs ys else decide (x<y):=rfl
theorem yC:lexLt [] []=false:=rfl
theorem yi (y:Int) (ys:List Int):lexLt [] (y::ys)=true:=rfl
theorem yj (x:Int) (xs:List Int):lexLt (x::xs) []=false:=rfl
theorem qbh (A:Around) (s:Shared) (a:Int) (t:Tok) (c:Int) (u:Tok):∃ e,SeqAt.EqAt A s (.int a t) (.int c u) e∧(e=true ↔ a=c) :=
 ⟨(a == c),SeqAt.EqAt.int_int a t c u,by simp⟩
theorem qem (A:Around) (s:Shared) (a:Int) (t:Tok) (c:Int) (u:Tok) (prog:Program) (w:World) (E:Value→Shared→Prop) (Q:Value→Shared→Prop) (h:Q (.bool (decide (a<c))) s) :
  wpAny (model prog w) A (richCompare .Lt (.int a t) (.int c u)) Q E s :=
 (PyProof.Rows.lt_int h:wpAny (model prog w) A (compareOp .Lt (.int a t) (.int c u)) Q E s)
section
open PySem.SeqAt
open PySem.AutoSeq1 (wpAny_loadPart')
open PySem.MeetsSeq PySem.MeetsSeq2 PySem.MeetsSeq3
theorem qab (l b:Addr) (items items2:Array Value) (n n2:Nat) (dd dd2:Option Addr) (sl sl2:Array (Option Value)) (ns ms:List Int) (hi:IntsAre items.toList ns) (hj:IntsAre items2.toList ms) :
  Meets (Builtin.«tuple.__lt__» ⟨[.ref l,.ref b],[]⟩)
   (λ_ R s=>s.heap.get? l=some { cls:=.type "tuple",dict:=dd,data:=.seq items n,slots:=sl }∧s.heap.get? b=some { cls:=.type "tuple",dict:=dd2,data:=.seq items2 n2,slots:=sl2 } ∧
    R (.ok (.ret (.bool (lexLt ns ms)))) s) :=
 .of_wp λprog w A R s h=>by
  obtain ⟨hp,g,d,tk,os⟩:=s;obtain ⟨hl,hb,h⟩:=h
  have f2:=AutoSeq1.sub_tuple_tuple
  have z1:items.size=ns.length:=by rw [← hi.length];simp
  have z2:items2.size=ms.length:=by rw [← hj.length];simp
  wp_walk using wpAny_loadPart' hl,wpAny_loadPart' hb,wpAny_forIn_list _ (λrest b s'=>b.1=none∧s'=⟨hp,g,d,tk,os⟩∧∃ (vs ws:List Value) (ns' ms':List Int),rest=vs.zip ws ∧
   IntsAre vs ns'∧IntsAre ws ms'∧ns'.length+items2.size=ms'.length+items.size∧R (.ok (.ret (.bool (lexLt ns' ms')))) ⟨hp,g,d,tk,os⟩) _
  case turn =>
   rintro ⟨y,x⟩ rest b s' ⟨hb',rfl,vs,ws,ns',ms',hz,hvi,hwi,hlen,hR⟩
   cases hvi with
   | nil=>rw [List.zip_nil_left] at hz;cases hz
   | cons a t hvi' =>
    cases hwi with
    | nil=>rw [List.zip_nil_right] at hz;cases hz
    | cons c u hwi' =>
     rw [List.zip_cons_cons] at hz
     injection hz with hyx hrest
     injection hyx with hy hx
     subst hy hx
     rw [qZ] at hR
     simp only [w5] at hlen
     obtain ⟨e,he,hiff⟩:=qbh A.in1 ⟨hp,g,d,tk,os⟩ a t c u
     refine wA (he prog w _ _ ?_)
     cases e with
     | true =>
      rw [wJ (hiff.mp rfl)] at hR
      wp_walk
      exact ⟨rfl,rfl,_,_,_,_,hrest,hvi',hwi',by lia,hR⟩
     | false =>
      rw [wK (λq=>absurd (hiff.mpr q) wR)] at hR
      have hri:=qem A.in1 ⟨hp,g,d,tk,os⟩ a t c u prog w
      wp_walk using hri
      exact ⟨_,rfl,by simpa using hR⟩
  case fin =>
   rintro ⟨b1,b2⟩ s' ⟨hb',rfl,vs,ws,ns',ms',hz,hvi,hwi,hlen,hR⟩
   simp only at hb'
   subst hb'
   have hv:lexLt ns' ms'=decide (items.size<items2.size):=by
    cases hvi with
    | nil =>
     cases hwi with
     | nil =>
      simp only [vD] at hlen
      rw [yC]
      exact (w6 (by lia)).symm
     | cons c u hw =>
      simp only [vD,w5] at hlen
      rw [yi]
      exact (wm (by lia)).symm
    | cons a t hv =>
     cases hwi with
     | nil =>
      simp only [vD,w5] at hlen
      rw [yj]
      exact (w6 (by lia)).symm
     | cons c u hw =>
      rw [List.zip_cons_cons] at hz
      cases hz
   rw [hv] at hR
   wp_walk
   exact ⟨_,rfl,by simpa [Builtin.Tuple.tupleCompareSizes] using hR⟩
  case h =>
   exact ⟨rfl,rfl,items.toList,items2.toList,ns,ms,rfl,hi,hj,by lia,h⟩
end
section
variable {prog:Program} {w:World} {A:Around} {E:Value→Shared→Prop} {s:Shared}
theorem qb6 {l b:Addr} {items items2:Array Value} {ns ms:List Int} {Q:Value→Shared→Prop} (hl:IsTup s.heap l items) (hb:IsTup s.heap b items2) (hi:IntsAre items.toList ns) (hj:IntsAre items2.toList ms)
  (hu:A.units<cLine) (h:Q (.bool (lexLt ns ms)) s):wpAny (model prog w) A (compareOp .Lt (.ref l) (.ref b)) Q E s:=by
 obtain ⟨⟨cls,dd,data,sl⟩,ho,hc,n,hd⟩:=id hl
 obtain ⟨⟨cls2,dd2,data2,sl2⟩,ho2,hc2,n2,hd2⟩:=id hb
 simp only at hc hd hc2 hd2
 subst hc hd hc2 hd2
 exact richCompare_meets_room (op:=.Lt) ⟨_,ho,rfl⟩ ⟨_,ho2,rfl⟩ PySem.F.slot_tuple_lt PySem.F.entry_tuple_lt (PySem.F.args_tuple_lt_2 _ _) (qab l b items items2 n n2 dd dd2 sl sl2 ns ms hi hj)
  ⟨ho,ho2,show Value.bool (lexLt ns ms)≠Value.notImplemented∧Q (.bool (lexLt ns ms)) s from ⟨(λx=>nomatch x),h⟩⟩ hu
theorem qgf {t b:Addr} {vs ws:List Value} {Q:Value→Shared→Prop} (ht:IsTup s.heap t vs.toArray) (hb:IsTup s.heap b ws.toArray) (hv:vs≠[])
  (h1:ws=[]→Q (.ref t) s) (h2:ws≠[]→Q (.ref s.heap.objs.size) { s with heap:=s.heap.push { cls:=.type "tuple",data:=.seq (vs++ws).toArray } })
  (hsz:vs.length+ws.length≤sizeLine):wpAny (model prog w) A (binaryOp .Add (.ref t) (.ref b)) Q E s:=by
 obtain ⟨⟨cls,dd,data,sl⟩,ho,hc,n,hd⟩:=id ht
 obtain ⟨⟨cls2,dd2,data2,sl2⟩,ho2,hc2,n2,hd2⟩:=id hb
 simp only at hc hd hc2 hd2
 subst hc hd hc2 hd2
 have e:vs.toArray++ws.toArray=(vs++ws).toArray:=by simp
 by_cases hw:ws=[]
 ·exact concat_meets ⟨_,ho,rfl⟩ ⟨_,ho2,rfl⟩ noFill_tuple_add seq_tuple_add PySem.F.slot_tuple_add PySem.F.entry_tuple_add (PySem.F.args_tuple_add_2 _ _)
   (tuple_addW1 t b vs.toArray ws.toArray n n2 dd dd2 sl sl2 (by simpa using hv) (by simp [hw])) ⟨ho,ho2,h1 hw⟩
 ·refine concat_meets ⟨_,ho,rfl⟩ ⟨_,ho2,rfl⟩ noFill_tuple_add seq_tuple_add PySem.F.slot_tuple_add PySem.F.entry_tuple_add (PySem.F.args_tuple_add_2 _ _)
   (tuple_addW2 t b vs.toArray ws.toArray n n2 dd dd2 sl sl2 (by simpa using hv) (by simpa using hw) (by rw [wF,wF];exact hsz)) ⟨ho,ho2,?_⟩
  rw [e]
  exact h2 hw
noncomputable def sIx (n d:Nat):Option Int→Nat
 | none=>d
 | some v=>if v<0 then (v+(n:Int)).toNat else min v.toNat n
theorem qh5 (n d:Nat) (hd:d≤n) (o:Option Int):sIx n d o≤n:=by
 cases o with
 | none=>exact hd
 | some v =>
  show (if v<0 then (v+(n:Int)).toNat else min v.toNat n)≤n
  by_cases hv:v<0
  ·rw [wJ hv];lia
  ·rw [wK hv];exact Nat.min_le_right _ _
theorem qcC (v:Int) (n d:Nat):(if v<0 then max (v+(n:Int)) 0 else min v (n:Int))=((sIx n d (some v):Nat):Int):=by
 show (if v<0 then max (v+(n:Int)) 0 else min v (n:Int))=(((if v<0 then (v+(n:Int)).toNat else min v.toNat n):Nat):Int)
 by_cases hv:v<0
 ·simp only [wJ hv];lia
 ·simp only [wK hv];lia
theorem qb7 (lo hi:Option Int) (n:Nat):Builtin.Slice.sliceAdjust lo hi 1 (n:Int)=(((sIx n 0 lo:Nat):Int),((sIx n n hi:Nat):Int)):=by
 have h1:¬ ((1:Int)<0):=by lia
 unfold Builtin.Slice.sliceAdjust
 simp only [h1,if_false]
 refine Prod.ext ?_ ?_
 ·cases lo with
  | none=>rfl
  | some v=>exact qcC v n 0
 ·cases hi with
  | none=>rfl
  | some v=>exact qcC v n n
theorem qb8 (i j:Nat):Builtin.Slice.slicePlaces (i:Int) (j:Int) 1=j-i:=by
 unfold Builtin.Slice.slicePlaces
 have h1:(1:Int)>0:=by lia
 simp only [h1,if_true,Int.ediv_one]
 split <;> lia
theorem yI {v:Value} {o:Option Int} {Q:Option Int→Shared→Prop} (p:IsPart v o) (h:Q o s):wpAny (model prog w) A (Builtin.Slice.slicePartIndex v) Q E s:=by
 cases p with
 | none=>exact slicePart_none h
 | int i t=>exact slicePart_int h
theorem zT {sl:Addr} {vl vu:Value} {lo hi:Option Int} {n:Nat} {Q:Int × Int × Nat→Shared→Prop} (hs:s.heap.IsSliceOf sl vl vu .none) (pl:IsPart vl lo) (pu:IsPart vu hi)
  (h:Q (((sIx n 0 lo:Nat):Int),1,sIx n n hi-sIx n 0 lo) s):wpAny (model prog w) A (Builtin.Slice.sliceApplied (.ref sl) (pure (n:Int))) Q E s:=by
 obtain ⟨os,hos,hcs,hds⟩:=id hs
 unfold Builtin.Slice.sliceApplied Builtin.Slice.sliceFields
 refine wA (wA (wd hos hds (x:=vl) rfl (wA (wd hos hds (x:=vu) rfl (wA (wd hos hds (x:=.none) rfl (wC ?_)))))))
 refine wA (slicePart_none ?_)
 show wpAny _ _ (if ((1:Int) == 0)=true then _ else _) _ _ s
 rw [wK (by decide)]
 refine wA (yI pl (wA (yI pu (wA (wC ?_)))))
 show wpAny _ _ (match Builtin.Slice.sliceAdjust lo hi 1 (n:Int) with | (lo,hi)=>pure (lo,(1:Int),Builtin.Slice.slicePlaces lo hi 1)) _ _ s
 rw [qb7 lo hi n]
 show wpAny _ _ (pure (((sIx n 0 lo:Nat):Int),(1:Int),Builtin.Slice.slicePlaces ((sIx n 0 lo:Nat):Int) ((sIx n n hi:Nat):Int) 1)) _ _ s
 rw [qb8]
 exact wC h
theorem qen (xs:Array Value) (i k:Nat):((List.range k).filterMap λ(m:Nat)=>xs[((i:Int)+(m:Int)*1).toNat]?).toArray=((xs.toList.drop i).take k).toArray:=by
 have e:(λ(m:Nat)=>xs[((i:Int)+(m:Int)*1).toNat]?)=λm=>xs[i+m]?:=by
  funext m
  have:((i:Int)+(m:Int)*1).toNat=i+m:=by lia
  rw [this]
 rw [e]
 have:=pick_run xs i k
 rw [List.filterMap_map] at this
 have e2:((λx=>xs[x]?)∘λx=>i+x)=λm=>xs[i+m]?:=rfl
 rw [e2] at this
 rw [this]
theorem yQ {t sl:Addr} {items:Array Value} {vl vu:Value} {lo hi:Option Int} {Q:Value→Shared→Prop} (ht:IsTup s.heap t items) (hs:s.heap.IsSliceOf sl vl vu .none) (pl:IsPart vl lo) (pu:IsPart vu hi)
  (hw:¬ (sIx items.size 0 lo=0∧sIx items.size items.size hi=items.size))
  (h:Q (.ref s.heap.objs.size) { s with heap:=s.heap.push { cls:=.type "tuple",data:=.seq ((items.toList.drop (sIx items.size 0 lo)).take (sIx items.size items.size hi-sIx items.size 0 lo)).toArray } })
  (hsz:items.size≤sizeLine):wpAny (model prog w) A (getItem (.ref t) (.ref sl)) Q E s:=by
 have htake:sizeOk (.seq ((items.toList.drop (sIx items.size 0 lo)).take (sIx items.size items.size hi-sIx items.size 0 lo)).toArray):=by
  show ((items.toList.drop (sIx items.size 0 lo)).take (sIx items.size items.size hi-sIx items.size 0 lo)).toArray.size≤sizeLine
  rw [wF,vF,List.length_drop,Array.length_toList]
  lia
 have hj:sIx items.size items.size hi≤items.size:=qh5 _ _ (wG _) hi
 obtain ⟨os,hos,hcs,hds⟩:=id hs
 have hTs:s.TypeIs (.ref sl) "slice":=⟨os,hos,hcs⟩
 unfold getItem
 try with_reducible refine wp ?_
 first | refine wA (wC ?_) | skip
 refine wA (wpAny_sequenceKey ht.typeIs (by decide) ?_)
 refine wA (wb (name:=Str.ofString "__getitem__") ht.typeIs w4
  (wj w4 ht.typeIs entry_tuple_getitem ?_ (args_tuple_getitem _ _)))
 show wpAny _ _ (Builtin.Tuple.tupleItemsOf (.ref t) >>= _) _ _ s
 refine wA (tupleItemsOf_ ht ?_)
 refine wA (wpAny_typeOf hTs ?_)
 rw [wJ (by decide)]
 refine wA (zT hs pl pu ?_)
 have hno:¬ ((((sIx items.size 0 lo:Nat):Int) == 0&&(1:Int) == 1&&(sIx items.size items.size hi-sIx items.size 0 lo) == items.size)=true):=by
  intro q
  rw [wL,wL] at q
  have q1:((sIx items.size 0 lo:Nat):Int)=0:=eq_of_beq q.1.1
  have q2:sIx items.size items.size hi-sIx items.size 0 lo=items.size:=eq_of_beq q.2
  exact hw ⟨by lia,by lia⟩
 show wpAny _ _ (if (((sIx items.size 0 lo:Nat):Int) == 0&&(1:Int) == 1&&(sIx items.size items.size hi-sIx items.size 0 lo) == items.size)=true then _ else _) _ _ s
 rw [wK hno,qen]
 first
  | exact wA (m:=Builtin.Tuple.tupleExact _) (wT (wC ⟨_,rfl,wC h⟩) htake)
  | exact wA (m:=Builtin.Tuple.tupleExact _) (wT (wA (wC (wC ⟨_,rfl,wC h⟩))) htake)
  | exact wA (wA (m:=Builtin.Tuple.tupleExact _) (wT (wC (wC ⟨_,rfl,wC h⟩)) htake))
  | exact wA (wA (m:=Builtin.Tuple.tupleExact _) (wT (wC ⟨_,rfl,wC h⟩) htake))
end
end HT
namespace L2
open PySem PySem.Spec PyProof.Rows
noncomputable abbrev TO:=St→Hp→(Option Int→Hp→Prop)→Prop
noncomputable def PO (X:Cx) (e:Option Expr) (t:TO):Prop :=
 ∀ (pins:List (Addr × Obj)) (s:Shared) (σ:St) (H:Hp) (Q:Option Int→Hp→Prop),Inv X pins σ H s→t σ H Q →
  wpAny (model X.prog X.w) X.A (evalPart e X.env) (λu s'=>∃ o H',Inv X pins σ H' s'∧IsPart u o∧Q o H') X.xe s
noncomputable def tNoPart:TO:=λ_ H Q=>Q none H
noncomputable def tPart (t:TE):TO:=λσ H Q=>t σ H λx H1=>∃ i,x=.int i∧Q (some i) H1
theorem zr {ns:List Int}:∀ {us:List Value},Vals (ns.map V.int) us→IntsAre us ns:=by
 induction ns with
 | nil=>intro us r;rw [List.map_nil] at r;cases r;exact .nil
 | cons n ns ih =>
  intro us r
  rw [wa] at r
  cases r with
  | cons r1 r2 =>
   obtain ⟨t,e⟩:=r1
   subst e
   exact .cons n t (ih r2)
section
variable {X:Cx} {e:Expr} {te:TE} {lo hi:Option Expr} {tl th:TO} {pos p2:Pos}
theorem qgg:PO X none tNoPart:=by
 intro pins s σ H Q I h
 rw [evalPart_none]
 exact wC ⟨none,H,I,.none,h⟩
theorem qcD (h:PE X e te):PO X (some e) (tPart te):=by
 intro pins s σ H Q I hw
 rw [evalPart_some]
 refine thn (h pins s σ H _ I hw) λu s1 ⟨x,H1,I1,r1,q1⟩=>?_
 obtain ⟨i,rfl,q⟩:=q1
 obtain ⟨t,rfl⟩:=r1
 exact ⟨some i,H1,I1,.int i t,q⟩
noncomputable def SlR (X:Cx) (r:V→Option Int→Option Int→Hp→VK→Prop):Prop :=
 ∀ (pins:List (Addr × Obj)) (s:Shared) (σ:St) (H:Hp) (x:V) (v vl vu:Value) (lo hi:Option Int) (sl:Addr) (Q:VK),Inv X pins σ H s→RelV x v→s.heap.IsSliceOf sl vl vu .none→IsPart vl lo→IsPart vu hi→r x lo hi H Q →
  ∃ T id,typeLookup (.type T) "__getitem__"=pure (some (.builtin id))∧s.TypeIs v T∧wpAny (model X.prog X.w) X.A (getItem v (.ref sl)) (EP X pins σ Q) X.xe s
theorem SlR.or {r r':V→Option Int→Option Int→Hp→VK→Prop} (h:SlR X r) (h':SlR X r'):SlR X (λx lo hi H Q=>r x lo hi H Q∨r' x lo hi H Q):=by
 intro pins s σ H x v vl vu lo hi sl Q I rx hs pl pu q
 rcases q with q | q
 ·exact h pins s σ H x v vl vu lo hi sl Q I rx hs pl pu q
 ·exact h' pins s σ H x v vl vu lo hi sl Q I rx hs pl pu q
noncomputable def tSl (r:V→Option Int→Option Int→Hp→VK→Prop) (te:TE) (tl th:TO):TE:=λσ H Q=>te σ H λx H1=>tl σ H1 λl H2=>th σ H2 λu H3=>r x l u H3 Q
theorem qeo {r:V→Option Int→Option Int→Hp→VK→Prop} (hr:SlR X r) (he:PE X e te) (hl:PO X lo tl) (hu:PO X hi th):PE X (.Subscript e (.Slice lo hi none p2) pos) (tSl r te tl th):=by
 intro pins s σ H Q I h
 refine Subscript_ (thn (he pins s σ H _ I h) λv s1 ⟨x,H1,I1,r1,q1⟩=>?_)
 refine wpAny_Slice (thn (hl pins s1 σ H1 _ I1 q1) λvl s2 ⟨l,H2,I2,pl,q2⟩=>thn (hu pins s2 σ H2 _ I2 q2) λvu s3 ⟨u,H3,I3,pu,q3⟩=>?_)
 rw [evalPart_none]
 refine wC ?_
 have I4:Inv X pins σ H3 { s3 with heap:=s3.heap.push { cls:=.type "slice",data:=.fields #[vl,vu,.none] } }:=I3.kept (t':=s3.toks) λb ob q=>wB _ q
 obtain ⟨T,id,hT,ht,hg⟩:=hr pins { s3 with heap:=s3.heap.push { cls:=.type "slice",data:=.fields #[vl,vu,.none] } } σ H3 x v vl vu l u s3.heap.objs.size Q I4 r1 (Heap.IsSliceOf.new ..) pl pu q3
 show wpAny (model X.prog X.w) X.A (subscriptTail e (.Slice lo hi none p2) v (.ref s3.heap.objs.size)) (EP X pins σ Q) X.xe { s3 with heap:=s3.heap.push { cls:=.type "slice",data:=.fields #[vl,vu,.none] } }
 exact tail_any (ops:=[.ref s3.heap.objs.size,v]) ht hT hg (by with_unfolding_all rfl)
noncomputable def cutV (xs:List V) (lo hi:Option Int):List V:=(xs.drop (HT.sIx xs.length 0 lo)).take (HT.sIx xs.length xs.length hi-HT.sIx xs.length 0 lo)
theorem jq (xs:List V) (lo hi:Option Int):(cutV xs lo hi).length≤xs.length:=by
 unfold cutV
 rw [vF,List.length_drop]
 lia
noncomputable def rSlT (K:PySem.W.Frag):V→Option Int→Option Int→Hp→VK→Prop:=λx lo hi H Q=>∃ a xs,x=.ref a∧SqT K H a xs ∧
 ¬ (HT.sIx xs.length 0 lo=0∧HT.sIx xs.length xs.length hi=xs.length)∧∀ p,H p=none→Q (.ref p) (upd H p (.tup (cutV xs lo hi)))
theorem qh6:SlR X (rSlT X.K):=by
 intro pins s σ H x v vl vu lo hi sl Q I rx hs pl pu h
 obtain ⟨a,xs,rfl,hx,hw,q⟩:=h
 cases rx
 obtain ⟨its,r,ht,hz⟩:=I.tuple hx
 have hlen:its.toArray.size=xs.length:=by rw [wF];exact r.length.symm
 refine ⟨"tuple",_,w4.lookup,ht.typeIs,?_⟩
 refine HT.yQ ht hs pl pu (by rw [hlen];exact hw) ?_ (by rw [hlen];exact hz)
 rw [hlen]
 refine ⟨.ref s.heap.objs.size,_,I.laid (t':=s.toks) (o:=.tup (cutV xs lo hi)) (λb ob q=>wB _ q) (wG _) ?_,rfl,q _ (I.hok.fresh (wG _))⟩
 exact ⟨vA (jq xs lo hi) hz,_,(r.drop (HT.sIx xs.length 0 lo)).take (HT.sIx xs.length xs.length hi-HT.sIx xs.length 0 lo),IsTup.new _ _,zZ _ _⟩
noncomputable def rLtT (K:PySem.W.Frag):R2:=λx y H Q=>∃ a b ns ms,x=.ref a∧y=.ref b∧SqT K H a (ns.map V.int)∧SqT K H b (ms.map V.int)∧Q (.bl (HT.lexLt ns ms)) H
theorem qh7 (hu:X.A.units<cLine):OpR X (compareOp .Lt) (rLtT X.K):=by
 intro pins s σ H x y v u Q I rx ry h
 obtain ⟨a,b,ns,ms,rfl,rfl,ha,hb,q⟩:=h
 cases rx
 cases ry
 obtain ⟨its,r1,p1,_⟩:=I.tuple ha
 obtain ⟨its2,r2,p2,_⟩:=I.tuple hb
 have i1:IntsAre its.toArray.toList ns:=zr r1
 have i2:IntsAre its2.toArray.toList ms:=zr r2
 exact HT.qb6 p1 p2 i1 i2 hu ⟨.bl (HT.lexLt ns ms),H,I,rfl,q⟩
noncomputable def rCatT (K:PySem.W.Frag):R2:=λx y H Q=>∃ a b xs ys,x=.ref a∧y=.ref b∧SqT K H a xs∧SqT K H b ys∧xs≠[]∧xs.length+ys.length≤sizeLine ∧
 (ys=[]→Q (.ref a) H)∧(ys≠[]→∀ p,H p=none→Q (.ref p) (upd H p (.tup (xs++ys))))
theorem Vals.nil_iff {xs:List V} {us:List Value} (r:Vals xs us):us=[] ↔ xs=[]:=by
 cases r with
 | nil=>simp
 | cons _ _=>simp
theorem qgh:OpR X (binaryOp .Add) (rCatT X.K):=by
 intro pins s σ H x y v u Q I rx ry h
 obtain ⟨a,b,xs,ys,rfl,rfl,ha,hb,hx,hz,q1,q2⟩:=h
 cases rx
 cases ry
 obtain ⟨its,r1,p1,_⟩:=I.tuple ha
 obtain ⟨its2,r2,p2,_⟩:=I.tuple hb
 refine HT.qgf p1 p2 (λz=>hx (r1.nil_iff.mp z)) (λz=>⟨.ref a,H,I,rfl,q1 (r2.nil_iff.mp z)⟩) (λz=>?_) (by rw [← r1.length,← r2.length];exact hz)
 refine ⟨.ref s.heap.objs.size,_,I.laid (t':=s.toks) (o:=.tup (xs++ys)) (λb ob q=>wB _ q) (wG _) ?_,rfl,q2 (λw=>z (r2.nil_iff.mpr w)) _ (I.hok.fresh (wG _))⟩
 exact ⟨by rw [wc];exact hz,_,r1.append r2,IsTup.new _ _,zZ _ _⟩
end
end L2
namespace L2
open PySem PySem.Spec PyProof.Rows
noncomputable def ixN (n:Nat) (i:Int):Option Nat:=if 0≤i then (if i<n then some i.toNat else none) else if -(n:Int)≤i then some (i+n).toNat else none
noncomputable def atI {α:Type} (xs:List α) (i:Int):Option α:=(ixN xs.length i).bind λj=>xs[j]?
theorem qcE {n:Nat} {i:Int} {j:Nat} (h:ixN n i=some j):seqIndex? i n=some j∧j<n∧-(n:Int)≤i∧i<n:=by
 unfold ixN at h
 by_cases h0:0≤i
 ·rw [wJ h0] at h
  by_cases h1:i<n
  ·rw [wJ h1] at h
   have e:i.toNat=j:=Option.some.inj h
   exact ⟨by rw [seqIndex_of h0 h1,e],by lia,by lia,h1⟩
  ·rw [wK h1] at h;cases h
 ·rw [wK h0] at h
  by_cases h1:-(n:Int)≤i
  ·rw [wJ h1] at h
   have e:(i+n).toNat=j:=Option.some.inj h
   exact ⟨by rw [seqIndex_neg (by lia) h1,e],by lia,h1,by lia⟩
  ·rw [wK h1] at h;cases h
theorem qcF {α:Type} {xs:List α} {i:Int} {v:α} (h:atI xs i=some v):∃ j,seqIndex? i xs.length=some j∧xs[j]?=some v∧j<xs.length∧-(xs.length:Int)≤i∧i<xs.length:=by
 unfold atI at h
 cases e:ixN xs.length i with
 | none=>rw [e] at h;cases h
 | some j =>
  rw [e] at h
  obtain ⟨h1,h2,h3,h4⟩:=qcE e
  exact ⟨j,h1,h,h2,h3,h4⟩
noncomputable def PlainIx (b:Expr):Prop:=∀ o i,subscripted b false o i=operate [o,i] (getItem o i)
noncomputable def IxR (X:Cx) (r:R2):Prop :=
 ∀ (value slice:Expr) (pins:List (Addr × Obj)) (s:Shared) (σ:St) (H:Hp) (x y:V) (v u:Value) (Q:VK),Inv X pins σ H s→RelV x v→RelV y u→r x y H Q →
  subscripted slice false v u=operate [v,u] (getItem v u)→wpAny (model X.prog X.w) X.A (subscriptTail value slice v u) (EP X pins σ Q) X.xe s
noncomputable def MtR (X:Cx) (id:String) (r:V→List V→Hp→VK→Prop):Prop :=
 ∀ (pins:List (Addr × Obj)) (s:Shared) (σ:St) (H:Hp) (x:V) (xs:List V) (v:Value) (us:List Value) (Q:VK),Inv X pins σ H s→RelV x v→Vals xs us→r x xs H Q →
  wpAny (model X.prog X.w) X.A (call (.builtin id) (v::us)) (EP X pins σ Q) X.xe s
section
variable {X:Cx} {a b:Expr} {ta tb:TE} {pos:Pos}
theorem IxR.or {r r':R2} (h:IxR X r) (h':IxR X r'):IxR X (λx y H Q=>r x y H Q∨r' x y H Q):=by
 intro value slice pins s σ H x y v u Q I rx ry q hs
 rcases q with q | q
 ·exact h value slice pins s σ H x y v u Q I rx ry q hs
 ·exact h' value slice pins s σ H x y v u Q I rx ry q hs
theorem qjs {r:R2} (hr:IxR X r) (ha:PE X a ta) (hb:PE X b tb) (hs:PlainIx b):PE X (.Subscript a b pos) (tOp r ta tb):=by
 intro pins s σ H Q I h
 exact Subscript_ (binT ha hb I h λv u s2 x y H2 I2 rx ry q=>hr a b pins s2 σ H2 x y v u Q I2 rx ry q (hs _ _))
noncomputable def rIxL (K:PySem.W.Frag):R2:=λx y H Q=>∃ p xs i v,x=.ref p∧y=.int i∧SqL K H p xs∧atI xs i=some v∧Q v H
noncomputable def rIxT (K:PySem.W.Frag):R2:=λx y H Q=>∃ p xs i v,x=.ref p∧y=.int i∧SqT K H p xs∧atI xs i=some v∧Q v H
theorem qgi:IxR X (rIxL X.K):=by
 intro value slice pins s σ H x y v u Q I rx ry h hs
 obtain ⟨p,xs,i,z,rfl,rfl,hq,he,q⟩:=h
 cases rx
 obtain ⟨t,rfl⟩:=ry
 obtain ⟨its,r,pl,hz⟩:=I.list hq
 obtain ⟨j,h1,h2,h3,h4,h5⟩:=qcF he
 obtain ⟨w,ew,rw'⟩:=r.get h2
 have hl:=r.length
 have hn:=line63
 have fin:EP X pins σ Q w s:=⟨z,H,I,rw',q⟩
 by_cases h0:0≤i
 ·have hj:i.toNat=j:=by
   rw [seqIndex_of h0 h5] at h1
   exact Option.some.inj h1
  exact item_listR pl.isList h0 (by lia) (by rw [hj];simpa using ew) fin hs
 ·have hj:(i+(its.toArray.size:Int)).toNat=j:=by
   rw [seqIndex_neg (by lia) h4] at h1
   rw [wF,← hl]
   exact Option.some.inj h1
  exact subscriptTail_builtinR (x:=w) pl.isList.typeIs slot_list_getitem.lookup
   (wpAny_getItem_list_neg (Q:=λr s'=>r=w∧EP X pins σ Q r s') pl.isList (by lia) (by rw [wF] <;> lia) (by lia) (by rw [hj];simpa using ew) ⟨rfl,fin⟩) hs
theorem qh8:IxR X (rIxT X.K):=by
 intro value slice pins s σ H x y v u Q I rx ry h hs
 obtain ⟨p,xs,i,z,rfl,rfl,hq,he,q⟩:=h
 cases rx
 obtain ⟨t,rfl⟩:=ry
 obtain ⟨its,r,pl,hz⟩:=I.tuple hq
 obtain ⟨j,h1,h2,h3,h4,h5⟩:=qcF he
 obtain ⟨w,ew,rw'⟩:=r.get h2
 have hl:=r.length
 have hn:=line63
 have fin:EP X pins σ Q w s:=⟨z,H,I,rw',q⟩
 exact subscriptTail_builtinR (x:=w) pl.typeIs slot_tuple_getitem.lookup
  (getItem_tuple (j:=j) (Q:=λr s'=>r=w∧EP X pins σ Q r s') pl (by lia) (by lia) (by rw [wF,← hl];exact h1) (by simpa using ew) ⟨rfl,fin⟩) hs
theorem qb9 (its:List Value) (n j:Nat) (u:Value):Obj.mapSeq (·.setIfInBounds j u) { cls:=.type "list",data:=.seq its.toArray n }={ cls:=.type "list",data:=.seq (its.set j u).toArray n }:=by
 simp [Obj.mapSeq]
theorem Inv.lst {pins:List (Addr × Obj)} {σ:St} {H:Hp} {s:Shared} {p:Addr} {xs:List V} (I:Inv X pins σ H s) (h:H p=some (.lst xs)) :
  ∃ (its:List Value) (n:Nat),Vals xs its∧s.heap.get? p=some { cls:=.type "list",data:=.seq its.toArray n }∧xs.length≤sizeLine:=by
 obtain ⟨z,its,n,r,e⟩:=I.hok p _ h
 exact ⟨its,n,r,e,z⟩
theorem Inv.lstUpd {pins:List (Addr × Obj)} {σ:St} {H:Hp} {s:Shared} {p:Addr} {xs ys:List V} {its its':List Value} {n n':Nat} {f:Obj→Obj} (I:Inv X pins σ H s) (h:H p=some (.lst xs))
  (ho:s.heap.get? p=some { cls:=.type "list",data:=.seq its.toArray n }) (hf:f { cls:=.type "list",data:=.seq its.toArray n }={ cls:=.type "list",data:=.seq its'.toArray n' }) (r:Vals ys its') (hz:ys.length≤sizeLine) (t:Nat) :
  Inv X pins σ (upd H p (.lst ys)) { s with heap:=s.heap.update p f,toks:=t }:=by
 have e:(s.heap.update p f).get? p=some { cls:=.type "list",data:=.seq its'.toArray n' }:=by
  rw [wv f ho (by rw [hf] <;> rfl),hf]
 refine I.write (x:=p) (e:=p) (by rw [h];trivial) (.inl rfl) (λb u hb q=>(wS _ _ (Ne.symm hb)).trans q) ⟨_,e⟩ ?_
 exact ⟨hz,its',n',r,e⟩
noncomputable def rSetL:V→V→V→Hp→(Hp→Prop)→Prop:=λo i v H Q=>∃ p xs k j,o=.ref p∧i=.int k∧H p=some (.lst xs)∧ixN xs.length k=some j∧Q (upd H p (.lst (xs.set j v)))
theorem qep:PSet X rSetL:=by
 intro pins s σ H o i v ov iv u Q I ro ri rv h
 obtain ⟨p,xs,k,j,rfl,rfl,hp,hj,q⟩:=h
 cases ro
 obtain ⟨t,rfl⟩:=ri
 obtain ⟨its,n,r,ho,hz⟩:=I.lst hp
 obtain ⟨h1,h2,h3,h4⟩:=qcE hj
 have hl:=r.length
 have hn:=line63
 have I':Inv X pins σ (upd H p (.lst (xs.set j v))) { s with heap:=s.heap.update p (Obj.mapSeq (·.setIfInBounds j u)) } :=
  I.lstUpd hp ho (qb9 its n j u) (r.set rv j) (by rw [List.length_set];exact hz) s.toks
 by_cases h0:0≤k
 ·have hk:k.toNat=j:=by
   rw [seqIndex_of h0 h4] at h1
   exact Option.some.inj h1
  exact PySem.W.ki_setAt ho h0 (by lia) (by rw [wF,← hl];exact h4) (by rw [hk];exact ⟨_,I',q⟩)
 ·have hk:(k+(its.toArray.size:Int)).toNat=j:=by
   rw [seqIndex_neg (by lia) h3] at h1
   rw [wF,← hl]
   exact Option.some.inj h1
  exact PySem.W.ki_setBack ho (by lia) (by rw [wF,← hl];exact h3) (by lia) (by rw [hk];exact ⟨_,I',q⟩)
theorem qaE (lo hi:Option Int) (n:Nat):(sliceBounds lo hi none n).1=((HT.sIx n 0 lo:Nat):Int)∧(sliceBounds lo hi none n).2.1=((HT.sIx n n hi:Nat):Int)∧(sliceBounds lo hi none n).2.2=1:=by
 refine ⟨?_,?_,rfl⟩
 ·cases lo with
  | none=>simp [sliceBounds,HT.sIx]
  | some i =>
   simp only [sliceBounds,HT.sIx,Option.getD_none,show (1:Int)>0 by decide,if_true]
   by_cases h:i<0
   ·simp only [h,if_true] <;> lia
   ·simp only [h,if_false] <;> lia
 ·cases hi with
  | none=>simp [sliceBounds,HT.sIx]
  | some i =>
   simp only [sliceBounds,HT.sIx,Option.getD_none,show (1:Int)>0 by decide,if_true]
   by_cases h:i<0
   ·simp only [h,if_true] <;> lia
   ·simp only [h,if_false] <;> lia
theorem qac (its:List Value) (lo hi:Option Int):slicePick its.toArray lo hi none=((its.drop (HT.sIx its.length 0 lo)).take (HT.sIx its.length its.length hi-HT.sIx its.length 0 lo)).toArray:=by
 obtain ⟨h1,h2,h3⟩:=qaE lo hi its.toArray.size
 unfold slicePick
 rw [h1,h2,h3]
 simp only [sliceRange_one,pick_run,wF] <;> rfl
noncomputable def rSlL (K:PySem.W.Frag):V→Option Int→Option Int→Hp→VK→Prop:=λx lo hi H Q=>∃ a xs,x=.ref a∧SqL K H a xs∧∀ p,H p=none→Q (.ref p) (upd H p (.lst (cutV xs lo hi)))
theorem qgj:SlR X (rSlL X.K):=by
 intro pins s σ H x v vl vu lo hi sl Q I rx hs pl pu h
 obtain ⟨a,xs,rfl,hx,q⟩:=h
 cases rx
 obtain ⟨its,r,ht,hz⟩:=I.list hx
 have hlen:=r.length
 refine ⟨"list",_,slot_list_getitem.lookup,ht.isList.typeIs,?_⟩
 refine wpAny_getItem_list_slice ht.isList hs pl pu .none (by simp) ?_ (by rw [wF] <;> lia)
 rw [qac,← hlen]
 refine ⟨.ref s.heap.objs.size,_,I.laid (t':=s.toks) (o:=.lst (cutV xs lo hi)) (λb ob q=>wB _ q) (wG _) ?_,rfl,q _ (I.hok.fresh (wG _))⟩
 exact ⟨vA (jq xs lo hi) hz,_,0,(r.drop (HT.sIx xs.length 0 lo)).take (HT.sIx xs.length xs.length hi-HT.sIx xs.length 0 lo),wH _ rfl⟩
noncomputable def flatV:V→Bool
 | .non=>true
 | .bl _=>true
 | .int _=>true
 | .str _=>true
 | _=>false
noncomputable def eqV:V→V→Bool
 | .non,.non=>true
 | .bl a,.bl b=>a == b
 | .bl a,.int b=>(if a then 1 else 0) == b
 | .int a,.bl b=>a == (if b then 1 else 0)
 | .int a,.int b=>a == b
 | .str a,.str b=>a == b
 | _,_=>false
theorem qh9 {A:Around} {s:Shared} {y x:V} {u v:Value} (ry:RelV y u) (rx:RelV x v) (fy:flatV y=true) (fx:flatV x=true):SeqAt.EqAt A s u v (eqV y x):=by
 cases y with
 | non =>
  cases ry
  cases x with
  | non=>cases rx;exact SeqAt.EqAt.same _
  | bl b=>cases rx;exact SeqAt.EqAt.none_bool b
  | int b=>obtain ⟨t,rfl⟩:=rx;exact SeqAt.EqAt.none_int b t
  | str b=>obtain ⟨t,rfl⟩:=rx;exact SeqAt.EqAt.none_str b t
  | _=>exact absurd (show false=true from fx) wR
 | bl a =>
  cases ry
  cases x with
  | non=>cases rx;exact SeqAt.EqAt.bool_none a
  | bl b=>cases rx;exact SeqAt.EqAt.bool_bool a b
  | int b=>obtain ⟨t,rfl⟩:=rx;exact SeqAt.EqAt.bool_int a b t
  | str b=>obtain ⟨t,rfl⟩:=rx;exact SeqAt.EqAt.bool_str a b t
  | _=>exact absurd (show false=true from fx) wR
 | int a =>
  obtain ⟨t',rfl⟩:=ry
  cases x with
  | non=>cases rx;exact SeqAt.EqAt.int_none a t'
  | bl b=>cases rx;exact SeqAt.EqAt.int_bool a t' b
  | int b=>obtain ⟨t,rfl⟩:=rx;exact SeqAt.EqAt.int_int a t' b t
  | str b=>obtain ⟨t,rfl⟩:=rx;exact SeqAt.EqAt.int_str a t' b t
  | _=>exact absurd (show false=true from fx) wR
 | str a =>
  obtain ⟨t',rfl⟩:=ry
  cases x with
  | non=>cases rx;exact SeqAt.EqAt.str_none a t'
  | bl b=>cases rx;exact SeqAt.EqAt.str_bool a t' b
  | int b=>obtain ⟨t,rfl⟩:=rx;exact SeqAt.EqAt.str_int a t' b t
  | str b=>obtain ⟨t,rfl⟩:=rx;exact SeqAt.EqAt.str_str a t' b t
  | _=>exact absurd (show false=true from fx) wR
 | _=>exact absurd (show false=true from fy) wR
noncomputable def eqU (x:V) (u:Value):Bool:=match u with
 | .none=>eqV .non x
 | .bool b=>eqV (.bl b) x
 | .int i _=>eqV (.int i) x
 | .str z _=>eqV (.str z) x
 | _=>false
theorem qeq {x y:V} {u:Value} (r:RelV y u) (f:flatV y=true):eqU x u=eqV y x:=by
 cases y with
 | non=>cases r;rfl
 | bl b=>cases r;rfl
 | int i=>obtain ⟨t,rfl⟩:=r;rfl
 | str z=>obtain ⟨t,rfl⟩:=r;rfl
 | _=>exact absurd (show false=true from f) wR
theorem yR {x:V}:∀ {xs:List V} {us:List Value},Vals xs us→xs.all flatV=true→us.any (eqU x)=xs.any λy=>eqV y x
 | _,_,.nil,_=>rfl
 | y::xs,u::us,.cons r t,f=>by
  rw [List.all_cons,wL] at f
  rw [List.any_cons,List.any_cons,qeq r f.1,yR t f.2]
theorem yk {A:Around} {s:Shared} {x:V} {v:Value} (rx:RelV x v) (fx:flatV x=true):∀ {xs:List V} {us:List Value},Vals xs us→xs.all flatV=true→∀ u∈us,SeqAt.EqAt A s u v (eqU x u)
 | _,_,.nil,_=>λu hu=>by cases hu
 | y::xs,u::us,.cons r t,f=>λu' hu=>by
  rw [List.all_cons,wL] at f
  rcases wO.mp hu with rfl | hu
  ·rw [qeq r f.1];exact qh9 r rx f.1 fx
  ·exact yk rx fx t f.2 u' hu
noncomputable def inV (x:V) (xs:List V):Bool:=xs.any λy=>eqV y x
noncomputable def rIn (K:PySem.W.Frag) (neg:Bool):R2:=λx y H Q=>∃ p xs,y=.ref p∧(SqL K H p xs∨SqT K H p xs)∧flatV x=true∧xs.all flatV=true∧Q (.bl (if neg then !inV x xs else inV x xs)) H
theorem qdz:OpR X (compareOp .In) (rIn X.K false):=by
 intro pins s σ H x y v u Q I rx ry h
 obtain ⟨p,xs,rfl,hq,fx,fs,q⟩:=h
 cases ry
 rcases hq with hq | hq
 ·obtain ⟨its,r,pl,hz⟩:=I.list hq
  refine SeqAt.in_listAt (eqU x) pl.isList (λw hw=>yk rx fx r fs w (by simpa using hw)) ⟨.bl _,H,I,rfl,?_⟩
  rw [show its.toArray.any (eqU x)=its.any (eqU x) by simp,yR r fs]
  exact q
 ·obtain ⟨its,r,pl,hz⟩:=I.tuple hq
  refine SeqAt.in_tupleAt (eqU x) pl (λw hw=>yk rx fx r fs w (by simpa using hw)) ⟨.bl _,H,I,rfl,?_⟩
  rw [show its.toArray.any (eqU x)=its.any (eqU x) by simp,yR r fs]
  exact q
theorem qaF:OpR X (compareOp .NotIn) (rIn X.K true):=by
 intro pins s σ H x y v u Q I rx ry h
 obtain ⟨p,xs,rfl,hq,fx,fs,q⟩:=h
 cases ry
 rcases hq with hq | hq
 ·obtain ⟨its,r,pl,hz⟩:=I.list hq
  refine SeqAt.notIn_listAt (eqU x) pl.isList (λw hw=>yk rx fx r fs w (by simpa using hw)) ⟨.bl _,H,I,rfl,?_⟩
  rw [show its.toArray.any (eqU x)=its.any (eqU x) by simp,yR r fs]
  exact q
 ·obtain ⟨its,r,pl,hz⟩:=I.tuple hq
  refine SeqAt.notIn_tupleAt (eqU x) pl (λw hw=>yk rx fx r fs w (by simpa using hw)) ⟨.bl _,H,I,rfl,?_⟩
  rw [show its.toArray.any (eqU x)=its.any (eqU x) by simp,yR r fs]
  exact q
theorem CallR.or {f:Value} {r r':List V→Hp→VK→Prop} (h:CallR X f r) (h':CallR X f r'):CallR X f (λxs H Q=>r xs H Q∨r' xs H Q):=by
 intro pins s σ H xs us Q I rs q
 rcases q with q | q
 ·exact h pins s σ H xs us Q I rs q
 ·exact h' pins s σ H xs us Q I rs q
theorem qaG:CallR X (.type "list") (λxs H Q=>∃ p ys,xs=[.ref p]∧(SqL X.K H p ys∨SqT X.K H p ys)∧∀ l,H l=none→Q (.ref l) (upd H l (.lst ys))):=by
 intro pins s σ H xs us Q I r h
 obtain ⟨p,ys,rfl,hq,q⟩:=h
 obtain ⟨u,rfl,rx⟩:=vals1 r
 cases rx
 have fin:∀ (its:List Value),Vals ys its→ys.length≤sizeLine→∀ (h':Heap) (c':Nat),(∀ b o',s.heap.get? b=some o'→h'.get? b=some o') →
   h'.get? s.heap.objs.size=some { cls:=.type "list",dict:=none,data:=.seq its.toArray c',slots:=#[] }→EP X pins σ Q (.ref s.heap.objs.size) { s with heap:=h' }:=λits r' hz h' c' kp e =>
  ⟨.ref s.heap.objs.size,_,I.laid (t':=s.toks) kp (wG _) (show ObjOk X.prog X.w _ h' _ (.lst ys) from ⟨hz,its,c',r',e⟩),rfl,q _ (I.hok.fresh (wG _))⟩
 rcases hq with hq | hq
 ·obtain ⟨its,r',pl,hz⟩:=I.list hq
  have hlen:=r'.length
  obtain ⟨o,ho,hc,n,hd⟩:=pl.isList
  exact call_list_seq p (.inl rfl) ho hc hd (λh' c' kp e=>fin its r' hz h' c' kp e) (by simp only [wF] <;> lia)
 ·obtain ⟨its,r',pl,hz⟩:=I.tuple hq
  have hlen:=r'.length
  obtain ⟨o,ho,hc,n,hd⟩:=pl
  exact call_list_seq p (.inr rfl) ho hc hd (λh' c' kp e=>fin its r' hz h' c' kp e) (by simp only [wF] <;> lia)
theorem qad:CallR X (.type "tuple") (λxs H Q=>∃ p ys,xs=[.ref p]∧((SqL X.K H p ys∧∀ l,H l=none→Q (.ref l) (upd H l (.tup ys)))∨(SqT X.K H p ys∧Q (.ref p) H))):=by
 intro pins s σ H xs us Q I r h
 obtain ⟨p,ys,rfl,h⟩:=h
 obtain ⟨u,rfl,rx⟩:=vals1 r
 cases rx
 rcases h with ⟨hq,q⟩ | ⟨hq,q⟩
 ·obtain ⟨its,r',pl,hz⟩:=I.list hq
  have hlen:=r'.length
  refine call_tuple_list pl.isList (λh' kp=>?_) (by simp only [wF] <;> lia)
  have I1:Inv X pins σ H { s with heap:=h' }:=I.kept (t':=s.toks) kp
  have I2:Inv X pins σ (upd H h'.objs.size (.tup ys)) { s with heap:=h'.push { cls:=.type "tuple",data:=.seq its.toArray } } :=
   I1.laid (t':=s.toks) (λb o e=>wB _ e) (wG _) (show ObjOk X.prog X.w _ _ _ (.tup ys) from ⟨hz,its,r',IsTup.new _ _,zZ _ _⟩)
  exact ⟨.ref h'.objs.size,_,I2,rfl,q _ (I1.hok.fresh (wG _))⟩
 ·obtain ⟨its,r',pl,hz⟩:=I.tuple hq
  exact call_tuple_same pl ⟨.ref p,H,I,rfl,q⟩
noncomputable def tyV (K:PySem.W.Frag) (T:String) (x:V) (H:Hp):Prop:=match x with
 | .str _=>T="str"
 | .int _=>T="int"
 | .ref p=>(T="list"∧∃ xs,SqL K H p xs)∨(T="tuple"∧∃ o,K.lookup p=some o∧o.cls=.type "tuple"∧o.dict=none) ∨
   (T="dict"∧((∃ kvs,H p=some (.dK kvs))∨∃ kvs,H p=some (.dT kvs)))∨(T="set"∧∃ S n,H p=some (.set S n))
 | _=>False
theorem qia {pins:List (Addr × Obj)} {σ:St} {H:Hp} {s:Shared} {T:String} {x:V} {v:Value} (I:Inv X pins σ H s) (r:RelV x v) (ty:tyV X.K T x H) :
  s.TypeIs v T∧∀ a,v=.ref a→∃ ob,s.heap.get? a=some ob∧ob.dict=none:=by
 cases x with
 | str z =>
  obtain ⟨t,rfl⟩:=r
  cases (show T="str" from ty)
  exact ⟨typeIs_str s z t,λ_ e=>nomatch e⟩
 | int i =>
  obtain ⟨t,rfl⟩:=r
  cases (show T="int" from ty)
  exact ⟨typeIs_int s i t,λ_ e=>nomatch e⟩
 | ref p =>
  cases r
  rcases ty with ⟨rfl,xs,hq⟩ | ⟨rfl,o,hk,hc,hd⟩ | ⟨rfl,hk⟩ | ⟨rfl,S,n,hk⟩
  ·obtain ⟨its,_,pl,_⟩:=I.list hq
   refine ⟨pl.isList.typeIs,λa e=>?_⟩
   cases e
   obtain ⟨o,n,e,c,hd,_⟩:=pl
   exact ⟨o,e,hd⟩
  ·refine ⟨⟨o,I.kIn p o hk,hc⟩,λa e=>?_⟩
   cases e
   exact ⟨o,I.kIn _ o hk,hd⟩
  ·have z:∃ o,s.heap.get? p=some o∧o.ExactDict:=by
    rcases hk with ⟨kvs,hk⟩ | ⟨kvs,hk⟩
    ·obtain ⟨_,_,_,_,o,_,_,e,ex,_⟩:=I.hok p _ hk
     exact ⟨o,e,ex⟩
    ·obtain ⟨_,_,_,_,o,_,_,e,ex,_⟩:=I.hok p _ hk
     exact ⟨o,e,ex⟩
   obtain ⟨o,e,ex⟩:=z
   refine ⟨⟨o,e,ex.1⟩,λa e2=>?_⟩
   cases e2
   exact ⟨o,e,ex.2.1⟩
  ·obtain ⟨o,_,_,_,e,ex,_⟩:=I.hok p _ hk
   refine ⟨⟨o,e,ex.1⟩,λa e2=>?_⟩
   cases e2
   exact ⟨o,e,ex.2.1⟩
 | _=>exact False.elim ty
noncomputable def tBM (K:PySem.W.Frag) (T:String) (r:V→List V→Hp→VK→Prop) (to:TE) (t:TA):TE:=λσ H Q=>to σ H λx H1=>tyV K T x H1∧t σ H1 λxs H2=>r x xs H2 Q
variable {o e:Expr} {es:List Expr} {to:TE} {t:TA} {name:Str} {apos cpos:Pos} {T id:String} {r:V→List V→Hp→VK→Prop}
theorem qhq (pa:PlainAttrs T) (slot:Slot T name id) (hty:typeOf (.builtin id)=pure (.type "method_descriptor")) (hm:MtR X id r) (ho:PE X o to) (ha:PA X (e::es) t)
  (hbase:attributeBase o name X.env (eval o X.env)=eval o X.env:=by rfl)
  (hfew:((backTo cpos (starEach (e::es) X.env)).all (λx=>!x.1)&&(backToKw cpos (keywordEach [] X.env)).all (λx=>x.1.isSome)
   && decide ((e::es).length+([]:List Keyword).length+(if ([]:List Keyword).isEmpty then 0 else 1)<30))=true:=by rfl)
  (hline:(apos.endLine == cpos.line)=true:=by rfl) (hs:starEach (e::es) X.env=(false,eval e X.env)::starEach es X.env:=by rfl) (hplain:(backTo cpos (starEach es X.env)).any (·.1)=false:=by rfl) :
  PE X (.Call (.Attribute o name apos) (e::es) [] cpos) (tBM X.K T r to t):=by
 intro pins s σ H Q I h
 refine wpAny_Call_method_late hbase hfew hline rfl (thn (ho pins s σ H _ I h) λv s1 ⟨x,H1,I1,r1,ty,q1⟩=>?_)
 obtain ⟨h1,h2⟩:=qia I1 r1 ty
 refine ⟨T,id,pa,slot,hty,h1,h2,?_⟩
 have hA:=ha cpos pins s1 σ H1 _ I1 q1
 rw [hs] at hA ⊢
 refine Calls.callWith_builtin (by show (false || (backTo cpos (starEach es X.env)).any (·.1))=false;rw [hplain] <;> rfl) (Calls.evalArgs_plain ?_)
 exact thn hA λus s2 ⟨vs,H2,I2,r2,q2⟩=>hm pins s2 σ H2 x vs v us Q I2 r1 r2 q2
/- xs.append(e),list.index on a module's tuple .. are MtR facts of 06m -/
end
end L2
namespace L2
open PySem PySem.Spec PyProof.Rows
noncomputable def MtM (X:Cx) (id:String) (r:V→List V→Hp→VK→Prop):Prop :=
 ∀ (pins:List (Addr × Obj)) (s:Shared) (σ:St) (H:Hp) (x:V) (xs:List V) (v:Value) (us:List Value) (Q:VK),Inv X pins σ H s→RelV x v→Vals xs us→r x xs H Q →
  wpAny (model X.prog X.w) X.A (call (.builtin id) (v::us)) (EP X pins σ Q) X.xe s
theorem Vals.one:∀ {x:V} {us:List Value},Vals [x] us→∃ u,us=[u]∧RelV x u
 | _,_,.cons r .nil=>⟨_,rfl,r⟩
theorem Vals.eraseIdx:∀ {xs:List V} {us:List Value} (i:Nat),Vals xs us→Vals (xs.eraseIdx i) (us.eraseIdx i)
 | _,_,_,.nil=>.nil
 | _,_,0,.cons _ t=>t
 | _,_,i+1,.cons r t=>.cons r (Vals.eraseIdx i t)
theorem Vals.reverse {xs:List V} {us:List Value} (h:Vals xs us):Vals xs.reverse us.reverse:=by
 induction h with
 | nil=>exact .nil
 | cons r t ih=>rw [List.reverse_cons,List.reverse_cons];exact Vals.append ih (.cons r .nil)
theorem Vals.rep {xs:List V} {us:List Value} (h:Vals xs us):∀ k:Nat,Vals (List.replicate k xs).flatten (List.replicate k us).flatten
 | 0=>.nil
 | k+1=>by
  rw [vL,vL,List.flatten_cons,List.flatten_cons]
  exact Vals.append h (Vals.rep h k)
theorem qam {α:Type}:∀ (l:List α) (i:Nat),(l.eraseIdx i).length≤l.length
 | [],_=>wG _
 | _::_,0=>Nat.le_succ _
 | _::r,i+1=>Nat.succ_le_succ (qam r i)
theorem jd (its:List Value):∀ (k:Nat) (acc:List Value),
  List.foldl (λx1 x2=>x1++x2) acc.toArray (List.replicate k its.toArray)=(acc++(List.replicate k its).flatten).toArray
 | 0,acc=>by simp
 | k+1,acc=>by
  have e:acc.toArray++its.toArray=(acc++its).toArray:=by simp
  have e2:(acc++its)++(List.replicate k its).flatten=acc++(List.replicate (k+1) its).flatten:=by
   rw [vL,List.flatten_cons,List.append_assoc]
  rw [← e2,← jd its k (acc++its),← e,vL,List.foldl_cons]
section
variable {X:Cx} {pins:List (Addr × Obj)} {σ:St} {H:Hp} {s:Shared} {l b:Addr} {xs ys zs:List V}
theorem Inv.lset {its its':List Value} {n:Nat} {f:Array Value→Array Value} {t':Nat} (I:Inv X pins σ H s) (hH:H l=some (.lst xs))
  (e:s.heap.get? l=some { cls:=.type "list",data:=.seq its.toArray n }) (hf:f its.toArray=its'.toArray) (hv:Vals ys its') (hz:ys.length≤sizeLine) :
  Inv X pins σ (upd H l (.lst ys)) { s with heap:=s.heap.update l (Obj.mapSeq f),toks:=t' }:=by
 have q:=PySem.IsL.update e f
 rw [hf] at q
 refine I.write (x:=l) (e:=l) (by rw [hH];exact trivial) (.inl rfl) (λb' u hb hu=>(wS s.heap (Obj.mapSeq f) (Ne.symm hb)).trans hu) ⟨_,q⟩ ?_
 exact ⟨hz,its',_,hv,q⟩
theorem Inv.lnew {its:List Value} {t':Nat} (I:Inv X pins σ H s) (hv:Vals ys its) (hz:ys.length≤sizeLine) :
  Inv X pins σ (upd H s.heap.objs.size (.lst ys)) { s with heap:=s.heap.push { cls:=.type "list",data:=.seq its.toArray },toks:=t' } :=
 I.laid (λ_ _ q=>wB _ q) (wG _) ⟨hz,its,0,hv,wH _ rfl⟩
theorem Inv.fresh (I:Inv X pins σ H s):H s.heap.objs.size=none:=I.hok.fresh (wG _)
theorem Inv.lstM (I:Inv X pins σ H s) (hH:H l=some (.lst xs)):xs.length≤sizeLine∧∃ (its:List Value) (n:Nat),Vals xs its∧xs.length=its.length∧s.heap.get? l=some { cls:=.type "list",data:=.seq its.toArray n }:=by
 obtain ⟨z,its,n,r,e⟩:=I.hok l _ hH
 exact ⟨z,its,n,r,r.length,e⟩
theorem notLongL {n:Nat} (h:n≤sizeLine):Builtin.List.listTooLong n=false:=by
 unfold Builtin.List.listTooLong
 exact w6 (by lia)
end
section
variable {X:Cx}
noncomputable def rAppend:V→List V→Hp→VK→Prop:=λx vs H Q=>∃ l xs y,x=.ref l∧vs=[y]∧H l=some (.lst xs)∧xs.length<sizeLine∧Q .non (upd H l (.lst (xs++[y])))
theorem qan:MtM X "list.append" rAppend:=by
 intro pins s σ H x vs v us Q I rx rv h
 obtain ⟨l,xs,y,rfl,rfl,hH,hz,q⟩:=h
 cases rx
 obtain ⟨u,rfl,ru⟩:=rv.one
 obtain ⟨z,its,n,r,hl,e⟩:=I.lstM hH
 refine call_meets F.slot_list_append ⟨_,e,rfl⟩ F.entry_list_append (F.args_list_append_2 _ _) (PySem.list_append l its.toArray n u (by rw [wF];lia)) ⟨e,?_⟩
 refine ⟨.non,_,I.lset (its':=its++[u]) hH e (by simp) (r.append (.cons ru .nil)) ?_,rfl,q⟩
 rw [wc,List.length_singleton]
 lia
noncomputable def rPopAt:V→List V→Hp→VK→Prop:=λx vs H Q=>∃ l xs i k y,x=.ref l∧vs=[.int i]∧H l=some (.lst xs)∧-(2^63)≤i∧i<2^63∧seqIndex? i xs.length=some k∧xs[k]?=some y∧Q y (upd H l (.lst (xs.eraseIdx k)))
theorem qer:MtM X "list.pop" rPopAt:=by
 intro pins s σ H x vs v us Q I rx rv h
 obtain ⟨l,xs,i,k,y,rfl,rfl,hH,h1,h2,hk,hy,q⟩:=h
 cases rx
 obtain ⟨u,rfl,ru⟩:=rv.one
 obtain ⟨t,rfl⟩:=ru
 obtain ⟨z,its,n,r,hl,e⟩:=I.lstM hH
 obtain ⟨w,hw,rw'⟩:=r.get hy
 refine call_meets F.slot_list_pop ⟨_,e,rfl⟩ F.entry_list_pop (F.args_list_pop_2 _ _)
  (MeetsSeq.list_pop_at l its.toArray n i t k w (fitsIndex_both h1 h2) (by rw [wF,← hl];exact hk) (by rw [← Array.getElem?_toList];exact hw) (by rw [wF];lia)) ⟨e,?_⟩
 refine ⟨y,_,I.lset (its':=its.eraseIdx k) hH e ?_ (r.eraseIdx k) ?_,rw',q⟩
 ·show its.toArray.eraseIdxIfInBounds k=(its.eraseIdx k).toArray
  rw [List.eraseIdxIfInBounds_toArray]
 ·have:=qam xs k
  lia
theorem jA {α:Type} (xs:List α) (k:Nat):(List.replicate k xs).flatten.length=k*xs.length:=by
 induction k with
 | zero=>simp
 | succ k ih=>rw [vL,List.flatten_cons,wc,ih,Nat.succ_mul,Nat.add_comm]
end
section
variable {prog:Program} {w:World} {A:Around} {E:Value→Shared→Prop} {s:Shared}
set_option maxRecDepth 100000 in
end
end L2
namespace L2
open PySem PySem.Spec PyProof.Rows
section
variable {κ:Type} [DecidableEq κ]
noncomputable def valV (kvs:List (κ × V)) (k:κ):Option V:=(kvs.find? λkv=>decide (kv.1=k)).map (·.2)
noncomputable def putK (kvs:List (κ × V)) (k:κ) (v:V):List (κ × V) :=
 if (kvs.any λkv=>decide (kv.1=k))=true then kvs.map (λkv=>if kv.1=k then (kv.1,v) else kv) else kvs++[(k,v)]
theorem yS {p:κ × V} {r:List (κ × V)} {k:κ} (e:p.1=k):valV (p::r) k=some p.2:=by simp [valV,List.find?_cons,e]
theorem yT {p:κ × V} {r:List (κ × V)} {k:κ} (e:¬ p.1=k):valV (p::r) k=valV r k:=by simp [valV,List.find?_cons,e]
theorem qbi (k:κ):∀ kvs:List (κ × V),(kvs.any λkv=>decide (kv.1=k))=(valV kvs k).isSome
 | []=>rfl
 | p::r=>by
  rw [List.any_cons]
  by_cases e:p.1=k
  ·simp only [yS e,wm e,Bool.true_or,Option.isSome_some]
  ·rw [yT e,w6 e,Bool.false_or];exact qbi k r
theorem jr (kvs:List (κ × V)) (k:κ) (v:V):(putK kvs k v).length≤kvs.length+1:=by
 unfold putK
 split
 ·rw [wP];lia
 ·rw [wc,w5,vD];lia
theorem RelO.isSome_eq {o:Option V} {u:Option Value} (r:RelO o u):o.isSome=u.isSome:=by
 cases o with
 | none=>cases u with
  | none=>rfl
  | some _=>exact (show False from r).elim
 | some _=>cases u with
  | none=>exact (show False from r).elim
  | some _=>rfl
theorem KV.val {kvs:List (κ × V)} {vs:List (κ × Value)} (r:KV kvs vs) (k:κ):RelO (valV kvs k) (valueAt vs k):=by
 unfold KV at r
 induction r with
 | nil=>exact True.intro
 | @cons p q ps qs h t ih =>
  obtain ⟨h1,h2⟩:=h
  by_cases e:p.1=k
  ·have e':q.1=k:=h1.symm.trans e
   have b:valueAt (q::qs) k=some q.2:=by simp [valueAt,List.find?_cons,e']
   rw [yS e,b];exact h2
  ·have e':¬ q.1=k:=λz=>e (h1.trans z)
   have b:valueAt (q::qs) k=valueAt qs k:=by simp [valueAt,List.find?_cons,e']
   rw [yT e,b];exact ih
theorem KV.any {kvs:List (κ × V)} {vs:List (κ × Value)} (r:KV kvs vs) (k:κ):(kvs.any λkv=>decide (kv.1=k))=vs.any λkv=>decide (kv.1=k):=by
 unfold KV at r
 induction r with
 | nil=>rfl
 | cons h t ih=>rw [List.any_cons,List.any_cons,ih,h.1]
theorem KV.repl {kvs:List (κ × V)} {vs:List (κ × Value)} (r:KV kvs vs) (k:κ) {y:V} {u:Value} (ry:RelV y u) :
  KV (kvs.map λkv=>if kv.1=k then (kv.1,y) else kv) (vs.map λkv=>if kv.1=k then (kv.1,u) else kv):=by
 unfold KV at r ⊢
 induction r with
 | nil=>exact .nil
 | @cons p q ps qs h t ih =>
  rw [wa,wa]
  refine .cons ?_ ih
  obtain ⟨h1,h2⟩:=h
  by_cases e:p.1=k
  ·rw [wJ e,wJ (h1.symm.trans e)];exact ⟨h1,ry⟩
  ·rw [wK e,wK (λz=>e (h1.trans z))];exact ⟨h1,h2⟩
theorem KV.put {kvs:List (κ × V)} {vs:List (κ × Value)} (r:KV kvs vs) (k:κ) {y:V} {u:Value} (ry:RelV y u):KV (putK kvs k y) (stored vs k u):=by
 unfold putK stored
 rw [r.any k]
 by_cases e:(vs.any λkv=>decide (kv.1=k))=true
 ·rw [wJ e,wJ e];exact r.repl k ry
 ·rw [wK e,wK e];exact Paired.snoc r ⟨rfl,ry⟩
theorem KV.length {kvs:List (κ × V)} {vs:List (κ × Value)} (r:KV kvs vs):kvs.length=vs.length:=Paired.length r
end
theorem qes {P:Program} {w:World} {k:Key} {u:Value} (r:RelV (kV k) u):(mixKind P w).is k u=true:=by
 cases k with
 | inl i=>obtain ⟨t,e⟩:=(show ∃ t,u=Value.int i t from r);subst e;exact qbc P w i t
 | inr x=>obtain ⟨t,e⟩:=(show ∃ t,u=Value.str x t from r);subst e;exact qbd P w x t
theorem qao {P:Program} {w:World}:∀ {ks:List Key} {us:List Value},Vals (ks.map kV) us→ItemsAre (mixKind P w) ks us
 | [],_,r=>by rw [List.map_nil] at r;cases r;exact .nil
 | k::ks,_,r=>by
  rw [wa] at r
  cases r with
  | cons h t=>exact .cons (qes h) (qao t)
noncomputable abbrev KT (H:Hp):List (List Key × V)→List (List Key × Addr × Value)→Prop:=Paired λp q=>p.1=q.1∧H q.2.1=some (.tup (p.1.map kV))∧RelV p.2 q.2.2
theorem KT.val {H:Hp} {kvs:List (List Key × V)} {xs:List (List Key × Addr × Value)} (r:KT H kvs xs) (k:List Key):RelO (valV kvs k) ((atKey xs k).map (·.2)):=by
 induction r with
 | nil=>exact True.intro
 | @cons p q ps qs h t ih =>
  obtain ⟨h1,_,h2⟩:=h
  by_cases e:p.1=k
  ·have e':q.1=k:=h1.symm.trans e
   have b:atKey (q::qs) k=some q.2:=by simp [atKey,List.find?_cons,e']
   rw [yS e,b];exact h2
  ·have e':¬ q.1=k:=λz=>e (h1.trans z)
   have b:atKey (q::qs) k=atKey qs k:=by simp [atKey,List.find?_cons,e']
   rw [yT e,b];exact ih
theorem KT.repl {H:Hp} {kvs:List (List Key × V)} {xs:List (List Key × Addr × Value)} (r:KT H kvs xs) (k:List Key) {y:V} {u:Value} (ry:RelV y u) :
  KT H (kvs.map λkv=>if kv.1=k then (kv.1,y) else kv) (xs.map (putAt k u)):=by
 induction r with
 | nil=>exact .nil
 | @cons p q ps qs h t ih =>
  rw [wa,wa]
  refine .cons ?_ ih
  obtain ⟨h1,h2,h3⟩:=h
  unfold putAt
  by_cases e:p.1=k
  ·rw [wJ e,wJ (h1.symm.trans e)];exact ⟨h1,h2,ry⟩
  ·rw [wK e,wK (λz=>e (h1.trans z))];exact ⟨h1,h2,h3⟩
theorem KT.put {H:Hp} {kvs:List (List Key × V)} {xs:List (List Key × Addr × Value)} (r:KT H kvs xs) (k:List Key) {b:Addr} {y:V} {u:Value} (hb:H b=some (.tup (k.map kV))) (ry:RelV y u) :
  KT H (putK kvs k y) (storedH xs k b u):=by
 have e:(kvs.any λkv=>decide (kv.1=k))=(atKey xs k).isSome:=by
  rw [qbi,(r.val k).isSome_eq,Option.isSome_map]
 unfold putK storedH
 rw [e]
 by_cases q:(atKey xs k).isSome=true
 ·rw [wJ q,wJ q];exact r.repl k ry
 ·rw [wK q,wK q];exact Paired.snoc r ⟨rfl,hb,ry⟩
theorem KT.keeps {H H':Hp} {kvs:List (List Key × V)} {xs:List (List Key × Addr × Value)} (r:KT H kvs xs) (ht:∀ b ys,H b=some (.tup ys)→H' b=some (.tup ys)):KT H' kvs xs :=
 Paired.mapP r λ_ _ z=>⟨z.1,ht _ _ z.2.1,z.2.2⟩
section
variable {P:Program} {w:World} {H:Hp} {h:Heap} {a:Addr}
theorem qhr {u:HO} (ok:HOk P w H h) (e:Rd H a u):ObjOk P w H h a u:=e.ok ok
theorem qcG {kvs:List (Key × V)} (ok:HOk P w H h) (e:Rd H a (.dK kvs)):kvs.length≤sizeLine∧(a == sysModules)=false∧∃ vs,KV kvs vs∧h.DictOf (mixKind P w) a vs :=
 show ObjOk P w H h a (.dK kvs) from qhr ok e
theorem qjt {kvs:List (Key × V)} (ok:HOk P w H h) (e:H a=some (.dK kvs)):kvs.length≤sizeLine∧(a == sysModules)=false∧∃ vs,KV kvs vs∧h.DictOf (mixKind P w) a vs:=qcG ok (.inl e)
theorem qca {ks:List Key} (ok:HOk P w H h) (e:H a=some (.tup (ks.map kV))):(tupleKind (mixKind P w)).is h ks a:=by
 obtain ⟨_,its,r,⟨o,h1,h2,n,h3⟩,_⟩:=(show ObjOk P w H h a (.tup (ks.map kV)) from ok a _ e)
 exact ⟨o,its.toArray,n,h1,h2,h3,by simpa using qao r⟩
theorem qcH {kvs:List (List Key × V)} (ok:HOk P w H h) (e:Rd H a (.dT kvs)):kvs.length≤sizeLine∧(a == sysModules)=false ∧
  ∃ xs,KT H kvs xs∧h.DictOfH (tupleKind (mixKind P w)) a xs:=by
 obtain ⟨z,y,xs,r,o,es,ep,h1,h2,h3,h4,h5⟩:=(show ObjOk P w H h a (.dT kvs) from qhr ok e)
 refine ⟨z,y,xs,r,o,es,ep,h1,h2,h3,h4,λx hx=>?_,h5⟩
 have all:∀ {l:List (List Key × V)} {m:List (List Key × Addr × Value)},KT H l m→∀ x∈m,(tupleKind (mixKind P w)).is h x.1 x.2.1:=by
  intro l m q
  induction q with
  | nil=>intro x hx;exact nomatch hx
  | @cons p q ps qs hq t ih =>
   intro x hx
   rcases wO.mp hx with e | hx
   ·subst e
    exact qca ok (by rw [← hq.1];exact hq.2.1)
   ·exact ih x hx
 exact all r x hx
theorem qju {kvs:List (List Key × V)} (ok:HOk P w H h) (e:H a=some (.dT kvs)):kvs.length≤sizeLine∧(a == sysModules)=false ∧
  ∃ xs,KT H kvs xs∧h.DictOfH (tupleKind (mixKind P w)) a xs:=qcH ok (.inl e)
end
noncomputable def DGet (H:Hp) (a:Addr) (y:V) (r:Option V):Prop :=
 (∃ kvs k,Rd H a (.dK kvs)∧y=kV k∧r=valV kvs k)∨∃ kvs k b,Rd H a (.dT kvs)∧y=.ref b∧H b=some (.tup (k.map kV))∧r=valV kvs k
noncomputable def DPut (H:Hp) (a:Addr) (y v:V) (H':Hp):Prop :=
 (∃ kvs k,H a=some (.dK kvs)∧y=kV k∧kvs.length<sizeLine∧H'=upd H a (.dK (putK kvs k v))) ∨
 ∃ kvs k b,H a=some (.dT kvs)∧y=.ref b∧H b=some (.tup (k.map kV))∧kvs.length<sizeLine∧H'=upd H a (.dT (putK kvs k v))
theorem DGet.t {H:Hp} {a b:Addr} {kvs:List (List Key × V)} {k:List Key} (e:H a=some (.dT kvs)) (eb:H b=some (.tup (k.map kV))):DGet H a (.ref b) (valV kvs k):=.inr ⟨kvs,k,b,.inl e,rfl,eb,rfl⟩
theorem DPut.k {H:Hp} {a:Addr} {kvs:List (Key × V)} {k:Key} {v:V} (e:H a=some (.dK kvs)) (hl:kvs.length<sizeLine):DPut H a (kV k) v (upd H a (.dK (putK kvs k v))):=.inl ⟨kvs,k,e,rfl,hl,rfl⟩
theorem DPut.t {H:Hp} {a b:Addr} {kvs:List (List Key × V)} {k:List Key} {v:V} (e:H a=some (.dT kvs)) (eb:H b=some (.tup (k.map kV))) (hl:kvs.length<sizeLine) :
  DPut H a (.ref b) v (upd H a (.dT (putK kvs k v))):=.inr ⟨kvs,k,b,e,rfl,eb,hl,rfl⟩
section
variable {X:Cx} {pins:List (Addr × Obj)} {σ:St} {H:Hp} {s:Shared} {a:Addr} {y v:V} {u r:Value} {o:Option V} {A:Around} {E:Value→Shared→Prop}
theorem Inv.big (I:Inv X pins σ H s):sysModules<s.heap.objs.size:=by
 have h:mainGlobals<s.heap.objs.size:=(I.mod.glob.keeps I.bk).lt
 exact Nat.lt_trans (by decide) h
theorem qdA {Q:Value→Shared→Prop} (hu:A.units+1<cLine) (I:Inv X pins σ H s) (g:DGet H a y (some v)) (ry:RelV y u) (h:∀ w' s',Inv X pins σ H s'→RelV v w'→Q w' s') :
  wpAny (model X.prog X.w) A (getItem (.ref a) u) Q E s:=by
 rcases g with ⟨kvs,k,e,ey,l⟩ | ⟨kvs,k,b,e,ey,eb,l⟩
 ·subst ey
  obtain ⟨z,hd,vs,rel,dd⟩:=qcG I.hok e
  obtain ⟨w',hw,rw'⟩:=RelO.some_of (v:=v) (o:=valueAt vs k) (by rw [l];exact rel.val k)
  exact wpAny_getItem_of (qes ry) dd.mapOf hw (h w' _ (I.tok _) rw')
 ·subst ey
  cases (show u=Value.ref b from ry)
  obtain ⟨z,hd,xs,rel,dd⟩:=qcH I.hok e
  obtain ⟨w',hw,rw'⟩:=RelO.some_of (v:=v) (o:=(atKey xs k).map (·.2)) (by rw [l];exact rel.val k)
  obtain ⟨p,hp,hp2⟩:=Option.map_eq_some_iff.mp hw
  refine wpAny_getItem_heap (tupleKind_room_in1 hu) (qca I.hok eb) dd hp ?_
  rw [hp2]
  exact h w' _ (I.tok _) rw'
theorem qcI {h':Heap} {t':Nat} {ob:HO} (I:Inv X pins σ H s) (mu:Mut (H a)) (hs:Heap.SameBut a s.heap h') (he:∃ q,h'.get? a=some q) (new:ObjOk X.prog X.w (upd H a ob) h' a ob) :
  Inv X pins σ (upd H a ob) { s with heap:=h',toks:=t' } :=
 I.write (x:=a) (e:=a) mu (.inl rfl) (λb q hb z=>(hs.2 b hb).trans z) he new
theorem qib {P:Program} {w:World} {H':Hp} {h':Heap} {kvs:List (Key × V)} {vs:List (Key × Value)} (z:kvs.length≤sizeLine) (hd:(a == sysModules)=false) (rel:KV kvs vs) (dd:h'.DictOf (mixKind P w) a vs) :
  ObjOk P w H' h' a (.dK kvs):=⟨z,hd,vs,rel,dd⟩
theorem qdB {H':Hp} {Q:Unit→Shared→Prop} (hu:A.units+1<cLine) (I:Inv X pins σ H s) (g:DPut H a y v H') (ry:RelV y u) (rv:RelV v r) (h:∀ s',Inv X pins σ H' s'→Q () s') :
  wpAny (model X.prog X.w) A (setItem (.ref a) u r) Q E s:=by
 rcases g with ⟨kvs,k,e,ey,l,eH⟩ | ⟨kvs,k,b,e,ey,eb,l,eH⟩
 ·subst ey eH
  obtain ⟨z,hd,vs,rel,dd⟩:=qjt I.hok e
  have hz:vs.length≤sizeLine:=by rw [← rel.length];exact z
  have hl:(putK kvs k v).length≤sizeLine:=by have:=jr kvs k v;lia
  refine wpAny_setItem_pairs (hsz:=hz) (qes ry) dd λh' dd' hs=>h _ ?_
  have he:∃ q,h'.get? a=some q:=let ⟨q,_,_,hq,_⟩:=dd';⟨q,hq⟩
  exact qcI I (by rw [e];exact True.intro) hs he (qib hl hd (rel.put k rv) dd')
 ·subst ey eH
  cases (show u=Value.ref b from ry)
  obtain ⟨z,hd,xs,rel,dd⟩:=qju I.hok e
  have hz:xs.length≤sizeLine:=by rw [← Paired.length rel];exact z
  have hl:(putK kvs k v).length≤sizeLine:=by have:=jr kvs k v;lia
  refine wpAny_setItem_heap (hsz:=hz) (tupleKind_room_in1 hu) (qca I.hok eb) dd λh' dd' hs=>h _ ?_
  obtain ⟨q,es,ep,hq,h2,h3,h4,_,h5⟩:=dd'
  refine qcI I (by rw [e];exact True.intro) hs ⟨q,hq⟩ ⟨hl,hd,_,(rel.put k eb rv).keeps λc ys ec=>?_,q,es,ep,hq,h2,h3,h4,h5⟩
  rw [qk (qjl ec e (λz=>nomatch z))]
  exact ec
end
theorem qbj {X:Cx} {pins:List (Addr × Obj)} {σ:St} {H:Hp} {s:Shared} {a:Addr} {y:V} {o:Option V} (I:Inv X pins σ H s) (g:DGet H a y o):s.TypeIs (.ref a) "dict":=by
 rcases g with ⟨kvs,k,e,_,_⟩ | ⟨kvs,k,b,e,_,_,_⟩
 ·obtain ⟨_,_,vs,_,dd⟩:=qcG I.hok e
  exact dd.typeIs
 ·obtain ⟨_,_,xs,_,dd⟩:=qcH I.hok e
  exact dd.typeIs
theorem qet {P:Program} {w:World} {H:Hp} (h:Heap) (hb:sysModules<h.objs.size):ObjOk P w H (h.push { cls:=.type "dict",data:=.dict #[] }) h.objs.size (.dK []) :=
 ⟨vO _,wz.mpr (Ne.symm (wW hb)),[],.nil,Heap.DictOf.new h⟩
theorem qeu {P:Program} {w:World} {H:Hp} (h:Heap) (hb:sysModules<h.objs.size):ObjOk P w H (h.push { cls:=.type "dict",data:=.dict #[] }) h.objs.size (.dT []) :=
 ⟨vO _,wz.mpr (Ne.symm (wW hb)),[],.nil,_,#[],0,wH _ rfl,⟨rfl,rfl,rfl⟩,rfl,rfl,List.nodup_nil⟩
noncomputable def tDNewK:TE:=λ_ H Q=>∀ p,H p=none→Q (.ref p) (upd H p (.dK []))
noncomputable def tDNewT:TE:=λ_ H Q=>∀ p,H p=none→Q (.ref p) (upd H p (.dT []))
section
variable {X:Cx} {pos:Pos}
theorem qev:PE X (.Dict [] [] pos) tDNewK:=λpins s σ H Q I h =>
 wpAny_Dict_empty ⟨.ref s.heap.objs.size,_,I.laid (a:=s.heap.objs.size) (o:=.dK []) (t':=s.toks) (λ_ _ q=>wB _ q) (wG _) (qet s.heap I.big),rfl,h _ (I.hok.fresh (wG _))⟩
theorem qew:PE X (.Dict [] [] pos) tDNewT:=λpins s σ H Q I h =>
 wpAny_Dict_empty ⟨.ref s.heap.objs.size,_,I.laid (a:=s.heap.objs.size) (o:=.dT []) (t':=s.toks) (λ_ _ q=>wB _ q) (wG _) (qeu s.heap I.big),rfl,h _ (I.hok.fresh (wG _))⟩
end
noncomputable def IsD (H:Hp) (a:Addr):Prop:=(∃ kvs,Rd H a (.dK kvs))∨∃ kvs,Rd H a (.dT kvs)
theorem qic {X:Cx} {pins:List (Addr × Obj)} {σ:St} {H:Hp} {s:Shared} {a:Addr} (I:Inv X pins σ H s) (d:IsD H a) :
  s.TypeIs (.ref a) "dict"∧(∀ b,Value.ref a=.ref b→∃ ob,s.heap.get? b=some ob∧ob.dict=none)∧(a == sysModules)=false:=by
 rcases d with ⟨kvs,e⟩ | ⟨kvs,e⟩
 ·obtain ⟨_,hd,vs,_,dd⟩:=qcG I.hok e
  refine ⟨dd.typeIs,λb q=>?_,hd⟩
  cases q
  obtain ⟨ob,_,_,h1,h2,_⟩:=dd
  exact ⟨ob,h1,h2.2.1⟩
 ·obtain ⟨_,hd,xs,_,dd⟩:=qcH I.hok e
  refine ⟨dd.typeIs,λb q=>?_,hd⟩
  cases q
  obtain ⟨ob,_,_,h1,h2,_⟩:=dd
  exact ⟨ob,h1,h2.2.1⟩
end L2
namespace Att
open PySem PySem.W PySem.Calls PyProof.Rows
theorem jz {P:Params} {h:Heap}:∀ (ns:List Int) (vs:List Value),WellAll P h vs (ns.map WData.int)→IntsAre vs ns:=by
 intro ns
 induction ns with
 | nil =>
  intro vs w
  rw [List.map_nil] at w
  cases w
  exact .nil
 | cons n ns ih =>
  intro vs w
  rw [wa] at w
  cases w with
  | cons a b =>
   cases a
   exact .cons _ _ (ih _ b)
theorem qdC {l:OpenLaw} {n:Nat} (hn:l.most=some n) {P:Params} {h:Heap} {args:List WData} {vals:List Value}
  (hpre:l.row.toRowW.claim.pre args=true) (hwl:WellAll P h vals args) :
  ∃ a vs ns,vals=[Value.ref a]∧args=[WData.list (ns.map WData.int)]∧h.get? a=some { cls:=.type "list",data:=.seq vs.toArray }∧IntsAre vs ns∧ns.length≤n:=by
 have hsh:WShape.hasAll [] args [.list .int]=true:=(pre_splitW hpre).1
 have hc:l.pre.holds [] { args:=args }=true:=(pre_splitW hpre).2
 obtain ⟨d,r,rfl,h1,h2⟩:=hasAllW_cons hsh
 obtain rfl:=hasAllW_nil h2
 obtain ⟨xs,rfl,h3⟩:=hasW_list h1
 obtain ⟨ns,rfl⟩:=items_int h3
 have hlen:ns.length≤n:=by
  unfold OpenLaw.pre at hc
  have h4:(WTm.not (.lt (.lit (.int (n:Int))) (.len (.arg 0)))).holds [] { args:=[.list (ns.map .int)] }=true:=by
   have h4:=(holds_andW hc).1
   rw [hn] at h4
   exact h4
  have h5:=condW_of h4 (w_not (w_lt w_lit (w_len_list (w_arg rfl))))
  rw [wP] at h5
  refine Nat.le_of_not_lt λq=>?_
  have q':(n:Int)<((ns.length:Nat):Int):=by omega
  first
   | (rw [wm q'] at h5;exact absurd h5 (by decide))
   | (simp at h5;omega)
 cases hwl with
 | cons w1 w2 =>
  cases w2
  cases w1 with
  | list ho hall=>exact ⟨_,_,ns,rfl,rfl,ho,jz ns _ hall,hlen⟩
theorem qdD (l:OpenLaw) (args:List WData):l.row.toRowW.claim.post args (.bool true) args=true :=
 postW_of (r:=l.row.toRowW) (X:=(true == true))
  (show WShape.has [] (.bool true) .bool=true by first | rfl | decide | simp [WShape.has,WShape.arms,WShape.armsAll])
  (show (WTm.eq .res (.lit (.bool true))).value [] { args:=args,res:=some (.bool true),after:=args }=some (.bool (true == true)) from w_eq_bool (w_res rfl) w_lit) rfl
theorem attach_call {l:OpenLaw} {n:Nat} {q:Program} {loose:List Str} {XP:(Str→Option Value)→Heap→Prop} {YP:World→Heap→Prop} {d:DefRec}
  (hn:l.most=some n) (hdf:d.params.defaults=[])
  (call:∀ (w:World) (s₀ s₁:Shared) (mg mb:Str→Option Value) (fa:Addr) (o:Obj) (pm cd doc:Value) (a:Addr) (vs:List Value) (ns:List Int),
   Ground q loose [] XP w s₀ mg mb s₁.heap→YP w s₁.heap →
   s₁.heap.get? fa=some o→o.data=.func (docDef d.name d.params d.body d.scope pm cd doc)→s₁.heap.CodeRec cd d.name→mg d.name=some (.ref fa) →
   s₁.heap.get? a=some { cls:=.type "list",data:=.seq vs.toArray }→IntsAre vs ns→ns.length≤n→s₁.gens=#[] →
   codeAny (model l.prog w) callerA (.call (.ref fa) ⟨[.ref a],[]⟩) (λr s'=>r=.ok (.ret (.bool true))∧OldK s₁.heap s'.heap∧s'.os=s₁.os∧AllBare s'.gens) s₁) :
  WalkO q loose XP YP l.row.toRowW d [] (λf vs=>PySem.call f vs):=by
 intro w s₀ s₁ mg mb G Y fa o pm cd doc dV kV ho hd hcd hD hmg hg args vals as hpre hlay hrd hwl hlo
 obtain rfl:dV=.none:=Dflts.none hD hdf
 obtain rfl:kV=.none:=Dflts.noKw hD
 obtain ⟨a,vs,ns,rfl,rfl,hobj,hints,hlen⟩:=qdC hn hpre hwl
 refine enter_call (codeAny_mono (call w s₀ s₁ mg mb fa o pm cd doc a vs ns G Y ho (fd_plain hd) hcd hmg hobj hints hlen hg) λr s' hq=>?_)
 obtain ⟨rfl,h2,h3,h4⟩:=hq
 exact ⟨.inl ⟨.bool true,.bool true,[],rfl,λ_=>rfl,.bool true,qdD l _,λ_=>⟨List.Pairwise.nil,λ_ hm=>(nomatch hm)⟩⟩,h2,h3,h4⟩
end Att
namespace L2
open PySem PySem.Spec PyProof.Rows
theorem qap:∀ {vs:List Value} {ns:List Int},IntsAre vs ns→Vals (ns.map V.int) vs
 | _,_,.nil=>.nil
 | _,_,.cons n t h=>.cons ⟨t,rfl⟩ (qap h)
end L2
namespace L2
open PySem PySem.Spec PyProof.Rows
noncomputable def defArgs (s:Stmt):Arguments:=match s with
 | .FunctionDef _ a _ _ _ _ _ _ _ _=>a
 | _=>{ posonlyargs:=[],args:=[],vararg:=none,kwonlyargs:=[],kw_defaults:=[],kwarg:=none,defaults:=[] }
noncomputable def defBody (s:Stmt):List Stmt:=match s with
 | .FunctionDef _ _ b _ _ _ _ _ _ _=>b
 | _=>[]
noncomputable def defScope (s:Stmt):Scope:=match s with
 | .FunctionDef _ _ _ _ _ _ sc _ _ _=>sc
 | _=>{ kind:=.function,names:=[],isGenerator:=false,isCoroutine:=false }
noncomputable abbrev CX0:CXT:=λ_ _ _ _ _ _=>False
noncomputable abbrev E0:XK:=λ_ _ _=>False
theorem pass0 {X:Cx}:Passes CX0 X E0:=λ_ _ _ _ _ _ _ h=>h.elim
theorem qhs {A:Around} {k:Nat} (hr:Room k A):A.units+1<cLine:=Nat.lt_of_le_of_lt (Nat.add_le_add_left (by decide:1≤64) _) hr.units
end L2
namespace HT
open PySem PySem.Spec PyProof.Rows
section
variable {prog:Program} {w:World} {A:Around} {E:Value→Shared→Prop} {s:Shared}
theorem qae {t:Addr} {items:Array Value} {Q:Bool→Shared→Prop} (ht:IsTup s.heap t items) (h:Q true s):wpAny (model prog w) A (Builtin.Tuple.tupleIsExact (.ref t)) Q E s:=by
 unfold Builtin.Tuple.tupleIsExact
 refine wA (wpAny_typeOf ht.typeIs ?_)
 exact wC h
theorem yB {t sl:Addr} {items:Array Value} {vl vu:Value} {lo hi:Option Int} {Q:Value→Shared→Prop} (ht:IsTup s.heap t items) (hs:s.heap.IsSliceOf sl vl vu .none) (pl:IsPart vl lo) (pu:IsPart vu hi)
  (hw:sIx items.size 0 lo=0∧sIx items.size items.size hi=items.size) (h:Q (.ref t) s):wpAny (model prog w) A (getItem (.ref t) (.ref sl)) Q E s:=by
 obtain ⟨os,hos,hcs,hds⟩:=id hs
 have hTs:s.TypeIs (.ref sl) "slice":=⟨os,hos,hcs⟩
 unfold getItem
 try with_reducible refine wp ?_
 first | refine wA (wC ?_) | skip
 refine wA (wpAny_sequenceKey ht.typeIs (by decide) ?_)
 refine wA (wb (name:=Str.ofString "__getitem__") ht.typeIs w4
  (wj w4 ht.typeIs entry_tuple_getitem ?_ (args_tuple_getitem _ _)))
 show wpAny _ _ (Builtin.Tuple.tupleItemsOf (.ref t) >>= _) _ _ s
 refine wA (tupleItemsOf_ ht ?_)
 refine wA (wpAny_typeOf hTs ?_)
 rw [wJ (by decide)]
 refine wA (zT hs pl pu ?_)
 have hyes:(((sIx items.size 0 lo:Nat):Int) == 0&&(1:Int) == 1&&(sIx items.size items.size hi-sIx items.size 0 lo) == items.size)=true:=by
  rw [hw.1,hw.2];simp
 show wpAny _ _ (if (((sIx items.size 0 lo:Nat):Int) == 0&&(1:Int) == 1&&(sIx items.size items.size hi-sIx items.size 0 lo) == items.size)=true then _ else _) _ _ s
 rw [wJ hyes]
 refine wA (qae ht ?_)
 rw [wJ rfl]
 refine wA (wpAny_rule ?_)
 exact wA (wC (wC ⟨_,rfl,wC h⟩))
end
end HT
namespace HT
open PySem PySem.Spec PyProof.Rows
theorem je:fillsNumberSlot (.type "tuple") "mul"=pure false :=
 PySem.fillsNumberSlot_seq (id:="tuple.__mul__") (r:=some (.builtin "tuple.__rmul__")) F.slot_tuple_mul.lookup (by decide +kernel) F.slot_tuple_rmul.lookup (by decide +kernel)
theorem qaH:seqRepeat? (.type "tuple")=pure (some (.builtin "tuple.__mul__")):=by
 unfold seqRepeat?
 rw [PySem.seqSlot_of (T:="tuple") (name:="__mul__") (id:="tuple.__mul__") F.slot_tuple_mul.lookup (by decide +kernel),PySem.seqSlot_of (T:="tuple") (name:="__rmul__") (id:="tuple.__rmul__") F.slot_tuple_rmul.lookup (by decide +kernel)]
 rfl
section
variable {prog:Program} {w:World} {A:Around} {E:Value→Shared→Prop} {s:Shared}
theorem qex {a:Int} {t:Tok} {l:Addr} {items:Array Value} {Q:_→Shared→Prop} (ht:IsTup s.heap l items) (h:Q (.done (.ret Value.notImplemented)) s):wpAny (model prog w) A (Builtin.«int.__rmul__» ⟨[.int a t,.ref l],[]⟩) Q E s:=by
 obtain ⟨o,ho,hc,n,hd⟩:=ht
 obtain ⟨hp,g,d,tk,os⟩:=s
 obtain ⟨c,dd,da,sl⟩:=o
 cases hc
 cases hd
 wp_walk
 exact h
theorem qgk {l:Addr} {items:Array Value} {k:Int} {t:Tok} {Q:_→Shared→Prop} (ht:IsTup s.heap l items) (h1:-(2^63)≤k) (h2:k<2^63) (hz:items.size*k.toNat≤sizeLine)
  (hs:(items=#[]∨k=1)→Q (.done (.ret (.ref l))) s)
  (hn:(¬ (items=#[]∨k=1))→Q (.done (.ret (.ref s.heap.objs.size))) { s with heap:=s.heap.push { cls:=.type "tuple",data:=.seq ((List.replicate k.toNat items.toList).flatten).toArray } }) :
  wpAny (model prog w) A (Builtin.«tuple.__mul__» ⟨[.ref l,.int k t],[]⟩) Q E s:=by
 obtain ⟨o,ho,hc,n,hd⟩:=ht
 obtain ⟨hp,g,d,tk,os⟩:=s
 obtain ⟨c,dd,da,sl⟩:=o
 cases hc
 cases hd
 have f0:(decide (k < -(2^63)) || decide (k≥2^63))=false:=by simp;lia
 by_cases z:items=#[]∨k=1
 ·have f1:(items.isEmpty || k == 1)=true:=by
   rcases z with z | z
   ·rw [z];rfl
   ·rw [z];simp
  wp_walk
  rw [wK (by rw [f0];exact wR)]
  wp_walk
  exact hs z
 ·have f1:(items.isEmpty || k == 1)=false:=by
   simp only [Bool.or_eq_false_iff,wz]
   exact ⟨by rw [← Bool.not_eq_true];intro q;exact z (.inl (by simpa using q)),λq=>z (.inr q)⟩
  wp_walk
  rw [wK (by rw [f0];exact wR)]
  wp_walk
  have ne:items.isEmpty=false:=(Bool.or_eq_false_iff.mp f1).1
  by_cases k0:k≤0
  ·have f2:(decide (k≤0) || items.isEmpty)=true:=by rw [wm k0];rfl
   rw [wJ f2]
   wp_walk
   have e:k.toNat=0:=by lia
   have:=hn z
   rw [e] at this
   exact this
  ·have f2:(decide (k≤0) || items.isEmpty)=false:=by rw [w6 k0,ne];rfl
   rw [wK (by rw [f2];exact wR)]
   have ek:(items.size:Int)*k=((items.size*k.toNat:Nat):Int):=by
    rw [Int.natCast_mul];congr 1;lia
   have f3:¬ ((items.size:Int)*k>(2^63-1) / 8):=by
    rw [ek]
    have:((sizeLine:Nat):Int)≤(2^63-1) / 8:=by decide
    lia
   have f4:Builtin.Tuple.tupleTooMany ((items.size:Int)*k)=false:=by
    unfold Builtin.Tuple.tupleTooMany
    rw [ek,w6]
    lia
   have f5:List.foldl (λx1 x2=>x1++x2) #[] (List.replicate k.toNat items)=(List.replicate k.toNat items.toList).flatten.toArray:=by
    have:=L2.jd items.toList k.toNat []
    rw [List.nil_append] at this
    simpa using this
   rw [wK f3]
   wp_walk
   rw [f5]
   rw [wK (by rw [f4];exact wR)]
   have hl:sizeOk (.seq (List.replicate k.toNat items.toList).flatten.toArray):=by
    show (List.replicate k.toNat items.toList).flatten.toArray.size≤sizeLine
    rw [wF,L2.jA,Array.length_toList,Nat.mul_comm]
    exact hz
   show wpAny _ _ (Builtin.Tuple.tupleExact _ >>= _) _ _ _
   first
    | exact wA (m:=Builtin.Tuple.tupleExact _) (wT (wC (hn z)) hl)
    | exact wA (m:=Builtin.Tuple.tupleExact _) (wT (hn z) hl)
end
end HT
namespace L2
open PySem PySem.Spec PyProof.Rows
section
variable {X:Cx}
noncomputable def rSlW (K:PySem.W.Frag):V→Option Int→Option Int→Hp→VK→Prop:=λx lo hi H Q=>∃ a xs,x=.ref a∧SqT K H a xs ∧
 (HT.sIx xs.length 0 lo=0∧HT.sIx xs.length xs.length hi=xs.length)∧Q x H
theorem qgl:SlR X (rSlW X.K):=by
 intro pins s σ H x v vl vu lo hi sl Q I rx hs pl pu h
 obtain ⟨a,xs,rfl,hx,hw,q⟩:=h
 cases rx
 obtain ⟨its,r,ht,hz⟩:=I.tuple hx
 have hlen:its.toArray.size=xs.length:=by rw [wF];exact r.length.symm
 refine ⟨"tuple",_,w4.lookup,ht.typeIs,?_⟩
 exact HT.yB ht hs pl pu (by rw [hlen];exact hw) ⟨.ref a,H,I,rfl,q⟩
noncomputable def rRepT (K:PySem.W.Frag):R2:=λx y H Q=>∃ a k xs,x=.ref a∧y=.int k∧SqT K H a xs∧-(2^63)≤k∧k<2^63∧xs.length*k.toNat≤sizeLine ∧
 ((xs=[]∨k=1)→Q x H)∧((¬ (xs=[]∨k=1))→∀ p,H p=none→Q (.ref p) (upd H p (.tup (List.replicate k.toNat xs).flatten)))
theorem qgm:OpR X (binaryOp .Mult) (rRepT X.K):=by
 intro pins s σ H x y v u Q I rx ry h
 obtain ⟨a,k,xs,rfl,rfl,hx,h1,h2,hz,q1,q2⟩:=h
 cases rx
 obtain ⟨t,rfl⟩:=ry
 obtain ⟨its,r,ht,hz0⟩:=I.tuple hx
 have hlen:its.length=xs.length:=r.length.symm
 have hiff:(its.toArray=#[]∨k=1) ↔ (xs=[]∨k=1):=by
  constructor
  ·rintro (z | z)
   ·left
    have:its=[]:=by simpa using z
    rw [this] at hlen;exact List.length_eq_zero_iff.mp (by simpa using hlen.symm)
   ·exact .inr z
  ·rintro (z | z)
   ·left
    rw [z] at hlen
    have:its=[]:=List.length_eq_zero_iff.mp (by simpa using hlen)
    rw [this]
   ·exact .inr z
 refine wpAny_binaryOp_repeat_ref (T:="tuple") (U:="int") (by decide) ht.typeIs (λs'=>typeIs_int s' k t) HT.je F.fills_int_mul F.slot_int_rmul HT.qaH F.slot_int_index.lookup ?_
 refine wj F.slot_int_rmul (typeIs_int s k t) F.entry_int_rmul (HT.qex ht ⟨_,rfl,rfl,ht.typeIs,?_⟩) (F.args_int_rmul_2 _ _)
 refine wj F.slot_tuple_mul ht.typeIs F.entry_tuple_mul (HT.qgk ht h1 h2 (by rw [wF,hlen];exact hz) (λz=>⟨_,rfl,.ref a,H,I,rfl,q1 (hiff.mp z)⟩) λz=>⟨_,rfl,?_⟩) (F.args_tuple_mul_2 _ _)
 refine ⟨.ref s.heap.objs.size,_,I.laid (t':=s.toks) (o:=.tup (List.replicate k.toNat xs).flatten) (λb ob q=>wB _ q) (wG _) ?_,rfl,q2 (λy=>z (hiff.mpr y)) _ (I.hok.fresh (wG _))⟩
 exact ⟨by rw [jA,Nat.mul_comm];exact hz,_,r.rep k.toNat,IsTup.new _ _,zZ _ _⟩
end
end L2
namespace HT
open PySem PyProof.Rows
theorem qey (A:Around) (s:Shared) (a:Int) (t:Tok) (c:Int) (u:Tok) (prog:Program) (w:World) (E:Value→Shared→Prop) (Q:Value→Shared→Prop) (h:Q (.bool (decide (c≤a))) s) :
  wpAny (model prog w) A (richCompare .GtE (.int a t) (.int c u)) Q E s :=
 (PyProof.Rows.ge_int h:wpAny (model prog w) A (compareOp .GtE (.int a t) (.int c u)) Q E s)
theorem qez (a c:Int):(!decide (a<c))=decide (c≤a):=by rw [Bool.eq_iff_iff];simp
theorem qeA (a c:Nat):(!decide (a<c))=decide (c≤a):=by rw [Bool.eq_iff_iff];simp
section
open PySem.SeqAt
open PySem.AutoSeq1 (wpAny_loadPart')
open PySem.MeetsSeq PySem.MeetsSeq2 PySem.MeetsSeq3
theorem qaf (l b:Addr) (items items2:Array Value) (n n2:Nat) (dd dd2:Option Addr) (sl sl2:Array (Option Value)) (ns ms:List Int) (hi:IntsAre items.toList ns) (hj:IntsAre items2.toList ms) :
  Meets (Builtin.«tuple.__ge__» ⟨[.ref l,.ref b],[]⟩)
   (λ_ R s=>s.heap.get? l=some { cls:=.type "tuple",dict:=dd,data:=.seq items n,slots:=sl }∧s.heap.get? b=some { cls:=.type "tuple",dict:=dd2,data:=.seq items2 n2,slots:=sl2 } ∧
    R (.ok (.ret (.bool (!lexLt ns ms)))) s) :=
 .of_wp λprog w A R s h=>by
  obtain ⟨hp,g,d,tk,os⟩:=s;obtain ⟨hl,hb,h⟩:=h
  have f2:=AutoSeq1.sub_tuple_tuple
  have z1:items.size=ns.length:=by rw [← hi.length];simp
  have z2:items2.size=ms.length:=by rw [← hj.length];simp
  wp_walk using wpAny_loadPart' hl,wpAny_loadPart' hb,wpAny_forIn_list _ (λrest b s'=>b.1=none∧s'=⟨hp,g,d,tk,os⟩∧∃ (vs ws:List Value) (ns' ms':List Int),rest=vs.zip ws ∧
   IntsAre vs ns'∧IntsAre ws ms'∧ns'.length+items2.size=ms'.length+items.size∧R (.ok (.ret (.bool (!lexLt ns' ms')))) ⟨hp,g,d,tk,os⟩) _
  case turn =>
   rintro ⟨y,x⟩ rest b s' ⟨hb',rfl,vs,ws,ns',ms',hz,hvi,hwi,hlen,hR⟩
   cases hvi with
   | nil=>rw [List.zip_nil_left] at hz;cases hz
   | cons a t hvi' =>
    cases hwi with
    | nil=>rw [List.zip_nil_right] at hz;cases hz
    | cons c u hwi' =>
     rw [List.zip_cons_cons] at hz
     injection hz with hyx hrest
     injection hyx with hy hx
     subst hy hx
     rw [qZ] at hR
     simp only [w5] at hlen
     obtain ⟨e,he,hiff⟩:=qbh A.in1 ⟨hp,g,d,tk,os⟩ a t c u
     refine wA (he prog w _ _ ?_)
     cases e with
     | true =>
      rw [wJ (hiff.mp rfl)] at hR
      wp_walk
      exact ⟨rfl,rfl,_,_,_,_,hrest,hvi',hwi',by lia,hR⟩
     | false =>
      rw [wK (λq=>absurd (hiff.mpr q) wR)] at hR
      have hri:=qey A.in1 ⟨hp,g,d,tk,os⟩ a t c u prog w
      rw [qez] at hR
      wp_walk using hri
      exact ⟨_,rfl,by simpa using hR⟩
  case fin =>
   rintro ⟨b1,b2⟩ s' ⟨hb',rfl,vs,ws,ns',ms',hz,hvi,hwi,hlen,hR⟩
   simp only at hb'
   subst hb'
   have hv:lexLt ns' ms'=decide (items.size<items2.size):=by
    cases hvi with
    | nil =>
     cases hwi with
     | nil =>
      simp only [vD] at hlen
      rw [yC]
      exact (w6 (by lia)).symm
     | cons c u hw =>
      simp only [vD,w5] at hlen
      rw [yi]
      exact (wm (by lia)).symm
    | cons a t hv =>
     cases hwi with
     | nil =>
      simp only [vD,w5] at hlen
      rw [yj]
      exact (w6 (by lia)).symm
     | cons c u hw =>
      rw [List.zip_cons_cons] at hz
      cases hz
   rw [hv,qeA] at hR
   wp_walk
   exact ⟨_,rfl,by simpa [Builtin.Tuple.tupleCompareSizes] using hR⟩
  case h =>
   exact ⟨rfl,rfl,items.toList,items2.toList,ns,ms,rfl,hi,hj,by lia,h⟩
end
section
variable {prog:Program} {w:World} {A:Around} {E:Value→Shared→Prop} {s:Shared}
theorem qcb {l b:Addr} {items items2:Array Value} {ns ms:List Int} {Q:Value→Shared→Prop} (hl:IsTup s.heap l items) (hb:IsTup s.heap b items2) (hi:IntsAre items.toList ns) (hj:IntsAre items2.toList ms)
  (hu:A.units<cLine) (h:Q (.bool (!lexLt ns ms)) s):wpAny (model prog w) A (compareOp .GtE (.ref l) (.ref b)) Q E s:=by
 obtain ⟨⟨cls,dd,data,sl⟩,ho,hc,n,hd⟩:=id hl
 obtain ⟨⟨cls2,dd2,data2,sl2⟩,ho2,hc2,n2,hd2⟩:=id hb
 simp only at hc hd hc2 hd2
 subst hc hd hc2 hd2
 exact richCompare_meets_room (op:=.GtE) ⟨_,ho,rfl⟩ ⟨_,ho2,rfl⟩ PySem.F.slot_tuple_ge PySem.F.entry_tuple_ge (PySem.F.args_tuple_ge_2 _ _) (qaf l b items items2 n n2 dd dd2 sl sl2 ns ms hi hj)
  ⟨ho,ho2,show Value.bool (!lexLt ns ms)≠Value.notImplemented∧Q (.bool (!lexLt ns ms)) s from ⟨(λx=>nomatch x),h⟩⟩ hu
theorem qgn (n:Nat):Builtin.Slice.sliceAdjust none none (-1) (n:Int)=((n:Int)-1,-1):=by
 unfold Builtin.Slice.sliceAdjust
 simp
theorem qcc (n:Nat):Builtin.Slice.slicePlaces ((n:Int)-1) (-1) (-1)=n:=by
 unfold Builtin.Slice.slicePlaces
 simp
 lia
theorem qbk {α β:Type} {f g:α→Option β}:∀ {l:List α},(∀ x∈l,f x=g x)→l.filterMap f=l.filterMap g
 | [],_=>rfl
 | a::r,h=>by
  rw [vM,vM,h a wN,qbk λx hx=>h x (wM _ hx)]
theorem qeB (xs:Array Value):((List.range xs.size).filterMap λ(m:Nat)=>xs[((xs.size:Int)-1+(m:Int)*(-1)).toNat]?).toArray=xs.toList.reverse.toArray:=by
 have e:(List.range xs.size).filterMap (λ(m:Nat)=>xs[((xs.size:Int)-1+(m:Int)*(-1)).toNat]?)=((List.range xs.size).map λk=>xs.size-1-k).filterMap (xs[·]?):=by
  rw [List.filterMap_map]
  refine qbk λm hm=>?_
  have:((xs.size:Int)-1+(m:Int)*(-1)).toNat=xs.size-1-m:=by have:=List.mem_range.mp hm;lia
  simp only [Function.comp]
  rw [this]
 rw [e,PySem.W.krv_range,List.filterMap_reverse,PySem.W.krv_all]
theorem jf {sl:Addr} {vk:Value} {n:Nat} {Q:Int × Int × Nat→Shared→Prop} (hs:s.heap.IsSliceOf sl .none .none vk) (pk:IsPart vk (some (-1))) (h:Q ((n:Int)-1,-1,n) s):wpAny (model prog w) A (Builtin.Slice.sliceApplied (.ref sl) (pure (n:Int))) Q E s:=by
 obtain ⟨os,hos,hcs,hds⟩:=id hs
 unfold Builtin.Slice.sliceApplied Builtin.Slice.sliceFields
 refine wA (wA (wd hos hds (x:=.none) rfl (wA (wd hos hds (x:=.none) rfl (wA (wd hos hds (x:=vk) rfl (wC ?_)))))))
 refine wA (yI pk ?_)
 show wpAny _ _ (if ((-1:Int) == 0)=true then _ else _) _ _ s
 rw [wK (by decide)]
 refine wA (slicePart_none (wA (slicePart_none (wA (wC ?_)))))
 show wpAny _ _ (match Builtin.Slice.sliceAdjust none none (-1) (n:Int) with | (lo,hi)=>pure (lo,(-1:Int),Builtin.Slice.slicePlaces lo hi (-1))) _ _ s
 rw [qgn]
 show wpAny _ _ (pure ((n:Int)-1,(-1:Int),Builtin.Slice.slicePlaces ((n:Int)-1) (-1) (-1))) _ _ s
 rw [qcc]
 exact wC h
theorem yU {t sl:Addr} {items:Array Value} {vk:Value} {Q:Value→Shared→Prop} (ht:IsTup s.heap t items) (hs:s.heap.IsSliceOf sl .none .none vk) (pk:IsPart vk (some (-1)))
  (h:Q (.ref s.heap.objs.size) { s with heap:=s.heap.push { cls:=.type "tuple",data:=.seq items.toList.reverse.toArray } })
  (hsz:items.size≤sizeLine):wpAny (model prog w) A (getItem (.ref t) (.ref sl)) Q E s:=by
 have htake:sizeOk (.seq items.toList.reverse.toArray):=by
  show items.toList.reverse.toArray.size≤sizeLine
  rw [wF,List.length_reverse,Array.length_toList]
  exact hsz
 obtain ⟨os,hos,hcs,hds⟩:=id hs
 have hTs:s.TypeIs (.ref sl) "slice":=⟨os,hos,hcs⟩
 unfold getItem
 try with_reducible refine wp ?_
 first | refine wA (wC ?_) | skip
 refine wA (wpAny_sequenceKey ht.typeIs (by decide) ?_)
 refine wA (wb (name:=Str.ofString "__getitem__") ht.typeIs w4
  (wj w4 ht.typeIs entry_tuple_getitem ?_ (args_tuple_getitem _ _)))
 show wpAny _ _ (Builtin.Tuple.tupleItemsOf (.ref t) >>= _) _ _ s
 refine wA (tupleItemsOf_ ht ?_)
 refine wA (wpAny_typeOf hTs ?_)
 rw [wJ (by decide)]
 refine wA (jf hs pk ?_)
 have hno:¬ ((((items.size:Int)-1) == 0&&(-1:Int) == 1&&items.size == items.size)=true):=by simp
 show wpAny _ _ (if (((items.size:Int)-1) == 0&&(-1:Int) == 1&&items.size == items.size)=true then _ else _) _ _ s
 rw [wK hno,qeB]
 first
  | exact wA (m:=Builtin.Tuple.tupleExact _) (wT (wC ⟨_,rfl,wC h⟩) htake)
  | exact wA (m:=Builtin.Tuple.tupleExact _) (wT (wA (wC (wC ⟨_,rfl,wC h⟩))) htake)
  | exact wA (wA (m:=Builtin.Tuple.tupleExact _) (wT (wC (wC ⟨_,rfl,wC h⟩)) htake))
  | exact wA (wA (m:=Builtin.Tuple.tupleExact _) (wT (wC ⟨_,rfl,wC h⟩) htake))
end
end HT
namespace L2
open PySem PySem.Spec PyProof.Rows
section
variable {X:Cx} {e:Expr} {te:TE} {pos p2 p3 p4:Pos}
noncomputable def rGeT (K:PySem.W.Frag):R2:=λx y H Q=>∃ a b ns ms,x=.ref a∧y=.ref b∧SqT K H a (ns.map V.int)∧SqT K H b (ms.map V.int)∧Q (.bl (!HT.lexLt ns ms)) H
theorem qid (hu:X.A.units<cLine):OpR X (compareOp .GtE) (rGeT X.K):=by
 intro pins s σ H x y v u Q I rx ry h
 obtain ⟨a,b,ns,ms,rfl,rfl,ha,hb,q⟩:=h
 cases rx
 cases ry
 obtain ⟨its,r1,p1,_⟩:=I.tuple ha
 obtain ⟨its2,r2,p2,_⟩:=I.tuple hb
 have i1:IntsAre its.toArray.toList ns:=zr r1
 have i2:IntsAre its2.toArray.toList ms:=zr r2
 exact HT.qcb p1 p2 i1 i2 hu ⟨.bl (!HT.lexLt ns ms),H,I,rfl,q⟩
theorem qgo {k:Nat} (he:PE X e te):PE X (.Subscript e (.Slice none none (some (.UnaryOp .USub (.Constant (.int 1) k p4) p3)) p2) pos)
  (λσ H Q=>te σ H λx H1=>∃ a xs,x=.ref a∧SqT X.K H1 a xs∧∀ p,H1 p=none→Q (.ref p) (upd H1 p (.tup xs.reverse))):=by
 intro pins s σ H Q I h
 refine Subscript_ (thn (he pins s σ H _ I h) λv s1 ⟨x,H1,I1,r1,q1⟩=>?_)
 obtain ⟨a,xs,rfl,hx,q⟩:=q1
 cases r1
 refine wpAny_Slice ?_
 rw [evalPart_none]
 refine wC (wC ?_)
 refine thn ((qcD (qho qeg (ta:=tC (.int 1)) qd9)) pins s1 σ H1 (λo H'=>o=some (-1)∧H'=H1) I1 ⟨1,rfl,-1,rfl,rfl,rfl⟩) λvk s2 ⟨o,H2,I2,pk,ho,hH⟩=>?_
 subst ho hH
 have I4:Inv X pins σ H2 { s2 with heap:=s2.heap.push { cls:=.type "slice",data:=.fields #[.none,.none,vk] } }:=I2.kept (t':=s2.toks) λb ob q=>wB _ q
 obtain ⟨its,r,ht,hz⟩:=I4.tuple hx
 have hlen:its.toArray.size=xs.length:=by rw [wF];exact r.length.symm
 refine tail_any (ops:=[.ref a,.ref s2.heap.objs.size]) ht.typeIs w4.lookup ?_ (by with_unfolding_all rfl)
 refine HT.yU ht (Heap.IsSliceOf.new ..) pk ?_ (by rw [hlen];exact hz)
 refine ⟨.ref _,_,I4.laid (t':=s2.toks) (o:=.tup xs.reverse) (λb ob q=>wB _ q) (wG _) ?_,rfl,q _ (I4.hok.fresh (wG _))⟩
 exact ⟨by rw [List.length_reverse];exact hz,_,r.reverse,IsTup.new _ _,zZ _ _⟩
end
end L2
namespace HT
open PySem PyProof.Rows
section
variable {prog:Program} {w:World} {A:Around} {E:Value→Shared→Prop} {s:Shared}
noncomputable def Many (h:Heap) (d:Addr) (n:Nat):Prop:=∃ o es ep,h.get? d=some o∧o.data=.dict es ep∧es.size=n
theorem qcd {d:Addr} {n:Nat} (hd:(d == sysModules)=false) :
  MeetsIn prog w (Builtin.«dict.__len__» ⟨[.ref d],[]⟩) (λ_ R s=>Many s.heap d n∧R (.ok (.ret (.int n s.toks))) { s with toks:=s.toks+1 }):=by
 refine .of_wp λA R s hs=>?_
 obtain ⟨⟨o,es,ep,ho,hdat,rfl⟩,h⟩:=hs
 have size:∀ {A:Around} {E:Value→Shared→Prop},wpAny (model prog w) A (dictSize d) (λk s'=>k=es.size∧s'=s) E s:=by
  intro A E;unfold dictSize;exact wA (wpAny_dictEntries ho hdat (wC ⟨rfl,rfl⟩))
 refine wA (m:=dictSize d) (wg size (λk s' ks=>?_) λ_ _ z=>z)
 obtain ⟨e1,e2⟩:=ks
 subst e1 e2
 exact wA (wpAny_pendingCount_other hd (wpAny_ret_mkInt h))
theorem qdE {d:Addr} {n:Nat} {Q:Value→Shared→Prop} (hd:(d == sysModules)=false) (hm:Many s.heap d n) (ht:s.TypeIs (.ref d) "dict") (hfit:(n:Int)<2^63)
  (h:Q (.int n (s.toks+1)) { s with toks:=s.toks+1+1 }):wpAny (model prog w) A (call (.builtin "len") [.ref d]) Q E s:=by
 have low:¬ ((n:Nat):Int)<0:=by lia
 have high:¬ ((n:Nat):Int)≥2^63:=by lia
 have slot:∀ {A:Around} {Q:Value→Shared→Prop},Q (.int n s.toks) { s with toks:=s.toks+1 }→wpAny (model prog w) A (call (.builtin "dict.__len__") [.ref d]) Q E s:=λq =>
  call_meetsIn F.slot_dict_len ht F.entry_dict_len (F.args_dict_len_1 _) (qcd (n:=n) hd) ⟨hm,q⟩
 refine Calls.call_function_entry kind_len plain_len entry_len (args_len1 _) ?_
 unfold Builtin.«len»
 refine wA (m:=oneArg "len" _) (wC (wA (wb (name:=Str.ofString "__len__") ht F.slot_dict_len (slot ?_))))
 refine wA (wp (wC (wA (wpAny_letGo ?_))))
 show wpAny _ _ (if ((n:Nat):Int)<0 then _ else if ((n:Nat):Int)≥2^63 then _ else _) _ _ _
 rw [wK low,wK high];exact wA (wpAny_mkInt (wC ⟨_,rfl,h⟩))
end
end HT
namespace L2
open PySem PySem.Spec PyProof.Rows
section
variable {X:Cx}
theorem qdF:CallR X (.builtin "len") (λxs H Q=>∃ a kvs,xs=[V.ref a]∧H a=some (.dT kvs)∧Q (.int kvs.length) H):=by
 intro pins s σ H xs us Q I r h
 obtain ⟨a,kvs,rfl,ha,q⟩:=h
 obtain ⟨u,rfl,ru⟩:=vals1 r
 cases ru
 obtain ⟨z,y,ys,rel,o,es,ep,h1,h2,h3,h4,h5⟩:=(show ObjOk X.prog X.w H s.heap a (.dT kvs) from I.hok a _ ha)
 have hn:es.size=kvs.length:=by
  have e1:=congrArg List.length h4
  rw [wP,Array.length_toList] at e1
  rw [e1,rel.length]
 have hfit:((kvs.length:Nat):Int)<2^63:=by rw [vJ] at z;lia
 exact HT.qdE y ⟨o,es,ep,h1,h3,hn⟩ (qic I (.inr ⟨kvs,.inl ha⟩)).1 hfit ⟨.int kvs.length,H,I.tok _,⟨_,rfl⟩,q⟩
end
end L2
namespace R
open PySem PySem.Spec L2
open PyProof.Rows hiding St
namespace DN
end DN
end R
namespace R
open PySem PySem.Spec L2
open PyProof.Rows hiding St
namespace SN
end SN
end R
section
set_option maxHeartbeats 400000
namespace R
open PySem PySem.Spec L2
open PyProof.Rows hiding St
namespace SN
end SN
end R
end
section
set_option maxHeartbeats 400000
end
section
set_option maxHeartbeats 400000
end
namespace R
open PySem PySem.Spec L2
open PyProof.Rows hiding St
namespace DL
open DN
end DL
end R
section
set_option maxHeartbeats 400000
namespace R
open PySem PySem.Spec L2 HT
open PyProof.Rows hiding St
namespace TS
end TS
end R
end
namespace R
open PySem PySem.Spec PyProof.Rows L2
namespace EX
noncomputable def Errs (a C:Addr) (h:Heap):Prop:=∃ o vs,h.get? a=some o∧o.cls=.ref C∧o.data=.fields vs
end EX
inductive D where
 | non | bl (b:Bool) | int (i:Int) | str (x:Str)
 | tup (l:List D) | lst (l:List D) | emp
 | ref (n:Nat)
 | exc (C:Addr)
mutual
noncomputable def Den (ι:List Addr) (H:Hp):D→V→Prop
 | .non,v=>v=.non
 | .bl b,v=>v=.bl b
 | .int i,v=>v=.int i
 | .str x,v=>v=.str x
 | .tup ds,v=>∃ a xs,v=.ref a∧a ∉ ι∧H a=some (.tup xs)∧Dens ι H ds xs
 | .lst ds,v=>∃ a xs,v=.ref a∧a ∉ ι∧Rd H a (.lst xs)∧Dens ι H ds xs
 | .emp,v=>∃ a,v=.ref a∧a ∉ ι∧H a=some (.dK [])
 | .ref n,v=>∃ a,v=.ref a∧ι[n]?=some a
 | .exc C,v=>∃ a,v=.ref a∧a ∉ ι∧H a=some (.ext (EX.Errs a C))
noncomputable def Dens (ι:List Addr) (H:Hp):List D→List V→Prop
 | [],xs=>xs=[]
 | d::ds,xs=>∃ x r,xs=x::r∧Den ι H d x∧Dens ι H ds r
end
noncomputable def NT:HO→Prop
 | .tbl _=>False
 | _=>True
structure Stp (ι:List Addr) (H:Hp) (ι':List Addr) (H':Hp):Prop where
 pre:ι <+: ι'
 new:∀ a∈ι',a∈ι∨H a=none
 keep:∀ a o,H a=some o→a ∉ ι→NT o→H' a=some o
 there:∀ a,H a≠none→H' a≠none
theorem Stp.refl (ι:List Addr) (H:Hp):Stp ι H ι H:=⟨List.prefix_refl _,λ_ h=>.inl h,λ_ _ h _ _=>h,λ_ h=>h⟩
theorem Stp.notin {ι ι':List Addr} {H H':Hp} (s:Stp ι H ι' H') {a:Addr} {o:HO} (h:H a=some o) (n:a ∉ ι):a ∉ ι':=λm=>by
 rcases s.new a m with z | z
 ·exact n z
 ·rw [h] at z;cases z
theorem Stp.trans {ι ι1 ι2:List Addr} {H H1 H2:Hp} (s:Stp ι H ι1 H1) (t:Stp ι1 H1 ι2 H2):Stp ι H ι2 H2 where
 pre:=s.pre.trans t.pre
 new:=λa m=>by
  rcases t.new a m with z | z
  ·exact s.new a z
  ·cases q:H a with
   | none=>exact .inr rfl
   | some o=>exact absurd z (s.there a (by rw [q];simp))
 keep:=λa o h n z=>t.keep a o (s.keep a o h n z) (s.notin h n) z
 there:=λa h=>t.there a (s.there a h)
theorem Stp.get {ι ι':List Addr} {H H':Hp} (s:Stp ι H ι' H') {n:Nat} {a:Addr} (h:ι[n]?=some a):ι'[n]?=some a:=by
 obtain ⟨t,rfl⟩:=s.pre
 rw [wU (wI.mp h).1]
 exact h
theorem Stp.rd {ι ι':List Addr} {H H':Hp} (s:Stp ι H ι' H') {a:Addr} {u:HO} (h:Rd H a u) (n:a ∉ ι) (z:NT u:=by trivial):Rd H' a u∧a ∉ ι':=by
 rcases h with h | ⟨o,h⟩
 ·exact ⟨.inl (s.keep _ _ h n z),s.notin h n⟩
 ·exact ⟨.inr ⟨o,s.keep _ _ h n trivial⟩,s.notin h n⟩
mutual
theorem Den.mono {ι ι':List Addr} {H H':Hp} (s:Stp ι H ι' H'):∀ (d:D) {v:V},Den ι H d v→Den ι' H' d v
 | .non,_,h=>h
 | .bl _,_,h=>h
 | .int _,_,h=>h
 | .str _,_,h=>h
 | .tup ds,_,h=>by
  obtain ⟨a,xs,e,n,ha,r⟩:=h
  exact ⟨a,xs,e,s.notin ha n,s.keep _ _ ha n trivial,Dens.mono s ds r⟩
 | .lst ds,_,h=>by
  obtain ⟨a,xs,e,n,ha,r⟩:=h
  exact ⟨a,xs,e,(s.rd ha n).2,(s.rd ha n).1,Dens.mono s ds r⟩
 | .emp,_,h=>by
  obtain ⟨a,e,n,ha⟩:=h
  exact ⟨a,e,s.notin ha n,s.keep _ _ ha n trivial⟩
 | .ref _,_,h=>by
  obtain ⟨a,e,ha⟩:=h
  exact ⟨a,e,s.get ha⟩
 | .exc _,_,h=>by
  obtain ⟨a,e,n,ha⟩:=h
  exact ⟨a,e,s.notin ha n,s.keep _ _ ha n trivial⟩
theorem Dens.mono {ι ι':List Addr} {H H':Hp} (s:Stp ι H ι' H'):∀ (ds:List D) {xs:List V},Dens ι H ds xs→Dens ι' H' ds xs
 | [],_,h=>h
 | d::ds,_,h=>by
  obtain ⟨x,r,e,h1,h2⟩:=h
  exact ⟨x,r,e,Den.mono s d h1,Dens.mono s ds h2⟩
end
theorem Dens.length {ι:List Addr} {H:Hp}:∀ {ds:List D} {xs:List V},Dens ι H ds xs→ds.length=xs.length
 | [],_,h=>by cases (show _=[] from h);rfl
 | d::ds,_,h=>by
  obtain ⟨x,r,rfl,_,h2⟩:=h
  simp [Dens.length h2]
theorem Dens.append {ι:List Addr} {H:Hp}:∀ {ds es:List D} {xs ys:List V},Dens ι H ds xs→Dens ι H es ys→Dens ι H (ds++es) (xs++ys)
 | [],_,_,_,h,k=>by cases (show _=[] from h);exact k
 | d::ds,_,_,_,h,k=>by
  obtain ⟨x,r,rfl,h1,h2⟩:=h
  exact ⟨x,_,rfl,h1,Dens.append h2 k⟩
theorem Dens.get {ι:List Addr} {H:Hp}:∀ {ds:List D} {xs:List V} {i:Nat} {d:D},Dens ι H ds xs→ds[i]?=some d→∃ x,xs[i]?=some x∧Den ι H d x
 | [],_,_,_,_,e=>by simp at e
 | d::ds,_,0,_,h,e=>by
  obtain ⟨x,r,rfl,h1,h2⟩:=h
  simp at e;subst e
  exact ⟨x,rfl,h1⟩
 | d::ds,_,i+1,_,h,e=>by
  obtain ⟨x,r,rfl,h1,h2⟩:=h
  obtain ⟨y,e1,e2⟩:=Dens.get (i:=i) h2 (by simpa using e)
  exact ⟨y,by simpa using e1,e2⟩
theorem Dens.take {ι:List Addr} {H:Hp}:∀ {ds:List D} {xs:List V} (n:Nat),Dens ι H ds xs→Dens ι H (ds.take n) (xs.take n)
 | _,_,0,_=>by simp [Dens]
 | [],_,n+1,h=>by cases (show _=[] from h);simp [Dens]
 | d::ds,_,n+1,h=>by
  obtain ⟨x,r,rfl,h1,h2⟩:=h
  exact ⟨x,_,rfl,h1,Dens.take n h2⟩
theorem Dens.drop {ι:List Addr} {H:Hp}:∀ {ds:List D} {xs:List V} (n:Nat),Dens ι H ds xs→Dens ι H (ds.drop n) (xs.drop n)
 | _,_,0,h=>by simpa using h
 | [],_,n+1,h=>by cases (show _=[] from h);simp [Dens]
 | d::ds,_,n+1,h=>by
  obtain ⟨x,r,rfl,h1,h2⟩:=h
  exact Dens.drop n h2
theorem Dens.set {ι:List Addr} {H:Hp} {d:D} {x:V} (hd:Den ι H d x):∀ {ds:List D} {xs:List V} (i:Nat),Dens ι H ds xs→Dens ι H (ds.set i d) (xs.set i x)
 | [],_,_,h=>by cases (show _=[] from h);simp [Dens]
 | d::ds,_,0,h=>by
  obtain ⟨x,r,rfl,h1,h2⟩:=h
  exact ⟨_,_,rfl,hd,h2⟩
 | d::ds,_,i+1,h=>by
  obtain ⟨x,r,rfl,h1,h2⟩:=h
  exact ⟨_,_,rfl,h1,Dens.set hd i h2⟩
theorem Dens.snoc {ι:List Addr} {H:Hp} {d:D} {x:V} {ds:List D} {xs:List V} (h:Dens ι H ds xs) (hd:Den ι H d x):Dens ι H (ds++[d]) (xs++[x]) :=
 h.append ⟨x,[],rfl,hd,rfl⟩
mutual
noncomputable def refsLt (n:Nat):D→Bool
 | .ref k=>decide (k<n)
 | .tup l=>refsLts n l
 | .lst l=>refsLts n l
 | .exc _=>false
 | _=>true
noncomputable def refsLts (n:Nat):List D→Bool
 | []=>true
 | d::r=>refsLt n d&&refsLts n r
end
theorem qT (n:Nat):∀ (a b:List D),refsLts n (a++b)=(refsLts n a&&refsLts n b)
 | [],b=>by simp [refsLts]
 | d::r,b=>by simp only [List.cons_append,refsLts,qT n r b,Bool.and_assoc]
theorem qA {n:Nat}:∀ {l:List D} {d:D},refsLts n l=true→d∈l→refsLt n d=true
 | [],_,_,h=>by cases h
 | x::r,d,h,m=>by
  simp only [refsLts,wL] at h
  rcases wO.mp m with z | z
  ·rw [z];exact h.1
  ·exact qA h.2 z
theorem qG {n:Nat}:∀ {l:List D},(∀ d∈l,refsLt n d=true)→refsLts n l=true
 | [],_=>rfl
 | x::r,h=>by
  simp only [refsLts,wL]
  exact ⟨h x wN,qG λd m=>h d (wM _ m)⟩
mutual
theorem Den.less {ι:List Addr} {H:Hp} {n:Nat}:∀ (d:D) {v:V},refsLt n d=true→Den ι H d v→Den (ι.take n) H d v
 | .non,_,_,h=>h
 | .bl _,_,_,h=>h
 | .int _,_,_,h=>h
 | .str _,_,_,h=>h
 | .tup ds,_,r,h=>by
  obtain ⟨a,xs,e,m,ha,q⟩:=h
  exact ⟨a,xs,e,λz=>m (List.mem_of_mem_take z),ha,Dens.less ds r q⟩
 | .lst ds,_,r,h=>by
  obtain ⟨a,xs,e,m,ha,q⟩:=h
  exact ⟨a,xs,e,λz=>m (List.mem_of_mem_take z),ha,Dens.less ds r q⟩
 | .emp,_,_,h=>by
  obtain ⟨a,e,m,ha⟩:=h
  exact ⟨a,e,λz=>m (List.mem_of_mem_take z),ha⟩
 | .ref k,_,r,h=>by
  obtain ⟨a,e,ha⟩:=h
  exact ⟨a,e,by rw [List.getElem?_take_of_lt (ww r)];exact ha⟩
 | .exc _,_,r,_=>by cases r
theorem Dens.less {ι:List Addr} {H:Hp} {n:Nat}:∀ (ds:List D) {xs:List V},refsLts n ds=true→Dens ι H ds xs→Dens (ι.take n) H ds xs
 | [],_,_,h=>h
 | d::ds,_,r,h=>by
  obtain ⟨x,t,e,h1,h2⟩:=h
  simp only [refsLts,wL] at r
  exact ⟨x,t,e,Den.less d r.1 h1,Dens.less ds r.2 h2⟩
end
mutual
theorem ym {n:Nat}:∀ (d:D),refsLt 0 d=true→refsLt n d=true
 | .non,_=>rfl
 | .bl _,_=>rfl
 | .int _,_=>rfl
 | .str _,_=>rfl
 | .tup ds,h=>qK ds h
 | .lst ds,h=>qK ds h
 | .emp,_=>rfl
 | .ref k,h=>absurd (ww (show decide (k<0)=true from h)) (Nat.not_lt_zero _)
 | .exc _,h=>by cases h
theorem qK {n:Nat}:∀ (ds:List D),refsLts 0 ds=true→refsLts n ds=true
 | [],_=>rfl
 | d::ds,h=>by
  simp only [refsLts,wL] at h ⊢
  exact ⟨ym d h.1,qK ds h.2⟩
end
mutual
theorem qdG {m n:Nat} (h:m≤n):∀ (d:D),refsLt m d=true→refsLt n d=true
 | .non,_=>rfl
 | .bl _,_=>rfl
 | .int _,_=>rfl
 | .str _,_=>rfl
 | .tup ds,q=>z0 h ds q
 | .lst ds,q=>z0 h ds q
 | .emp,_=>rfl
 | .ref k,q=>wm (wQ (ww (show decide (k<m)=true from q)) h)
 | .exc _,h=>by cases h
theorem z0 {m n:Nat} (h:m≤n):∀ (ds:List D),refsLts m ds=true→refsLts n ds=true
 | [],_=>rfl
 | d::ds,q=>by
  simp only [refsLts,wL] at q ⊢
  exact ⟨qdG h d q.1,z0 h ds q.2⟩
end
inductive SO where
 | lst (l:List D)
 | dic (l:List (List Int × D))
 | dis (l:List (Key × D))
noncomputable def keyT (k:List Int):List Key:=k.map Sum.inl
noncomputable def DGs {κ K:Type} (f:κ→K) (ι:List Addr) (H:Hp):List (κ × D)→List (K × V)→Prop
 | [],kvs=>kvs=[]
 | p::l,kvs=>∃ v r,kvs=(f p.1,v)::r∧Den ι H p.2 v∧DGs f ι H l r
theorem DGs.mono {κ K:Type} {f:κ→K} {ι ι':List Addr} {H H':Hp} (s:Stp ι H ι' H'):∀ {l:List (κ × D)} {kvs:List (K × V)},DGs f ι H l kvs→DGs f ι' H' l kvs
 | [],_,h=>h
 | _::_,_,h=>let ⟨v,r,e,h1,h2⟩:=h;⟨v,r,e,Den.mono s _ h1,DGs.mono s h2⟩
theorem DGs.length {κ K:Type} {f:κ→K} {ι:List Addr} {H:Hp}:∀ {l:List (κ × D)} {kvs:List (K × V)},DGs f ι H l kvs→l.length=kvs.length
 | [],_,h=>by cases (show _=[] from h);rfl
 | _::_,_,h=>by obtain ⟨v,r,rfl,_,h2⟩:=h;simp [DGs.length h2]
theorem DGs.less {κ K:Type} {f:κ→K} {ι:List Addr} {H:Hp} {n:Nat}:∀ {l:List (κ × D)} {kvs:List (K × V)},refsLts n (l.map (·.2))=true→DGs f ι H l kvs→DGs f (ι.take n) H l kvs
 | [],_,_,h=>h
 | _::_,_,r,h=>by
  obtain ⟨v,t,e,h1,h2⟩:=h
  simp only [wa,refsLts,wL] at r
  exact ⟨v,t,e,Den.less _ r.1 h1,DGs.less r.2 h2⟩
noncomputable def SOk (ι:List Addr) (H:Hp) (a:Addr):SO→Prop
 | .lst ds=>(∃ j,ι[j]?=some a∧refsLts j ds=true)∧∃ xs,H a=some (.lst xs)∧Dens ι H ds xs
 | .dic l=>refsLts 0 (l.map (·.2))=true∧∃ kvs,H a=some (.dT kvs)∧DGs keyT ι H l kvs
 | .dis l=>refsLts 0 (l.map (·.2))=true∧∃ kvs,H a=some (.dK kvs)∧DGs id ι H l kvs
structure Sto (ι:List Addr) (H:Hp) (S:List SO):Prop where
 len:ι.length=S.length
 nd:ι.Nodup
 obj:∀ (n:Nat) (a:Addr) (so:SO),ι[n]?=some a→S[n]?=some so→SOk ι H a so
theorem SOk.some {ι:List Addr} {H:Hp} {a:Addr}:∀ {so:SO},SOk ι H a so→H a≠none
 | .lst _,⟨_,_,h,_⟩=>by rw [h];simp
 | .dic _,⟨_,_,h,_⟩=>by rw [h];simp
 | .dis _,⟨_,_,h,_⟩=>by rw [h];simp
theorem Sto.there {ι:List Addr} {H:Hp} {S:List SO} (s:Sto ι H S) {a:Addr} (m:a∈ι):H a≠none:=by
 obtain ⟨n,hn,e⟩:=List.getElem_of_mem m
 have hs:n<S.length:=by rw [← s.len];exact hn
 exact (s.obj n a S[n] (by rw [wD hn,e]) (wD hs)).some
theorem Sto.fresh {ι:List Addr} {H:Hp} {S:List SO} (s:Sto ι H S) {a:Addr} (h:H a=none):a ∉ ι:=λm=>s.there m h
theorem SOk.mono {ι ι':List Addr} {H H':Hp} (s:Stp ι H ι' H') {a:Addr} (hk:H' a=H a):∀ {so:SO},SOk ι H a so→SOk ι' H' a so
 | .lst ds,⟨⟨j,e,f⟩,xs,h,r⟩=>⟨⟨j,s.get e,f⟩,xs,by rw [hk];exact h,Dens.mono s _ r⟩
 | .dic l,⟨f,vs,h,r⟩=>⟨f,vs,by rw [hk];exact h,DGs.mono s r⟩
 | .dis l,⟨f,vs,h,r⟩=>⟨f,vs,by rw [hk];exact h,DGs.mono s r⟩
theorem Stp.laid {ι:List Addr} {H:Hp} {p:Addr} (h:H p=none) (o:HO):Stp ι H ι (upd H p o) where
 pre:=List.prefix_refl _
 new:=λ_ m=>.inl m
 keep:=λa u e _ _=>by rw [qk (zo e h)];exact e
 there:=λa e=>by
  by_cases z:a=p
  ·subst z;rw [qC];simp
  ·rw [qk z];exact e
theorem Sto.laid {ι:List Addr} {H:Hp} {S:List SO} (s:Sto ι H S) {p:Addr} (h:H p=none) (o:HO):Sto ι (upd H p o) S where
 len:=s.len
 nd:=s.nd
 obj:=λn a so e1 e2=>(s.obj n a so e1 e2).mono (Stp.laid h o) (by
  rw [qk];intro z;subst z;exact s.there (wq e1) h)
theorem Stp.grow {ι:List Addr} {H:Hp} {p:Addr} (h:H p=none) (o:HO):Stp ι H (ι++[p]) (upd H p o) where
 pre:=List.prefix_append _ _
 new:=λa m=>by
  rcases vC.mp m with z | z
  ·exact .inl z
  ·rw [w9.mp z];exact .inr h
 keep:=(Stp.laid (ι:=ι) h o).keep
 there:=(Stp.laid (ι:=ι) h o).there
theorem Sto.grow {ι:List Addr} {H:Hp} {S:List SO} (s:Sto ι H S) {p:Addr} (h:H p=none) {o:HO} {so:SO} (k:SOk (ι++[p]) (upd H p o) p so):Sto (ι++[p]) (upd H p o) (S++[so]) where
 len:=by simp [s.len]
 nd:=by
  rw [List.nodup_append]
  refine ⟨s.nd,by simp,λa ha b hb e=>?_⟩
  rw [w9.mp hb] at e;subst e
  exact s.fresh h ha
 obj:=λn a x e1 e2=>by
  by_cases hn:n<ι.length
  ·rw [wU hn] at e1
   rw [wU (by rw [← s.len];exact hn)] at e2
   exact (s.obj n a x e1 e2).mono (Stp.grow h o) (by
    rw [qk];intro z;subst z;exact s.there (wq e1) h)
  ·rw [wZ (by lia)] at e1
   rw [wZ (by rw [← s.len];lia)] at e2
   have z:n-ι.length=0:=by
    have:=(wI.mp e1).1
    simp at this;lia
   rw [z] at e1
   rw [← s.len,z] at e2
   simp at e1 e2
   subst e1 e2
   exact k
theorem Stp.put {ι:List Addr} {H:Hp} {p:Addr} (m:p∈ι) (o:HO):Stp ι H ι (upd H p o) where
 pre:=List.prefix_refl _
 new:=λ_ m=>.inl m
 keep:=λa u e n _=>by rw [qk (λz=>n (by rw [z];exact m))];exact e
 there:=λa e=>by
  by_cases z:a=p
  ·subst z;rw [qC];simp
  ·rw [qk z];exact e
theorem zt {ι:List Addr} (hN:ι.Nodup) {i j:Nat} {x:Addr} (a:ι[i]?=some x) (b:ι[j]?=some x):i=j:=by
 obtain ⟨h1,e1⟩:=wI.mp a
 obtain ⟨h2,e2⟩:=wI.mp b
 exact (List.getElem_inj hN).mp (e1.trans e2.symm)
theorem Sto.put {ι:List Addr} {H:Hp} {S:List SO} (s:Sto ι H S) {n:Nat} {p:Addr} (hp:ι[n]?=some p) {o:HO} {so:SO} (k:SOk ι (upd H p o) p so):Sto ι (upd H p o) (S.set n so) where
 len:=by rw [List.length_set];exact s.len
 nd:=s.nd
 obj:=λj a x e1 e2=>by
  by_cases hj:j=n
  ·subst hj
   rw [hp] at e1
   obtain rfl:=Option.some.inj e1
   have hl:j<S.length:=by rw [← s.len];exact (wI.mp hp).1
   rw [vH hl] at e2
   obtain rfl:=Option.some.inj e2
   exact k
  ·rw [List.getElem?_set_ne (Ne.symm hj)] at e2
   refine (s.obj j a x e1 e2).mono (Stp.put (wq hp) o) ?_
   rw [qk]
   intro z;subst z
   exact hj (zt s.nd e1 hp)
theorem Sto.less {ι:List Addr} {H:Hp} {S:List SO} (s:Sto ι H S) (n:Nat):Sto (ι.take n) H (S.take n) where
 len:=by rw [vF,vF,s.len]
 nd:=s.nd.sublist (List.take_sublist _ _)
 obj:=λj a so e1 e2=>by
  have h1:ι[j]?=some a:=by
   have:=(wI.mp e1).1
   rw [vF] at this
   rw [List.getElem?_take_of_lt (by lia)] at e1;exact e1
  have h2:S[j]?=some so:=by
   have:=(wI.mp e2).1
   rw [vF] at this
   rw [List.getElem?_take_of_lt (by lia)] at e2;exact e2
  have k:=s.obj j a so h1 h2
  cases so with
  | lst ds =>
   obtain ⟨⟨i,ei,f⟩,xs,h,r⟩:=k
   have hj:j<(ι.take n).length:=(wI.mp e1).1
   rw [vF] at hj
   obtain rfl:i=j:=zt s.nd ei h1
   exact ⟨⟨i,e1,f⟩,xs,h,Dens.less ds (z0 (by lia) ds f) r⟩
  | dic l =>
   obtain ⟨f,kvs,h,r⟩:=k
   exact ⟨f,kvs,h,DGs.less (qK _ f) r⟩
  | dis l =>
   obtain ⟨f,kvs,h,r⟩:=k
   exact ⟨f,kvs,h,DGs.less (qK _ f) r⟩
theorem Stp.less {ι ι':List Addr} {H H':Hp} (s:Stp ι H ι' H'):Stp ι H (ι'.take ι.length) H':=by
 have e:ι'.take ι.length=ι:=by
  obtain ⟨t,rfl⟩:=s.pre
  simp
 rw [e]
 exact ⟨List.prefix_refl _,λ_ m=>.inl m,s.keep,s.there⟩
theorem Stp.take_eq {ι ι':List Addr} {H H':Hp} (s:Stp ι H ι' H'):ι'.take ι.length=ι:=by
 obtain ⟨t,rfl⟩:=s.pre
 simp
end R
namespace R
open PySem PySem.Spec PyProof.Rows L2
noncomputable abbrev Sr:=List SO
noncomputable abbrev En:=List (Option D)
inductive Res (α:Type) where
 | ok (a:α) (S:Sr) | err (x:D) (S:Sr) | no
@[reducible] noncomputable def Res.bind {α β:Type} (r:Res α) (f:α→Sr→Res β):Res β:=match r with
 | .ok a S=>f a S
 | .err x S=>.err x S
 | .no=>.no
@[simp] theorem Res.bind_ok {α β:Type} (a:α) (S:Sr) (f:α→Sr→Res β):(Res.ok a S).bind f=f a S:=rfl
@[simp] theorem Res.bind_err {α β:Type} (x:D) (S:Sr) (f:α→Sr→Res β):(Res.err x S).bind f=.err x S:=rfl
@[simp] theorem Res.bind_no {α β:Type} (f:α→Sr→Res β):(Res.no:Res α).bind f=.no:=rfl
noncomputable def ofO {α:Type} (o:Option α) (S:Sr):Res α:=match o with
 | some a=>.ok a S
 | none=>.no
@[simp] theorem qjv {α:Type} (a:α) (S:Sr):ofO (some a) S=.ok a S:=rfl
@[simp] theorem qjw {α:Type} (S:Sr):(ofO none S:Res α)=.no:=rfl
inductive BOp where | add | sub | mul | fdiv | mod | pow | shl | shr | band
inductive COp where | eq | ne | lt | le | gt | ge | is | isn | inn | nin
inductive Ty where | int | bool | tuple | list | str | dict
noncomputable def Ty.nm:Ty→String
 | .int=>"int" | .bool=>"bool" | .tuple=>"tuple" | .list=>"list" | .str=>"str" | .dict=>"dict"
noncomputable def mulOk (a b:Int):Bool:=!((decide (Builtin.Int.intBits a>shortFactorBits)&&decide (Builtin.Int.intBits b>shortFactorBits)&&Builtin.Int.intTooBig (Builtin.Int.intBits a+Builtin.Int.intBits b)))
noncomputable def divOk (a b:Int):Bool:=!(b == 0)&&!(Builtin.divisionGoesByPylong a b)
noncomputable def lstOf (S:Sr):D→Option (List D)
 | .lst l=>some l
 | .ref n=>match S[n]? with | some (.lst l)=>some l | _=>none
 | _=>none
noncomputable def binI:BOp→Int→Int→Option Int
 | .add,i,j=>some (i+j)
 | .sub,i,j=>some (i-j)
 | .mul,i,j=>if mulOk i j then some (i*j) else none
 | .fdiv,i,j=>if divOk i j then some (i.fdiv j) else none
 | .mod,i,j=>if j=0 then none else some (i.fmod j)
 | .pow,i,j=>if 0≤j∧j≤1000000∧i.natAbs<2^64 then some (i^j.toNat) else none
 | .shl,i,j=>if 0≤j∧j≤1000000∧i.natAbs<2^64 then some (i*2^j.toNat) else none
 | .shr,i,j=>if 0≤j then some (i / 2^j.toNat) else none
 | .band,i,j=>some (Builtin.bitAnd i j)
noncomputable def catOk {α:Type} (a b:List α):Bool:=decide (a.length+b.length≤sizeLine)
noncomputable def repOk {α:Type} (a:List α) (k:Int):Bool:=decide (-(2^63)≤k∧k<2^63∧a.length*k.toNat≤sizeLine)
noncomputable def rep {α:Type} (a:List α) (k:Int):List α:=(List.replicate k.toNat a).flatten
noncomputable def binD (o:BOp) (x y:D) (S:Sr):Option D :=
 match x,y with
 | .int i,.int j=>(binI o i j).map .int
 | .str a,.str b=>match o with
  | .add=>if a.length+b.length≤sizeLine then some (.str (a++b)) else none
  | _=>none
 | .tup a,.tup b=>match o with
  | .add=>if catOk a b then some (.tup (a++b)) else none
  | _=>none
 | .tup a,.int k=>match o with
  | .mul=>if repOk a k then some (.tup (rep a k)) else none
  | _=>none
 | x,.int k=>match o with
  | .mul=>match lstOf S x with
   | some a=>if repOk a k then some (.lst (rep a k)) else none
   | none=>none
  | _=>none
 | x,y=>match o with
  | .add=>match lstOf S x,lstOf S y with
   | some a,some b=>if catOk a b then some (.lst (a++b)) else none
   | _,_=>none
  | _=>none
noncomputable def eqL (f:D→D→Option Bool):List D→List D→Option Bool
 | [],[]=>some true
 | [],_::_=>some false
 | _::_,[]=>some false
 | a::r,b::t=>match f a b,eqL f r t with
  | some x,some y=>some (x&&y)
  | _,_=>none
noncomputable def eqD:Nat→D→D→Option Bool
 | 0,_,_=>none
 | n+1,x,y=>match x,y with
  | .non,.non=>some true
  | .bl a,.bl b=>some (a == b)
  | .int a,.int b=>some (a == b)
  | .str a,.str b=>some (a == b)
  | .bl a,.int b=>some ((if a then 1 else 0) == b)
  | .int a,.bl b=>some (a == (if b then 1 else 0))
  | .tup a,.tup b=>eqL (eqD n) a b
  | .lst a,.lst b=>if a.length=b.length then eqL (eqD n) a b else some false
  | .emp,_=>none
  | _,.emp=>none
  | .ref _,_=>none
  | _,.ref _=>none
  | .exc _,_=>none
  | _,.exc _=>none
  | _,_=>some false
noncomputable def intsOf:List D→Option (List Int)
 | []=>some []
 | .int i::r=>(intsOf r).map (i::·)
 | _=>none
noncomputable def flatD:D→Bool
 | .non | .bl _ | .int _ | .str _=>true
 | _=>false
noncomputable def eqF:D→D→Bool
 | .non,.non=>true
 | .bl a,.bl b=>decide (a=b)
 | .int i,.int j=>decide (i=j)
 | .bl a,.int j=>decide ((if a then 1 else 0)=j)
 | .int i,.bl b=>decide (i=(if b then 1 else 0))
 | .str a,.str b=>decide (a=b)
 | _,_=>false
noncomputable def inD (x:D) (l:List D):Option Bool:=if flatD x&&l.all flatD then some (l.any λy=>eqF y x) else none
noncomputable def seqOf (S:Sr):D→Option (List D)
 | .tup l=>some l
 | d=>lstOf S d
noncomputable def cmpD (o:COp) (x y:D) (S:Sr):Option Bool:=match o with
 | .eq=>eqD 20 x y
 | .ne=>(eqD 20 x y).map (!·)
 | .lt=>match x,y with
  | .int i,.int j=>some (decide (i<j))
  | .tup a,.tup b=>match intsOf a,intsOf b with
   | some m,some n=>some (HT.lexLt m n)
   | _,_=>none
  | _,_=>none
 | .le=>match x,y with | .int i,.int j=>some (decide (i≤j)) | _,_=>none
 | .gt=>match x,y with | .int i,.int j=>some (decide (j<i)) | _,_=>none
 | .ge=>match x,y with
  | .int i,.int j=>some (decide (j≤i))
  | .tup a,.tup b=>match intsOf a,intsOf b with
   | some m,some n=>some (!HT.lexLt m n)
   | _,_=>none
  | _,_=>none
 | .is=>match y with
  | .non=>some (match x with | .non=>true | _=>false)
  | .bl b=>match x with | .bl a=>some (a == b) | .non=>some false | _=>none
  | _=>none
 | .isn=>match y with
  | .non=>some (match x with | .non=>false | _=>true)
  | .bl b=>match x with | .bl a=>some (!(a == b)) | .non=>some true | _=>none
  | _=>none
 | .inn=>(seqOf S y).bind (inD x)
 | .nin=>(seqOf S y).bind λl=>(inD x l).map (!·)
noncomputable def truD (S:Sr):D→Option Bool
 | .non=>some false
 | .bl b=>some b
 | .int i=>some (i != 0)
 | .str x=>if x.length≤sizeLine then some ((x.length:Int) != 0) else none
 | .tup l=>some (!l.isEmpty)
 | .emp=>some false
 | d=>(lstOf S d).map λl=>!l.isEmpty
noncomputable def isiD (S:Sr) (t:Ty):D→Option Bool
 | .non=>some false
 | .bl _=>some (match t with | .int=>true | .bool=>true | _=>false)
 | .int _=>some (match t with | .int=>true | _=>false)
 | .str _=>some (match t with | .str=>true | _=>false)
 | .tup _=>some (match t with | .tuple=>true | _=>false)
 | .lst _=>some (match t with | .list=>true | _=>false)
 | .emp=>some (match t with | .dict=>true | _=>false)
 | .ref n=>match S[n]? with
  | some (.lst _)=>some (match t with | .list=>true | _=>false)
  | some (.dic _)=>some (match t with | .dict=>true | _=>false)
  | some (.dis _)=>some (match t with | .dict=>true | _=>false)
  | none=>none
 | .exc _=>none
noncomputable def lookA (C:Addr):List (Addr × Bool)→Option Bool
 | []=>none
 | (c,b)::r=>if c=C then some b else lookA C r
noncomputable def isxD (t:List (Addr × Bool)):D→Option Bool
 | .exc C=>lookA C t
 | _=>none
noncomputable def keyD:D→Option Key
 | .int i=>some (.inl i)
 | .str x=>some (.inr x)
 | _=>none
noncomputable def lookT {κ:Type} [DecidableEq κ] (k:κ):List (κ × D)→Option D
 | []=>none
 | (j,d)::r=>if j=k then some d else lookT k r
noncomputable def putT {κ:Type} [DecidableEq κ] (k:κ) (d:D) (l:List (κ × D)):List (κ × D) :=
 if l.any (λp=>decide (p.1=k)) then l.map (λp=>if p.1=k then (p.1,d) else p) else l++[(k,d)]
noncomputable def idxD (S:Sr) (x i:D):Option D:=match i with
 | .int k=>(seqOf S x).bind λl=>atI l k
 | .tup ks=>match x with
  | .ref n=>match S[n]? with
   | some (.dic l)=>(intsOf ks).bind λk=>lookT k l
   | _=>none
  | _=>none
 | _=>none
noncomputable def cutD (l:List D) (lo hi:Option Int):List D:=(l.drop (HT.sIx l.length 0 lo)).take (HT.sIx l.length l.length hi-HT.sIx l.length 0 lo)
noncomputable def slcD (S:Sr) (x:D) (lo hi:Option Int):Option D:=match x with
 | .tup l=>some (.tup (cutD l lo hi))
 | d=>(lstOf S d).map λl=>.lst (cutD l lo hi)
noncomputable def rngL (a b s:Int):List D:=(List.range ((b-a+s-1) / s).toNat).map λ(k:Nat)=>D.int (a+s*k)
noncomputable def insI (x:Int):List Int→List Int
 | []=>[x]
 | y::r=>if x≤y then x::y::r else y::insI x r
noncomputable def sortI (l:List Int):List Int:=l.foldr insI []
noncomputable def insT (x:List Int):List (List Int)→List (List Int)
 | []=>[x]
 | y::r=>if HT.lexLt y x then y::insT x r else x::y::r
noncomputable def sortT (l:List (List Int)):List (List Int):=l.foldr insT []
noncomputable def tupsOf:List D→Option (List (List Int))
 | []=>some []
 | .tup a::r=>(intsOf a).bind λm=>(tupsOf r).map (m::·)
 | _=>none
noncomputable def tupI (m:List Int):D:=.tup (m.map .int)
noncomputable def sortL (l:List D):Option (List D) :=
 if l.length<64 then
  match intsOf l with
  | some ns=>some ((sortI ns).map .int)
  | none=>(tupsOf l).bind λts=>if ts.Nodup∧∀ t∈ts,t≠[] then some ((sortT ts).map tupI) else none
 else none
noncomputable def walkD (S:Sr):D→Option (List D)
 | .lst l=>some l
 | .emp=>some []
 | .ref n=>match S[n]? with
  | some (.lst l)=>some l
  | some (.dic l)=>some (l.map λp=>tupI p.1)
  | _=>none
 | _=>none
inductive Blt where | len | abs | min2 | max2 | divmod | list (m:Bool) | tuple | sorted (m:Bool) | all | any | sum | str | int | sortp (m:Bool) | dict | sset (m:Bool) | dictL | sumT | sumB
noncomputable def newL (m:Bool) (l:List D) (S:Sr):Res D:=if m then (if refsLts 0 l then .ok (.ref S.length) (S++[.lst l]) else .no) else .ok (.lst l) S
noncomputable def binM (o:BOp) (x y:D) (S:Sr):Res D:=match o with
 | .add=>match lstOf S x,lstOf S y with
  | some a,some b=>if catOk a b then newL true (a++b) S else .no
  | _,_=>.no
 | .mul=>match lstOf S x,y with
  | some a,.int k=>if repOk a k then newL true (rep a k) S else .no
  | _,_=>.no
 | _=>.no
noncomputable def lenD (S:Sr):D→Option Nat
 | .str x=>if x.length≤sizeLine then some x.length else none
 | .ref n=>match S[n]? with
  | some (.lst l)=>some l.length
  | some (.dic l)=>some l.length
  | some (.dis _)=>none
  | none=>none
 | .tup l=>some l.length
 | .lst l=>some l.length
 | _=>none
noncomputable def boolsOf:List D→Option (List Bool)
 | []=>some []
 | .bl b::r=>(boolsOf r).map (b::·)
 | _=>none
noncomputable def one (f:D→Sr→Res D) (xs:List D) (S:Sr):Res D:=match xs with
 | [x]=>f x S
 | _=>.no
noncomputable def two (f:D→D→Sr→Res D) (xs:List D) (S:Sr):Res D:=match xs with
 | [x,y]=>f x y S
 | _=>.no
noncomputable def bLen (x:D) (S:Sr):Res D:=ofO ((lenD S x).map λn=>.int n) S
noncomputable def bAbs (x:D) (S:Sr):Res D:=match x with
 | .int i=>.ok (.int (if i<0 then -i else i)) S
 | _=>.no
noncomputable def bMin (x y:D) (S:Sr):Res D:=match x,y with
 | .int i,.int j=>.ok (.int (if j<i then j else i)) S
 | _,_=>.no
noncomputable def bMax (x y:D) (S:Sr):Res D:=match x,y with
 | .int i,.int j=>.ok (.int (if j>i then j else i)) S
 | _,_=>.no
noncomputable def bDivmod (x y:D) (S:Sr):Res D:=match x,y with
 | .int i,.int j=>if divOk i j then .ok (.tup [.int (i.fdiv j),.int (i.fmod j)]) S else .no
 | _,_=>.no
noncomputable def bList (m:Bool) (x:D) (S:Sr):Res D:=match seqOf S x with
 | some l=>newL m l S
 | none=>.no
noncomputable def bTuple (x:D) (S:Sr):Res D:=ofO ((seqOf S x).map .tup) S
noncomputable def bSorted (m:Bool) (x:D) (S:Sr):Res D:=match (walkD S x).bind sortL with
 | some l=>newL m l S
 | none=>.no
noncomputable def pairsD:List D→Option (List (List Int × Int))
 | []=>some []
 | .tup [.tup a,.int i]::r=>(intsOf a).bind λm=>(pairsD r).map ((m,i)::·)
 | _=>none
noncomputable def pairD (p:List Int × Int):D:=.tup [tupI p.1,.int p.2]
noncomputable def atP (k:List Int):List (List Int × Int)→Int
 | []=>0
 | p::r=>if p.1=k then p.2 else atP k r
noncomputable def sortP (ps:List (List Int × Int)):List (List Int × Int):=(sortT (ps.map (·.1))).map λk=>(k,atP k ps)
noncomputable def bSortp (m:Bool) (x:D) (S:Sr):Res D:=match (lstOf S x).bind pairsD with
 | some ps=>if ps.length<64∧(ps.map (·.1)).Nodup then newL m ((sortP ps).map pairD) S else .no
 | none=>.no
noncomputable def bAll (x:D) (S:Sr):Res D:=ofO (((seqOf S x).bind boolsOf).map λl=>.bl (l.all id)) S
noncomputable def bAny (x:D) (S:Sr):Res D:=ofO (((seqOf S x).bind boolsOf).map λl=>.bl (l.any id)) S
noncomputable def bSum (x:D) (S:Sr):Res D:=ofO (((seqOf S x).bind intsOf).map λl=>.int l.sum) S
noncomputable def bStr (x:D) (S:Sr):Res D:=match x with
 | .int i=>if i.natAbs.log2<1920 then .ok (.str (toString i)) S else .no
 | _=>.no
noncomputable def joinD (x y z:D):Option D:=match x,y,z with
 | .str a,.str b,.str c=>if a.length+b.length+c.length≤sizeLine then some (.str (a++b++c)) else none
 | _,_,_=>none
noncomputable def bInt (x:D) (S:Sr):Res D:=match x with
 | .bl b=>.ok (.int (if b then 1 else 0)) S
 | _=>.no
noncomputable def pairsV:List D→Option (List (List Int × D))
 | []=>some []
 | .tup [.tup a,v]::r=>if refsLt 0 v then (intsOf a).bind λm=>(pairsV r).map ((m,v)::·) else none
 | _=>none
noncomputable def dicL (ps:List (List Int × D)):List (List Int × D):=ps.foldl (λl p=>putT p.1 p.2 l) []
noncomputable def bDict (x:D) (S:Sr):Res D:=match x with
 | .tup l=>match pairsV l with
  | some ps=>.ok (.ref S.length) (S++[.dic (dicL ps)])
  | none=>.no
 | _=>.no
noncomputable def ddI (l:List Int):List Int:=l.foldl PyProof.Rows.step_dedup []
noncomputable def bSset (m:Bool) (x:D) (S:Sr):Res D:=match x with
 | .tup l=>match intsOf l with
  | some ns=>if ns.length<4000∧(ddI ns).length<64 then newL m ((sortI (ddI ns)).map .int) S else .no
  | none=>.no
 | _=>.no
noncomputable def bDictL (x:D) (S:Sr):Res D:=match x with
 | .lst l=>match pairsV l with
  | some ps=>.ok (.ref S.length) (S++[.dic (dicL ps)])
  | none=>.no
 | _=>.no
noncomputable def tupLs:List D→Option (List (List D))
 | []=>some []
 | .tup a::r=>(tupLs r).map (a::·)
 | _=>none
noncomputable def bSumT (x y:D) (S:Sr):Res D:=match x,y with
 | .lst l,.tup []=>match tupLs l with
  | some ts=>if ts.flatten.length≤4000 then .ok (.tup ts.flatten) S else .no
  | none=>.no
 | _,_=>.no
noncomputable def bSumB (x:D) (S:Sr):Res D:=ofO (((lstOf S x).bind boolsOf).map λl=>.int (l.count true)) S
noncomputable def bltD:Blt→List D→Sr→Res D
 | .len=>one bLen | .abs=>one bAbs | .min2=>two bMin | .max2=>two bMax | .divmod=>two bDivmod | .list m=>one (bList m) | .tuple=>one bTuple
 | .sorted m=>one (bSorted m) | .all=>one bAll | .any=>one bAny | .sum=>one bSum | .str=>one bStr | .int=>one bInt | .sortp m=>one (bSortp m) | .dict=>one bDict | .sset m=>one (bSset m) | .dictL=>one bDictL | .sumT=>two bSumT | .sumB=>one bSumB
noncomputable def walkF:D→Option (List D)
 | .tup l=>some l
 | .lst l=>some l
 | _=>none
inductive GW where | all | any | sum | tuple
mutual
inductive CE where
 | var (i:Nat) | cst (d:D)
 | bin (o:BOp) (a b:CE) | neg (a:CE)
 | cmp (o:COp) (a b:CE) | chain (o o':COp) (a b c:CE)
 | and (a b:CE) | or (a b:CE) | not (a:CE) | ife (c:CB) (a b:CE)
 | tup (es:CEs) | lst (m:Bool) (es:CEs) | dic (m:Bool) | dis | fmt (a:CE) | join3 (a b c:CE)
 | call (f:Nat) (es:CEs) | blt (b:Blt) (es:CEs) | isi (t:Ty) (a:CE) | isx (t:List (Addr × Bool)) (a:CE) | ixT (o:CE)
 | popAt (o i:CE) | neF (a b:CE) | rem (o e:CE) | dcK (d:Int) (e:CE) | idk (a i:CE) | lls (e:CE) | app (o e:CE) | ext (o e:CE) | binM (o:BOp) (a b:CE) | get (o k e:CE)
 | idx (a i:CE) | slc (a:CE) (lo hi:CO) | rev (a:CE)
 | rng (k:Option Bool) (es:CEs)
 | lc (m:Bool) (fr:List Nat) (nt:Nat) (elt:CE) (tg:CT) (it:CI) (ifs:CBs)
 | lcR (m:Bool) (fr:List Nat) (nt:Nat) (elt:CE) (tg:CT) (e:CE) (ifs:CBs)
 | gen (w:GW) (fr:List Nat) (nt:Nat) (elt:CE) (tg:CT) (it:CI) (ifs:CBs)
 | lcX (m:Bool) (fr:List Nat) (nt:Nat) (elt:CE) (tg:CT) (e:CE) (ifs:CBs)
 | genX (w:GW) (fr:List Nat) (nt:Nat) (elt:CE) (tg:CT) (e:CE) (ifs:CBs)
inductive CEs where | nil | cons (e:CE) (r:CEs)
inductive CB where | val (e:CE) | and (a b:CB) | or (a b:CB) | not (a:CB) | cal (a:CB)
inductive CBs where | nil | cons (e:CB) (r:CBs)
inductive CO where | none | some (e:CE)
inductive CI where | seq (e:CE) | rng (es:CEs) | zip (a b:CE)
inductive CT where | var (i:Nat) | tup (r:CTs) | sub (o i:CE)
inductive CTs where | nil | cons (t:CT) (r:CTs)
end
noncomputable abbrev Fs:=Nat→List D→Sr→Res D
noncomputable def noE {α:Type}:Res α→Res α
 | .ok a S=>.ok a S
 | _=>.no
@[simp] theorem qkJ {α:Type} (a:α) (S:Sr):noE (.ok a S)=.ok a S:=rfl
noncomputable def ixtD (S:Sr) (x:D):Option D:=(lstOf S x).bind λl=>(boolsOf l).bind λbs=>if true∈bs∧bs.length<4000 then some (.int (bs.idxOf true)) else none
noncomputable def varE (ρ:En) (i:Nat) (S:Sr):Res D:=match ρ[i]? with | some (some d)=>.ok d S | _=>.no
noncomputable def putN (S:Sr) (n:Nat) (i v:D):Option Sr:=match S[n]? with
 | some (.lst l)=>match i with
  | .int k=>(ixN l.length k).map λj=>S.set n (.lst (l.set j v))
  | _=>none
 | some (.dic l)=>match i with
  | .tup ks=>(intsOf ks).bind λk=>if l.length<1000 then some (S.set n (.dic (putT k v l))) else none
  | _=>none
 | some (.dis l)=>(keyD i).bind λk=>if l.length<1000 then some (S.set n (.dis (putT k v l))) else none
 | none=>none
noncomputable def putE (S:Sr) (o i v:D):Option Sr:=if refsLt 0 v then (match o with
 | .ref n=>putN S n i v
 | _=>none) else none
noncomputable def isLst (S:Sr):D→Bool
 | .ref n=>match S[n]? with | some (.lst _)=>true | _=>false
 | _=>false
noncomputable def isDic (S:Sr):D→Bool
 | .ref n=>match S[n]? with | some (.dic _)=>true | some (.dis _)=>true | _=>false
 | _=>false
noncomputable def getD (S:Sr) (x y z:D):Option D:=match x,y with
 | .ref n,.tup ks=>match S[n]? with
  | some (.dic l)=>(intsOf ks).map λk=>(lookT k l).getD z
  | _=>none
 | .ref n,.str t=>match S[n]? with
  | some (.dis l)=>some ((lookT (.inr t) l).getD z)
  | _=>none
 | _,_=>none
noncomputable def popD (S:Sr) (o i:D):Res D:=match o,i with
 | .ref n,.int k=>match S[n]? with
  | some (.lst l)=>if 0≤k∧k<2^62 then (match l[k.toNat]? with
   | some d=>.ok d (S.set n (.lst (l.eraseIdx k.toNat)))
   | none=>.no) else .no
  | _=>.no
 | _,_=>.no
noncomputable def appD (S:Sr) (o e:D):Res D:=match o with
 | .ref n=>match S[n]? with
  | some (.lst l)=>if l.length<sizeLine∧refsLt 0 e=true then .ok .non (S.set n (.lst (l++[e]))) else .no
  | _=>.no
 | _=>.no
noncomputable def remD (S:Sr) (o i:D):Res D:=match o,i with
 | .ref n,.int k=>match S[n]? with
  | some (.lst l)=>match intsOf l with
   | some ns=>if k∈ns then .ok .non (S.set n (.lst ((ns.erase k).map .int))) else .no
   | none=>.no
  | _=>.no
 | _,_=>.no
noncomputable def neFD (S:Sr) (x y:D):Option Bool:=match x with
 | .ref n=>match S[n]? with
  | some (.lst l)=>if refsLt n y then (eqD 20 (.lst l) y).map (!·) else none
  | _=>none
 | _=>none
noncomputable def idkD (S:Sr) (x i:D):Option D:=match x with
 | .ref n=>match S[n]? with
  | some (.dis l)=>(keyD i).bind λk=>lookT k l
  | _=>none
 | _=>none
noncomputable def dcKL (d:Int) (ns:List Int):List (Key × D):=ns.foldl (λl k=>putT (.inl k:Key) (.int d) l) []
noncomputable def extD (S:Sr) (o e:D):Res D:=match o,e with
 | .ref n,.lst z=>match S[n]? with
  | some (.lst l)=>if l.length+z.length≤sizeLine∧refsLts 0 z=true then .ok .non (S.set n (.lst (l++z))) else .no
  | _=>.no
 | _,_=>.no
noncomputable def rngD:List D→Option (List D)
 | [.int b]=>if -(2^62)≤b∧b<2^62 then some (rngL 0 b 1) else none
 | [.int a,.int b]=>if -(2^62)≤a∧a<2^62∧-(2^62)≤b∧b<2^62 then some (rngL a b 1) else none
 | [.int a,.int b,.int s]=>if -(2^62)≤a∧a<2^62∧-(2^62)≤b∧b<2^62∧0<s∧s<2^62 then some (rngL a b s) else none
 | _=>none
noncomputable def frE (ρ:En) (fr:List Nat) (nt:Nat):En:=fr.map (λi=>(ρ[i]?).getD none)++List.replicate nt none
noncomputable def lcLoop (n:Nat) (bind:D→En→Sr→Res En) (test:En→Sr→Res Bool) (elt:En→Sr→Res D):List D→En→Sr→Res En
 | [],ρ,S=>.ok ρ S
 | d::r,ρ,S=>(bind d ρ S).bind λρ1 S1=>(test ρ1 S1).bind λb S2 =>
   if b then (elt ρ1 S2).bind λv S3=>(appD S3 (.ref n) v).bind λ_ S4=>lcLoop n bind test elt r ρ1 S4
   else lcLoop n bind test elt r ρ1 S2
noncomputable def lcEnd (m:Bool) (n:Nat) (S:Sr):Res D :=
 if m then .ok (.ref n) S
 else if S.length=n+1 then (match S[n]? with
  | some (.lst l)=>.ok (.lst l) (S.take n)
  | _=>.no) else .no
noncomputable def own (n:Nat) (l:List D) (S:Sr):Prop:=S[n]?=some (.lst l)
noncomputable def grd {α:Type} (gd:Sr→Prop) (S:Sr) (r:Res α):Res α:=@ite _ (gd S) (Classical.propDecidable _) r .no
theorem zP {α:Type} {gd:Sr→Prop} {S:Sr} (h:gd S) (r:Res α):grd gd S r=r:=wJ h
theorem yn {α:Type} {gd:Sr→Prop} {S:Sr} (h:¬ gd S) (r:Res α):grd gd S r=.no:=wK h
noncomputable def refX (x:D) (S:Sr):Option (List D × (Sr→Prop)):=match x with
 | .ref n=>match S[n]? with
  | some (.lst l)=>some (l,own n l)
  | _=>none
 | .tup l=>some (l,λ_=>True)
 | .lst l=>some (l,λ_=>True)
 | _=>none
noncomputable def refL (x:D) (S:Sr):Option (Nat × List D):=match x with
 | .ref n=>match S[n]? with
  | some (.lst l)=>some (n,l)
  | _=>none
 | _=>none
noncomputable def genLoop {β:Type} (bind:D→En→Sr→Res En) (test:En→Sr→Res Bool) (elt:En→Sr→Res D) (step:β→D→Option (β ⊕ D)) (fin:β→Option D):List D→En→β→Sr→Res D
 | [],_,b,S=>ofO (fin b) S
 | d::r,ρ,b,S=>(bind d ρ S).bind λρ1 S1=>(test ρ1 S1).bind λt S2 =>
   if t then (elt ρ1 S2).bind λv S3=>match step b v with
    | some (.inl b')=>genLoop bind test elt step fin r ρ1 b' S3
    | some (.inr x)=>.ok x S3
    | none=>.no
   else genLoop bind test elt step fin r ρ1 b S2
noncomputable def genLoopG {β:Type} (gd:Sr→Prop) (bind:D→En→Sr→Res En) (test:En→Sr→Res Bool) (elt:En→Sr→Res D) (step:β→D→Option (β ⊕ D)) (fin:β→Option D):List D→En→β→Sr→Res D
 | [],_,b,S=>grd gd S (ofO (fin b) S)
 | d::r,ρ,b,S=>grd gd S ((bind d ρ S).bind λρ1 S1=>(test ρ1 S1).bind λt S2 =>
   if t then (elt ρ1 S2).bind λv S3=>match step b v with
    | some (.inl b')=>genLoopG gd bind test elt step fin r ρ1 b' S3
    | some (.inr x)=>.ok x S3
    | none=>.no
   else genLoopG gd bind test elt step fin r ρ1 b S2)
theorem yo {β:Type} {bind:D→En→Sr→Res En} {test:En→Sr→Res Bool} {elt:En→Sr→Res D} {step:β→D→Option (β ⊕ D)} {fin:β→Option D}:∀ (l:List D) (ρ:En) (b:β) (S:Sr),genLoopG (λ_=>True) bind test elt step fin l ρ b S=genLoop bind test elt step fin l ρ b S
 | [],_,_,_=>zP trivial _
 | d::r,ρ,b,S=>by
  unfold genLoopG genLoop
  rw [zP trivial]
  congr 1;funext ρ1 S1
  congr 1;funext t S2
  cases t
  ·exact yo r ρ1 b S2
  ·simp only [if_true]
   congr 1;funext v S3
   cases step b v with
   | none=>rfl
   | some x=>cases x with
    | inl b'=>exact yo r ρ1 b' S3
    | inr x=>rfl
noncomputable def newLls (k:Nat) (S:Sr):Res D:=if k≤sizeLine then .ok (.ref (S.length+k)) (S++List.replicate k (.lst [])++[.lst ((List.range k).map λi=>.ref (S.length+i))]) else .no
noncomputable def stepG (w:GW) (b:D) (v:D):Option (D ⊕ D):=match w,b,v with
 | .all,_,.bl true=>some (.inl .non)
 | .all,_,.bl false=>some (.inr (.bl false))
 | .any,_,.bl false=>some (.inl .non)
 | .any,_,.bl true=>some (.inr (.bl true))
 | .sum,.int i,.int j=>some (.inl (.int (i+j)))
 | .tuple,.tup l,v=>if l.length<sizeLine then some (.inl (.tup (l++[v]))) else none
 | _,_,_=>none
noncomputable def startG:GW→D
 | .all=>.non | .any=>.non | .sum=>.int 0 | .tuple=>.tup []
noncomputable def finG (w:GW) (b:D):Option D:=match w with
 | .all=>some (.bl true)
 | .any=>some (.bl false)
 | .sum=>some b
 | .tuple=>some b
mutual
noncomputable def ev (F:Fs):CE→En→Sr→Res D
 | .var i,ρ,S=>varE ρ i S
 | .cst d,_,S=>.ok d S
 | .bin o a b,ρ,S=>(ev F a ρ S).bind λx S1=>(ev F b ρ S1).bind λy S2=>ofO (binD o x y S2) S2
 | .neg a,ρ,S=>(ev F a ρ S).bind λx S1=>match x with | .int i=>.ok (.int (-i)) S1 | _=>.no
 | .cmp o a b,ρ,S=>(ev F a ρ S).bind λx S1=>(ev F b ρ S1).bind λy S2=>ofO ((cmpD o x y S2).map .bl) S2
 | .chain o o' a b c,ρ,S=>(ev F a ρ S).bind λx S1=>(ev F b ρ S1).bind λy S2=>match cmpD o x y S2 with
  | some true=>(ev F c ρ S2).bind λz S3=>ofO ((cmpD o' y z S3).map .bl) S3
  | some false=>.ok (.bl false) S2
  | none=>.no
 | .and a b,ρ,S=>(ev F a ρ S).bind λx S1=>match x with
  | .bl true=>ev F b ρ S1
  | .bl false=>.ok (.bl false) S1
  | _=>.no
 | .or a b,ρ,S=>(ev F a ρ S).bind λx S1=>match x with
  | .bl true=>.ok (.bl true) S1
  | .bl false=>ev F b ρ S1
  | _=>.no
 | .not a,ρ,S=>(ev F a ρ S).bind λx S1=>match x with
  | .bl b=>.ok (.bl (!b)) S1
  | _=>.no
 | .ife c a b,ρ,S=>(tst F c ρ S).bind λt S1=>if t then ev F a ρ S1 else ev F b ρ S1
 | .tup es,ρ,S=>(evs F es ρ S).bind λl S1=>if l.length≤sizeLine then .ok (.tup l) S1 else .no
 | .lst m es,ρ,S=>(evs F es ρ S).bind λl S1=>if l.length≤sizeLine then newL m l S1 else .no
 | .dic m,_,S=>if m then .ok (.ref S.length) (S++[.dic []]) else .ok .emp S
 | .dis,_,S=>.ok (.ref S.length) (S++[.dis []])
 | .fmt a,ρ,S=>(ev F a ρ S).bind λx S1=>bStr x S1
 | .join3 a b c,ρ,S=>(ev F a ρ S).bind λx S1=>(ev F b ρ S1).bind λy S2=>(ev F c ρ S2).bind λz S3=>ofO (joinD x y z) S3
 | .call f es,ρ,S=>(evs F es ρ S).bind λl S1=>F f l S1
 | .blt b es,ρ,S=>(evs F es ρ S).bind λl S1=>bltD b l S1
 | .isi t a,ρ,S=>(ev F a ρ S).bind λx S1=>ofO ((isiD S1 t x).map .bl) S1
 | .isx t a,ρ,S=>(ev F a ρ S).bind λx S1=>ofO ((isxD t x).map .bl) S1
 | .ixT a,ρ,S=>(ev F a ρ S).bind λx S1=>ofO (ixtD S1 x) S1
 | .binM o a b,ρ,S=>(ev F a ρ S).bind λx S1=>(ev F b ρ S1).bind λy S2=>R.binM o x y S2
 | .popAt o i,ρ,S=>(ev F o ρ S).bind λx S1=>if isLst S1 x then (ev F i ρ S1).bind λy S2=>popD S2 x y else .no
 | .app o e,ρ,S=>(ev F o ρ S).bind λx S1=>if isLst S1 x then (ev F e ρ S1).bind λy S2=>appD S2 x y else .no
 | .ext o e,ρ,S=>(ev F o ρ S).bind λx S1=>if isLst S1 x then (ev F e ρ S1).bind λy S2=>extD S2 x y else .no
 | .get o k e,ρ,S=>(ev F o ρ S).bind λx S1=>if isDic S1 x then (ev F k ρ S1).bind λy S2=>(ev F e ρ S2).bind λz S3=>ofO (getD S3 x y z) S3 else .no
 | .idx a i,ρ,S=>(ev F a ρ S).bind λx S1=>(ev F i ρ S1).bind λy S2=>ofO (idxD S2 x y) S2
 | .slc a lo hi,ρ,S=>(ev F a ρ S).bind λx S1=>(evO F lo ρ S1).bind λl S2=>(evO F hi ρ S2).bind λh S3=>ofO (slcD S3 x l h) S3
 | .rev a,ρ,S=>(ev F a ρ S).bind λx S1=>match x with
  | .tup l=>.ok (.tup l.reverse) S1
  | _=>.no
 | .rng k es,ρ,S=>(evs F es ρ S).bind λl S1=>match rngD l with
  | some ds=>if ds.length≤1000000 then (match k with
   | some m=>newL m ds S1
   | none=>.ok (.tup ds) S1) else .no
  | none=>.no
 | .lc m fr nt elt tg it ifs,ρ,S=>(evI F it ρ S).bind λds S1 =>
   (lcLoop S1.length (λd ρ S=>asg F tg d ρ S) (λρ S=>tsts F ifs ρ S) (λρ S=>ev F elt ρ S) ds (frE ρ fr nt) (S1++[.lst []])).bind λ_ S2=>lcEnd m S1.length S2
 | .lcR m fr nt elt tg e ifs,ρ,S=>(ev F e ρ S).bind λx S1=>match refL x S1 with
  | some p=>(lcLoop S1.length (λd ρ S=>grd (own p.1 p.2) S (asg F tg d ρ S)) (λρ S=>tsts F ifs ρ S) (λρ S=>ev F elt ρ S) p.2 (frE ρ fr nt) (S1++[.lst []])).bind λ_ S2=>grd (own p.1 p.2) S2 (lcEnd m S1.length S2)
  | none=>.no
 | .lcX m fr nt elt tg e ifs,ρ,S=>(ev F e ρ S).bind λx S1=>match refX x S1 with
  | some p=>(lcLoop S1.length (λd ρ S=>grd p.2 S (asg F tg d ρ S)) (λρ S=>tsts F ifs ρ S) (λρ S=>ev F elt ρ S) p.1 (frE ρ fr nt) (S1++[.lst []])).bind λ_ S2=>grd p.2 S2 (lcEnd m S1.length S2)
  | none=>.no
 | .genX w fr nt elt tg e ifs,ρ,S=>(ev F e ρ S).bind λx S1=>match refX x S1 with
  | some p=>genLoopG p.2 (λd ρ S=>asg F tg d ρ S) (λρ S=>tsts F ifs ρ S) (λρ S=>ev F elt ρ S) (stepG w) (finG w) p.1 (frE ρ fr nt) (startG w) S1
  | none=>.no
 | .neF a b,ρ,S=>(ev F a ρ S).bind λx S1=>(ev F b ρ S1).bind λy S2=>ofO ((neFD S2 x y).map .bl) S2
 | .rem o i,ρ,S=>(ev F o ρ S).bind λx S1=>if isLst S1 x then (ev F i ρ S1).bind λy S2=>remD S2 x y else .no
 | .idk a i,ρ,S=>(ev F a ρ S).bind λx S1=>(ev F i ρ S1).bind λy S2=>ofO (idkD S2 x y) S2
 | .dcK d e,ρ,S=>(ev F e ρ S).bind λx S1=>match refX x S1 with
  | some p=>match intsOf p.1 with
   | some ns=>if ns.length<1000 then .ok (.ref S1.length) (S1++[.dis (dcKL d ns)]) else .no
   | none=>.no
  | none=>.no
 | .lls e,ρ,S=>(ev F e ρ S).bind λx S1=>match x with
  | .tup l=>newLls l.length S1
  | _=>.no
 | .gen w fr nt elt tg it ifs,ρ,S=>(evI F it ρ S).bind λds S1 =>
   genLoop (λd ρ S=>asg F tg d ρ S) (λρ S=>tsts F ifs ρ S) (λρ S=>ev F elt ρ S) (stepG w) (finG w) ds (frE ρ fr nt) (startG w) S1
noncomputable def evs (F:Fs):CEs→En→Sr→Res (List D)
 | .nil,_,S=>.ok [] S
 | .cons e r,ρ,S=>(ev F e ρ S).bind λx S1=>(evs F r ρ S1).bind λl S2=>.ok (x::l) S2
noncomputable def evO (F:Fs):CO→En→Sr→Res (Option Int)
 | .none,_,S=>.ok none S
 | .some e,ρ,S=>(ev F e ρ S).bind λx S1=>match x with | .int i=>.ok (some i) S1 | _=>.no
noncomputable def evI (F:Fs):CI→En→Sr→Res (List D)
 | .seq e,ρ,S=>(ev F e ρ S).bind λx S1=>match x with
  | .tup l=>.ok l S1
  | .lst l=>.ok l S1
  | _=>.no
 | .rng es,ρ,S=>(evs F es ρ S).bind λl S1=>ofO (rngD l) S1
 | .zip a b,ρ,S=>(ev F a ρ S).bind λx S1=>(ev F b ρ S1).bind λy S2=>match walkF x,walkF y with
  | some l,some m=>.ok ((l.zip m).map λp=>.tup [p.1,p.2]) S2
  | _,_=>.no
noncomputable def asg (F:Fs):CT→D→En→Sr→Res En
 | .var i,d,ρ,S=>.ok (ρ.set i (some d)) S
 | .tup r,d,ρ,S=>match d with
  | .tup l=>asgs F r l ρ S
  | _=>.no
 | .sub o i,d,ρ,S=>(ev F o ρ S).bind λx S1=>(ev F i ρ S1).bind λy S2=>match putE S2 x y d with
  | some S3=>.ok ρ S3
  | none=>.no
noncomputable def asgs (F:Fs):CTs→List D→En→Sr→Res En
 | .nil,l,ρ,S=>match l with | []=>.ok ρ S | _=>.no
 | .cons t r,l,ρ,S=>match l with
  | d::m=>(asg F t d ρ S).bind λρ1 S1=>asgs F r m ρ1 S1
  | []=>.no
noncomputable def tst (F:Fs):CB→En→Sr→Res Bool
 | .val e,ρ,S=>(ev F e ρ S).bind λx S1=>ofO (truD S1 x) S1
 | .and a b,ρ,S=>(tst F a ρ S).bind λt S1=>if t then tst F b ρ S1 else .ok false S1
 | .or a b,ρ,S=>(tst F a ρ S).bind λt S1=>if t then .ok true S1 else tst F b ρ S1
 | .not a,ρ,S=>(tst F a ρ S).bind λt S1=>.ok (!t) S1
 | .cal a,ρ,S=>noE (tst F a ρ S)
noncomputable def tsts (F:Fs):CBs→En→Sr→Res Bool
 | .nil,_,S=>.ok true S
 | .cons e r,ρ,S=>(tst F e ρ S).bind λt S1=>if t then tsts F r ρ S1 else .ok false S1
end
mutual
inductive CS where
 | expr (e:CE) | ret (e:CE) | retN | set (t:CT) (e:CE) | par (i j:Nat) (a b:CE)
 | aug (i:Nat) (o:BOp) (e:CE) | augK (o i e:CE)
 | ifs (c:CB) (a b:CSs) | forS (t:CT) (it:CI) (body:CSs) | forR (t:CT) (e:CE) (body:CSs) | forX (t:CT) (e:CE) (body:CSs) | whileS (c:CB) (body:CSs)
 | pass | brk | cont | never
 | cal (s:CS) | raise (C:Addr) | tryX (t:List (Addr × Bool)) (i:Nat) (body suite:CSs)
inductive CSs where | nil | cons (s:CS) (r:CSs)
end
inductive Fl where | nx (ρ:En) | bk (ρ:En) | ct (ρ:En) | rt (d:D)
noncomputable def forLoop (body:D→En→Sr→Res Fl):List D→En→Sr→Res Fl
 | [],ρ,S=>.ok (.nx ρ) S
 | d::r,ρ,S=>(body d ρ S).bind λf S1=>match f with
  | .nx ρ1=>forLoop body r ρ1 S1
  | .ct ρ1=>forLoop body r ρ1 S1
  | .bk ρ1=>.ok (.nx ρ1) S1
  | .rt d=>.ok (.rt d) S1
noncomputable def endG (gd:Sr→Prop) (r:Res Fl):Res Fl:=r.bind λf S=>match f with
 | .rt d=>.ok (.rt d) S
 | f=>grd gd S (.ok f S)
noncomputable def whileLoop (test:En→Sr→Res Bool) (body:En→Sr→Res Fl):Nat→En→Sr→Res Fl
 | 0,_,_=>.no
 | n+1,ρ,S=>(test ρ S).bind λt S1=>if t then (body ρ S1).bind λf S2=>(match f with
   | .nx ρ1=>whileLoop test body n ρ1 S2
   | .ct ρ1=>whileLoop test body n ρ1 S2
   | .bk ρ1=>.ok (.nx ρ1) S2
   | .rt d=>.ok (.rt d) S2)
  else .ok (.nx ρ) S1
mutual
noncomputable def ex (F:Fs) (N:Nat):CS→En→Sr→Res Fl
 | .expr e,ρ,S=>(ev F e ρ S).bind λ_ S1=>.ok (.nx ρ) S1
 | .ret e,ρ,S=>(ev F e ρ S).bind λd S1=>.ok (.rt d) S1
 | .retN,_,S=>.ok (.rt .non) S
 | .set t e,ρ,S=>(ev F e ρ S).bind λd S1=>(asg F t d ρ S1).bind λρ1 S2=>.ok (.nx ρ1) S2
 | .par i j a b,ρ,S=>(ev F a ρ S).bind λx S1=>(ev F b ρ S1).bind λy S2=>.ok (.nx ((ρ.set i (some x)).set j (some y))) S2
 | .aug i o e,ρ,S=>(varE ρ i S).bind λx S0=>(ev F e ρ S0).bind λy S1=>match x,y with
  | .int a,.int b=>match o with
   | .add=>.ok (.nx (ρ.set i (some (.int (a+b))))) S1
   | .sub=>.ok (.nx (ρ.set i (some (.int (a-b))))) S1
   | _=>.no
  | _,_=>.no
 | .augK o i e,ρ,S=>(ev F o ρ S).bind λx S1=>(ev F i ρ S1).bind λy S2=>match idkD S2 x y with
  | some (.int a)=>(ev F e ρ S2).bind λz S3=>match z with
   | .int b=>match putE S3 x y (.int (a+b)) with
    | some S4=>.ok (.nx ρ) S4
    | none=>.no
   | _=>.no
  | _=>.no
 | .ifs c a b,ρ,S=>(tst F c ρ S).bind λt S1=>if t then exs F N a ρ S1 else exs F N b ρ S1
 | .forS t it body,ρ,S=>(evI F it ρ S).bind λds S1=>forLoop (λd ρ S=>(asg F t d ρ S).bind λρ1 S1=>exs F N body ρ1 S1) ds ρ S1
 | .forX t e body,ρ,S=>(ev F e ρ S).bind λx S1=>match refX x S1 with
  | some p=>endG p.2 (forLoop (λd ρ S=>(grd p.2 S (asg F t d ρ S)).bind λρ1 S1=>exs F N body ρ1 S1) p.1 ρ S1)
  | none=>.no
 | .forR t e body,ρ,S=>(ev F e ρ S).bind λx S1=>match refL x S1 with
  | some p=>endG (own p.1 p.2) (forLoop (λd ρ S=>(grd (own p.1 p.2) S (asg F t d ρ S)).bind λρ1 S1=>exs F N body ρ1 S1) p.2 ρ S1)
  | none=>.no
 | .whileS c body,ρ,S=>whileLoop (λρ S=>tst F c ρ S) (λρ S=>exs F N body ρ S) N ρ S
 | .pass,ρ,S=>.ok (.nx ρ) S
 | .brk,ρ,S=>.ok (.bk ρ) S
 | .cont,ρ,S=>.ok (.ct ρ) S
 | .never,_,_=>.no
 | .cal s,ρ,S=>noE (ex F N s ρ S)
 | .raise C,_,S=>.err (.exc C) S
 | .tryX t i body suite,ρ,S=>match exs F N body ρ S with
  | .ok f S1=>.ok f S1
  | .err (.exc C) S1=>match lookA C t with
   | some true=>(exs F N suite (ρ.set i (some (.exc C))) S1).bind λf S2=>match f with
    | .nx ρ'=>.ok (.nx (ρ'.set i none)) S2
    | _=>.no
   | _=>.no
  | _=>.no
noncomputable def exs (F:Fs) (N:Nat):CSs→En→Sr→Res Fl
 | .nil,ρ,S=>.ok (.nx ρ) S
 | .cons s r,ρ,S=>(ex F N s ρ S).bind λf S1=>match f with
  | .nx ρ1=>exs F N r ρ1 S1
  | f=>.ok f S1
end
structure CF where
 np:Nat
 nn:Nat
 keeps:Bool
 body:CSs
mutual
noncomputable def frz (S:Sr) (n:Nat):D→Option D
 | .tup l=>(frzs S n l).map .tup
 | .lst l=>(frzs S n l).map .lst
 | .ref m=>if m<n then some (.ref m) else match S[m]? with
  | some (.lst l)=>if refsLts n l then some (.lst l) else none
  | _=>none
 | .non=>some .non | .bl b=>some (.bl b) | .int i=>some (.int i) | .str x=>some (.str x) | .emp=>some .emp | .exc _=>none
noncomputable def frzs (S:Sr) (n:Nat):List D→Option (List D)
 | []=>some []
 | d::r=>match frz S n d,frzs S n r with
  | some d',some r'=>some (d'::r')
  | _,_=>none
end
noncomputable def leave (keeps:Bool) (n:Nat) (d:D) (S:Sr):Res D :=
 if keeps then .ok d S
 else if S.length=n then .ok d S
 else if refsLt n d then .ok d (S.take n) else match frz S n d with
  | some d'=>.ok d' (S.take n)
  | none=>.no
noncomputable def callC (F:Fs) (N:Nat) (c:CF) (l:List D) (S:Sr):Res D :=
 if l.length=c.np then
  (exs F N c.body (l.map some++List.replicate (c.nn-c.np) none) S).bind λf S1=>match f with
   | .nx _=>leave c.keeps S.length .non S1
   | .rt d=>leave c.keeps S.length d S1
   | _=>.no
 else .no
noncomputable def run (P:List CF) (N:Nat):Nat→Fs
 | 0,_,_,_=>.no
 | k+1,f,l,S=>match P[f]? with
  | some c=>callC (run P N k) N c l S
  | none=>.no
end R
namespace R
open PySem PySem.Spec L2
open PyProof.Rows hiding St
structure EnR (ι:List Addr) (H:Hp) (ρ:En) (σ:St):Prop where
 len:ρ.length=σ.length
 get:∀ (i:Nat) (d:D),ρ[i]?=some (some d)→∃ v,σ[i]?=some (some v)∧Den ι H d v
theorem EnR.mono {ι ι':List Addr} {H H':Hp} {ρ:En} {σ:St} (e:EnR ι H ρ σ) (s:Stp ι H ι' H'):EnR ι' H' ρ σ :=
 ⟨e.len,λi d h=>let ⟨v,a,b⟩:=e.get i d h;⟨v,a,Den.mono s d b⟩⟩
theorem EnR.set {ι:List Addr} {H:Hp} {ρ:En} {σ:St} (e:EnR ι H ρ σ) {i:Nat} {d:D} {v:V} (h:Den ι H d v):EnR ι H (ρ.set i (some d)) (σ.set i (some v)):=by
 refine ⟨by simp [e.len],λj x q=>?_⟩
 by_cases z:i=j
 ·subst z
  have hl:i<ρ.length:=by
   have:=(wI.mp q).1
   simpa using this
  rw [vH hl] at q
  cases q
  exact ⟨v,vH (by rw [← e.len];exact hl),h⟩
 ·rw [List.getElem?_set_ne z] at q ⊢
  exact e.get j x q
noncomputable def Pst {α β:Type} (R:List Addr→Hp→α→β→Prop) (r:Res α) (ι:List Addr) (H:Hp) (Q:β→Hp→Prop):Prop:=match r with
 | .ok a S'=>∀ b ι' H',Stp ι H ι' H'→Sto ι' H' S'→R ι' H' a b→Q b H'
 | .err _ _=>False
 | .no=>False
theorem Pst.from {α β:Type} {R:List Addr→Hp→α→β→Prop} {r:Res α} {ι ι':List Addr} {H H':Hp} {Q:β→Hp→Prop} (h:Pst R r ι H Q) (s:Stp ι H ι' H'):Pst R r ι' H' Q:=by
 cases r with
 | ok a S=>exact λb ι2 H2 t st q=>h b ι2 H2 (s.trans t) st q
 | err=>exact h
 | no=>exact h
theorem Pst.bind {α β γ δ:Type} {R:List Addr→Hp→α→β→Prop} {R':List Addr→Hp→γ→δ→Prop} {r:Res α} {f:α→Sr→Res γ} {ι:List Addr} {H:Hp} {Q:δ→Hp→Prop} {K:β→Hp→Prop}
  (h:Pst R' (r.bind f) ι H Q) (k:∀ a S' ι' H' b,Stp ι H ι' H'→Sto ι' H' S'→R ι' H' a b→Pst R' (f a S') ι' H' Q→K b H'):Pst R r ι H K:=by
 cases r with
 | ok a S=>exact λb ι2 H2 t st q=>k a S ι2 H2 b t st q (Pst.from h t)
 | err=>exact h
 | no=>exact h
theorem Pst.ofO {α β:Type} {R:List Addr→Hp→α→β→Prop} {o:Option α} {S:Sr} {ι:List Addr} {H:Hp} {Q:β→Hp→Prop} (h:Pst R (ofO o S) ι H Q) (st:Sto ι H S):∃ a,o=some a∧∀ b ι' H',Stp ι H ι' H'→Sto ι' H' S→R ι' H' a b→Q b H':=by
 cases o with
 | none=>exact h.elim
 | some a=>exact ⟨a,rfl,h⟩
noncomputable def TG {α β:Type} (R:List Addr→Hp→α→β→Prop) (m:En→Sr→Res α):St→Hp→(β→Hp→Prop)→Prop:=λσ H Q=>∃ ι S ρ,EnR ι H ρ σ∧Sto ι H S∧Pst R (m ρ S) ι H Q
noncomputable abbrev T (m:En→Sr→Res D):TE:=TG Den m
noncomputable abbrev TL (m:En→Sr→Res (List D)):TA:=TG Dens m
noncomputable def EqR {α:Type} (_:List Addr) (_:Hp) (a b:α):Prop:=a=b
noncomputable abbrev TB (m:En→Sr→Res Bool):TT:=TG EqR m
noncomputable abbrev TOp (m:En→Sr→Res (Option Int)):TO:=TG EqR m
theorem TG.b1 {α β γ δ:Type} {R:List Addr→Hp→α→β→Prop} {R':List Addr→Hp→γ→δ→Prop} {m:En→Sr→Res α} {f:En→α→Sr→Res γ} {σ:St} {H:Hp} {Q:δ→Hp→Prop} {K:β→Hp→Prop}
  (h:TG R' (λρ S=>(m ρ S).bind λa S1=>f ρ a S1) σ H Q)
  (k:∀ ι S ρ a b H1,EnR ι H1 ρ σ→Sto ι H1 S→R ι H1 a b→Pst R' (f ρ a S) ι H1 Q→K b H1):TG R m σ H K:=by
 obtain ⟨ι,S,ρ,er,st,h⟩:=h
 exact ⟨ι,S,ρ,er,st,Pst.bind h λa S' ι' H' b s st' ra p=>k ι' S' ρ a b H' (er.mono s) st' ra p⟩
theorem Pst.tg {α β γ δ:Type} {R:List Addr→Hp→α→β→Prop} {R':List Addr→Hp→γ→δ→Prop} {m:En→Sr→Res α} {ρ:En} {S:Sr} {f:α→Sr→Res γ} {ι:List Addr} {σ:St} {H:Hp} {Q:δ→Hp→Prop} {K:β→Hp→Prop}
  (h:Pst R' ((m ρ S).bind f) ι H Q) (er:EnR ι H ρ σ) (st:Sto ι H S)
  (k:∀ a S' ι' H' b,Stp ι H ι' H'→EnR ι' H' ρ σ→Sto ι' H' S'→R ι' H' a b→Pst R' (f a S') ι' H' Q→K b H'):TG R m σ H K :=
 ⟨ι,S,ρ,er,st,Pst.bind h λa S' ι' H' b s st' ra p=>k a S' ι' H' b s (er.mono s) st' ra p⟩
theorem PEimp {X:Cx} {e:Expr} {t t':TE} (h:PE X e t) (k:∀ σ H Q,t' σ H Q→t σ H Q):PE X e t':=λpins s σ H Q I hw=>h pins s σ H Q I (k σ H Q hw)
theorem PTimp {X:Cx} {e:Expr} {t t':TT} (h:PT X e t) (k:∀ σ H Q,t' σ H Q→t σ H Q):PT X e t':=λpins s σ H Q I hw=>h pins s σ H Q I (k σ H Q hw)
theorem PAimp {X:Cx} {e:List Expr} {t t':TA} (h:PA X e t) (k:∀ σ H Q,t' σ H Q→t σ H Q):PA X e t':=λpos pins s σ H Q I hw=>h pos pins s σ H Q I (k σ H Q hw)
section
variable {ι:List Addr} {H:Hp} {S:Sr} {v:V}
theorem qF (st:Sto ι H S):∀ {d:D} {l:List D},lstOf S d=some l→Den ι H d v→∃ a xs,v=.ref a∧Rd H a (.lst xs)∧Dens ι H l xs
 | .lst l',l,h,hd=>by
  cases h
  obtain ⟨a,xs,e,_,r,q⟩:=hd
  exact ⟨a,xs,e,r,q⟩
 | .ref n,l,h,hd=>by
  obtain ⟨a,e,ha⟩:=hd
  simp only [lstOf] at h
  split at h
  ·rename_i l' hs
   cases h
   obtain ⟨_,xs,h1,h2⟩:=st.obj n a _ ha hs
   exact ⟨a,xs,e,.inl h1,h2⟩
  ·cases h
 | .non,_,h,_=>by cases h
 | .bl _,_,h,_=>by cases h
 | .int _,_,h,_=>by cases h
 | .str _,_,h,_=>by cases h
 | .tup _,_,h,_=>by cases h
 | .emp,_,h,_=>by cases h
 | .exc _,_,h,_=>by cases h
theorem qW {m:Bool} {l:List D} {xs:List V} {Q:V→Hp→Prop} (st:Sto ι H S) (hl:Dens ι H l xs) (h:Pst Den (newL m l S) ι H Q):∀ p,H p=none→Q (.ref p) (upd H p (.lst xs)):=by
 intro p hp
 unfold newL at h
 cases m with
 | true =>
  rw [wJ rfl] at h
  by_cases hf:refsLts 0 l=true
  ·rw [wJ hf] at h
   have g:=Stp.grow (ι:=ι) hp (.lst xs)
   have ep:(ι++[p])[ι.length]?=some p:=by simp
   refine h (.ref p) _ _ g (st.grow hp ⟨⟨_,ep,qK l hf⟩,xs,qC,Dens.mono g l hl⟩) ⟨p,rfl,?_⟩
   rw [← st.len];exact ep
  ·rw [wK hf] at h;exact h.elim
 | false =>
  have g:=Stp.laid (ι:=ι) hp (.lst xs)
  exact h (.ref p) _ _ g (st.laid hp _) ⟨p,xs,rfl,st.fresh hp,.inl qC,Dens.mono g l hl⟩
theorem zd {l:List D} {xs:List V} {Q:V→Hp→Prop} (st:Sto ι H S) (hl:Dens ι H l xs) (h:∀ v ι' H',Stp ι H ι' H'→Sto ι' H' S→Den ι' H' (.tup l) v→Q v H'):∀ p,H p=none→Q (.ref p) (upd H p (.tup xs)):=by
 intro p hp
 have g:=Stp.laid (ι:=ι) hp (.tup xs)
 exact h (.ref p) _ _ g (st.laid hp _) ⟨p,xs,rfl,st.fresh hp,qC,Dens.mono g l hl⟩
end
section
variable {X:Cx}
theorem qjx {i:Nat} {x:Str} {pos:Pos} (h:PE X (.Name x pos) (tVar i)):PE X (.Name x pos) (T λρ S=>varE ρ i S):=PEimp h λσ H Q hw=>by
 obtain ⟨ι,S,ρ,er,st,p⟩:=hw
 dsimp only [varE] at p
 split at p
 ·rename_i d hd
  obtain ⟨v,h1,h2⟩:=er.get i d hd
  exact ⟨v,h1,p v ι H (Stp.refl _ _) st h2⟩
 ·exact p.elim
theorem qbl {e:Expr} {d:D} {v:V} (h:PE X e (tC v)) (hd:∀ ι H,Den ι H d v):PE X e (T λ_ S=>.ok d S):=PEimp h λσ H Q hw=>by
 obtain ⟨ι,S,ρ,er,st,p⟩:=hw
 exact p v ι H (Stp.refl _ _) st (hd ι H)
theorem qie {e:Expr} {d:D} {v:V} (h:PE X e (λ_ H Q=>Q v H)) (hd:∀ ι H,Den ι H d v):PE X e (T λ_ S=>.ok d S):=qbl h hd
theorem qjy:PA X [] (TL λ_ S=>.ok [] S):=PAimp jc λσ H Q hw=>by
 obtain ⟨ι,S,ρ,er,st,p⟩:=hw
 exact p [] ι H (Stp.refl _ _) st rfl
theorem qif {e:Expr} {es:List Expr} {m:En→Sr→Res D} {ms:En→Sr→Res (List D)} (h1:PE X e (T m)) (h2:PA X es (TL ms)) (hs:starEach (e::es) X.env=(false,eval e X.env)::starEach es X.env) :
  PA X (e::es) (TL λρ S=>(m ρ S).bind λx S1=>(ms ρ S1).bind λl S2=>.ok (x::l) S2):=PAimp (zL h1 h2 hs) λσ H Q hw=>by
 refine TG.b1 hw λι S ρ a b H1 er st ra p=>Pst.tg p er st λl S2 ι2 H2 xs s2 er2 st2 rl p2=>?_
 exact p2 _ ι2 H2 (Stp.refl _ _) st2 ⟨b,xs,rfl,Den.mono s2 a ra,rl⟩
noncomputable def G2 (g:D→D→Sr→Res D):R2:=λx y H Q=>∃ ι S dx dy,Sto ι H S∧Den ι H dx x∧Den ι H dy y∧Pst Den (g dx dy S) ι H Q
theorem T2 {ma mb:En→Sr→Res D} {g:D→D→Sr→Res D} {σ:St} {H:Hp} {Q:VK} (h:T (λρ S=>(ma ρ S).bind λx S1=>(mb ρ S1).bind λy S2=>g x y S2) σ H Q):tOp (G2 g) (T ma) (T mb) σ H Q :=
 TG.b1 h λι S ρ a b H1 er st ra p=>Pst.tg p er st λa2 S2 ι2 H2 b2 s2 er2 st2 ra2 p2=>⟨ι2,S2,a,a2,st2,Den.mono s2 a ra,ra2,p2⟩
theorem qht {a b:Expr} {op:Operator} {pos:Pos} {ma mb:En→Sr→Res D} {g:D→D→Sr→Res D} (ho:OpR X (binaryOp op) (G2 g)) (ha:PE X a (T ma)) (hb:PE X b (T mb)) :
  PE X (.BinOp a op b pos) (T λρ S=>(ma ρ S).bind λx S1=>(mb ρ S1).bind λy S2=>g x y S2):=PEimp (qjn ho ha hb) λσ H Q=>T2
theorem qjz {a b:Expr} {op:CmpOp} {pos:Pos} {ma mb:En→Sr→Res D} {g:D→D→Sr→Res D} (ho:OpR X (compareOp op) (G2 g)) (ha:PE X a (T ma)) (hb:PE X b (T mb)) (hm:behindInMarks op b=false) :
  PE X (.Compare a [op] [b] pos) (T λρ S=>(ma ρ S).bind λx S1=>(mb ρ S1).bind λy S2=>g x y S2):=PEimp (qgc ho ha hb hm) λσ H Q=>T2
theorem qce {pins:List (Addr × Obj)} {σ:St} {H:Hp} {s:Shared} {l:Addr} {xs:List V} (I:Inv X pins σ H s) (hH:Rd H l (.lst xs)):xs.length≤sizeLine∧∃ (its:List Value) (n:Nat),Vals xs its∧xs.length=its.length∧s.heap.get? l=some { cls:=.type "list",data:=.seq its.toArray n }:=by
 obtain ⟨z,its,n,r,e⟩:=hH.ok I.hok
 exact ⟨z,its,n,r,r.length,e⟩
theorem qcJ:OpR X (binaryOp .Add) (λx y H Q=>∃ l b xs zs,x=.ref l∧y=.ref b∧Rd H l (.lst xs)∧Rd H b (.lst zs)∧xs.length+zs.length≤sizeLine∧∀ p,H p=none→Q (.ref p) (upd H p (.lst (xs++zs)))):=by
 intro pins s σ H x y v u Q I rx ry h
 obtain ⟨l,b,xs,zs,rfl,rfl,hH,hB,hz,q⟩:=h
 cases rx
 cases ry
 obtain ⟨z,its,n,r,hl,e⟩:=qce I hH
 obtain ⟨z2,its2,n2,r2,hl2,e2⟩:=qce I hB
 refine PySem.P.add_list e e2 ?_ (by rw [wF,wF];lia)
 have ea:its.toArray++its2.toArray=(its++its2).toArray:=by simp
 rw [ea]
 exact ⟨.ref _,_,I.lnew (t':=s.toks) (r.append r2) (by rw [wc];lia),rfl,q _ I.fresh⟩
theorem qcK:OpR X (binaryOp .Mult) (λx y H Q=>∃ l k xs,x=.ref l∧y=.int k∧Rd H l (.lst xs)∧-(2^63)≤k∧k<2^63∧xs.length*k.toNat≤sizeLine ∧
 ∀ p,H p=none→Q (.ref p) (upd H p (.lst (List.replicate k.toNat xs).flatten))):=by
 intro pins s σ H x y v u Q I rx ry h
 obtain ⟨l,k,xs,rfl,rfl,hH,h1,h2,hz,q⟩:=h
 cases rx
 obtain ⟨t,rfl⟩:=ry
 obtain ⟨z,its,n,r,hl,e⟩:=qce I hH
 have hlen:its.toArray.size*k.toNat≤sizeLine:=by rw [wF,← hl];exact hz
 have hcap:¬ its.toArray.size*k.toNat>(2^63-1) / 8:=by
  have:(sizeLine:Nat)≤(2^63-1) / 8:=by decide
  lia
 have hfit:¬ (!Builtin.List.listFitsIndex k)=true:=by
  rw [fitsIndex_both h1 h2]
  exact wR
 have hlong:¬ Builtin.List.listTooLong (its.toArray.size*k.toNat)=true:=by
  rw [notLongL hlen]
  exact wR
 have hnew:List.foldl (λx1 x2=>x1++x2) #[] (List.replicate (if its.toArray.isEmpty=true then 0 else k.toNat) its.toArray)=(List.replicate k.toNat its).flatten.toArray:=by
  have f0:∀ m:Nat,List.foldl (λx1 x2=>x1++x2) #[] (List.replicate m its.toArray)=(List.replicate m its).flatten.toArray:=λm=>by
   have:=jd its m []
   rw [List.nil_append] at this
   exact this
  rw [f0]
  cases its with
  | nil=>simp
  | cons a r'=>rw [wK (by simp)]
 refine wpAny_binaryOp_repeat_ref (T:="list") (U:="int") (by decide) ⟨_,e,rfl⟩ (λs'=>typeIs_int s' k t) noFill_list_mul F.fills_int_mul F.slot_int_rmul repeat_list F.slot_int_index.lookup
  (call_meets F.slot_int_rmul (typeIs_int s k t) F.entry_int_rmul (F.args_int_rmul_2 _ _) (int___rmul___int_list k t l its.toArray n)
   ⟨e,rfl,⟨_,e,rfl⟩,call_meets F.slot_list_mul ⟨_,e,rfl⟩ F.entry_list_mul (F.args_list_mul_2 _ _) (AutoListH.list___mul___list_int_3 l its.toArray n k t hfit hcap hlong) ⟨e,?_⟩⟩)
 rw [hnew]
 exact ⟨.ref _,_,I.lnew (t':=s.toks) (r.rep k.toNat) (by rw [jA,Nat.mul_comm];exact hz),rfl,q _ I.fresh⟩
noncomputable def opOf:BOp→Operator
 | .add=>.Add | .sub=>.Sub | .mul=>.Mult | .fdiv=>.FloorDiv | .mod=>.Mod | .pow=>.Pow | .shl=>.LShift | .shr=>.RShift | .band=>.BitAnd
theorem qig (o:BOp):OpR X (binaryOp (opOf o)) (λx y H Q=>∃ i j r,x=.int i∧y=.int j∧binI o i j=some r∧Q (.int r) H):=by
 intro pins s σ H x y v u Q I rx ry h
 obtain ⟨i,j,r,rfl,rfl,e,q⟩:=h
 have fin:∀ {r':Int} {t:Tok} {tk:Nat},r=r'→EP X pins σ Q (.int r' t) { s with toks:=tk }:=λ{r' t tk} z=>by subst z;exact ⟨.int r,H,I.tok _,⟨_,rfl⟩,q⟩
 obtain ⟨tv,rfl⟩:=rx
 obtain ⟨tu,rfl⟩:=ry
 cases o with
 | add=>exact add_int (fin (by cases e;rfl))
 | sub=>exact sub_int (fin (by cases e;rfl))
 | mul =>
  simp only [binI] at e
  split at e
  ·rename_i hm
   exact mul_int (fin (by cases e;rfl)) (by unfold mulOk at hm;unfold IntMulOk;intro z;rw [z] at hm;exact absurd hm (by decide))
  ·cases e
 | fdiv =>
  simp only [binI] at e
  split at e
  ·rename_i hm
   simp only [divOk,wL,Bool.not_eq_true',wz] at hm
   exact floordiv_int hm.1 (fin (by cases e;rfl)) (.inl hm.2)
  ·cases e
 | mod =>
  simp only [binI] at e
  split at e
  ·cases e
  ·rename_i hm
   exact mod_int' hm (fin (by cases e;rfl))
 | pow =>
  simp only [binI] at e
  split at e
  ·rename_i hm
   exact pow_int_small hm.1 hm.2.1 hm.2.2 (fin (by cases e;rfl))
  ·cases e
 | shl =>
  simp only [binI] at e
  split at e
  ·rename_i hm
   exact lshift_int_small hm.1 hm.2.1 hm.2.2 (fin (by cases e;rfl))
  ·cases e
 | shr =>
  simp only [binI] at e
  split at e
  ·rename_i hm
   exact qhZ pins s σ H (.int i) (.int j) _ _ Q I ⟨tv,rfl⟩ ⟨tu,rfl⟩ ⟨i,j,rfl,rfl,hm,by cases e;exact q⟩
  ·cases e
 | band=>exact and_int (fin (by cases e;rfl))
end
end R
namespace R
open PySem PySem.Spec L2 SeqAt
open PyProof.Rows hiding St
theorem qbm {f:D→D→Option Bool}:∀ {a b:List D} {r:Bool},eqL f a b=some r →
  (∀ (j:Nat) (x y:D),a[j]?=some x→b[j]?=some y→∃ c,f x y=some c) ∧
  r=((List.range (min a.length b.length)).all (λj=>match a[j]?,b[j]? with | some x,some y=>(f x y).getD false | _,_=>false)&&a.length == b.length)
 | [],[],r,h=>by cases h;exact ⟨λj x y h _=>by simp at h,by simp⟩
 | [],_::_,r,h=>by cases h;exact ⟨λj x y h _=>by simp at h,by simp⟩
 | _::_,[],r,h=>by cases h;exact ⟨λj x y _ h=>by simp at h,by simp⟩
 | a::p,b::q,r,h=>by
  simp only [eqL] at h
  split at h
  ·rename_i x y hx hy
   obtain ⟨ih1,ih2⟩:=qbm hy
   cases h
   refine ⟨λj z w hz hw=>?_,?_⟩
   ·cases j with
    | zero=>simp at hz hw;subst hz hw;exact ⟨x,hx⟩
    | succ j=>exact ih1 j z w (by simpa using hz) (by simpa using hw)
   ·have e:min (a::p).length (b::q).length=min p.length q.length+1:=by simp only [w5];lia
    rw [e,List.range_succ_eq_map,List.all_cons,List.all_map]
    simp only [List.getElem?_cons_zero,hx,Option.getD_some]
    rw [ih2,Bool.and_assoc]
    congr 1
    congr 1
    simp only [w5]
    rw [Bool.eq_iff_iff,beq_iff_eq,beq_iff_eq];lia
  ·cases h
section
variable {ι:List Addr} {H:Hp}
theorem jG {a:Addr} {xs ys:List V} (h:H a=some (.tup xs)) (k:Rd H a (.lst ys)):False:=by
 rcases k with k | ⟨o,k⟩ <;> (rw [h] at k;cases k)
theorem rd_inj {a:Addr} {xs ys:List V} (h:Rd H a (.lst xs)) (k:Rd H a (.lst ys)):xs=ys:=by
 rcases h with h | ⟨o,h⟩ <;> rcases k with k | ⟨o',k⟩ <;> (rw [h] at k;first | (cases k;done) | (cases k;rfl))
theorem jH {f:D→D→Option Bool} (hf:∀ x y v b,Den ι H x v→Den ι H y v→f x y=some b→b=true):∀ {a b:List D} {xs:List V} {r:Bool},Dens ι H a xs→Dens ι H b xs→eqL f a b=some r→r=true
 | [],[],_,r,_,_,h=>by cases h;rfl
 | [],_::_,_,r,h1,h2,h=>by
  cases (show _=[] from h1)
  obtain ⟨x,r,e,_⟩:=h2
  cases e
 | _::_,[],_,r,h1,h2,h=>by
  cases (show _=[] from h2)
  obtain ⟨x,r,e,_⟩:=h1
  cases e
 | a::p,b::q,_,r,h1,h2,h=>by
  obtain ⟨x,t,rfl,d1,e1⟩:=h1
  obtain ⟨x',t',e,d2,e2⟩:=h2
  cases e
  simp only [eqL] at h
  split at h
  ·rename_i y z hy hz
   cases h
   rw [hf a b x y d1 d2 hy,jH hf e1 e2 hz]
   all_goals rfl
  ·cases h
theorem jI:∀ (n:Nat) (x y:D) (v:V) (b:Bool),Den ι H x v→Den ι H y v→eqD n x y=some b→b=true
 | 0,_,_,_,_,_,_,h=>by cases h
 | n+1,x,y,v,b,hx,hy,h=>by
  cases x <;> cases y <;> simp only [eqD,Den] at h hx hy <;> first
   | (cases h;rfl)
   | (cases h;subst hx;first | (cases hy;done) | (cases hy;simp;done))
   | (obtain ⟨a,xs,rfl,_⟩:=hx;cases hy;done)
   | (obtain ⟨a,xs,rfl,_⟩:=hy;cases hx;done)
   | (obtain ⟨a,rfl,_⟩:=hx;cases h;done)
   | (obtain ⟨a,rfl,_⟩:=hy;cases h;done)
   | (obtain ⟨a,xs,rfl,_,ha,r⟩:=hx
      obtain ⟨a',xs',e,_,ha',r'⟩:=hy
      cases e
      first
        | (rw [ha] at ha';cases ha';exact jH (λx y v b=>jI n x y v b) r r' h)
        | (cases rd_inj ha ha'
           have hl:_=_:=r.length.trans r'.length.symm
           rw [wJ hl] at h
           exact jH (λx y v b=>jI n x y v b) r r' h)
        | exact (jG ha ha').elim
        | exact (jG ha' ha).elim)
end
section
variable {X:Cx} {pins:List (Addr × Obj)} {σ:St} {H:Hp} {s:Shared} {ι:List Addr}
theorem Vals.at {xs:List V} {us:List Value} (r:Vals xs us) {j:Nat} (h:j<us.length):∃ x,xs[j]?=some x∧RelV x us[j]:=by
 have hl:=r.length
 obtain ⟨u,h1,h2⟩:=r.get (i:=j) (x:=xs[j]'(by lia)) (wD (by lia))
 rw [wD h] at h1
 cases h1
 exact ⟨_,wD (by lia),h2⟩
theorem Dens.at {ds:List D} {xs:List V} {j:Nat} {x:V} (h:Dens ι H ds xs) (e:xs[j]?=some x):∃ d,ds[j]?=some d∧Den ι H d x:=by
 have hl:=h.length
 have hj:=(wI.mp e).1
 obtain ⟨y,h1,h2⟩:=h.get (i:=j) (d:=ds[j]'(by lia)) (wD (by lia))
 rw [e] at h1;cases h1
 exact ⟨_,wD (by lia),h2⟩
theorem jJ (I:Inv X pins σ H s) {a:Addr} {xs:List V} (h:H a=some (.tup xs)):∃ its:List Value,Vals xs its∧IsTup s.heap a its.toArray∧xs.length≤sizeLine:=by
 obtain ⟨z,its,r,p,_⟩:=I.hok a _ h
 exact ⟨its,r,p,z⟩
theorem jK (I:Inv X pins σ H s) {a:Addr} {xs:List V} (h:Rd H a (.lst xs)):∃ its:List Value,Vals xs its∧s.heap.IsList a its.toArray∧xs.length≤sizeLine:=by
 obtain ⟨z,its,n,r,e⟩:=h.ok I.hok
 exact ⟨its,r,⟨_,e,rfl,n,rfl⟩,z⟩
noncomputable def EqAll (A:Around) (s:Shared) (v u:Value) (b:Bool):Prop:=RcAt A s v u b∧RcNeAt A s v u (!b)∧EqAt A s v u b
theorem yJ {v:V} {i:Int} {u:Value} (h:Den ι H (.int i) v) (r:RelV v u):∃ t,u=.int i t:=by cases (show v=_ from h);exact r
theorem yK {v:V} {i:Str} {u:Value} (h:Den ι H (.str i) v) (r:RelV v u):∃ t,u=.str i t:=by cases (show v=_ from h);exact r
theorem vs_bl {v:V} {i:Bool} {u:Value} (h:Den ι H (.bl i) v) (r:RelV v u):u=.bool i:=by cases (show v=_ from h);exact r
theorem vs_non {v:V} {u:Value} (h:Den ι H .non v) (r:RelV v u):u=.none:=by cases (show v=_ from h);exact r
theorem yL (I:Inv X pins σ H s) {v:V} {l:List D} {u:Value} (h:Den ι H (.tup l) v) (r:RelV v u):∃ a its xs,v=.ref a∧u=.ref a∧Vals xs its∧Dens ι H l xs∧s.heap.IsTuple a its.toArray∧H a=some (.tup xs):=by
 obtain ⟨a,xs,rfl,_,ha,d⟩:=h
 cases r
 obtain ⟨its,rv,p,_⟩:=jJ I ha
 exact ⟨a,its,xs,rfl,rfl,rv,d,p,ha⟩
theorem yM (I:Inv X pins σ H s) {v:V} {l:List D} {u:Value} (h:Den ι H (.lst l) v) (r:RelV v u):∃ a its xs,v=.ref a∧u=.ref a∧Vals xs its∧Dens ι H l xs∧s.heap.IsList a its.toArray∧Rd H a (.lst xs):=by
 obtain ⟨a,xs,rfl,_,ha,d⟩:=h
 cases r
 obtain ⟨its,rv,p,_⟩:=jK I ha
 exact ⟨a,its,xs,rfl,rfl,rv,d,p,ha⟩
theorem qeC {f:D→D→Option Bool} {A:Around} {a b:List D} {xs ys:List V} {its its2:List Value} {r:Bool}
  (hf:∀ x y c v u v' u',f x y=some c→Den ι H x v→Den ι H y u→RelV v v'→RelV u u'→EqAt A s v' u' c)
  (h:eqL f a b=some r) (da:Dens ι H a xs) (db:Dens ι H b ys) (va:Vals xs its) (vb:Vals ys its2) :
  ∃ e:Nat→Bool,(∀ j (h1:j<its.toArray.size) (h2:j<its2.toArray.size),EqAt A s its.toArray[j] its2.toArray[j] (e j))∧r=((List.range (min its.toArray.size its2.toArray.size)).all e&&its.toArray.size == its2.toArray.size) ∧
   a.length=its.length∧b.length=its2.length:=by
 obtain ⟨h1,h2⟩:=qbm h
 have la:a.length=its.length:=da.length.trans va.length
 have lb:b.length=its2.length:=db.length.trans vb.length
 refine ⟨_,λj j1 j2=>?_,by rw [wF,wF,← la,← lb];exact h2,la,lb⟩
 simp only [wF] at j1 j2
 obtain ⟨x,e1,r1⟩:=Vals.at va j1
 obtain ⟨y,e2,r2⟩:=Vals.at vb j2
 obtain ⟨d1,g1,k1⟩:=da.at e1
 obtain ⟨d2,g2,k2⟩:=db.at e2
 obtain ⟨c,hc⟩:=h1 j d1 d2 g1 g2
 simp only [g1,g2,hc,Option.getD_some,List.getElem_toArray]
 exact hf d1 d2 c x y _ _ hc k1 k2 r1 r2
theorem qcf (I:Inv X pins σ H s):∀ (n:Nat) (A:Around) (x y:D) (b:Bool) (v u:V) (v' u':Value),eqD n x y=some b→Den ι H x v→Den ι H y u→RelV v v'→RelV u u'→A.units+n<cLine→EqAll A s v' u' b
 | 0,_,_,_,_,_,_,_,_,h,_,_,_,_,_=>by cases h
 | n+1,A,x,y,b,v,u,v',u',h,hx,hy,rx,ry,hu=>by
  have hu0:A.units<cLine:=by lia
  have same:=jI (ι:=ι) (H:=H) (n+1) x y
  have ih:∀ x y c v u v' u',eqD n x y=some c→Den ι H x v→Den ι H y u→RelV v v'→RelV u u'→EqAt A.in1 s v' u' c:=λx y c v u v' u' h1 h2 h3 h4 h5 =>
   (qcf I n A.in1 x y c v u v' u' h1 h2 h3 h4 h5 (by show A.units+1+n<cLine;lia)).2.2
  cases x with
  | exc k=>cases y <;> cases h
  | ref k=>cases y <;> cases h
  | emp=>cases y <;> cases h
  | non =>
   cases vs_non hx rx
   cases y with
   | ref k=>cases h
   | emp=>cases h
   | exc _=>cases h
   | non=>cases vs_non hy ry;cases h;exact ⟨RcAt.none_none,RcNeAt.none_none,EqAt.same _⟩
   | bl c=>cases vs_bl hy ry;cases h;exact ⟨RcAt.none_bool _,RcNeAt.none_bool _,EqAt.none_bool _⟩
   | int c=>obtain ⟨t,rfl⟩:=yJ hy ry;cases h;exact ⟨RcAt.none_int _ _,RcNeAt.none_int _ _,EqAt.none_int _ _⟩
   | str c=>obtain ⟨t,rfl⟩:=yK hy ry;cases h;exact ⟨RcAt.none_str _ _,RcNeAt.none_str _ _,EqAt.none_str _ _⟩
   | tup l=>obtain ⟨a,its,xs,_,rfl,_,_,p,_⟩:=yL I hy ry;cases h;exact ⟨RcAt.none_tuple p hu0,RcNeAt.none_tuple p hu0,EqAt.none_tuple p hu0⟩
   | lst l=>obtain ⟨a,its,xs,_,rfl,_,_,p,_⟩:=yM I hy ry;cases h;exact ⟨RcAt.none_list p hu0,RcNeAt.none_list p hu0,EqAt.none_list p hu0⟩
  | bl d =>
   cases vs_bl hx rx
   cases y with
   | ref k=>cases h
   | emp=>cases h
   | exc _=>cases h
   | non=>cases vs_non hy ry;cases h;exact ⟨RcAt.bool_none _,RcNeAt.bool_none _,EqAt.bool_none _⟩
   | bl c=>cases vs_bl hy ry;cases h;exact ⟨RcAt.bool_bool _ _,RcNeAt.bool_bool _ _,EqAt.bool_bool _ _⟩
   | int c=>obtain ⟨t,rfl⟩:=yJ hy ry;cases h;exact ⟨RcAt.bool_int _ _ _,RcNeAt.bool_int _ _ _,EqAt.bool_int _ _ _⟩
   | str c=>obtain ⟨t,rfl⟩:=yK hy ry;cases h;exact ⟨RcAt.bool_str _ _ _,RcNeAt.bool_str _ _ _,EqAt.bool_str _ _ _⟩
   | tup l=>obtain ⟨a,its,xs,_,rfl,_,_,p,_⟩:=yL I hy ry;cases h;exact ⟨RcAt.bool_tuple _ p hu0,RcNeAt.bool_tuple _ p hu0,EqAt.bool_tuple _ p hu0⟩
   | lst l=>obtain ⟨a,its,xs,_,rfl,_,_,p,_⟩:=yM I hy ry;cases h;exact ⟨RcAt.bool_list _ p hu0,RcNeAt.bool_list _ p hu0,EqAt.bool_list _ p hu0⟩
  | int d =>
   obtain ⟨tt,rfl⟩:=yJ hx rx
   cases y with
   | ref k=>cases h
   | emp=>cases h
   | exc _=>cases h
   | non=>cases vs_non hy ry;cases h;exact ⟨RcAt.int_none _ _,RcNeAt.int_none _ _,EqAt.int_none _ _⟩
   | bl c=>cases vs_bl hy ry;cases h;exact ⟨RcAt.int_bool _ _ _,RcNeAt.int_bool _ _ _,EqAt.int_bool _ _ _⟩
   | int c=>obtain ⟨t,rfl⟩:=yJ hy ry;cases h;exact ⟨RcAt.int_int _ _ _ _,RcNeAt.int_int _ _ _ _,EqAt.int_int _ _ _ _⟩
   | str c=>obtain ⟨t,rfl⟩:=yK hy ry;cases h;exact ⟨RcAt.int_str _ _ _ _,RcNeAt.int_str _ _ _ _,EqAt.int_str _ _ _ _⟩
   | tup l=>obtain ⟨a,its,xs,_,rfl,_,_,p,_⟩:=yL I hy ry;cases h;exact ⟨RcAt.int_tuple _ _ p hu0,RcNeAt.int_tuple _ _ p hu0,EqAt.int_tuple _ _ p hu0⟩
   | lst l=>obtain ⟨a,its,xs,_,rfl,_,_,p,_⟩:=yM I hy ry;cases h;exact ⟨RcAt.int_list _ _ p hu0,RcNeAt.int_list _ _ p hu0,EqAt.int_list _ _ p hu0⟩
  | str d =>
   obtain ⟨tt,rfl⟩:=yK hx rx
   cases y with
   | ref k=>cases h
   | emp=>cases h
   | exc _=>cases h
   | non=>cases vs_non hy ry;cases h;exact ⟨RcAt.str_none _ _,RcNeAt.str_none _ _,EqAt.str_none _ _⟩
   | bl c=>cases vs_bl hy ry;cases h;exact ⟨RcAt.str_bool _ _ _,RcNeAt.str_bool _ _ _,EqAt.str_bool _ _ _⟩
   | int c=>obtain ⟨t,rfl⟩:=yJ hy ry;cases h;exact ⟨RcAt.str_int _ _ _ _,RcNeAt.str_int _ _ _ _,EqAt.str_int _ _ _ _⟩
   | str c=>obtain ⟨t,rfl⟩:=yK hy ry;cases h;exact ⟨RcAt.str_str _ _ _ _,RcNeAt.str_str _ _ _ _,EqAt.str_str _ _ _ _⟩
   | tup l=>obtain ⟨a,its,xs,_,rfl,_,_,p,_⟩:=yL I hy ry;cases h;exact ⟨RcAt.str_tuple _ _ p hu0,RcNeAt.str_tuple _ _ p hu0,EqAt.str_tuple _ _ p hu0⟩
   | lst l=>obtain ⟨a,its,xs,_,rfl,_,_,p,_⟩:=yM I hy ry;cases h;exact ⟨RcAt.str_list _ _ p hu0,RcNeAt.str_list _ _ p hu0,EqAt.str_list _ _ p hu0⟩
  | tup d =>
   obtain ⟨a',its',xs',e1,rfl,va,da,p',ha⟩:=yL I hx rx
   cases y with
   | ref k=>cases h
   | emp=>cases h
   | exc _=>cases h
   | non=>cases vs_non hy ry;cases h;exact ⟨RcAt.tuple_none p' hu0,RcNeAt.tuple_none p' hu0,EqAt.tuple_none p' hu0⟩
   | bl c=>cases vs_bl hy ry;cases h;exact ⟨RcAt.tuple_bool _ p' hu0,RcNeAt.tuple_bool _ p' hu0,EqAt.tuple_bool _ p' hu0⟩
   | int c=>obtain ⟨t,rfl⟩:=yJ hy ry;cases h;exact ⟨RcAt.tuple_int _ _ p' hu0,RcNeAt.tuple_int _ _ p' hu0,EqAt.tuple_int _ _ p' hu0⟩
   | str c=>obtain ⟨t,rfl⟩:=yK hy ry;cases h;exact ⟨RcAt.tuple_str _ _ p' hu0,RcNeAt.tuple_str _ _ p' hu0,EqAt.tuple_str _ _ p' hu0⟩
   | tup l =>
    obtain ⟨a,its,xs,e2,rfl,vb,db,p,hb⟩:=yL I hy ry
    have h0:eqL (eqD n) d l=some b:=h
    obtain ⟨e,he,er,_⟩:=qeC ih h0 da db va vb
    have R1:RcAt A s (.ref a') (.ref a) b:=by rw [er];exact RcAt.tuples p' p hu0 he
    have R2:RcNeAt A s (.ref a') (.ref a) (!b):=by rw [er];exact RcNeAt.tuples p' p hu0 he
    refine ⟨R1,R2,?_⟩
    by_cases z:a'=a
    ·subst z
     rw [same (.ref a') b (e1 ▸ hx) (e2 ▸ hy) h]
     exact EqAt.same _
    ·exact EqAt.of_refs z R1
   | lst l=>obtain ⟨a,its,xs,_,rfl,_,_,p,_⟩:=yM I hy ry;cases h;exact ⟨RcAt.tuple_list p' p hu0,RcNeAt.tuple_list p' p hu0,EqAt.tuple_list p' p hu0⟩
  | lst d =>
   obtain ⟨a',its',xs',e1,rfl,va,da,p',ha⟩:=yM I hx rx
   cases y with
   | ref k=>cases h
   | emp=>cases h
   | exc _=>cases h
   | non=>cases vs_non hy ry;cases h;exact ⟨RcAt.list_none p' hu0,RcNeAt.list_none p' hu0,EqAt.list_none p' hu0⟩
   | bl c=>cases vs_bl hy ry;cases h;exact ⟨RcAt.list_bool _ p' hu0,RcNeAt.list_bool _ p' hu0,EqAt.list_bool _ p' hu0⟩
   | int c=>obtain ⟨t,rfl⟩:=yJ hy ry;cases h;exact ⟨RcAt.list_int _ _ p' hu0,RcNeAt.list_int _ _ p' hu0,EqAt.list_int _ _ p' hu0⟩
   | str c=>obtain ⟨t,rfl⟩:=yK hy ry;cases h;exact ⟨RcAt.list_str _ _ p' hu0,RcNeAt.list_str _ _ p' hu0,EqAt.list_str _ _ p' hu0⟩
   | tup l=>obtain ⟨a,its,xs,_,rfl,_,_,p,_⟩:=yL I hy ry;cases h;exact ⟨RcAt.list_tuple p' p hu0,RcNeAt.list_tuple p' p hu0,EqAt.list_tuple p' p hu0⟩
   | lst l =>
    obtain ⟨a,its,xs,e2,rfl,vb,db,p,hb⟩:=yM I hy ry
    have h0:(if d.length=l.length then eqL (eqD n) d l else some false)=some b:=h
    have la:d.length=its'.length:=da.length.trans va.length
    have lb:l.length=its.length:=db.length.trans vb.length
    have R:RcAt A s (.ref a') (.ref a) b∧RcNeAt A s (.ref a') (.ref a) (!b):=by
     by_cases hl:d.length=l.length
     ·rw [wJ hl] at h0
      obtain ⟨e,he,er,_⟩:=qeC ih h0 da db va vb
      have hsz:its'.toArray.size=its.toArray.size:=by rw [wF,wF];lia
      have er':b=(List.range its'.toArray.size).all e:=by
       rw [er,hsz];simp
      rw [er']
      exact ⟨RcAt.lists p' p hsz hu0 he,RcNeAt.lists p' p hsz hu0 he⟩
     ·rw [wK hl] at h0
      cases h0
      have hsz:(its'.toArray.size != its.toArray.size)=true:=by
       rw [wF,wF];simp;lia
      exact ⟨RcAt.lists_lengths p' p hsz hu0,RcNeAt.lists_lengths p' p hsz hu0⟩
    refine ⟨R.1,R.2,?_⟩
    by_cases z:a'=a
    ·subst z
     rw [same (.ref a') b (e1 ▸ hx) (e2 ▸ hy) h]
     exact EqAt.same _
    ·exact EqAt.of_refs z R.1
end
end R
namespace R
open PySem PySem.Spec L2 SeqAt
open PyProof.Rows hiding St
section
variable {X:Cx}
theorem Dens.rep {ι:List Addr} {H:Hp} {ds:List D} {xs:List V} (h:Dens ι H ds xs):∀ k:Nat,Dens ι H (List.replicate k ds).flatten (List.replicate k xs).flatten
 | 0=>by simp [Dens]
 | k+1=>by
  simp only [vL,List.flatten_cons]
  exact h.append (Dens.rep h k)
theorem qeD:OpR X (binaryOp .Add) (λx y H Q=>∃ a b xs ys,x=.ref a∧y=.ref b∧H a=some (.tup xs)∧H b=some (.tup ys)∧xs.length+ys.length≤sizeLine ∧
  (xs=[]→Q (.ref b) H)∧(xs≠[]→ys=[]→Q (.ref a) H)∧(xs≠[]→ys≠[]→∀ p,H p=none→Q (.ref p) (upd H p (.tup (xs++ys))))):=by
 intro pins s σ H x y v u Q I rx ry h
 obtain ⟨a,b,xs,ys,rfl,rfl,ha,hb,hz,q0,q1,q2⟩:=h
 by_cases hx:xs=[]
 ·subst hx
  cases rx
  cases ry
  obtain ⟨its,r1,p1,_⟩:=jJ I ha
  obtain ⟨its2,r2,p2,_⟩:=jJ I hb
  obtain ⟨⟨cls,dd,data,sl⟩,ho,hc,n,hd⟩:=id p1
  obtain ⟨⟨cls2,dd2,data2,sl2⟩,ho2,hc2,n2,hd2⟩:=id p2
  simp only at hc hd hc2 hd2
  subst hc hd hc2 hd2
  have e0:its=[]:=r1.nil_iff.mpr rfl
  subst e0
  exact concat_meets ⟨_,ho,rfl⟩ ⟨_,ho2,rfl⟩ noFill_tuple_add seq_tuple_add PySem.F.slot_tuple_add PySem.F.entry_tuple_add (PySem.F.args_tuple_add_2 _ _)
   (tuple_addW0 a b _ its2.toArray n n2 dd dd2 sl sl2 (by simp)) ⟨ho,ho2,⟨.ref b,H,I,rfl,q0 rfl⟩⟩
 ·exact qgh pins s σ H _ _ v u Q I rx ry ⟨a,b,xs,ys,rfl,rfl,.inl (.inl ha),.inl (.inl hb),hx,hz,q1 hx,q2 hx⟩
theorem qgp (o:BOp):OpR X (binaryOp (opOf o)) (G2 λx y S=>ofO (binD o x y S) S):=by
 intro pins s σ H x y v u Q I rx ry h
 obtain ⟨ι,S,dx,dy,st,hx,hy,p⟩:=h
 obtain ⟨d,e,q⟩:=Pst.ofO p st
 have q0:∀ v,Den ι H d v→Q v H:=λv hv=>q v ι H (Stp.refl _ _) st hv
 unfold binD at e
 split at e
 ·rename_i i j
  cases (show x=_ from hx)
  cases (show y=_ from hy)
  cases hb:binI o i j with
  | none=>rw [hb] at e;cases e
  | some r =>
   rw [hb] at e;cases e
   exact qig o pins s σ H _ _ v u Q I rx ry ⟨i,j,r,rfl,rfl,hb,q0 _ rfl⟩
 ·rename_i a b
  cases o <;> try (cases e;done)
  dsimp only at e
  split at e
  ·rename_i hc
   cases e
   cases (show x=_ from hx)
   cases (show y=_ from hy)
   exact qb5 pins s σ H _ _ v u Q I rx ry ⟨a,b,rfl,rfl,hc,q0 _ rfl⟩
  ·cases e
 ·rename_i a b
  cases o <;> try (cases e;done)
  dsimp only at e
  split at e
  ·rename_i hc
   cases e
   obtain ⟨l,xs,rfl,n1,h1,d1⟩:=hx
   obtain ⟨m,ys,rfl,n2,h2,d2⟩:=hy
   have hz:xs.length+ys.length≤sizeLine:=by
    have:=ww hc
    rw [d1.length,d2.length] at this;exact this
   refine qeD pins s σ H _ _ v u Q I rx ry ⟨l,m,xs,ys,rfl,rfl,h1,h2,hz,λz=>?_,λ_ z=>?_,λ_ _=>zd st (d1.append d2) q⟩
   ·subst z
    have:a=[]:=List.length_eq_zero_iff.mp (by rw [d1.length];rfl)
    subst this
    exact q0 _ ⟨m,ys,rfl,n2,h2,by simpa using d2⟩
   ·subst z
    have:b=[]:=List.length_eq_zero_iff.mp (by rw [d2.length];rfl)
    subst this
    exact q0 _ ⟨l,xs,rfl,n1,h1,by simpa using d1⟩
  ·cases e
 ·rename_i a k
  cases o <;> try (cases e;done)
  dsimp only at e
  split at e
  ·rename_i hc
   cases e
   obtain ⟨l,xs,rfl,n1,h1,d1⟩:=hx
   cases (show y=_ from hy)
   obtain ⟨c1,c2,c3⟩:=ww hc
   refine qgm pins s σ H _ _ v u Q I rx ry ⟨l,k,xs,rfl,rfl,.inl (.inl h1),c1,c2,by rw [← d1.length];exact c3,λz=>?_,λ_=>zd st (d1.rep _) q⟩
   have e2:rep a k=a:=by
    unfold rep
    rcases z with z | z
    ·subst z
     have:a=[]:=List.length_eq_zero_iff.mp (by rw [d1.length];rfl)
     subst this
     simp
    ·subst z;simp
   rw [e2] at q0
   exact q0 _ ⟨l,xs,rfl,n1,h1,d1⟩
  ·cases e
 ·rename_i k _ _
  cases o <;> try (cases e;done)
  dsimp only at e
  split at e
  ·rename_i a ha
   split at e
   ·rename_i hc
    cases e
    obtain ⟨l,xs,rfl,h1,d1⟩:=qF st ha hx
    cases (show y=_ from hy)
    obtain ⟨c1,c2,c3⟩:=ww hc
    exact qcK pins s σ H _ _ v u Q I rx ry ⟨l,k,xs,rfl,rfl,h1,c1,c2,by rw [← d1.length];exact c3,qW (m:=false) st (d1.rep _) q⟩
   ·cases e
  ·cases e
 ·cases o <;> try (cases e;done)
  dsimp only at e
  split at e
  ·rename_i a b ha hb
   split at e
   ·rename_i hc
    cases e
    obtain ⟨l,xs,rfl,h1,d1⟩:=qF st ha hx
    obtain ⟨m,ys,rfl,h2,d2⟩:=qF st hb hy
    have hz:xs.length+ys.length≤sizeLine:=by
     have:=ww hc
     rw [d1.length,d2.length] at this;exact this
    exact qcJ pins s σ H _ _ v u Q I rx ry ⟨l,m,xs,ys,rfl,rfl,h1,h2,hz,qW (m:=false) st (d1.append d2) q⟩
   ·cases e
  ·cases e
theorem qgq (o:BOp):OpR X (binaryOp (opOf o)) (G2 λx y S=>binM o x y S):=by
 intro pins s σ H x y v u Q I rx ry h
 obtain ⟨ι,S,dx,dy,st,hx,hy,q⟩:=h
 dsimp only at q
 unfold binM at q
 split at q
 ·split at q
  ·rename_i a b ha hb
   split at q
   ·rename_i hc
    obtain ⟨l,xs,rfl,h1,d1⟩:=qF st ha hx
    obtain ⟨m,ys,rfl,h2,d2⟩:=qF st hb hy
    have hz:xs.length+ys.length≤sizeLine:=by
     have:=ww hc
     rw [d1.length,d2.length] at this;exact this
    exact qcJ pins s σ H _ _ v u Q I rx ry ⟨l,m,xs,ys,rfl,rfl,h1,h2,hz,qW (m:=true) st (d1.append d2) q⟩
   ·exact q.elim
  ·exact q.elim
 ·split at q
  ·rename_i a k ha
   split at q
   ·rename_i hc
    obtain ⟨l,xs,rfl,h1,d1⟩:=qF st ha hx
    cases (show y=_ from hy)
    obtain ⟨c1,c2,c3⟩:=ww hc
    exact qcK pins s σ H _ _ v u Q I rx ry ⟨l,k,xs,rfl,rfl,h1,c1,c2,by rw [← d1.length];exact c3,qW (m:=true) st (d1.rep _) q⟩
   ·exact q.elim
  ·exact q.elim
 ·exact q.elim
theorem intsOf_eq:∀ {l:List D} {m:List Int},intsOf l=some m→l=m.map .int
 | [],m,h=>by cases h;rfl
 | .int i::r,m,h=>by
  simp only [intsOf] at h
  cases e:intsOf r with
  | none=>rw [e] at h;cases h
  | some m'=>rw [e] at h;cases h;rw [intsOf_eq e];rfl
 | .non::_,_,h=>by cases h
 | .bl _::_,_,h=>by cases h
 | .str _::_,_,h=>by cases h
 | .tup _::_,_,h=>by cases h
 | .lst _::_,_,h=>by cases h
 | .emp::_,_,h=>by cases h
 | .exc _::_,_,h=>by cases h
 | .ref _::_,_,h=>by cases h
theorem dens_ints {ι:List Addr} {H:Hp}:∀ {m:List Int} {xs:List V},Dens ι H (m.map .int) xs→xs=m.map .int
 | [],xs,h=>h
 | i::m,xs,h=>by
  obtain ⟨x,r,rfl,h1,h2⟩:=h
  rw [dens_ints h2,show x=_ from h1];rfl
noncomputable def cOf:COp→CmpOp
 | .eq=>.Eq | .ne=>.NotEq | .lt=>.Lt | .le=>.LtE | .gt=>.Gt | .ge=>.GtE | .is=>.Is | .isn=>.IsNot | .inn=>.In | .nin=>.NotIn
theorem jL {ι:List Addr} {H:Hp}:∀ {d:D} {v:V},flatD d=true→Den ι H d v→flatV v=true
 | .non,_,_,h=>by cases (show _=_ from h);rfl
 | .bl _,_,_,h=>by cases (show _=_ from h);rfl
 | .int _,_,_,h=>by cases (show _=_ from h);rfl
 | .str _,_,_,h=>by cases (show _=_ from h);rfl
 | .tup _,_,h,_=>by cases h
 | .lst _,_,h,_=>by cases h
 | .emp,_,h,_=>by cases h
 | .exc _,_,h,_=>by cases h
 | .ref _,_,h,_=>by cases h
theorem qgr {ι:List Addr} {H:Hp} {d e:D} {v u:V} (fd:flatD d=true) (fe:flatD e=true) (h:Den ι H d v) (k:Den ι H e u):eqV v u=eqF d e:=by
 cases d <;> cases e <;> first
  | (cases fd;done)
  | (cases fe;done)
  | (cases (show v=_ from h);cases (show u=_ from k);simp [eqV,eqF,Bool.beq_eq_decide_eq];done)
theorem qcg {ι:List Addr} {H:Hp} {x:D} {v:V} (fx:flatD x=true) (hx:Den ι H x v):∀ {l:List D} {xs:List V},l.all flatD=true→Dens ι H l xs→xs.all flatV=true∧inV v xs=l.any λy=>eqF y x
 | [],xs,_,h=>by cases (show _=[] from h);exact ⟨rfl,rfl⟩
 | d::l,xs,hf,h=>by
  obtain ⟨y,r,rfl,h1,h2⟩:=h
  simp only [List.all_cons,wL] at hf
  obtain ⟨i1,i2⟩:=qcg fx hx hf.2 h2
  refine ⟨by simp [jL hf.1 h1,i1],?_⟩
  unfold inV at i2 ⊢
  rw [List.any_cons,List.any_cons,qgr hf.1 fx h1 hx,i2]
theorem zU {ι:List Addr} {H:Hp} {S:Sr} {v:V} (st:Sto ι H S) {d:D} {l:List D} (h:seqOf S d=some l) (hd:Den ι H d v):∃ a xs,v=.ref a∧(Rd H a (.lst xs)∨H a=some (.tup xs))∧Dens ι H l xs:=by
 unfold seqOf at h
 split at h
 ·cases h
  obtain ⟨a,xs,e,_,ha,r⟩:=hd
  exact ⟨a,xs,e,.inr ha,r⟩
 ·obtain ⟨a,xs,e,ha,r⟩:=qF st h hd
  exact ⟨a,xs,e,.inl ha,r⟩
theorem qgs {a b:Bool} {M:Model} {A:Around} {E:Value→Shared→Prop} {s:Shared} {Q:Value→Shared→Prop} (h:Q (.bool (a == b)) s):wpAny M A (compareOp .Is (.bool a) (.bool b)) Q E s :=
 wpAny_is_plain (by rfl) (by cases a <;> cases b <;> exact h)
theorem qeE {a b:Bool} {M:Model} {A:Around} {E:Value→Shared→Prop} {s:Shared} {Q:Value→Shared→Prop} (h:Q (.bool (!(a == b))) s):wpAny M A (compareOp .IsNot (.bool a) (.bool b)) Q E s :=
 wpAny_isNot_plain (by rfl) (by cases a <;> cases b <;> exact h)
theorem yz (o:COp) (hu:X.A.units+30<cLine):OpR X (compareOp (cOf o)) (G2 λx y S=>ofO ((cmpD o x y S).map .bl) S):=by
 intro pins s σ H x y v u Q I rx ry h
 obtain ⟨ι,S,dx,dy,st,hx,hy,p⟩:=h
 obtain ⟨d,e,q⟩:=Pst.ofO p st
 obtain ⟨b,eb,rfl⟩:∃ b,cmpD o dx dy S=some b∧d=.bl b:=by
  cases z:cmpD o dx dy S with
  | none=>rw [z] at e;cases e
  | some b=>rw [z] at e;cases e;exact ⟨b,rfl,rfl⟩
 clear e p
 have e:=eb
 clear eb
 have q0:Q (.bl b) H:=q (.bl b) ι H (Stp.refl _ _) st rfl
 have fin:EP X pins σ Q (.bool b) s:=⟨.bl b,H,I,rfl,q0⟩
 cases o with
 | eq=>exact (qcf I 20 X.A dx dy b x y v u e hx hy rx ry (by lia)).1 _ _ _ _ fin
 | ne =>
  cases z:eqD 20 dx dy with
  | none=>simp only [cmpD,z] at e;cases e
  | some c =>
   simp only [cmpD,z] at e;cases e
   exact (qcf I 20 X.A dx dy c x y v u z hx hy rx ry (by lia)).2.1 _ _ _ _ fin
 | lt =>
  simp only [cmpD] at e
  split at e
  ·cases (show x=_ from hx);cases (show y=_ from hy);cases e
   exact qjo pins s σ H _ _ v u Q I rx ry ⟨_,_,rfl,rfl,q0⟩
  ·split at e
   ·rename_i m n hm hn
    cases e
    cases intsOf_eq hm
    cases intsOf_eq hn
    obtain ⟨a1,xs,rfl,_,h1,d1⟩:=hx
    obtain ⟨a2,ys,rfl,_,h2,d2⟩:=hy
    cases dens_ints d1
    cases dens_ints d2
    exact qh7 (by lia) pins s σ H _ _ v u Q I rx ry ⟨a1,a2,m,n,rfl,rfl,.inl (.inl h1),.inl (.inl h2),q0⟩
   ·cases e
  ·cases e
 | le =>
  simp only [cmpD] at e
  split at e
  ·cases (show x=_ from hx);cases (show y=_ from hy);cases e
   exact qjp pins s σ H _ _ v u Q I rx ry ⟨_,_,rfl,rfl,q0⟩
  ·cases e
 | gt =>
  simp only [cmpD] at e
  split at e
  ·cases (show x=_ from hx);cases (show y=_ from hy);cases e
   exact qjq pins s σ H _ _ v u Q I rx ry ⟨_,_,rfl,rfl,q0⟩
  ·cases e
 | ge =>
  simp only [cmpD] at e
  split at e
  ·cases (show x=_ from hx);cases (show y=_ from hy);cases e
   exact qjr pins s σ H _ _ v u Q I rx ry ⟨_,_,rfl,rfl,q0⟩
  ·split at e
   ·rename_i m n hm hn
    cases e
    cases intsOf_eq hm
    cases intsOf_eq hn
    obtain ⟨a1,xs,rfl,_,h1,d1⟩:=hx
    obtain ⟨a2,ys,rfl,_,h2,d2⟩:=hy
    cases dens_ints d1
    cases dens_ints d2
    exact qid (by lia) pins s σ H _ _ v u Q I rx ry ⟨a1,a2,m,n,rfl,rfl,.inl (.inl h1),.inl (.inl h2),q0⟩
   ·cases e
  ·cases e
 | is =>
  simp only [cmpD] at e
  split at e
  ·cases (show y=_ from hy)
   refine qh0 pins s σ H _ _ v u Q I rx ry ⟨rfl,?_⟩
   cases dx <;> simp only [Option.some.injEq] at e <;> subst e <;> first
    | (cases (show x=_ from hx);exact q0)
    | (obtain ⟨a,_,rfl,_⟩:=hx;exact q0)
    | (obtain ⟨a,rfl,_⟩:=hx;exact q0)
  ·split at e
   ·cases (show x=_ from hx);cases (show y=_ from hy);cases e
    cases rx;cases ry
    exact qgs fin
   ·cases (show x=_ from hx);cases (show y=_ from hy);cases e
    cases rx;cases ry
    exact wpAny_is_other (by rfl) (by intro z;cases z) fin
   ·cases e
  ·cases e
 | isn =>
  simp only [cmpD] at e
  split at e
  ·cases (show y=_ from hy)
   refine qgb pins s σ H _ _ v u Q I rx ry ⟨rfl,?_⟩
   cases dx <;> simp only [Option.some.injEq] at e <;> subst e <;> first
    | (cases (show x=_ from hx);exact q0)
    | (obtain ⟨a,_,rfl,_⟩:=hx;exact q0)
    | (obtain ⟨a,rfl,_⟩:=hx;exact q0)
  ·split at e
   ·cases (show x=_ from hx);cases (show y=_ from hy);cases e
    cases rx;cases ry
    exact qeE fin
   ·cases (show x=_ from hx);cases (show y=_ from hy);cases e
    cases rx;cases ry
    exact wpAny_isNot_other (by rfl) (by intro z;cases z) fin
   ·cases e
  ·cases e
 | inn =>
  simp only [cmpD] at e
  cases z:seqOf S dy with
  | none=>rw [z] at e;cases e
  | some l =>
   rw [z] at e
   have e:inD dx l=some b:=e
   unfold inD at e
   split at e
   ·rename_i hf
    simp only [wL] at hf
    cases e
    obtain ⟨a,xs,rfl,hs,dl⟩:=zU st z hy
    obtain ⟨i1,i2⟩:=qcg hf.1 hx hf.2 dl
    refine qdz pins s σ H _ _ v u Q I rx ry ⟨a,xs,rfl,hs.elim (λz=>.inl (.inl z)) (λz=>.inr (.inl (.inl z))),jL hf.1 hx,i1,?_⟩
    rw [wK (by decide),i2];exact q0
   ·cases e
 | nin =>
  simp only [cmpD] at e
  cases z:seqOf S dy with
  | none=>rw [z] at e;cases e
  | some l =>
   rw [z] at e
   have e:(inD dx l).map (!·)=some b:=e
   unfold inD at e
   split at e
   ·rename_i hf
    simp only [wL] at hf
    cases e
    obtain ⟨a,xs,rfl,hs,dl⟩:=zU st z hy
    obtain ⟨i1,i2⟩:=qcg hf.1 hx hf.2 dl
    refine qaF pins s σ H _ _ v u Q I rx ry ⟨a,xs,rfl,hs.elim (λz=>.inl (.inl z)) (λz=>.inr (.inl (.inl z))),jL hf.1 hx,i1,?_⟩
    rw [wJ (by decide),i2];exact q0
   ·cases e
end
end R
namespace R
open PySem PySem.Spec L2 SeqAt
open PyProof.Rows hiding St
section
variable {X:Cx} {pos:Pos}
theorem qcL {ι:List Addr} {H:Hp} {S:Sr} {K:PySem.W.Frag} (st:Sto ι H S) {d:D} {v:V} {b:Bool} (h:truD S d=some b) (hd:Den ι H d v):TruV K v H b:=by
 have viaL:∀ {l:List D},lstOf S d=some l→b=(!l.isEmpty)→TruV K v H b:=λ{l} hl hb=>by
  obtain ⟨a,xs,rfl,hr,dl⟩:=qF st hl hd
  refine .inl ⟨xs,.inl hr,?_⟩
  rw [hb];have:=dl.length
  cases l <;> cases xs <;> first | rfl | (simp at this;done)
 cases d with
 | non=>cases h;cases (show v=_ from hd);exact (rfl:false=false)
 | bl c=>cases h;cases (show v=_ from hd);exact (show b=b from rfl)
 | int i=>cases h;cases (show v=_ from hd);exact (rfl:(i != 0)=(i != 0))
 | str x =>
  cases (show v=_ from hd)
  simp only [truD] at h
  split at h
  ·cases h;exact ⟨by assumption,rfl⟩
  ·cases h
 | tup l =>
  cases h
  obtain ⟨a,xs,rfl,_,ha,dl⟩:=hd
  refine .inr (.inl ⟨xs,.inl (.inl ha),?_⟩)
  have:=dl.length
  cases l <;> cases xs <;> first | rfl | (simp at this;done)
 | emp =>
  cases h
  obtain ⟨a,rfl,_,ha⟩:=hd
  exact .inr (.inr ⟨[],ha,rfl⟩)
 | lst l =>
  simp only [truD,lstOf,wk,Option.some.injEq] at h
  exact viaL rfl h.symm
 | exc C=>simp [truD,lstOf] at h
 | ref n =>
  simp only [truD] at h
  cases z:lstOf S (.ref n) with
  | none=>rw [z] at h;cases h
  | some l=>rw [z] at h;cases h;exact viaL z rfl
noncomputable def mVal (m:En→Sr→Res D):En→Sr→Res Bool:=λρ S=>(m ρ S).bind λx S1=>ofO (truD S1 x) S1
theorem qih {e:Expr} {m:En→Sr→Res D} (h:PE X e (T m)) (he:∀ whole,isTrue e X.env whole=(do let v ← whole;standAt e.pos;holding [v] (truthy v))):PT X e (TB (mVal m)) :=
 PTimp (qbf h he) λσ H Q hw=>TG.b1 hw λι S ρ a b H1 er st ra p=>by
  obtain ⟨k,e1,q⟩:=Pst.ofO p st
  exact ⟨k,qcL st e1 ra,q k ι H1 (Stp.refl _ _) st rfl⟩
noncomputable def IsB (m:En→Sr→Res D):Prop:=∀ ρ S d S',m ρ S=.ok d S'→∃ c,d=.bl c
theorem toTest {m:En→Sr→Res D} (hb:IsB m) {σ:St} {H:Hp} {Q:Bool→Hp→Prop} (hw:TB (mVal m) σ H Q):tTest (T m) σ H Q:=by
 obtain ⟨ι,S,ρ,er,st,p⟩:=hw
 refine ⟨ι,S,ρ,er,st,?_⟩
 dsimp only [mVal] at p ⊢
 cases z:m ρ S with
 | no=>rw [z] at p;exact p
 | err x S'=>rw [z] at p;exact p
 | ok d S' =>
  rw [z] at p
  obtain ⟨c,rfl⟩:=hb ρ S d S' z
  intro b ι' H' s' st' hb'
  cases (show b=_ from hb')
  exact ⟨c,rfl,p c ι' H' s' st' rfl⟩
theorem qgt {ma mb:En→Sr→Res D} {g:D→D→Sr→Option Bool}:IsB (λρ S=>(ma ρ S).bind λx S1=>(mb ρ S1).bind λy S2=>ofO ((g x y S2).map D.bl) S2):=by
 intro ρ S d S' z
 dsimp only at z
 cases z1:ma ρ S with
 | no=>rw [z1] at z;cases z
 | err=>rw [z1] at z;cases z
 | ok x S1 =>
  rw [z1,Res.bind_ok] at z
  cases z2:mb ρ S1 with
  | no=>rw [z2] at z;cases z
  | err=>rw [z2] at z;cases z
  | ok y S2 =>
   rw [z2,Res.bind_ok] at z
   cases z3:g x y S2 with
   | none=>rw [z3] at z;cases z
   | some c=>rw [z3] at z;cases z;exact ⟨c,rfl⟩
theorem qii {a b:Expr} {op:CmpOp} {ma mb:En→Sr→Res D} {g:D→D→Sr→Option Bool} (ho:OpR X (compareOp op) (G2 λx y S=>ofO ((g x y S).map D.bl) S)) (ha:PE X a (T ma)) (hb:PE X b (T mb)) (hm:behindInMarks op b=false) :
  PT X (.Compare a [op] [b] pos) (TB (mVal λρ S=>(ma ρ S).bind λx S1=>(mb ρ S1).bind λy S2=>ofO ((g x y S2).map D.bl) S2)) :=
 PTimp (qgd ho ha hb hm) λσ H Q hw=>T2 (toTest qgt hw)
noncomputable def mChain (g g':D→D→Sr→Option Bool) (ma mb mc:En→Sr→Res D):En→Sr→Res D:=λρ S=>(ma ρ S).bind λx S1=>(mb ρ S1).bind λy S2=>match g x y S2 with
 | some true=>(mc ρ S2).bind λz S3=>ofO ((g' y z S3).map D.bl) S3
 | some false=>.ok (.bl false) S2
 | none=>.no
theorem qcM {ma mb mc:En→Sr→Res D} {g g':D→D→Sr→Option Bool} {σ:St} {H:Hp} {Q:VK} (h:T (mChain g g' ma mb mc) σ H Q) :
  tChain (G2 λx y S=>ofO ((g x y S).map D.bl) S) (G2 λx y S=>ofO ((g' x y S).map D.bl) S) (T ma) (T mb) (T mc) σ H Q:=by
 refine TG.b1 h λι S ρ a b H1 er st ra p=>Pst.tg p er st λa2 S2 ι2 H2 b2 s2 er2 st2 ra2 p2=>?_
 refine ⟨ι2,S2,a,a2,st2,Den.mono s2 a ra,ra2,?_⟩
 cases z:g a a2 S2 with
 | none=>rw [z] at p2;exact p2.elim
 | some c =>
  rw [z] at p2
  show Pst Den (ofO (Option.map D.bl (g a a2 S2)) S2) _ _ _
  rw [z]
  intro v ι3 H3 s3 st3 hv
  cases (show v=_ from hv)
  refine ⟨c,rfl,?_⟩
  cases c with
  | false=>rw [wK (by decide)];exact p2 _ ι3 H3 s3 st3 rfl
  | true =>
   rw [wJ rfl]
   refine Pst.tg (ρ:=ρ) (Pst.from p2 s3) (er2.mono s3) st3 λa4 S4 ι4 H4 b4 s4 er4 st4 ra4 p4=>?_
   exact ⟨ι4,S4,a2,a4,st4,Den.mono (s3.trans s4) a2 ra2,ra4,p4⟩
theorem qdH {ma mb mc:En→Sr→Res D} {g g':D→D→Sr→Option Bool}:IsB (mChain g g' ma mb mc):=by
 intro ρ S d S' z
 dsimp only [mChain] at z
 cases z1:ma ρ S with
 | no=>rw [z1] at z;cases z
 | err=>rw [z1] at z;cases z
 | ok x S1 =>
  rw [z1,Res.bind_ok] at z
  cases z2:mb ρ S1 with
  | no=>rw [z2] at z;cases z
  | err=>rw [z2] at z;cases z
  | ok y S2 =>
   rw [z2,Res.bind_ok] at z
   cases z3:g x y S2 with
   | none=>rw [z3] at z;cases z
   | some c =>
    rw [z3] at z
    cases c with
    | false=>cases z;exact ⟨_,rfl⟩
    | true =>
     dsimp only at z
     cases z4:mc ρ S2 with
     | no=>rw [z4] at z;cases z
     | err=>rw [z4] at z;cases z
     | ok w S3 =>
      rw [z4,Res.bind_ok] at z
      cases z5:g' y w S3 with
      | none=>rw [z5] at z;cases z
      | some c=>rw [z5] at z;cases z;exact ⟨_,rfl⟩
theorem qgu {a b c:Expr} {op op':CmpOp} {ma mb mc:En→Sr→Res D} {g g':D→D→Sr→Option Bool} (ho:OpR X (compareOp op) (G2 λx y S=>ofO ((g x y S).map D.bl) S)) (ho':OpR X (compareOp op') (G2 λx y S=>ofO ((g' x y S).map D.bl) S))
  (ha:PE X a (T ma)) (hb:PE X b (T mb)) (hc:PE X c (T mc)) (hm:lastMarks [op,op'] [b,c]=false):PE X (.Compare a [op,op'] [b,c] pos) (T (mChain g g' ma mb mc)) :=
 PEimp (qei ho ho' ha hb hc hm) λσ H Q=>qcM
theorem qeF {a b c:Expr} {op op':CmpOp} {ma mb mc:En→Sr→Res D} {g g':D→D→Sr→Option Bool} (ho:OpR X (compareOp op) (G2 λx y S=>ofO ((g x y S).map D.bl) S)) (ho':OpR X (compareOp op') (G2 λx y S=>ofO ((g' x y S).map D.bl) S))
  (ha:PE X a (T ma)) (hb:PE X b (T mb)) (hc:PE X c (T mc)) (hm:lastMarks [op,op'] [b,c]=false):PT X (.Compare a [op,op'] [b,c] pos) (TB (mVal (mChain g g' ma mb mc))) :=
 PTimp (qej ho ho' ha hb hc hm) λσ H Q hw=>qcM (toTest qdH hw)
theorem qjA {a:Expr} {b:Expr} {rest:List Expr} {ma mb:En→Sr→Res Bool} (ha:PT X a (TB ma)) (hb:PW X (.BoolOp .Or (b::rest) pos) (TB mb)) :
  PW X (.BoolOp .Or (a::b::rest) pos) (TB λρ S=>(ma ρ S).bind λt S1=>if t then .ok true S1 else mb ρ S1):=λwh pins s σ H Q I hw=>by
 refine qjm ha hb wh pins s σ H Q I (TG.b1 hw λι S ρ x y H1 er st ra p=>?_)
 cases (show x=y from ra)
 cases x with
 | true=>rw [wJ rfl];exact p true ι H1 (Stp.refl _ _) st rfl
 | false=>rw [wK (by decide)];exact ⟨ι,S,ρ,er,st,p⟩
theorem qij {a:Expr} {ma:En→Sr→Res Bool} (ha:PT X a (TB ma)):PT X (.UnaryOp .Not a pos) (TB λρ S=>(ma ρ S).bind λt S1=>.ok (!t) S1) :=
 PTimp (qea ha) λσ H Q hw=>TG.b1 hw λι S ρ x y H1 er st ra p=>by
  cases (show x=y from ra)
  exact p _ ι H1 (Stp.refl _ _) st rfl
theorem qjB {a:Expr} {b:Expr} {rest:List Expr} {ma mb:En→Sr→Res D} (ha:PE X a (T ma)) (hb:PE X (.BoolOp .And (b::rest) pos) (T mb)) :
  PE X (.BoolOp .And (a::b::rest) pos) (T λρ S=>(ma ρ S).bind λx S1=>match x with | .bl true=>mb ρ S1 | .bl false=>.ok (.bl false) S1 | _=>.no) :=
 PEimp (qhR ha hb) λσ H Q hw=>TG.b1 hw λι S ρ x y H1 er st ra p=>by
  cases x with
  | bl c =>
   cases (show y=_ from ra)
   refine ⟨c,rfl,?_⟩
   cases c with
   | true=>rw [wJ rfl];exact ⟨ι,S,ρ,er,st,p⟩
   | false=>rw [wK (by decide)];exact p _ ι H1 (Stp.refl _ _) st rfl
  | _=>exact p.elim
theorem qjC {a:Expr} {ma:En→Sr→Res D} (ha:PE X a (T ma)):PE X (.UnaryOp .Not a pos) (T λρ S=>(ma ρ S).bind λx S1=>match x with | .bl b=>.ok (.bl (!b)) S1 | _=>.no) :=
 PEimp (qhS ha) λσ H Q hw=>TG.b1 hw λι S ρ x y H1 er st ra p=>by
  cases x with
  | bl c =>
   cases (show y=_ from ra)
   exact ⟨c,rfl,p _ ι H1 (Stp.refl _ _) st rfl⟩
  | _=>exact p.elim
theorem qjD {a:Expr} {ma:En→Sr→Res D} (ha:PE X a (T ma)):PE X (.UnaryOp .USub a pos) (T λρ S=>(ma ρ S).bind λx S1=>match x with | .int i=>.ok (.int (-i)) S1 | _=>.no) :=
 PEimp (qho qeg ha) λσ H Q hw=>TG.b1 hw λι S ρ x y H1 er st ra p=>by
  cases x with
  | int i =>
   cases (show y=_ from ra)
   exact ⟨i,rfl,p _ ι H1 (Stp.refl _ _) st rfl⟩
  | _=>exact p.elim
theorem qjE {es:List Expr} {k:Nat} {ms:En→Sr→Res (List D)} (h:PA X es (TL ms)):PE X (.Tuple es k pos) (T λρ S=>(ms ρ S).bind λl S1=>if l.length≤sizeLine then .ok (.tup l) S1 else .no) :=
 PEimp (qh2 h) λσ H Q hw=>TG.b1 hw λι S ρ x y H1 er st ra p=>by
  by_cases hl:x.length≤sizeLine
  ·rw [wJ hl] at p
   exact ⟨by rw [← ra.length];exact hl,zd st ra p⟩
  ·rw [wK hl] at p;exact p.elim
theorem qjF {es:List Expr} {m:Bool} {ms:En→Sr→Res (List D)} (h:PA X es (TL ms)):PE X (.List es pos) (T λρ S=>(ms ρ S).bind λl S1=>if l.length≤sizeLine then newL m l S1 else .no) :=
 PEimp (qh3 h) λσ H Q hw=>TG.b1 hw λι S ρ x y H1 er st ra p=>by
  by_cases hl:x.length≤sizeLine
  ·rw [wJ hl] at p
   exact ⟨by rw [← ra.length];exact hl,qW st ra p⟩
  ·rw [wK hl] at p;exact p.elim
theorem qjG {m:Bool}:PE X (.Dict [] [] pos) (T λ_ S=>if m then .ok (.ref S.length) (S++[.dic []]) else .ok .emp S):=by
 cases m with
 | true =>
  refine PEimp qew λσ H Q hw=>?_
  obtain ⟨ι,S,ρ,er,st,p⟩:=hw
  intro q hq
  have g:=Stp.grow (ι:=ι) hq (.dT [])
  refine p (.ref q) _ _ g (st.grow hq ⟨rfl,[],qC,rfl⟩) ⟨q,rfl,?_⟩
  rw [← st.len];simp
 | false =>
  refine PEimp qev λσ H Q hw=>?_
  obtain ⟨ι,S,ρ,er,st,p⟩:=hw
  intro q hq
  have g:=Stp.laid (ι:=ι) hq (.dK [])
  exact p (.ref q) _ _ g (st.laid hq _) ⟨q,rfl,st.fresh hq,qC⟩
theorem key_den {ι:List Addr} {H:Hp} {d:D} {v:V} {k:Key} (h:keyD d=some k) (hd:Den ι H d v):v=kV k:=by
 cases d <;> simp only [keyD] at h <;> cases h <;> exact hd
theorem qgv {ι:List Addr} {H:Hp} {l:List D} {xs:List V} {k:Int} {d:D} (dl:Dens ι H l xs) (h:atI l k=some d):∃ v,atI xs k=some v∧Den ι H d v:=by
 unfold atI at h ⊢
 rw [← dl.length]
 cases z:ixN l.length k with
 | none=>rw [z] at h;cases h
 | some j =>
  rw [z] at h
  exact dl.get h
theorem qbn {a b:List Int}:keyT a=keyT b ↔ a=b:=by
 refine ⟨λh=>?_,λh=>by rw [h]⟩
 unfold keyT at h
 exact (List.map_inj_right (λx y h=>Sum.inl.inj h)).mp h
theorem qcN (k:List Int):(keyT k).map kV=k.map V.int:=by
 unfold keyT;rw [wu];rfl
theorem qbo {κ K:Type} [DecidableEq κ] [DecidableEq K] {f:κ→K} (hf:∀ {a b},f a=f b ↔ a=b) {ι:List Addr} {H:Hp} {k:κ}:∀ {l:List (κ × D)} {kvs:List (K × V)} {d:D},DGs f ι H l kvs→lookT k l=some d→∃ v,valV kvs (f k)=some v∧Den ι H d v
 | [],_,_,_,h=>by cases h
 | p::l,_,d,hk,h=>by
  obtain ⟨v,r,rfl,h1,h2⟩:=hk
  obtain ⟨j,e⟩:=p
  simp only [lookT] at h
  by_cases z:j=k
  ·rw [wJ z] at h;cases h
   exact ⟨v,yS (by simp [z]),h1⟩
  ·rw [wK z] at h
   obtain ⟨w,e1,e2⟩:=qbo hf h2 h
   exact ⟨w,by rw [yT (by simpa [hf] using z)];exact e1,e2⟩
theorem qcO {κ K:Type} [DecidableEq κ] [DecidableEq K] {f:κ→K} (hf:∀ {a b},f a=f b ↔ a=b) {ι:List Addr} {H:Hp} {k:κ}:∀ {l:List (κ × D)} {kvs:List (K × V)},DGs f ι H l kvs→(kvs.any λkv=>decide (kv.1=f k))=l.any λp=>decide (p.1=k)
 | [],_,h=>by cases (show _=[] from h);rfl
 | p::l,_,h=>by
  obtain ⟨v,r,rfl,h1,h2⟩:=h
  rw [List.any_cons,List.any_cons,qcO hf h2]
  simp [hf]
theorem qbp {κ:Type} [DecidableEq κ] {k:κ} {d:D} (hd:refsLt 0 d=true):∀ {l:List (κ × D)},refsLts 0 (l.map (·.2))=true→refsLts 0 ((putT k d l).map (·.2))=true:=by
 intro l hl
 refine qG λx hx=>?_
 obtain ⟨p,hp,rfl⟩:=wn.mp hx
 unfold putT at hp
 split at hp
 ·obtain ⟨q,hq,e⟩:=wn.mp hp
  have hq2:=qA hl (wn.mpr ⟨q,hq,rfl⟩)
  split at e
  ·subst e;exact hd
  ·subst e;exact hq2
 ·rcases vC.mp hp with z | z
  ·exact qA hl (wn.mpr ⟨p,z,rfl⟩)
  ·rw [w9.mp z];exact hd
theorem qcP {κ K:Type} [DecidableEq κ] [DecidableEq K] {f:κ→K} (hf:∀ {a b},f a=f b ↔ a=b) {ι:List Addr} {H:Hp} {k:κ} {d:D} {v:V} (hd:Den ι H d v) {l:List (κ × D)} {kvs:List (K × V)} (h:DGs f ι H l kvs):DGs f ι H (putT k d l) (putK kvs (f k) v):=by
 unfold putT putK
 rw [qcO hf h]
 split
 ·rename_i hz
  clear hz
  induction l generalizing kvs with
  | nil=>cases (show _=[] from h);exact (rfl:_=_)
  | cons p l ih =>
   obtain ⟨w,r,rfl,h1,h2⟩:=h
   rw [wa,wa]
   by_cases z:p.1=k
   ·rw [wJ z,wJ (by simp [z])]
    exact ⟨v,_,rfl,hd,ih h2⟩
   ·rw [wK z,wK (by simpa [hf] using z)]
    exact ⟨w,_,rfl,h1,ih h2⟩
 ·rename_i hz
  clear hz
  induction l generalizing kvs with
  | nil=>cases (show _=[] from h);exact ⟨v,[],rfl,hd,rfl⟩
  | cons p l ih =>
   obtain ⟨w,r,rfl,h1,h2⟩:=h
   exact ⟨w,_,rfl,h1,ih h2⟩
theorem qgw (hu:X.A.units+1<cLine):IxR X (λx y H Q=>∃ a v,x=.ref a∧DGet H a y (some v)∧Q v H):=by
 intro value slice pins s σ H x y v u Q I rx ry h hs
 obtain ⟨a,z,rfl,g,q⟩:=h
 cases rx
 have hT:=qbj I g
 unfold subscriptTail
 refine wA ?_
 rw [getitemInPython_of_ne hT.not_modules]
 refine wA (wpAny_specialOf hT PySem.F.slot_dict_getitem.lookup ?_)
 have fin:wpAny (model X.prog X.w) X.A (subscripted slice false (.ref a) u) (λr s₃=>wpAny (model X.prog X.w) X.A (letTemporaryGo value (.ref a) r >>= λ_=>pure r) (EP X pins σ Q) X.xe s₃) X.xe s:=by
  rw [hs]
  exact wpAny_operating (qdA hu I g ry λw' s3 I3 rw'=>wA (wpAny_letTemporaryGo (wC ⟨z,H,I3,rw',q⟩)))
 first
  | exact wC (wA fin)
  | exact wA fin
theorem qjH {a b:Expr} {ma mb:En→Sr→Res D} (hu:X.A.units+1<cLine) (ha:PE X a (T ma)) (hb:PE X b (T mb)) (hs:PlainIx b) :
  PE X (.Subscript a b pos) (T λρ S=>(ma ρ S).bind λx S1=>(mb ρ S1).bind λy S2=>ofO (idxD S2 x y) S2) :=
 PEimp (qjs (qgi.or (qh8.or (qgw hu))) ha hb hs) λσ H Q hw=>by
  refine TG.b1 hw λι S ρ a b H1 er st ra p=>Pst.tg p er st λa2 S2 ι2 H2 b2 s2 er2 st2 ra2 p2=>?_
  obtain ⟨d,e,q⟩:=Pst.ofO p2 st2
  unfold idxD at e
  split at e
  ·rename_i k
   cases (show b2=_ from ra2)
   cases z:seqOf S2 a with
   | none=>rw [z] at e;cases e
   | some l =>
    rw [z] at e
    obtain ⟨p,xs,rfl,hs,dl⟩:=zU st2 z (Den.mono s2 a ra)
    obtain ⟨v,e1,e2⟩:=qgv dl e
    have fin:=q v ι2 H2 (Stp.refl _ _) st2 e2
    rcases hs with hs | hs
    ·exact .inl ⟨p,xs,k,v,rfl,rfl,.inl hs,e1,fin⟩
    ·exact .inr (.inl ⟨p,xs,k,v,rfl,rfl,.inl (.inl hs),e1,fin⟩)
  ·rename_i ks
   split at e
   ·rename_i n
    split at e
    ·rename_i l hl
     cases z:intsOf ks with
     | none=>rw [z] at e;cases e
     | some k =>
      rw [z] at e
      cases intsOf_eq z
      obtain ⟨p,hp,hn⟩:=Den.mono s2 _ ra
      subst hp
      obtain ⟨_,kvs,h1,h2⟩:=st2.obj n p _ hn hl
      obtain ⟨v,e1,e2⟩:=qbo qbn h2 e
      obtain ⟨b,xs,rfl,_,hb,db⟩:=ra2
      cases dens_ints db
      refine .inr (.inr ⟨p,v,rfl,?_,q v ι2 H2 (Stp.refl _ _) st2 e2⟩)
      rw [← e1]
      exact DGet.t h1 (by rw [qcN];exact hb)
    ·cases e
   ·cases e
  ·cases e
end
end R
namespace R
open PySem PySem.Spec L2 SeqAt
open PyProof.Rows hiding St
section
variable {X:Cx} {pos:Pos}
theorem qik {ι:List Addr} {H:Hp} {S:Sr} {K:PySem.W.Frag} (st:Sto ι H S) (t:Ty):∀ {d:D} {v:V} {b:Bool},isiD S t d=some b→Den ι H d v→∃ ty,TyOf K H v ty∧PySem.W.kitOne K ty (.type t.nm)=some b
 | .non,v,b,h,hd=>by
  cases (show v=_ from hd);cases h
  exact ⟨_,.non,by cases t <;> (first | rfl | decide +kernel)⟩
 | .bl c,v,b,h,hd=>by
  cases (show v=_ from hd)
  cases t <;> cases h <;> exact ⟨_,.bl c,by first | rfl | decide +kernel⟩
 | .int c,v,b,h,hd=>by
  cases (show v=_ from hd)
  cases t <;> cases h <;> exact ⟨_,.int c,by first | rfl | decide +kernel⟩
 | .str c,v,b,h,hd=>by
  cases (show v=_ from hd)
  cases t <;> cases h <;> exact ⟨_,.str c,by first | rfl | decide +kernel⟩
 | .tup l,v,b,h,hd=>by
  obtain ⟨a,xs,rfl,_,ha,_⟩:=hd
  cases t <;> cases h <;> exact ⟨_,.tup ha,by first | rfl | decide +kernel⟩
 | .lst l,v,b,h,hd=>by
  obtain ⟨a,xs,rfl,_,ha,_⟩:=hd
  rcases ha with ha | ⟨o,ha⟩
  ·cases t <;> cases h <;> exact ⟨_,.lst ha,by first | rfl | decide +kernel⟩
  ·cases t <;> cases h <;> exact ⟨_,.frz ha,by first | rfl | decide +kernel⟩
 | .exc C,v,b,h,hd=>by cases h
 | .emp,v,b,h,hd=>by
  obtain ⟨a,rfl,_,ha⟩:=hd
  cases t <;> cases h <;> exact ⟨_,.dK ha,by first | rfl | decide +kernel⟩
 | .ref n,v,b,h,hd=>by
  obtain ⟨a,rfl,ha⟩:=hd
  simp only [isiD] at h
  split at h
  ·rename_i l hl
   obtain ⟨_,xs,h1,_⟩:=st.obj n a _ ha hl
   cases t <;> cases h <;> exact ⟨_,.lst h1,by first | rfl | decide +kernel⟩
  ·rename_i l hl
   obtain ⟨_,xs,h1,_⟩:=st.obj n a _ ha hl
   cases t <;> cases h <;> exact ⟨_,.dT h1,by first | rfl | decide +kernel⟩
  ·rename_i l hl
   obtain ⟨_,xs,h1,_⟩:=st.obj n a _ ha hl
   cases t <;> cases h <;> exact ⟨_,.dK h1,by first | rfl | decide +kernel⟩
  ·cases h
theorem qeG:CallR X (.builtin "isinstance") (λxs H Q=>∃ x n ty b,xs=[x,.ty n]∧TyOf X.K H x ty∧PySem.W.kitOne X.K ty (.type n)=some b∧Q (.bl b) H):=by
 intro pins s σ H xs us Q I r h
 obtain ⟨x,n,ty,b,rfl,h1,h2,q⟩:=h
 obtain ⟨u,w',rfl,r1,r2⟩:=vals2 r
 cases r2
 exact qdw I r1 h1 h2 λtk=>⟨.bl b,H,I.tok _,rfl,q⟩
theorem qgx (t:Ty):bootBuiltins (Str.ofString t.nm)=some (.type t.nm):=by cases t <;> decide +kernel
theorem qbq:bootBuiltins "isinstance"=some (.builtin "isinstance"):=by decide +kernel
theorem qjI {a:Expr} {p p':Pos} {m:En→Sr→Res D} {t:Ty} (hg:Gl X "isinstance") (hm:X.mg "isinstance"=none) (hgt:Gl X (Str.ofString t.nm)) (hmt:X.mg (Str.ofString t.nm)=none)
  (ha:PE X a (T m)) (he:starEach [a,.Name (Str.ofString t.nm) p'] X.env=(false,eval a X.env)::starEach [.Name (Str.ofString t.nm) p'] X.env)
  (he2:starEach [.Name (Str.ofString t.nm) p'] X.env=(false,eval (.Name (Str.ofString t.nm) p') X.env)::starEach [] X.env) (hpl:(backTo pos (starEach [.Name (Str.ofString t.nm) p'] X.env)).any (·.1)=false) :
  PE X (.Call (.Name "isinstance" p) [a,.Name (Str.ofString t.nm) p'] [] pos) (T λρ S=>(m ρ S).bind λx S1=>ofO ((isiD S1 t x).map .bl) S1):=by
 have hn:(Str.ofString t.nm)≠"__name__":=by cases t <;> decide
 have hd:((Str.ofString t.nm) == ("__debug__":Str))=false:=by cases t <;> decide
 have ht:PE X (.Name (Str.ofString t.nm) p') (λ_ H Q=>Q (.ty t.nm) H):=qcz (v:=.ty t.nm) hgt hmt (qgx t) rfl hn hd
 refine PEimp (jF qeG hg hm qbq (zL ha (zL ht jc he2) he) (by decide) (by decide) he hpl) λσ H Q hw=>?_
 refine TG.b1 hw λι S ρ a b H1 er st ra p=>?_
 obtain ⟨d,e,q⟩:=Pst.ofO p st
 cases z:isiD S t a with
 | none=>rw [z] at e;cases e
 | some c =>
  rw [z] at e;cases e
  obtain ⟨ty,h1,h2⟩:=qik (K:=X.K) st t z ra
  exact ⟨b,t.nm,ty,c,rfl,h1,h2,q _ ι H1 (Stp.refl _ _) st rfl⟩
theorem Dens.cut {ι:List Addr} {H:Hp} {l:List D} {xs:List V} (h:Dens ι H l xs) (lo hi:Option Int):Dens ι H (cutD l lo hi) (cutV xs lo hi):=by
 unfold cutD cutV
 rw [h.length]
 exact (h.drop _).take _
theorem qeH {e:Expr} {m:En→Sr→Res D} (h:PE X e (T m)):PO X (some e) (TOp λρ S=>(m ρ S).bind λx S1=>match x with | .int i=>.ok (some i) S1 | _=>.no):=by
 intro pins s σ H Q I hw
 refine qcD h pins s σ H Q I (TG.b1 hw λι S ρ a b H1 er st ra p=>?_)
 cases a with
 | int i =>
  cases (show b=_ from ra)
  exact ⟨i,rfl,p _ ι H1 (Stp.refl _ _) st rfl⟩
 | _=>exact p.elim
theorem qeI:PO X none (TOp λ_ S=>.ok none S):=by
 intro pins s σ H Q I hw
 obtain ⟨ι,S,ρ,er,st,p⟩:=hw
 exact qgg pins s σ H Q I (p _ ι H (Stp.refl _ _) st rfl)
theorem qjJ {e:Expr} {lo hi:Option Expr} {p2:Pos} {m:En→Sr→Res D} {ml mh:En→Sr→Res (Option Int)} (he:PE X e (T m)) (hl:PO X lo (TOp ml)) (hh:PO X hi (TOp mh)) :
  PE X (.Subscript e (.Slice lo hi none p2) pos) (T λρ S=>(m ρ S).bind λx S1=>(ml ρ S1).bind λl S2=>(mh ρ S2).bind λh S3=>ofO (slcD S3 x l h) S3) :=
 PEimp (qeo (qgj.or (qh6.or qgl)) he hl hh) λσ H Q hw=>by
  refine TG.b1 hw λι S ρ a b H1 er st ra p=>Pst.tg p er st λl1 S2 ι2 H2 l2 s2 er2 st2 ra2 p2=>Pst.tg p2 er2 st2 λh1 S3 ι3 H3 h2 s3 er3 st3 ra3 p3=>?_
  cases (show l1=l2 from ra2)
  cases (show h1=h2 from ra3)
  obtain ⟨d,e,q⟩:=Pst.ofO p3 st3
  have ra':=Den.mono (s2.trans s3) a ra
  unfold slcD at e
  split at e
  ·rename_i l
   cases e
   obtain ⟨c,xs,rfl,nc,hc,dl⟩:=ra'
   by_cases hn:HT.sIx xs.length 0 l1=0∧HT.sIx xs.length xs.length h1=xs.length
   ·refine .inr (.inr ⟨c,xs,rfl,.inl (.inl hc),hn,?_⟩)
    have e2:cutD l l1 h1=l:=by
     unfold cutD
     rw [dl.length,hn.1,hn.2,List.drop_zero,Nat.sub_zero,← dl.length,List.take_length]
    rw [e2] at q
    exact q _ ι3 H3 (Stp.refl _ _) st3 ⟨c,xs,rfl,nc,hc,dl⟩
   ·exact .inr (.inl ⟨c,xs,rfl,.inl (.inl hc),hn,zd st3 (dl.cut _ _) q⟩)
  ·cases z:lstOf S3 a with
   | none=>rw [z] at e;cases e
   | some l =>
    rw [z] at e;cases e
    obtain ⟨c,xs,rfl,hc,dl⟩:=qF st3 z ra'
    exact .inl ⟨c,xs,rfl,.inl hc,qW (m:=false) st3 (dl.cut _ _) q⟩
theorem Dens.rev {ι:List Addr} {H:Hp}:∀ {ds:List D} {xs:List V},Dens ι H ds xs→Dens ι H ds.reverse xs.reverse
 | [],xs,h=>by cases (show xs=[] from h);exact rfl
 | d::r,xs,h=>by
  obtain ⟨x,t,rfl,h1,h2⟩:=h
  rw [List.reverse_cons,List.reverse_cons]
  exact (Dens.rev h2).snoc h1
theorem qjK {e:Expr} {p2 p3 p4:Pos} {k:Nat} {m:En→Sr→Res D} (he:PE X e (T m)) :
  PE X (.Subscript e (.Slice none none (some (.UnaryOp .USub (.Constant (.int 1) k p4) p3)) p2) pos) (T λρ S=>(m ρ S).bind λx S1=>match x with | .tup l=>.ok (.tup l.reverse) S1 | _=>.no) :=
 PEimp (qgo he) λσ H Q hw=>by
  refine TG.b1 hw λι S ρ a b H1 er st ra p=>?_
  cases a with
  | tup l =>
   obtain ⟨c,xs,rfl,nc,hc,dl⟩:=ra
   exact ⟨c,xs,rfl,.inl (.inl hc),zd st dl.rev p⟩
  | _=>exact p.elim
noncomputable def Gn (g:List D→Sr→Res D):List V→Hp→VK→Prop:=λxs H Q=>∃ ι S ds,Sto ι H S∧Dens ι H ds xs∧Pst Den (g ds S) ι H Q
theorem qgy {x:Str} {id:String} {e:Expr} {es:List Expr} {p:Pos} {g:List D→Sr→Res D} {ms:En→Sr→Res (List D)} (hc:CallR X (.builtin id) (Gn g)) (hg:Gl X x) (hm:X.mg x=none) (hv:bootBuiltins x=some (.builtin id)) (ha:PA X (e::es) (TL ms))
  (hn:x≠"__name__") (hdb:(x == ("__debug__":Str))=false) (he:starEach (e::es) X.env=(false,eval e X.env)::starEach es X.env) (hpl:(backTo pos (starEach es X.env)).any (·.1)=false) :
  PE X (.Call (.Name x p) (e::es) [] pos) (T λρ S=>(ms ρ S).bind λl S1=>g l S1) :=
 PEimp (jF hc hg hm hv ha hn hdb he hpl) λσ H Q hw=>TG.b1 hw λι S ρ a b H1 er st ra p=>⟨ι,S,a,st,ra,p⟩
theorem qeJ {x:Str} {ty:String} {e:Expr} {es:List Expr} {p:Pos} {g:List D→Sr→Res D} {ms:En→Sr→Res (List D)} (hc:CallR X (.type ty) (Gn g)) (hg:Gl X x) (hm:X.mg x=none) (hv:bootBuiltins x=some (.type ty)) (ha:PA X (e::es) (TL ms))
  (hn:x≠"__name__") (hdb:(x == ("__debug__":Str))=false) (he:starEach (e::es) X.env=(false,eval e X.env)::starEach es X.env) (hpl:(backTo pos (starEach es X.env)).any (·.1)=false) :
  PE X (.Call (.Name x p) (e::es) [] pos) (T λρ S=>(ms ρ S).bind λl S1=>g l S1) :=
 PEimp (qdy hc hg hm hv ha hn hdb he hpl) λσ H Q hw=>TG.b1 hw λι S ρ a b H1 er st ra p=>⟨ι,S,a,st,ra,p⟩
noncomputable def SpD (np:Nat) (g:List D→Sr→Res D):Sp:=λvs H Q _=>vs.length=np∧∃ ι S ds,Sto ι H S∧Dens ι H ds vs∧Pst Den (g ds S) ι H Q
theorem qil {CX:CXT} {k:Nat} {f:Addr} {fd:FuncData} {ps:List Str} {g:List D→Sr→Res D} {x:Str} {p:Pos} {e:Expr} {es:List Expr} {ms:En→Sr→Res (List D)} {E:XK} (F:FnOk X.prog X.w X.K X.mg X.base CX k f fd ps (SpD ps.length g)) (hr:Room k X.A)
  (hg:Gl X x) (hm:X.mg x=some (.ref f)) (hk:PySem.W.keepIn X.K (.ref f)=true) (hb:Binds X.K fd ps []) (hx:Passes CX X E) (ha:PA X (e::es) (TL ms))
  (hlen:∀ ρ S l S',ms ρ S=.ok l S'→l.length=ps.length)
  (hdb:(x == ("__debug__":Str))=false) (he:starEach (e::es) X.env=(false,eval e X.env)::starEach es X.env) (hpl:(backTo pos (starEach es X.env)).any (·.1)=false) :
  PE X (.Call (.Name x p) (e::es) [] pos) (T λρ S=>(ms ρ S).bind λl S1=>g l S1) :=
 PEimp (qaD F hr hg hm hk hb (dvs:=[]) .nil hx ha hdb he hpl) λσ H Q hw=>by
  obtain ⟨ι,S,ρ,er,st,p⟩:=hw
  refine ⟨ι,S,ρ,er,st,?_⟩
  dsimp only at p ⊢
  cases z:ms ρ S with
  | no=>rw [z] at p;exact p
  | err=>rw [z] at p;exact p
  | ok l S1 =>
   rw [z] at p
   intro xs ι1 H1 s1 st1 hl
   refine ⟨?_,ι1,S1,l,st1,by simpa using hl,Pst.from p s1⟩
   rw [List.append_nil,← hl.length]
   exact hlen ρ S l S1 z
end
end R
namespace R
open PySem PySem.Spec L2 SeqAt
open PyProof.Rows hiding St
section
variable {X:Cx} {pos:Pos}
theorem dens1 {ι:List Addr} {H:Hp} {d:D} {xs:List V} (h:Dens ι H [d] xs):∃ x,xs=[x]∧Den ι H d x:=by
 obtain ⟨x,r,rfl,h1,h2⟩:=h
 cases (show r=[] from h2)
 exact ⟨x,rfl,h1⟩
theorem dens2 {ι:List Addr} {H:Hp} {d e:D} {xs:List V} (h:Dens ι H [d,e] xs):∃ x y,xs=[x,y]∧Den ι H d x∧Den ι H e y:=by
 obtain ⟨x,r,rfl,h1,h2⟩:=h
 obtain ⟨y,rfl,h3⟩:=dens1 h2
 exact ⟨x,y,rfl,h1,h3⟩
theorem CallRimp {f:Value} {r r':List V→Hp→VK→Prop} (h:CallR X f r) (k:∀ xs H Q,r' xs H Q→r xs H Q):CallR X f r':=λpins s σ H xs us Q I rv q=>h pins s σ H xs us Q I rv (k xs H Q q)
theorem qaI {g:D→Sr→Res D} {ds:List D} {S:Sr} {ι:List Addr} {H:Hp} {Q:VK} (p:Pst Den (one g ds S) ι H Q):∃ d,ds=[d]∧Pst Den (g d S) ι H Q:=by
 cases ds with
 | nil=>exact (show False from p).elim
 | cons d r =>
  cases r with
  | nil=>exact ⟨d,rfl,p⟩
  | cons e r=>exact (show False from p).elim
theorem qim {g:D→D→Sr→Res D} {ds:List D} {S:Sr} {ι:List Addr} {H:Hp} {Q:VK} (p:Pst Den (two g ds S) ι H Q):∃ d e,ds=[d,e]∧Pst Den (g d e S) ι H Q:=by
 cases ds with
 | nil=>exact (show False from p).elim
 | cons d r =>
  cases r with
  | nil=>exact (show False from p).elim
  | cons e r =>
   cases r with
   | nil=>exact ⟨d,e,rfl,p⟩
   | cons f r=>exact (show False from p).elim
theorem qcQ {f:Value} {g:D→Sr→Res D} {r:V→Hp→VK→Prop} (h:CallR X f (λxs H Q=>∃ x,xs=[x]∧r x H Q)) (k:∀ ι S d x H Q,Sto ι H S→Den ι H d x→Pst Den (g d S) ι H Q→r x H Q):CallR X f (Gn (one g)):=CallRimp h λxs H Q hw=>by
 obtain ⟨ι,S,ds,st,hd,p⟩:=hw
 obtain ⟨d,rfl,p⟩:=qaI p
 ·skip
  obtain ⟨x,rfl,hx⟩:=dens1 hd
  exact ⟨x,rfl,k ι S d x H Q st hx p⟩
theorem qeK {f:Value} {g:D→D→Sr→Res D} {r:V→V→Hp→VK→Prop} (h:CallR X f (λxs H Q=>∃ x y,xs=[x,y]∧r x y H Q)) (k:∀ ι S d e x y H Q,Sto ι H S→Den ι H d x→Den ι H e y→Pst Den (g d e S) ι H Q→r x y H Q):CallR X f (Gn (two g)):=CallRimp h λxs H Q hw=>by
 obtain ⟨ι,S,ds,st,hd,p⟩:=hw
 obtain ⟨d,e,rfl,p⟩:=qim p
 ·skip
  obtain ⟨x,y,rfl,hx,hy⟩:=dens2 hd
  exact ⟨x,y,rfl,k ι S d e x y H Q st hx hy p⟩
theorem qjL:CallR X (.builtin "len") (Gn (one bLen)) :=
 qcQ (r:=λx H Q=>(∃ n,LenV X.K x H n∧Q (.int n) H)∨∃ a kvs,x=V.ref a∧H a=some (.dT kvs)∧Q (.int kvs.length) H) (CallRimp (qel.or qdF) λxs H Q ⟨x,e,h⟩=>h.elim (λ⟨n,h1,h2⟩=>.inl ⟨x,n,e,h1,h2⟩) λ⟨a,kvs,h1,h2,h3⟩=>.inr ⟨a,kvs,by rw [e,h1],h2,h3⟩) λι S d x H Q st hx p=>by
  obtain ⟨r,e,q⟩:=Pst.ofO p st
  cases z:lenD S d with
  | none=>rw [z] at e;cases e
  | some n =>
   rw [z] at e;cases e
   have fin:=q _ ι H (Stp.refl _ _) st rfl
   cases d with
   | str y =>
    cases (show x=_ from hx)
    simp only [lenD] at z
    split at z
    ·cases z;exact .inl ⟨_,⟨by assumption,rfl⟩,fin⟩
    ·cases z
   | tup l =>
    cases z
    obtain ⟨a,xs,rfl,_,ha,dl⟩:=hx
    exact .inl ⟨_,.inr ⟨xs,.inl (.inl ha),dl.length⟩,fin⟩
   | lst l =>
    cases z
    obtain ⟨a,xs,rfl,_,ha,dl⟩:=hx
    exact .inl ⟨_,.inl ⟨xs,.inl ha,dl.length⟩,fin⟩
   | ref k =>
    simp only [lenD] at z
    split at z
    ·rename_i l hl
     cases z
     obtain ⟨a,rfl,ha⟩:=hx
     obtain ⟨_,xs,h1,dl⟩:=st.obj k a _ ha hl
     exact .inl ⟨_,.inl ⟨xs,.inl (.inl h1),dl.length⟩,fin⟩
    ·rename_i l hl
     cases z
     obtain ⟨a,rfl,ha⟩:=hx
     obtain ⟨_,kvs,h1,dl⟩:=st.obj k a _ ha hl
     exact .inr ⟨a,kvs,rfl,h1,by rw [← dl.length];exact fin⟩
    ·cases z
    ·cases z
   | _=>cases z
theorem qjM:CallR X (.builtin "abs") (Gn (one bAbs)) :=
 qcQ (r:=λx H Q=>∃ i,x=.int i∧Q (.int (if i<0 then -i else i)) H) (CallRimp qek λxs H Q ⟨x,e,i,h1,h2⟩=>⟨i,by rw [e,h1],h2⟩) λι S d x H Q st hx p=>by
  cases d with
  | int i=>cases (show x=_ from hx);exact ⟨i,rfl,p _ ι H (Stp.refl _ _) st rfl⟩
  | _=>exact p.elim
theorem qjN (hc:X.calm=true):CallR X (.builtin "min") (Gn (two bMin)) :=
 qeK (r:=λx y H Q=>∃ i j,x=.int i∧y=.int j∧Q (.int (if j<i then j else i)) H) (CallRimp (qdu hc) λxs H Q ⟨x,y,e,i,j,h1,h2,h3⟩=>⟨i,j,by rw [e,h1,h2],h3⟩) λι S d e x y H Q st hx hy p=>by
  cases d with
  | int i =>
   cases e with
   | int j=>cases (show x=_ from hx);cases (show y=_ from hy);exact ⟨i,j,rfl,rfl,p _ ι H (Stp.refl _ _) st rfl⟩
   | _=>exact p.elim
  | _=>exact p.elim
theorem qjO (hc:X.calm=true):CallR X (.builtin "max") (Gn (two bMax)) :=
 qeK (r:=λx y H Q=>∃ i j,x=.int i∧y=.int j∧Q (.int (if j>i then j else i)) H) (CallRimp (qdt hc) λxs H Q ⟨x,y,e,i,j,h1,h2,h3⟩=>⟨i,j,by rw [e,h1,h2],h3⟩) λι S d e x y H Q st hx hy p=>by
  cases d with
  | int i =>
   cases e with
   | int j=>cases (show x=_ from hx);cases (show y=_ from hy);exact ⟨i,j,rfl,rfl,p _ ι H (Stp.refl _ _) st rfl⟩
   | _=>exact p.elim
  | _=>exact p.elim
theorem qaJ:CallR X (.builtin "divmod") (λxs H Q=>∃ x y,xs=[x,y]∧∃ i j,x=.int i∧y=.int j∧divOk i j=true∧∀ p,H p=none→Q (.ref p) (upd H p (.tup [.int (i.fdiv j),.int (i.fmod j)]))):=by
 intro pins s σ H xs us Q I r h
 obtain ⟨x,y,rfl,i,j,rfl,rfl,hd,q⟩:=h
 obtain ⟨u,w',rfl,⟨t,rfl⟩,⟨t',rfl⟩⟩:=vals2 r
 simp only [divOk,wL,Bool.not_eq_true',wz] at hd
 refine divmod_int hd.1 ?_ (.inl hd.2)
 have hn:H s.heap.objs.size=none:=I.hok.fresh (wG _)
 refine ⟨.ref s.heap.objs.size,_,?_,rfl,q _ hn⟩
 refine I.laid (λb o e=>wB _ e) (wG _) ⟨by simp only [w5,vD];rw [vJ];decide,[.int (i.fdiv j) s.toks,.int (i.fmod j) (s.toks+1)],.cons ⟨_,rfl⟩ (.cons ⟨_,rfl⟩ .nil),?_⟩
 exact ⟨⟨_,wH s.heap rfl,rfl,0,rfl⟩,zZ _ _⟩
theorem qeL:CallR X (.builtin "divmod") (Gn (two bDivmod)) :=
 qeK qaJ λι S d e x y H Q st hx hy p=>by
  cases d with
  | int i =>
   cases e with
   | int j =>
    cases (show x=_ from hx);cases (show y=_ from hy)
    simp only [bDivmod] at p
    split at p
    ·rename_i hd
     exact ⟨i,j,rfl,rfl,hd,zd (l:=[.int (i.fdiv j),.int (i.fmod j)]) (xs:=[.int (i.fdiv j),.int (i.fmod j)]) st ⟨_,_,rfl,rfl,_,_,rfl,rfl,rfl⟩ p⟩
    ·exact p.elim
   | _=>exact p.elim
  | _=>exact p.elim
theorem qin (m:Bool):CallR X (.type "list") (Gn (one (bList m))) :=
 qcQ (r:=λx H Q=>∃ p ys,x=.ref p∧(SqL X.K H p ys∨SqT X.K H p ys)∧∀ l,H l=none→Q (.ref l) (upd H l (.lst ys))) (CallRimp qaG λxs H Q ⟨x,e,p,ys,h1,h2,h3⟩=>⟨p,ys,by rw [e,h1],h2,h3⟩) λι S d x H Q st hx p=>by
  unfold bList at p
  split at p
  ·rename_i l hl
   obtain ⟨a,xs,rfl,hs,dl⟩:=zU st hl hx
   exact ⟨a,xs,rfl,hs.elim (λz=>.inl (.inl z)) (λz=>.inr (.inl (.inl z))),qW st dl p⟩
  ·exact p.elim
theorem qgz:CallR X (.type "tuple") (Gn (one bTuple)) :=
 qcQ (r:=λx H Q=>∃ p ys,x=.ref p∧((SqL X.K H p ys∧∀ l,H l=none→Q (.ref l) (upd H l (.tup ys)))∨(SqT X.K H p ys∧Q (.ref p) H))) (CallRimp qad λxs H Q ⟨x,e,p,ys,h1,h2⟩=>⟨p,ys,by rw [e,h1],h2⟩) λι S d x H Q st hx p=>by
  obtain ⟨r,e,q⟩:=Pst.ofO p st
  cases z:seqOf S d with
  | none=>rw [z] at e;cases e
  | some l =>
   rw [z] at e;cases e
   cases d with
   | tup l' =>
    cases z
    obtain ⟨a,xs,rfl,hn,ha,dl⟩:=hx
    exact ⟨a,xs,rfl,.inr ⟨.inl (.inl ha),q _ ι H (Stp.refl _ _) st ⟨a,xs,rfl,hn,ha,dl⟩⟩⟩
   | lst l' =>
    cases z
    obtain ⟨a,xs,rfl,hn,ha,dl⟩:=hx
    exact ⟨a,xs,rfl,.inl ⟨.inl ha,zd st dl q⟩⟩
   | ref k =>
    obtain ⟨a,xs,rfl,hs,dl⟩:=qF st (show lstOf S (.ref k)=some l from z) hx
    exact ⟨a,xs,rfl,.inl ⟨.inl hs,zd st dl q⟩⟩
   | _=>cases z
theorem qbr {pins:List (Addr × Obj)} {σ:St} {H:Hp} {s:Shared} {A:Around} {a:Addr} {xs:List V} (I:Inv X pins σ H s) (hh:A.handled=none) (hs:Rd H a (.lst xs)∨H a=some (.tup xs)) :
  ∃ its:List Value,Vals xs its∧∀ (E:Value→Shared→Prop) (Q:Value→Shared→Prop),
   (∀ (It:Addr) (fp wr:List Addr) (St':Nat→Heap→Prop) (s₂:Shared),Walks X.prog X.w A It fp wr its.length (λi v=>its[i]?=some v) St'→St' 0 s₂.heap→(∀ b∈fp,b<s₂.heap.objs.size) →
    (∀ h' tk,(∀ b o,b ∉ wr→s₂.heap.get? b=some o→h'.get? b=some o)→Inv X pins σ H { s₂ with heap:=h',toks:=tk })→Q (.ref It) s₂) →
   wpAny (model X.prog X.w) A (pyIter (.ref a)) Q E s:=by
 have base:∀ (o:Obj) (h':Heap) (tk:Nat),(∀ b x,b ∉ [s.heap.objs.size]→(s.heap.push o).get? b=some x→h'.get? b=some x)→Inv X pins σ H { s with heap:=h',toks:=tk }:=λo h' tk hk =>
  I.kept λb u e=>hk b u (λhm=>by rw [w9.mp hm] at e;exact Nat.lt_irrefl _ (wE e)) (wB _ e)
 rcases hs with hs | hs
 ·obtain ⟨its,rv,hl,hz⟩:=jK I hs
  refine ⟨its,rv,λE Q k=>wpAny_pyIter_list hl ?_⟩
  have hlt:a<s.heap.objs.size:=by obtain ⟨_,e,_⟩:=hl;exact wE e
  have W:=Walks.list (prog:=X.prog) (w:=X.w) (A:=A) hh s.heap.objs.size a (wW hlt) its.toArray
  refine k s.heap.objs.size [s.heap.objs.size,a] [s.heap.objs.size] (λi h=>h.IsListIter s.heap.objs.size a i∧h.IsList a its.toArray) _ (by simpa using W) ⟨⟨_,wH _ rfl,rfl,rfl⟩,hl.push _⟩ (λb hb=>?_) (λh' tk hk=>base _ h' tk hk)
  simp only [wO,wf,or_false] at hb
  have e1:=Heap.size_push s.heap
  rcases hb with rfl | rfl
  ·exact Nat.lt_of_lt_of_eq (Nat.lt_succ_self _) (e1 _).symm
  ·exact Nat.lt_of_lt_of_eq (Nat.lt_succ_of_lt hlt) (e1 _).symm
 ·obtain ⟨its,rv,hl,hz⟩:=jJ I hs
  refine ⟨its,rv,λE Q k=>wpAny_pyIter_tuple hl ?_⟩
  have hlt:a<s.heap.objs.size:=by obtain ⟨_,e,_⟩:=hl;exact wE e
  have W:=Walks.tuple (prog:=X.prog) (w:=X.w) (A:=A) hh s.heap.objs.size a (wW hlt) its.toArray
  refine k s.heap.objs.size [s.heap.objs.size,a] [s.heap.objs.size] (λi h=>h.IsTupleIter s.heap.objs.size a i∧h.IsTuple a its.toArray) _ (by simpa using W) ⟨⟨_,wH _ rfl,rfl,rfl⟩,hl.push _⟩ (λb hb=>?_) (λh' tk hk=>base _ h' tk hk)
  simp only [wO,wf,or_false] at hb
  have e1:=Heap.size_push s.heap
  rcases hb with rfl | rfl
  ·exact Nat.lt_of_lt_of_eq (Nat.lt_succ_self _) (e1 _).symm
  ·exact Nat.lt_of_lt_of_eq (Nat.lt_succ_of_lt hlt) (e1 _).symm
theorem jg {ι:List Addr} {H:Hp}:∀ {l:List D} {xs:List V} {its:List Value} {bs:List Bool},boolsOf l=some bs→Dens ι H l xs→Vals xs its→its=bs.map .bool
 | [],xs,its,b,h,hd,r=>by
  cases h;cases (show xs=[] from hd);cases r;rfl
 | .bl c::l,xs,its,b,h,hd,r=>by
  obtain ⟨x,t,rfl,h1,h2⟩:=hd
  cases (show x=_ from h1)
  simp only [boolsOf] at h
  cases z:boolsOf l with
  | none=>rw [z] at h;cases h
  | some bs =>
   rw [z] at h;cases h
   cases r with
   | cons ra rt=>cases ra;rw [jg z h2 rt];rfl
 | .non::_,_,_,_,h,_,_=>by cases h
 | .int _::_,_,_,_,h,_,_=>by cases h
 | .str _::_,_,_,_,h,_,_=>by cases h
 | .tup _::_,_,_,_,h,_,_=>by cases h
 | .lst _::_,_,_,_,h,_,_=>by cases h
 | .emp::_,_,_,_,h,_,_=>by cases h
 | .exc _::_,_,_,_,h,_,_=>by cases h
 | .ref _::_,_,_,_,h,_,_=>by cases h
theorem qch (bs:List Bool):((List.range bs.length).all λi=>(bs[i]?).getD true)=bs.all id:=by
 rw [Bool.eq_iff_iff,List.all_eq_true,List.all_eq_true]
 constructor
 ·intro h b hb
  obtain ⟨i,hi,e⟩:=List.getElem_of_mem hb
  have:=h i (List.mem_range.mpr hi)
  simpa [wD hi,e] using this
 ·intro h i hi
  have hi':=List.mem_range.mp hi
  simpa [wD hi'] using h _ (List.getElem_mem hi')
theorem qbs {prog:Program} {w:World} {A:Around} {bs:List Bool} {its:List Value} (e:its=bs.map .bool) (d:Bool):TruthOf prog w A (λi v=>its[i]?=some v) (λi=>(bs[i]?).getD d):=λi v s Q E hP hQ=>by
 subst e
 rw [wY] at hP
 cases z:bs[i]? with
 | none=>rw [z] at hP;cases hP
 | some b =>
  have hQ':Q ((bs[i]?).getD d) s:=hQ
  rw [z] at hP hQ'
  cases hP
  exact vI hQ'
theorem qjP (hc:X.calm=true):CallR X (.builtin "all") (Gn (one bAll)):=by
 intro pins s σ H xs us Q I r h
 obtain ⟨ι,S,ds,st,hd,p⟩:=h
 obtain ⟨d,rfl,p⟩:=qaI p
 ·skip
  obtain ⟨x,rfl,hx⟩:=dens1 hd
  obtain ⟨u,rfl,ru⟩:=vals1 r
  obtain ⟨r0,e,q⟩:=Pst.ofO p st
  cases z:seqOf S d with
  | none=>rw [z] at e;cases e
  | some l =>
   rw [z] at e
   cases z2:boolsOf l with
   | none=>rw [wX,z2] at e;cases e
   | some bs =>
    rw [wX,z2] at e;cases e
    obtain ⟨a,xs,rfl,hs,dl⟩:=zU st z hx
    cases ru
    obtain ⟨its,rv,w⟩:=qbr (A:=X.A.in1) I (I.ok.hd hc) hs
    have eb:=jg z2 dl rv
    refine call_all_walk (w _ _ λIt fp wr St' s₂ W h0 hf hI=>⟨It,fp,wr,_,_,St',_,rfl,W,h0,qbs eb true,λh' tk hk=>?_⟩)
    have el:its.length=bs.length:=by rw [eb,wP]
    rw [el,qch]
    exact ⟨.bl (bs.all id),H,hI h' tk hk,rfl,q _ ι H (Stp.refl _ _) st rfl⟩
end
end R
namespace R
open PySem PySem.Spec L2 SeqAt
open PyProof.Rows hiding St
section
variable {X:Cx} {pos:Pos}
theorem Dens.erase {ι:List Addr} {H:Hp}:∀ {ds:List D} {xs:List V} (i:Nat),Dens ι H ds xs→Dens ι H (ds.eraseIdx i) (xs.eraseIdx i)
 | [],_,_,h=>by cases (show _=[] from h);exact (rfl:_=_)
 | d::ds,_,0,h=>by
  obtain ⟨x,r,rfl,h1,h2⟩:=h
  exact h2
 | d::ds,_,i+1,h=>by
  obtain ⟨x,r,rfl,h1,h2⟩:=h
  exact ⟨x,_,rfl,h1,Dens.erase i h2⟩
theorem qaK {ι:List Addr} {H:Hp} {S:Sr} {n:Nat} {a:Addr} {l:List D} {xs:List V} (st:Sto ι H S) (ha:ι[n]?=some a) (f:refsLts n l=true) (dl:Dens ι H l xs):Stp ι H ι (upd H a (.lst xs))∧Sto ι (upd H a (.lst xs)) (S.set n (.lst l)):=by
 have g:=Stp.put (H:=H) (wq ha) (.lst xs)
 exact ⟨g,st.put ha ⟨⟨n,ha,f⟩,xs,qC,Dens.mono g l dl⟩⟩
theorem qdI {ι:List Addr} {H:Hp} {S:Sr} {x:D} {v:V} {K:PySem.W.Frag} (st:Sto ι H S) (h:isLst S x=true) (hx:Den ι H x v):tyV K "list" v H:=by
 cases x with
 | ref n =>
  obtain ⟨a,rfl,ha⟩:=hx
  simp only [isLst] at h
  split at h
  ·rename_i l hl
   obtain ⟨_,xs,h1,_⟩:=st.obj n a _ ha hl
   exact .inl ⟨rfl,xs,.inl (.inl h1)⟩
  ·cases h
 | _=>cases h
theorem qeM {o e:Expr} {name:Str} {id:String} {apos:Pos} {mo me:En→Sr→Res D} {g:Sr→D→D→Res D} {r:V→List V→Hp→VK→Prop} (slot:Slot "list" name id) (hty:typeOf (.builtin id)=pure (.type "method_descriptor")) (hm:MtM X id r)
  (hg:∀ ι S x y v u H Q,Sto ι H S→Den ι H x v→Den ι H y u→Pst Den (g S x y) ι H Q→r v [u] H Q) (ho:PE X o (T mo)) (he:PE X e (T me))
  (hst:starEach [e] X.env=(false,eval e X.env)::starEach [] X.env)
  (hbase:attributeBase o name X.env (eval o X.env)=eval o X.env) (hline:(apos.endLine == pos.line)=true)
  (hfew:((backTo pos (starEach [e] X.env)).all (λx=>!x.1)&&(backToKw pos (keywordEach [] X.env)).all (λx=>x.1.isSome)&&decide ([e].length+([]:List Keyword).length+(if ([]:List Keyword).isEmpty then 0 else 1)<30))=true)
  (hplain:(backTo pos (starEach [] X.env)).any (·.1)=false) :
  PE X (.Call (.Attribute o name apos) [e] [] pos) (T λρ S=>(mo ρ S).bind λx S1=>if isLst S1 x then (me ρ S1).bind λy S2=>g S2 x y else .no) :=
 PEimp (qhq PySem.F.plainAttrs_list slot hty hm ho (zL he jc hst) hbase hfew hline hst hplain) λσ H Q hw=>by
  refine TG.b1 hw λι S ρ x v H1 er st rx p=>?_
  by_cases hl:isLst S x=true
  ·rw [wJ hl] at p
   refine ⟨qdI st hl rx,Pst.tg p er st λy S2 ι2 H2 u s2 er2 st2 ry p2=>?_⟩
   exact hg ι2 S2 x y v u H2 Q st2 (Den.mono s2 x rx) ry p2
  ·rw [wK hl] at p;exact p.elim
theorem qjQ {ι:List Addr} {S:Sr} {x y:D} {v u:V} {H:Hp} {Q:VK} (st:Sto ι H S) (hx:Den ι H x v) (hy:Den ι H y u) (p:Pst Den (popD S x y) ι H Q):rPopAt v [u] H Q:=by
 unfold popD at p
 split at p
 ·rename_i n k
  split at p
  ·rename_i l hl
   split at p
   ·rename_i hk
    split at p
    ·rename_i d hd
     obtain ⟨a,rfl,ha⟩:=hx
     cases (show u=_ from hy)
     obtain ⟨⟨n',en,hf⟩,xs,h1,dl⟩:=st.obj n a _ ha hl
     obtain rfl:n'=n:=zt st.nd en ha
     obtain ⟨z,e1,e2⟩:=dl.get hd
     have hlt:k.toNat<xs.length:=(wI.mp e1).1
     obtain ⟨g,st'⟩:=qaK st ha (qG λd m=>qA hf (List.mem_of_mem_eraseIdx m)) (Dens.erase k.toNat dl)
     refine ⟨a,xs,k,k.toNat,z,rfl,rfl,h1,?_,?_,?_,e1,p z ι _ g st' (Den.mono g d e2)⟩
     ·lia
     ·lia
     ·exact seqIndex_of hk.1 (by lia)
    ·exact p.elim
   ·exact p.elim
  ·exact p.elim
 ·exact p.elim
theorem qhu {ι:List Addr} {S:Sr} {x y:D} {v u:V} {H:Hp} {Q:VK} (st:Sto ι H S) (hx:Den ι H x v) (hy:Den ι H y u) (p:Pst Den (appD S x y) ι H Q):rAppend v [u] H Q:=by
 unfold appD at p
 split at p
 ·rename_i n
  split at p
  ·rename_i l hl
   split at p
   ·rename_i hz
    obtain ⟨a,rfl,ha⟩:=hx
    obtain ⟨⟨n',en,hf⟩,xs,h1,dl⟩:=st.obj n a _ ha hl
    obtain rfl:n'=n:=zt st.nd en ha
    obtain ⟨g,st'⟩:=qaK st ha (by rw [qT,hf];simp [refsLts,ym _ hz.2]) (dl.snoc hy)
    exact ⟨a,xs,u,rfl,rfl,h1,by rw [← dl.length];exact hz.1,p .non ι _ g st' rfl⟩
   ·exact p.elim
  ·exact p.elim
 ·exact p.elim
noncomputable def TGt (m:D→En→Sr→Res En):L2.TG:=λv σ H Q=>∃ ι S ρ d,EnR ι H ρ σ∧Sto ι H S∧Den ι H d v∧Pst EnR (m d ρ S) ι H Q
noncomputable def TGts (m:List D→En→Sr→Res En):TGs:=λvs σ H Q=>∃ ι S ρ ds,EnR ι H ρ σ∧Sto ι H S∧Dens ι H ds vs∧Pst EnR (m ds ρ S) ι H Q
theorem PGimp {tg:Expr} {t t':L2.TG} (h:PG X tg t) (k:∀ v σ H Q,t' v σ H Q→t v σ H Q):PG X tg t':=λpins s σ H v u Q I r hw=>h pins s σ H v u Q I r (k v σ H Q hw)
theorem PGsimp {ts:List Expr} {t t':TGs} (h:PGs X ts t) (k:∀ v σ H Q,t' v σ H Q→t v σ H Q):PGs X ts t':=λpins s σ H v u Q I r hw=>h pins s σ H v u Q I r (k v σ H Q hw)
theorem qjR {i:Nat} {tg:Expr} (h:PG X tg (gName i)):PG X tg (TGt λd ρ S=>.ok (ρ.set i (some d)) S):=PGimp h λv σ H Q hw=>by
 obtain ⟨ι,S,ρ,d,er,st,hd,p⟩:=hw
 exact p _ ι H (Stp.refl _ _) st (er.set hd)
theorem qjS:PGs X [] (TGts λl ρ S=>match l with | []=>.ok ρ S | _=>.no):=PGsimp qga λvs σ H Q hw=>by
 obtain ⟨ι,S,ρ,ds,er,st,hd,p⟩:=hw
 cases ds with
 | nil=>exact ⟨hd,p _ ι H (Stp.refl _ _) st er⟩
 | cons=>exact p.elim
theorem qio {e:Expr} {es:List Expr} {m:D→En→Sr→Res En} {ms:List D→En→Sr→Res En} (h1:PG X e (TGt m)) (h2:PGs X es (TGts ms)) (hs:(assignEach (e::es) X.env).map (·.2)=assign e X.env::(assignEach es X.env).map (·.2)) :
  PGs X (e::es) (TGts λl ρ S=>match l with | d::r=>(m d ρ S).bind λρ1 S1=>ms r ρ1 S1 | []=>.no):=PGsimp (qed h1 h2 hs) λvs σ H Q hw=>by
 obtain ⟨ι,S,ρ,ds,er,st,hd,p⟩:=hw
 cases ds with
 | nil=>exact p.elim
 | cons d r =>
  obtain ⟨v,vr,rfl,hv,hr⟩:=hd
  refine ⟨v,vr,rfl,ι,S,ρ,d,er,st,hv,Pst.bind p λρ1 S1 ι1 H1 σ1 s1 st1 er1 p1=>?_⟩
  exact ⟨ι1,S1,ρ1,r,er1,st1,Dens.mono s1 r hr,p1⟩
theorem qjT {es:List Expr} {k n:Nat} {ms:List D→En→Sr→Res En} (hc:X.calm=true) (h:PGs X es (TGts ms)) (hn:(assignEach es X.env).length=n) (hst:(assignEach es X.env).findIdx? (·.1)=none)
  (hl:∀ l ρ S ρ' S',ms l ρ S=.ok ρ' S'→l.length=n):PG X (.Tuple es k pos) (TGt λd ρ S=>match d with | .tup l=>ms l ρ S | _=>.no):=PGimp (qhT hc h hn hst) λv σ H Q hw=>by
 obtain ⟨ι,S,ρ,d,er,st,hd,p⟩:=hw
 cases d with
 | tup l =>
  obtain ⟨a,xs,rfl,_,ha,dl⟩:=hd
  refine ⟨a,xs,rfl,.inl (.inl ha),?_,ι,S,ρ,l,er,st,dl,p⟩
  rw [← dl.length]
  cases z:ms l ρ S with
  | ok ρ' S'=>exact hl l ρ S ρ' S' z
  | no=>simp only [z] at p;exact p.elim
  | err=>simp only [z] at p;exact p.elim
 | _=>exact p.elim
theorem qbt (hu:X.A.units+1<cLine):PSet X (λo i v H Q=>∃ a H',o=.ref a∧DPut H a i v H'∧Q H'):=by
 intro pins s σ H o i v ov iv u Q I ro ri rv h
 obtain ⟨a,H',rfl,g,q⟩:=h
 cases ro
 exact qdB hu I g ri rv λs4 I4=>⟨H',I4,q⟩
theorem qeN (hu:X.A.units+1<cLine) {pins:List (Addr × Obj)} {s:Shared} {σ:St} {H:Hp} {a:Addr} {i v:V} {ov iv u:Value} {Q:Hp→Prop} {ι:List Addr} {S S':Sr} {n:Nat} {y d:D} (I:Inv X pins σ H s) (ro:RelV (.ref a) ov) (ri:RelV i iv) (rv:RelV v u)
  (st:Sto ι H S) (ha:ι[n]?=some a) (hfr:refsLt 0 d=true) (hy:Den ι H y i) (hd:Den ι H d v)
  (e:putN S n y d=some S') (q:∀ ι' H',Stp ι H ι' H'→Sto ι' H' S'→Q H'):wpAny (model X.prog X.w) X.A (setItem ov iv u) (λ_ s'=>∃ H',Inv X pins σ H' s'∧Q H') X.xe s:=by
 unfold putN at e
 split at e
 ·rename_i l hl
  obtain ⟨⟨n',en,hf⟩,xs,h1,dl⟩:=st.obj n a _ ha hl
  obtain rfl:n'=n:=zt st.nd en ha
  split at e
  ·rename_i k
   cases (show i=_ from hy)
   cases z:ixN l.length k with
   | none=>rw [z] at e;cases e
   | some j =>
    rw [z] at e;cases e
    obtain ⟨g,st'⟩:=qaK st ha (qG λx m=>(List.mem_or_eq_of_mem_set m).elim (λz=>qA hf z) λz=>z ▸ ym _ hfr) (dl.set hd j)
    exact qep pins s σ H _ _ v ov iv u Q I ro ri rv ⟨a,xs,k,j,rfl,rfl,h1,by rw [← dl.length];exact z,q ι _ g st'⟩
  ·cases e
 ·rename_i l hl
  obtain ⟨hf,kvs,h1,dl⟩:=st.obj n a _ ha hl
  split at e
  ·rename_i ks
   cases z:intsOf ks with
   | none=>rw [z] at e;cases e
   | some k =>
    rw [z,wX] at e
    split at e
    ·rename_i hlt
     cases e
     cases intsOf_eq z
     obtain ⟨b,ys,rfl,_,hb,db⟩:=hy
     cases dens_ints db
     have g:=Stp.put (H:=H) (wq ha) (.dT (putK kvs (keyT k) v))
     refine qbt hu pins s σ H _ _ v ov iv u Q I ro ri rv ⟨a,_,rfl,DPut.t (k:=keyT k) h1 (by rw [qcN];exact hb) ?_,q ι _ g (st.put ha ⟨qbp hfr hf,_,qC,qcP qbn (Den.mono g d hd) (DGs.mono g dl)⟩)⟩
     have e2:kvs.length<1000:=by rw [← dl.length];exact hlt
     exact wQ e2 (by rw [vJ];decide)
    ·cases e
  ·cases e
 ·rename_i l hl
  obtain ⟨hf,kvs,h1,dl⟩:=st.obj n a _ ha hl
  cases z:keyD y with
  | none=>rw [z] at e;cases e
  | some k =>
   rw [z,wX] at e
   split at e
   ·rename_i hlt
    cases e
    cases key_den z hy
    have g:=Stp.put (H:=H) (wq ha) (.dK (putK kvs k v))
    refine qbt hu pins s σ H _ _ v ov iv u Q I ro ri rv ⟨a,_,rfl,DPut.k (k:=k) h1 ?_,q ι _ g (st.put ha ⟨qbp hfr hf,_,qC,qcP (f:=id) Iff.rfl (Den.mono g d hd) (DGs.mono g dl)⟩)⟩
    have e2:kvs.length<1000:=by rw [← dl.length];exact hlt
    exact wQ e2 (by rw [vJ];decide)
   ·cases e
 ·cases e
theorem qgA (hu:X.A.units+1<cLine):PSet X (λo i v H Q=>∃ ι S x y d S',Sto ι H S∧Den ι H x o∧Den ι H y i∧Den ι H d v∧putE S x y d=some S'∧∀ ι' H',Stp ι H ι' H'→Sto ι' H' S'→Q H'):=by
 intro pins s σ H o i v ov iv u Q I ro ri rv h
 obtain ⟨ι,S,x,y,d,S',st,hx,hy,hd,e,q⟩:=h
 unfold putE at e
 by_cases hfr:refsLt 0 d=true
 ·rw [wJ hfr] at e
  split at e
  ·rename_i n
   obtain ⟨a,rfl,ha⟩:=hx
   exact qeN hu I ro ri rv st ha hfr hy hd e q
  ·cases e
 ·rw [wK hfr] at e;cases e
theorem qjU {o i:Expr} {mo mi:En→Sr→Res D} (hu:X.A.units+1<cLine) (ho:PE X o (T mo)) (hi:PE X i (T mi))
  (ha:∀ v,assign (.Subscript o i pos) X.env v=(do
   let ov ← holding [v] (eval o X.env)
   let iv ← holding [v,ov] (eval i X.env)
   standAt pos
   holding [v,ov,iv] (setItem ov iv v)
   release [v,ov,iv] [])) :
  PG X (.Subscript o i pos) (TGt λd ρ S=>(mo ρ S).bind λx S1=>(mi ρ S1).bind λy S2=>match putE S2 x y d with | some S3=>.ok ρ S3 | none=>.no):=PGimp (qhU ho hi (qgA hu) ha) λv σ H Q hw=>by
 obtain ⟨ι,S,ρ,d,er,st,hd,p⟩:=hw
 refine Pst.tg (ρ:=ρ) p er st λx S1 ι1 H1 vx s1 er1 st1 rx p1=>Pst.tg (ρ:=ρ) p1 er1 st1 λy S2 ι2 H2 vy s2 er2 st2 ry p2=>?_
 cases z:putE S2 x y d with
 | none=>rw [z] at p2;exact p2.elim
 | some S3 =>
  rw [z] at p2
  exact ⟨ι2,S2,x,y,d,S3,st2,Den.mono s2 x rx,ry,Den.mono (s1.trans s2) d hd,z,λι' H' g st'=>p2 σ ι' H' g st' (er2.mono g)⟩
noncomputable def FlOk (f:Fl) (ι:List Addr) (H:Hp) (D:Ends):Prop:=match f with
 | .nx ρ=>∀ σ,EnR ι H ρ σ→D.nx σ H
 | .bk ρ=>∀ σ,EnR ι H ρ σ→D.bk σ H
 | .ct ρ=>∀ σ,EnR ι H ρ σ→D.ct σ H
 | .rt d=>∀ v,Den ι H d v→D.rt v H
noncomputable def PsF (r:Res Fl) (ι:List Addr) (H:Hp) (D:Ends):Prop:=match r with
 | .ok f S'=>∀ ι' H',Stp ι H ι' H'→Sto ι' H' S'→FlOk f ι' H' D
 | .err _ _=>False
 | .no=>False
theorem PsF.from {r:Res Fl} {ι ι':List Addr} {H H':Hp} {D:Ends} (h:PsF r ι H D) (s:Stp ι H ι' H'):PsF r ι' H' D:=by
 cases r with
 | ok f S=>exact λι2 H2 t st=>h ι2 H2 (s.trans t) st
 | err=>exact h
 | no=>exact h
theorem PsF.bind {α β:Type} {R:List Addr→Hp→α→β→Prop} {r:Res α} {f:α→Sr→Res Fl} {ι:List Addr} {H:Hp} {D:Ends} {K:β→Hp→Prop}
  (h:PsF (r.bind f) ι H D) (k:∀ a S' ι' H' b,Stp ι H ι' H'→Sto ι' H' S'→R ι' H' a b→PsF (f a S') ι' H' D→K b H'):Pst R r ι H K:=by
 cases r with
 | ok a S=>exact λb ι2 H2 t st q=>k a S ι2 H2 b t st q (PsF.from h t)
 | err=>exact h
 | no=>exact h
noncomputable def TSm (m:En→Sr→Res Fl):TS:=λD σ H=>∃ ι S ρ,EnR ι H ρ σ∧Sto ι H S∧PsF (m ρ S) ι H D
theorem PSimp {st:Stmt} {t t':TS} (h:PS X st t) (k:∀ D σ H,t' D σ H→t D σ H):PS X st t':=λpins s σ H D I hw=>h pins s σ H D I (k D σ H hw)
theorem PSsimp {st:List Stmt} {t t':TS} (h:PSs X st t) (k:∀ D σ H,t' D σ H→t D σ H):PSs X st t':=λpins s σ H D I hw=>h pins s σ H D I (k D σ H hw)
theorem qjV:PSs X [] (TSm λρ S=>.ok (.nx ρ) S):=PSsimp qcA λD σ H hw=>by
 obtain ⟨ι,S,ρ,er,st,p⟩:=hw
 exact p ι H (Stp.refl _ _) st σ er
theorem qip {st:Stmt} {rest:List Stmt} {m ms:En→Sr→Res Fl} (h1:PS X st (TSm m)) (h2:PSs X rest (TSm ms)) :
  PSs X (st::rest) (TSm λρ S=>(m ρ S).bind λf S1=>match f with | .nx ρ1=>ms ρ1 S1 | f=>.ok f S1):=PSsimp (qbe h1 h2) λD σ H hw=>by
 obtain ⟨ι,S,ρ,er,st,p⟩:=hw
 refine ⟨ι,S,ρ,er,st,?_⟩
 dsimp only at p
 cases z:m ρ S with
 | no=>rw [z] at p;exact p
 | err=>rw [z] at p;exact p
 | ok f S1 =>
  rw [z] at p
  intro ι1 H1 s1 st1
  cases f with
  | nx ρ1=>exact λσ1 er1=>⟨ι1,S1,ρ1,er1,st1,PsF.from p s1⟩
  | bk ρ1=>exact λσ1 er1=>p ι1 H1 s1 st1 σ1 er1
  | ct ρ1=>exact λσ1 er1=>p ι1 H1 s1 st1 σ1 er1
  | rt d=>exact λv hv=>p ι1 H1 s1 st1 v hv
theorem qiq {e:Expr} {m:En→Sr→Res D} (he:PE X e (T m)) (hs:swapsWith e none pos.line X.env=pure false):PS X (.Expr e pos) (TSm λρ S=>(m ρ S).bind λ_ S1=>.ok (.nx ρ) S1):=PSimp (qcB he hs) λD σ H hw=>by
 obtain ⟨ι,S,ρ,er,st,p⟩:=hw
 exact ⟨ι,S,ρ,er,st,PsF.bind p λa S1 ι1 H1 b s1 st1 ra p1=>p1 ι1 H1 (Stp.refl _ _) st1 σ (er.mono s1)⟩
theorem qjW {e:Expr} {m:En→Sr→Res D} (he:PE X e (T m)):PS X (.Return (some e) pos) (TSm λρ S=>(m ρ S).bind λd S1=>.ok (.rt d) S1):=PSimp (qeb he) λD σ H hw=>by
 obtain ⟨ι,S,ρ,er,st,p⟩:=hw
 exact ⟨ι,S,ρ,er,st,PsF.bind p λa S1 ι1 H1 b s1 st1 ra p1=>p1 ι1 H1 (Stp.refl _ _) st1 b ra⟩
theorem s_if {c:Expr} {a b:List Stmt} {mc:En→Sr→Res Bool} {ma mb:En→Sr→Res Fl} (hc:PT X c (TB mc)) (ha:PSs X a (TSm ma)) (hb:PSs X b (TSm mb)) :
  PS X (.If c a b pos) (TSm λρ S=>(mc ρ S).bind λt S1=>if t then ma ρ S1 else mb ρ S1):=PSimp (qhn hc ha hb) λD σ H hw=>by
 obtain ⟨ι,S,ρ,er,st,p⟩:=hw
 refine ⟨ι,S,ρ,er,st,PsF.bind p λa S1 ι1 H1 b s1 st1 ra p1=>?_⟩
 cases (show a=b from ra)
 cases a with
 | true=>rw [wJ rfl];exact ⟨ι1,S1,ρ,er.mono s1,st1,p1⟩
 | false=>rw [wK (by decide)];exact ⟨ι1,S1,ρ,er.mono s1,st1,p1⟩
theorem qhv {tg e:Expr} {m:En→Sr→Res D} {g:D→En→Sr→Res En} (h:PS X (.Assign [tg] e pos) (tAsg (T m) (TGt g))) :
  PS X (.Assign [tg] e pos) (TSm λρ S=>(m ρ S).bind λd S1=>(g d ρ S1).bind λρ1 S2=>.ok (.nx ρ1) S2):=PSimp h λD σ H hw=>by
 obtain ⟨ι,S,ρ,er,st,p⟩:=hw
 refine ⟨ι,S,ρ,er,st,PsF.bind p λd S1 ι1 H1 v s1 st1 rd p1=>?_⟩
 refine ⟨ι1,S1,ρ,d,er.mono s1,st1,rd,PsF.bind p1 λρ1 S2 ι2 H2 σ2 s2 st2 er2 p2=>?_⟩
 exact p2 ι2 H2 (Stp.refl _ _) st2 σ2 er2
theorem qgB {c:Expr} {body:List Stmt} {mc:En→Sr→Res Bool} {mb:En→Sr→Res Fl} {N:Nat} (hp:PassesOwn (model X.prog X.w) X.A X.env X.xe) (hc:PT X c (TB mc)) (hb:PSs X body (TSm mb)) :
  PS X (.While c body [] pos) (TSm λρ S=>whileLoop mc mb N ρ S):=PSimp (qee hp hc hb) λD σ H hw=>by
 obtain ⟨ι,S,ρ,er,st,p⟩:=hw
 refine ⟨λm σ H=>∃ ι S ρ,EnR ι H ρ σ∧Sto ι H S∧PsF (whileLoop mc mb m ρ S) ι H D,⟨N,ι,S,ρ,er,st,p⟩,?_⟩
 rintro m σ H ⟨ι,S,ρ,er,st,p⟩
 cases m with
 | zero=>exact p.elim
 | succ m =>
  refine ⟨ι,S,ρ,er,st,PsF.bind (show PsF ((mc ρ S).bind _) ι H D from p) λa S1 ι1 H1 b s1 st1 ra p1=>?_⟩
  cases (show a=b from ra)
  cases a with
  | false=>exact p1 ι1 H1 (Stp.refl _ _) st1 σ (er.mono s1)
  | true =>
   refine ⟨λσ' H'=>∃ ι S ρ,EnR ι H' ρ σ'∧Sto ι H' S∧PsF (whileLoop mc mb m ρ S) ι H' D,λσ' H' h'=>⟨m,Nat.lt_succ_self _,h'⟩,ι1,S1,ρ,er.mono s1,st1,?_⟩
   cases z:mb ρ S1 with
   | no=>simp only [z,if_true] at p1;exact p1
   | err=>simp only [z,if_true] at p1;exact p1
   | ok f S2 =>
    simp only [z,if_true,Res.bind_ok] at p1
    intro ι2 H2 s2 st2
    cases f with
    | nx ρ1=>exact λσ1 er1=>⟨ι2,S2,ρ1,er1,st2,PsF.from p1 s2⟩
    | ct ρ1=>exact λσ1 er1=>⟨ι2,S2,ρ1,er1,st2,PsF.from p1 s2⟩
    | bk ρ1=>exact λσ1 er1=>p1 ι2 H2 s2 st2 σ1 er1
    | rt d=>exact λv hv=>p1 ι2 H2 s2 st2 v hv
end
end R
namespace R
open PySem PySem.Spec L2 SeqAt
open PyProof.Rows hiding St
structure ItOk (ι:List Addr) (H:Hp) (J:It) (ds:List D):Prop where
 go:∀ (i:Nat) (d:D) (ι2:List Addr) (H2:Hp),Stp ι H ι2 H2→ds[i]?=some d→J.go i H2∧∀ x H3,J.yld i H2 x H3→Stp ι2 H2 ι2 H3∧∀ S,Sto ι2 H2 S→Sto ι2 H3 S∧Den ι2 H3 d x
 stop:∀ (ι2:List Addr) (H2:Hp),Stp ι H ι2 H2→J.stop ds.length H2
theorem qir {ι:List Addr} {H:Hp} {K:PySem.W.Frag} {a:Addr} {xs:List V} {ds:List D} (n:a ∉ ι) (h:Rd H a (.lst xs)) (dl:Dens ι H ds xs):ItOk ι H (Itl K a) ds where
 go:=λi d ι2 H2 s e=>by
  obtain ⟨x,e1,e2⟩:=(Dens.mono s ds dl).get e
  obtain ⟨r2,n2⟩:=s.rd h n
  refine ⟨⟨xs,x,.inl r2,e1⟩,λy H3 hy=>?_⟩
  obtain ⟨rfl,hy⟩:=hy
  have:=hy xs (.inl r2)
  rw [e1] at this;cases this
  exact ⟨Stp.refl _ _,λ_ z=>⟨z,e2⟩⟩
 stop:=λι2 H2 s=>⟨xs,.inl (s.rd h n).1,Nat.le_of_eq dl.length.symm⟩
theorem qis {ι:List Addr} {H:Hp} {K:PySem.W.Frag} {a:Addr} {xs:List V} {ds:List D} (n:a ∉ ι) (h:H a=some (.tup xs)) (dl:Dens ι H ds xs):ItOk ι H (Itt K a) ds where
 go:=λi d ι2 H2 s e=>by
  obtain ⟨x,e1,e2⟩:=(Dens.mono s ds dl).get e
  have r2:=s.keep _ _ h n trivial
  refine ⟨⟨xs,x,.inl (.inl r2),e1⟩,λy H3 hy=>?_⟩
  obtain ⟨rfl,hy⟩:=hy
  have:=hy xs (.inl (.inl r2))
  rw [e1] at this;cases this
  exact ⟨Stp.refl _ _,λ_ z=>⟨z,e2⟩⟩
 stop:=λι2 H2 s=>⟨xs,.inl (.inl (s.keep _ _ h n trivial)),Nat.le_of_eq dl.length.symm⟩
structure ItG (ι:List Addr) (H:Hp) (J:It) (ds:List D) (gd:Sr→Prop):Prop where
 go:∀ (i:Nat) (d:D) (ι2:List Addr) (H2:Hp) (S2:Sr),Stp ι H ι2 H2→Sto ι2 H2 S2→gd S2→ds[i]?=some d→J.go i H2∧∀ x H3,J.yld i H2 x H3→Stp ι2 H2 ι2 H3∧∀ S,Sto ι2 H2 S→Sto ι2 H3 S∧Den ι2 H3 d x
 stop:∀ (ι2:List Addr) (H2:Hp) (S2:Sr),Stp ι H ι2 H2→Sto ι2 H2 S2→gd S2→J.stop ds.length H2
theorem ItG.mono {ι ι':List Addr} {H H':Hp} {J:It} {ds:List D} {gd:Sr→Prop} (h:ItG ι H J ds gd) (s:Stp ι H ι' H'):ItG ι' H' J ds gd :=
 ⟨λi d ι2 H2 S2 t st g e=>h.go i d ι2 H2 S2 (s.trans t) st g e,λι2 H2 S2 t st g=>h.stop ι2 H2 S2 (s.trans t) st g⟩
theorem ItOk.g {ι:List Addr} {H:Hp} {J:It} {ds:List D} (h:ItOk ι H J ds):ItG ι H J ds λ_=>True :=
 ⟨λi d ι2 H2 _ t _ _ e=>h.go i d ι2 H2 t e,λι2 H2 _ t _ _=>h.stop ι2 H2 t⟩
noncomputable def TIg (m:En→Sr→Res (List D × (Sr→Prop))):TI:=λσ H R=>∃ ι S ρ,EnR ι H ρ σ∧Sto ι H S∧match m ρ S with
 | .ok p S'=>∀ ι' H' J,Stp ι H ι' H'→Sto ι' H' S'→ItG ι' H' J p.1 p.2→R J H'
 | .err _ _=>False
 | .no=>False
noncomputable def TIt (m:En→Sr→Res (List D)):TI:=λσ H R=>∃ ι S ρ,EnR ι H ρ σ∧Sto ι H S∧match m ρ S with
 | .ok ds S'=>∀ ι' H' J,Stp ι H ι' H'→Sto ι' H' S'→ItOk ι' H' J ds→R J H'
 | .err _ _=>False
 | .no=>False
section
variable {X:Cx} {pos:Pos} {tg:Expr}
theorem PIimp {iter:Expr} {t t':TI} (h:PI X tg iter t) (k:∀ σ H R,t' σ H R→t σ H R):PI X tg iter t':=λpins s σ H R I hw=>h pins s σ H R I (k σ H R hw)
theorem qit {l:Expr} {tl:TE} (hl:PE X l tl):PI X tg l (λσ H R=>tl σ H λx H1=>(∃ a,x=.ref a∧(∃ xs,SqL X.K H1 a xs)∧R (Itl X.K a) H1)∨(∃ a,x=.ref a∧(∃ xs,SqT X.K H1 a xs)∧R (Itt X.K a) H1)):=by
 intro pins s σ H R I h
 refine thn (hl pins s σ H _ I h) λv s1 ⟨x,H1,I1,r1,q1⟩=>?_
 rcases q1 with ⟨a,e,⟨xs,hq⟩,q⟩ | ⟨a,e,⟨xs,hq⟩,q⟩
 ·subst e
  cases r1
  obtain ⟨its,rv,p,hz⟩:=I1.list hq
  refine wpAny_pyIter_list p.isList ?_
  refine ⟨s1.heap.objs.size,[s1.heap.objs.size],_,_,H1,rfl,I1.kept (t':=s1.toks) λb o e=>wB _ e,qdr a _,⟨_,wH _ rfl,rfl,rfl⟩,λb hb=>?_,q⟩
  have e:b=s1.heap.objs.size:=by simpa using hb
  subst e
  exact I1.fpOk (wG _) (I1.hok.fresh (wG _))
 ·subst e
  cases r1
  obtain ⟨its,rv,p,hz⟩:=I1.tuple hq
  refine wpAny_pyIter_tuple (show s1.heap.IsTuple a its.toArray from p) ?_
  refine ⟨s1.heap.objs.size,[s1.heap.objs.size],_,_,H1,rfl,I1.kept (t':=s1.toks) λb o e=>wB _ e,qb2 a _,⟨_,wH _ rfl,rfl,rfl⟩,λb hb=>?_,q⟩
  have e:b=s1.heap.objs.size:=by simpa using hb
  subst e
  exact I1.fpOk (wG _) (I1.hok.fresh (wG _))
noncomputable def mSeq (m:En→Sr→Res D):En→Sr→Res (List D):=λρ S=>(m ρ S).bind λx S1=>match x with
 | .tup l=>.ok l S1
 | .lst l=>.ok l S1
 | _=>.no
theorem qjX {e:Expr} {m:En→Sr→Res D} (h:PE X e (T m)):PI X tg e (TIt (mSeq m)):=PIimp (qit h) λσ H R hw=>by
 obtain ⟨ι,S,ρ,er,st,p⟩:=hw
 refine ⟨ι,S,ρ,er,st,?_⟩
 dsimp only [mSeq] at p
 cases z:m ρ S with
 | no=>rw [z] at p;exact p
 | err=>rw [z] at p;exact p
 | ok d S1 =>
  rw [z,Res.bind_ok] at p
  intro v ι1 H1 s1 st1 hv
  cases d with
  | tup l =>
   obtain ⟨a,xs,rfl,hn,ha,dl⟩:=hv
   exact .inr ⟨a,rfl,⟨xs,.inl (.inl ha)⟩,p ι1 H1 _ s1 st1 (qis hn ha dl)⟩
  | lst l =>
   obtain ⟨a,xs,rfl,hn,ha,dl⟩:=hv
   exact .inl ⟨a,rfl,⟨xs,.inl ha⟩,p ι1 H1 _ s1 st1 (qir hn ha dl)⟩
  | _=>exact p.elim
theorem qiu {iter:Expr} {body:List Stmt} {mi:En→Sr→Res (List D × (Sr→Prop))} {g:D→En→Sr→Res En} {mb:En→Sr→Res Fl} (hp:PassesOwn (model X.prog X.w) X.A X.env X.xe) (hc:X.calm=true) (hi:PI X tg iter (TIg mi)) (hg:PG X tg (TGt g)) (hb:PSs X body (TSm mb))
  (hs:∀ x,foldedSetIterable iter X.env x=pure x) :
  PS X (.For tg iter body [] pos) (TSm λρ S=>(mi ρ S).bind λp S1=>endG p.2 (forLoop (λd ρ S=>(grd p.2 S (g d ρ S)).bind λρ1 S1=>mb ρ1 S1) p.1 ρ S1)):=PSimp (qhY hp hc hi hg hb hs) λD σ H hw=>by
 obtain ⟨ι,S,ρ,er,st,p⟩:=hw
 refine ⟨ι,S,ρ,er,st,?_⟩
 dsimp only at p
 cases z:mi ρ S with
 | no=>rw [z] at p;exact p
 | err=>rw [z] at p;exact p
 | ok dg S1 =>
  obtain ⟨ds,gd⟩:=dg
  rw [z,Res.bind_ok] at p
  dsimp only at p
  intro ι1 H1 J s1 st1 ok1
  refine ⟨λi m σ H=>m=ds.length-i∧i≤ds.length∧∃ ι S ρ,Stp ι1 H1 ι H∧EnR ι H ρ σ∧Sto ι H S∧PsF (endG gd (forLoop (λd ρ S=>(grd gd S (g d ρ S)).bind λρ1 S1=>mb ρ1 S1) (ds.drop i) ρ S)) ι H D,
   ⟨_,rfl,vO _,ι1,S1,ρ,Stp.refl _ _,er.mono s1,st1,by simpa using PsF.from p s1⟩,?_⟩
  rintro i m σ H ⟨rfl,hi,ι,S,ρ,s2,er2,st2,p2⟩
  by_cases hlt:i<ds.length
  ·have hd:ds[i]?=some ds[i]:=wD hlt
   rw [List.drop_eq_getElem_cons hlt] at p2
   have hgd:gd S:=by
    apply Classical.byContradiction
    intro hn
    simp only [forLoop,yn hn,Res.bind_no,endG] at p2
    exact p2
   obtain ⟨go,yl⟩:=ok1.go i _ ι H S s2 st2 hgd hd
   refine .inr ⟨go,λσ' H'=>∃ ι S ρ,Stp ι1 H1 ι H'∧EnR ι H' ρ σ'∧Sto ι H' S∧PsF (endG gd (forLoop (λd ρ S=>(grd gd S (g d ρ S)).bind λρ1 S1=>mb ρ1 S1) (ds.drop (i+1)) ρ S)) ι H' D,λσ' H' h'=>⟨_,by omega,rfl,hlt,h'⟩,λx H3 hy=>?_⟩
   obtain ⟨s3,kd3⟩:=yl x H3 hy
   obtain ⟨k3,d3⟩:=kd3 S st2
   refine ⟨ι,S,ρ,ds[i],er2.mono s3,k3,d3,?_⟩
   have p3:=PsF.from p2 s3
   simp only [forLoop,zP hgd] at p3
   cases z2:g ds[i] ρ S with
   | no=>simp only [z2,endG,Res.bind_no] at p3;exact p3
   | err=>simp only [z2,endG,Res.bind_err] at p3;exact p3
   | ok ρ4 S4 =>
    rw [z2,Res.bind_ok] at p3
    intro σ4 ι4 H4 s4 st4 er4
    refine ⟨ι4,S4,ρ4,er4,st4,?_⟩
    have p4:=PsF.from p3 s4
    cases z3:mb ρ4 S4 with
    | no=>simp only [z3,endG,Res.bind_no] at p4;exact p4
    | err=>simp only [z3,endG,Res.bind_err] at p4;exact p4
    | ok f S5 =>
     rw [z3,Res.bind_ok] at p4
     intro ι5 H5 s5 st5
     have tot:=((s2.trans s3).trans s4).trans s5
     cases f with
     | nx ρ5=>exact λσ5 er5=>⟨ι5,S5,ρ5,tot,er5,st5,PsF.from p4 s5⟩
     | ct ρ5=>exact λσ5 er5=>⟨ι5,S5,ρ5,tot,er5,st5,PsF.from p4 s5⟩
     | bk ρ5 =>
      by_cases hg5:gd S5
      ·simp only [endG,Res.bind_ok,zP hg5] at p4
       exact λσ5 er5=>p4 ι5 H5 s5 st5 σ5 er5
      ·simp only [endG,Res.bind_ok,yn hg5] at p4
       exact p4.elim
     | rt d=>exact λv hv=>p4 ι5 H5 s5 st5 v hv
  ·have e:i=ds.length:=by omega
   subst e
   rw [List.drop_of_length_le (wG _)] at p2
   have hgd:gd S:=by
    apply Classical.byContradiction
    intro hn
    simp only [forLoop,Res.bind_ok,endG,yn hn] at p2
    exact p2
   simp only [forLoop,Res.bind_ok,endG,zP hgd] at p2
   refine .inl ⟨ok1.stop ι H S s2 st2 hgd,?_⟩
   exact p2 ι H (Stp.refl _ _) st2 σ er2
theorem pi_g {iter:Expr} {mi:En→Sr→Res (List D)} (h:PI X tg iter (TIt mi)):PI X tg iter (TIg λρ S=>(mi ρ S).bind λds S1=>.ok (ds,λ_=>True) S1):=PIimp h λσ H R hw=>by
 obtain ⟨ι,S,ρ,er,st,p⟩:=hw
 refine ⟨ι,S,ρ,er,st,?_⟩
 dsimp only at p
 cases z:mi ρ S with
 | no=>rw [z] at p;exact p
 | err=>rw [z] at p;exact p
 | ok ds S1 =>
  rw [z,Res.bind_ok] at p
  exact λι' H' J s1 st1 ok=>p ι' H' J s1 st1 ok.g
theorem qci {α:Type} (S:Sr) (r:Res α):grd (λ_=>True) S r=r:=zP (gd:=λ_=>True) trivial r
theorem qgC (r:Res Fl):endG (λ_=>True) r=r:=by
 cases r with
 | ok f S=>cases f <;> simp only [endG,Res.bind_ok,qci]
 | err=>rfl
 | no=>rfl
theorem qjY {iter:Expr} {body:List Stmt} {mi:En→Sr→Res (List D)} {g:D→En→Sr→Res En} {mb:En→Sr→Res Fl} (hp:PassesOwn (model X.prog X.w) X.A X.env X.xe) (hc:X.calm=true) (hi:PI X tg iter (TIt mi)) (hg:PG X tg (TGt g)) (hb:PSs X body (TSm mb))
  (hs:∀ x,foldedSetIterable iter X.env x=pure x) :
  PS X (.For tg iter body [] pos) (TSm λρ S=>(mi ρ S).bind λds S1=>forLoop (λd ρ S=>(g d ρ S).bind λρ1 S1=>mb ρ1 S1) ds ρ S1):=by
 have h:=qiu (pos:=pos) hp hc (pi_g hi) hg hb hs
 have e:(λ(ρ:En) (S:Sr)=>((mi ρ S).bind λds S1=>.ok (ds,λ_=>True) S1:Res (List D × (Sr→Prop))).bind λp S1=>endG p.2 (forLoop (λd ρ S=>(grd p.2 S (g d ρ S)).bind λρ1 S1=>mb ρ1 S1) p.1 ρ S1))=λρ S=>(mi ρ S).bind λds S1=>forLoop (λd ρ S=>(g d ρ S).bind λρ1 S1=>mb ρ1 S1) ds ρ S1:=by
  funext ρ S
  cases mi ρ S with
  | ok ds S1 =>
   show endG (λ_=>True) (forLoop (λd ρ S=>(grd (λ_=>True) S (g d ρ S)).bind λρ1 S1=>mb ρ1 S1) ds ρ S1)=_
   rw [qgC]
   simp only [qci]
  | err=>rfl
  | no=>rfl
 rw [← e];exact h
end
end R
namespace R
open PySem PySem.Spec L2 SeqAt
open PyProof.Rows hiding St
noncomputable def compCx (X:Cx) (sc:Scope) (cl:List (Str × Addr)) (C:Addr) (N':List Str) (fp:List Addr) (s:Shared) (H:Hp):Cx :=
 { X with N:=N',s₀:=s,H₀:=H,env:=compEnvC sc cl C X.env,outer:=X.stack,ex:=fp,fn:=λ_=>false,pn:=[],xe:=λ_ _=>False }
structure Clos (X:Cx) (sc:Scope) (cl:List (Str × Addr)):Prop where
 eq:closureFor sc X.env=pure cl
 sub:∀ x c,cl.lookup x=some c→X.env.cells.lookup x=some c
 all:∀ x,sc.names.lookup x=some .free→∃ c,cl.lookup x=some c
theorem qaL {env:Env}:∀ (names:List (Str × NameKind)) (acc:List (Str × Addr)),(∀ x∈names,x.2=.free→∃ c,env.cells.lookup x.1=some c) →
  ∃ cl,(forIn names acc λ(p:Str × NameKind) (cs:List (Str × Addr))=>(if p.2 == NameKind.free then (do let a ← cellOf env p.1;pure (ForInStep.yield ((p.1,a)::cs))) else pure (ForInStep.yield cs):Sem (ForInStep (List (Str × Addr)))))=pure cl ∧
   (∀ x c,cl.lookup x=some c→env.cells.lookup x=some c∨acc.lookup x=some c)∧(∀ x c,acc.lookup x=some c→(∃ c',cl.lookup x=some c'))∧(∀ x∈names,x.2=.free→∃ c,cl.lookup x.1=some c)
 | [],acc,_=>⟨acc,rfl,λx c h=>.inr h,λx c h=>⟨c,h⟩,λx h=>by cases h⟩
 | (n,k)::r,acc,h=>by
  by_cases hk:k=.free
  ·subst hk
   obtain ⟨c,hc⟩:=h (n,.free) wN rfl
   obtain ⟨cl,e,i1,i2,i3⟩:=qaL r ((n,c)::acc) λx hx=>h x (wM _ hx)
   have e1:cellOf env n=pure c:=by unfold cellOf;rw [hc]
   refine ⟨cl,?_,λx c' hx=>?_,λx c' hx=>?_,λx hx hf=>?_⟩
   ·rw [List.forIn_cons]
    simp only [beq_self_eq_true,if_true,e1,pure_bind]
    exact e
   ·rcases i1 x c' hx with z | z
    ·exact .inl z
    ·rw [vP] at z
     cases q:x == n with
     | true=>rw [q] at z;cases z;rw [beq_iff_eq.mp q];exact .inl hc
     | false=>rw [q] at z;exact .inr z
   ·cases q:x == n with
    | true=>exact i2 x c (by rw [vP,q])
    | false=>exact i2 x c' (by rw [vP,q];exact hx)
   ·rcases wO.mp hx with z | z
    ·subst z;exact i2 n c (by simp [vP])
    ·exact i3 x z hf
  ·have hb:(k == NameKind.free)=false:=by simpa using hk
   obtain ⟨cl,e,i1,i2,i3⟩:=qaL r acc λx hx=>h x (wM _ hx)
   refine ⟨cl,?_,i1,i2,λx hx hf=>?_⟩
   ·rw [List.forIn_cons]
    simp only [hb,Bool.false_eq_true,if_false,pure_bind]
    exact e
   ·rcases wO.mp hx with z | z
    ·subst z;exact absurd hf hk
    ·exact i3 x z hf
theorem qcR {X:Cx} {sc:Scope} (h:∀ x∈sc.names,x.2=.free→∃ c,X.env.cells.lookup x.1=some c):∃ cl,Clos X sc cl:=by
 obtain ⟨cl,e,i1,i2,i3⟩:=qaL (env:=X.env) sc.names [] h
 refine ⟨cl,⟨?_,λx c hx=>?_,λx hx=>?_⟩⟩
 ·unfold closureFor
  show (forIn sc.names [] _ >>= λr=>pure r)=_
  rw [bind_pure]
  exact e
 ·rcases i1 x c hx with z | z
  ·exact z
  ·cases z
 ·exact i3 (x,.free) (vK hx) rfl
theorem zI {env:Env}:∀ {names:List (Str × NameKind)} {x:Str},(names.map λ(n,k)=>if (k == NameKind.free&&env.scope.kind == .function&&env.kindOf n == some .cell) then (n,NameKind.cell) else (n,k)).lookup x =
  (names.lookup x).map λk=>if (k == NameKind.free&&env.scope.kind == .function&&env.kindOf x == some .cell) then NameKind.cell else k
 | [],_=>rfl
 | (n,k)::r,x=>by
  show List.lookup x ((if (k == NameKind.free&&env.scope.kind == .function&&env.kindOf n == some .cell)=true then (n,NameKind.cell) else (n,k))::_)=_
  have ih:=@zI env r x
  cases hx:x == n with
  | true =>
   have hxn:=beq_iff_eq.mp hx
   subst hxn
   by_cases hc:(k == NameKind.free&&env.scope.kind == .function&&env.kindOf x == some .cell)=true
   ·rw [wJ hc];simp only [vP,hx,wk,wJ hc]
   ·rw [wK hc];simp only [vP,hx,wk,wK hc]
  | false =>
   by_cases hc:(k == NameKind.free&&env.scope.kind == .function&&env.kindOf n == some .cell)=true
   ·rw [wJ hc];simp only [vP,hx];exact ih
   ·rw [wK hc];simp only [vP,hx];exact ih
section
variable {X:Cx} {pos:Pos}
theorem qdJ {sc:Scope} {cl:List (Str × Addr)} {N':List Str} {fp:List Addr} {pins:List (Addr × Obj)} {σ:St} {H:Hp} {s:Shared} (I:Inv X pins σ H s) (hk:sc.kind=.function) (hcell:∀ y∈sc.names,y.2≠.cell) (CL:Clos X sc cl)
  (hf:∀ b∈fp,FpOk X pins H b) (ho:∀ b∈fp,b<s.heap.objs.size):(compCx X sc cl s.heap.objs.size N' fp s H).Ok where
 mod:=I.ok.mod
 kind:=hk
 glob:=I.ok.glob
 blt:=I.ok.blt
 above:=wG _
 inj:=λx y c h1 h2=>I.ok.inj x y c (CL.sub x c h1) (CL.sub y c h2)
 has:=λx hx=>by
  have hx:(relabel sc X.env).names.lookup x=some .cell∨(relabel sc X.env).names.lookup x=some .free:=hx
  have e:(relabel sc X.env).names.lookup x=_:=zI (env:=X.env) (names:=sc.names) (x:=x)
  rw [e] at hx
  cases z:sc.names.lookup x with
  | none=>rw [z] at hx;simp at hx
  | some k =>
   cases k with
   | free=>exact CL.all x z
   | cell=>exact absurd rfl (hcell _ (vK z))
   | _=>rw [z] at hx;simp at hx
 cab:=λx c h _=>by cases h
 hd:=I.ok.hd
 frames:=I.ok.frames
 stk:=.inl rfl
 exf:=λb hb=>⟨wW (ho b hb),λx c h=>(hf b hb).2.2.2.2.1 x c (CL.sub x c h)⟩
 bs:=I.bs
 bsz:=vA I.ok.bsz I.sz
 noex:=λb o e hb=>by
  rcases (hf b hb).2.2.2.1 with z | z
  ·exact I.ok.noex b o e z
  ·exact absurd (wQ (wE e) (vA I.ok.bsz z)) (Nat.lt_irrefl _)
 exfs:=λb hb hs=>by
  rcases wO.mp (I.stkSub b hs) with z | z
  ·exact (hf b hb).2.1 z
  ·exact (hf b hb).2.2.1 z
 funs:=I.stack
 frf:=I.stkFree
 tab:=λc T z=>let ⟨ps,e⟩:=I.ok.tab c T z;let ⟨m,e'⟩:=I.base.tbls _ _ e;⟨_,e'⟩
structure Frs (X:Cx) (sc:Scope) (fr:List Nat) (xs ts:List Str):Prop where
 len:fr.length=xs.length
 at':∀ (i j:Nat) (x:Str),fr[i]?=some j→xs[i]?=some x→X.N[j]?=some x
 kd:∀ x∈xs,sc.names.lookup x=some .free∧(X.env.kindOf x=some .cell∨X.env.kindOf x=some .free)
 tl:∀ x∈ts,sc.names.lookup x=some .local
 nd:(xs++ts).Nodup
noncomputable def frS (σ:St) (fr:List Nat) (nt:Nat):St:=fr.map (λi=>(σ[i]?).getD none)++List.replicate nt none
theorem qcS {ι:List Addr} {H:Hp} {ρ:En} {σ:St} (e:EnR ι H ρ σ) (fr:List Nat) (nt:Nat):EnR ι H (frE ρ fr nt) (frS σ fr nt):=by
 refine ⟨by simp [frE,frS],λi d h=>?_⟩
 unfold frE at h
 unfold frS
 by_cases hi:i<fr.length
 ·rw [wU (by simpa using hi),wY,wD hi] at h
  rw [wU (by simpa using hi),wY,wD hi]
  simp only [wk,Option.some.injEq] at h ⊢
  cases z:ρ[fr[i]]? with
  | none=>rw [z] at h;cases h
  | some o =>
   rw [z] at h
   cases h
   obtain ⟨v,h1,h2⟩:=e.get _ d z
   exact ⟨v,by rw [h1];rfl,h2⟩
 ·rw [wZ (by simpa using hi),List.getElem?_replicate] at h
  split at h <;> cases h
theorem qcj {sc:Scope} {cl:List (Str × Addr)} {fp:List Addr} {pins:List (Addr × Obj)} {σ:St} {H:Hp} {s:Shared} {fr:List Nat} {xs ts:List Str} (I:Inv X pins σ H s) (hk:sc.kind=.function) (hcell:∀ y∈sc.names,y.2≠.cell) (CL:Clos X sc cl)
  (hf:∀ b∈fp,FpOk X pins H b) (ho:∀ b∈fp,b<s.heap.objs.size) (F:Frs X sc fr xs ts) {h':Heap} {m:Str→Option Value} {tk:Nat} (hn:h'.Ns s.heap.objs.size m) (hkeep:∀ b o,s.heap.get? b=some o→h'.get? b=some o) :
  Inv (compCx X sc cl s.heap.objs.size (xs++ts) fp s H) [] (frS σ fr ts.length) H { s with heap:=h',toks:=tk }:=by
 refine ⟨qdJ I hk hcell CL hf ho,rfl,GK.refl I.bare.bare,Un.kept hkeep,⟨m,hn,λi x v h1 h2 h3=>?_⟩,λx c e=>?_,I.hok.fresh (wG _),λx c e=>I.freeC x c (CL.sub x c e),λp hp=>absurd (show p∈([]:List (Addr × Obj)) from hp) (by simp),I.hok.kept hkeep,?_⟩
 ·have h1:(xs++ts)[i]?=some x:=h1
  have h2:(frS σ fr ts.length)[i]?=some (some v):=h2
  unfold frS at h2
  by_cases hi:i<fr.length
  ·rw [wU (by simpa using hi),wY,wD hi] at h2
   rw [wU (by rw [← F.len];exact hi)] at h1
   simp only [wk,Option.some.injEq] at h2
   have hN:=F.at' i fr[i] x (wD hi) h1
   have hσ:σ[fr[i]]?=some (some v):=by
    cases z:σ[fr[i]]? with
    | none=>rw [z] at h2;cases h2
    | some o=>rw [z] at h2;simp at h2;rw [h2]
   obtain ⟨kf,ko⟩:=F.kd x (wq h1)
   obtain ⟨m0,hn0,hl0⟩:=I.loc
   have hvis:Vis X.env.scope x:=by
    rcases ko with z | z
    ·exact .inr (.inl z)
    ·exact .inr (.inr z)
   obtain ⟨u,r,l⟩:=hl0 fr[i] x v hN hσ hvis
   refine ⟨u,r,.inr ?_⟩
   have hc:∃ c,X.env.cells.lookup x=some c∧s.heap.IsCell c (some u):=by
    rcases l with ⟨z,_⟩ | ⟨_,c,e1,e2⟩
    ·rcases ko with q | q <;> (rw [z] at q;cases q)
    ·exact ⟨c,e1,e2⟩
   obtain ⟨c,e1,o,e2,e3⟩:=hc
   obtain ⟨c',e4⟩:=CL.all x kf
   have e5:=CL.sub x c' e4
   rw [e1] at e5;cases e5
   refine ⟨?_,c,e4,o,hkeep _ _ e2,e3⟩
   have e:(relabel sc X.env).names.lookup x=_:=zI (env:=X.env) (names:=sc.names) (x:=x)
   show (relabel sc X.env).names.lookup x=some .cell∨(relabel sc X.env).names.lookup x=some .free
   rw [e,kf]
   simp only [wk]
   split
   ·exact .inl rfl
   ·exact .inr rfl
  ·rw [wZ (by simpa using hi),List.getElem?_replicate] at h2
   split at h2 <;> cases h2
 ·obtain ⟨v,o,e1,e2⟩:=I.cell x c (CL.sub x c e)
  exact ⟨v,o,hkeep _ _ e1,e2⟩
 ·show (frS σ fr ts.length).length=(xs++ts).length
  simp [frS,F.len]
theorem qck {sc:Scope} {cl:List (Str × Addr)} {N':List Str} {fp:List Addr} {pins:List (Addr × Obj)} {σ σ':St} {H H':Hp} {s s':Shared} {h':Heap} (I:Inv X pins σ H s) (hf:∀ b∈fp,FpOk X pins H b)
  (J:Inv (compCx X sc cl s.heap.objs.size N' fp s H) [] σ' H' s') (hs:Heap.SameBut s.heap.objs.size s'.heap h'):Inv X pins σ H' { s' with heap:=h' }:=by
 have hC:H' s.heap.objs.size=none:=J.free
 have u:=J.base
 have kb:∀ b o,b≠s.heap.objs.size→s'.heap.get? b=some o→h'.get? b=some o:=λb o hb e=>hs.extBut b o hb e
 have ne:∀ b o,s.heap.get? b=some o→b≠s.heap.objs.size:=λb o e=>wW (wE e)
 have un:Un (frs X.stack) fp H H' s.heap h':=⟨λb o e n hb hx=>kb b o (ne b o e) (u.keep b o e n hb hx),λb o e n hb hx=>by
   obtain ⟨sl,q⟩:=u.slot b o e n hb hx
   exact ⟨sl,kb b _ (ne b o e) q⟩,λb o e n hx=>u.free b o e n hx,λb o e hx=>by
   obtain ⟨o',q⟩:=u.there b o e hx
   exact ⟨o',kb b o' (ne b o e) q⟩,u.tups,u.frzs,u.tbls⟩
 have hok:HOk X.prog X.w H' h':=λb o e=>(J.hok b o e).stay (λc w hc q=>kb c w (λz=>by
   subst z
   rcases hc with q' | q'
   ·rw [← q',hC] at e;cases e
   ·rw [hC] at q';cases q') q) (λ_ q=>q) λ_ _ q=>q
 exact I.call' (s':={ s' with heap:=h' }) (ch:=fp) J.os un hok J.bare λb hb=>⟨(hf b hb).2.2.2.1,(hf b hb).2.1,(hf b hb).2.2.2.2.1,(hf b hb).2.2.2.2.2⟩
end
end R
namespace R
open PySem PySem.Spec L2 SeqAt
open PyProof.Rows hiding St
theorem thnF {α:Type} {t:Sem α} {Q Q':α→Shared→Prop} {M:Model} {A:Around} {E:Value→Shared→Prop} {s:Shared} (h:wpAny M A t Q (λ_ _=>False) s) (hQ:∀ a s,Q a s→Q' a s):wpAny M A t Q' E s:=wg h hQ λ_ _ x=>x.elim
section
variable {X:Cx} {pos:Pos}
noncomputable def PTl (X:Cx) (ifs:List Expr) (t:TT):Prop:=∀ (pins:List (Addr × Obj)) (s:Shared) (σ:St) (H:Hp) (Q:Bool→Hp→Prop),Inv X pins σ H s→t σ H Q →
 wpAny (model X.prog X.w) X.A (forIn ifs true λc r=>(if r=true then do let ok ← isTrue c X.env (eval c X.env);pure (ForInStep.yield ok) else pure (ForInStep.yield r):Sem (ForInStep Bool))) (TP X pins σ Q) X.xe s
theorem qiv:PTl X [] (TB λ_ S=>.ok true S):=λpins s σ H Q I h=>by
 obtain ⟨ι,S,ρ,er,st,p⟩:=h
 exact wC ⟨H,I,p true ι H (Stp.refl _ _) st rfl⟩
theorem qbu {M:Model} {A:Around} {E:Value→Shared→Prop} {s:Shared} {env:Env} {Q:Bool→Shared→Prop}:∀ (ifs:List Expr),Q false s→wpAny M A (forIn ifs false λc r=>(if r=true then do let ok ← isTrue c env (eval c env);pure (ForInStep.yield ok) else pure (ForInStep.yield r):Sem (ForInStep Bool))) Q E s
 | [],h=>wC h
 | c::r,h=>by
  rw [List.forIn_cons]
  refine wA ?_
  rw [wK (by decide)]
  exact wC (qbu r h)
theorem qgD {c:Expr} {ifs:List Expr} {m ms:En→Sr→Res Bool} (h1:PT X c (TB m)) (h2:PTl X ifs (TB ms)):PTl X (c::ifs) (TB λρ S=>(m ρ S).bind λt S1=>if t then ms ρ S1 else .ok false S1):=λpins s σ H Q I hw=>by
 rw [List.forIn_cons]
 refine wA ?_
 rw [wJ rfl]
 obtain ⟨ι,S,ρ,er,st,p⟩:=hw
 refine wA (thn (h1 pins s σ H _ I (Pst.tg (ρ:=ρ) p er st (K:=λb H1=>if b=true then TB ms σ H1 Q else Q false H1) λa S1 ι1 H1 b s1 er1 st1 ra p1=>?_)) λb s1 ⟨H1,I1,q1⟩=>?_)
 ·cases (show a=b from ra)
  cases a with
  | true=>rw [wJ rfl];exact ⟨ι1,S1,ρ,er1,st1,p1⟩
  | false=>rw [wK (by decide)];exact p1 false ι1 H1 (Stp.refl _ _) st1 rfl
 ·refine wC ?_
  cases b with
  | true=>rw [wJ rfl] at q1;exact h2 pins s1 σ H1 Q I1 q1
  | false=>rw [wK (by decide)] at q1;exact qbu ifs ⟨H1,I1,q1⟩
theorem qgE {tg elt iter:Expr} {ifs:List Expr} {sc:Scope} {J:It} {fp:List Addr} {it Dl:Addr} {tn:Nat→Heap→Prop} {g:D→En→Sr→Res En} {mt:En→Sr→Res Bool} {me:En→Sr→Res D} {n:Nat} {ds:List D} {gd:Sr→Prop} {R:Result→Shared→Prop}
  (hxe:X.xe=λ_ _=>False) (hc:X.calm=true) (hex:X.ex=fp) (hpn:X.pn=[]) (T':Turn X.prog X.w X.K tg J fp it tn) (hg:PG X tg (TGt g)) (ht:PTl X ifs (TB mt)) (he:PE X elt (T me)) (hgg:∀ d ρ S,¬ gd S→g d ρ S=.no)
  {ι:List Addr} {H:Hp} {S:Sr} {ρ ρf:En} {Sf:Sr} {σ:St} {s:Shared} (hD:ι[n]?=some Dl) (ok:ItG ι H J ds gd) (I:Inv X [] σ H s) (h0:tn 0 s.heap) (hfp:∀ b∈fp,H b=none) (er:EnR ι H ρ σ) (st:Sto ι H S) (e:lcLoop n g mt me ds ρ S=.ok ρf Sf) (hSf:gd Sf)
  (fin:∀ (σ':St) (H':Hp) (ι':List Addr) (s':Shared),Inv X [] σ' H' s'→Stp ι H ι' H'→Sto ι' H' Sf→R (.ok .next) s') :
  codeAny (model X.prog X.w) X.A (.compLoop (.ListComp elt [⟨tg,iter,ifs,0⟩] sc pos) 0 (.ref it) (.ref Dl) X.env) R s:=by
 refine codeAny_loop rfl (λk s'=>∃ (i:Nat) (σ':St) (H':Hp) (ι':List Addr) (S':Sr) (ρ':En),k=ds.length-i∧i≤ds.length∧Inv X [] σ' H' s'∧tn i s'.heap∧(∀ b∈fp,H' b=none)∧Stp ι H ι' H'∧EnR ι' H' ρ' σ'∧Sto ι' H' S'∧lcLoop n g mt me (ds.drop i) ρ' S'=.ok ρf Sf) ?_
  ds.length ⟨0,σ,H,ι,S,ρ,by simp,vO _,I,h0,hfp,Stp.refl _ _,er,st,by simpa using e⟩
 rintro k s1 ⟨i,σ1,H1,ι1,S1,ρ1,rfl,hi,I1,t1,f1,p1,er1,st1,e1⟩
 have stat:∀ {H':Hp},(∀ b∈fp,H' b=none)→∀ b∈fp,FpOk X [] H' b:=λhn b hb=>by
  have hb':b∈X.ex:=by rw [hex];exact hb
  exact ⟨hn b hb,(I.ok.exf b hb').1,λz=>I.ok.exfs b hb' z,.inl hb',(I.ok.exf b hb').2,λp hp=>by rw [hpn] at hp;exact absurd hp (by simp)⟩
 show wpAny _ X.A ((compTurn (.ListComp elt [⟨tg,iter,ifs,0⟩] sc pos) 0 (.ref it) (.ref Dl) X.env).onRaise (λx=>do noteFrame x X.env;theTreesLotGoes x)) _ _ s1
 refine wpAny_noted ?_
 rw [compTurn_list]
 refine wA (wpAny_standAt (wA ?_))
 by_cases hlt:i<ds.length
 ·have hd:ds[i]?=some ds[i]:=wD hlt
  rw [List.drop_eq_getElem_cons hlt] at e1
  have hgd:gd S1:=by
   apply Classical.byContradiction
   intro hn
   simp only [lcLoop,hgg _ _ _ hn,Res.bind_no] at e1
   cases e1
  obtain ⟨go,yl⟩:=ok.go i _ ι1 H1 S1 p1 st1 hgd hd
  refine thnF (T'.item X rfl rfl rfl hc i [] s1 σ1 H1 _ I1 (stat f1) t1 go) λr s2 ⟨u,hr,h2⟩=>?_
  subst hr
  refine wA (thnF h2 λ_ s3 ⟨x,H3,I3,r3,y3,t3,f3⟩=>?_)
  obtain ⟨q3,kd3⟩:=yl x H3 y3
  obtain ⟨k3,d3⟩:=kd3 S1 st1
  have I3':=I3.pinned (stat f3) (T'.obj _ _ t3)
  simp only [lcLoop] at e1
  cases z1:g ds[i] ρ1 S1 with
  | no=>rw [z1] at e1;cases e1
  | err=>rw [z1] at e1;cases e1
  | ok ρ2 S2 =>
   rw [z1,Res.bind_ok] at e1
   refine wA (wg (hg _ s3 σ1 H3 x u (λσ4 H4=>∃ ι4,Stp ι1 H3 ι4 H4∧Sto ι4 H4 S2∧EnR ι4 H4 ρ2 σ4) I3' r3 ⟨ι1,S1,ρ1,ds[i],er1.mono q3,k3,d3,?_⟩) (λ_ s4 ⟨σ4,H4,I4,ι4,q4,st4,er4⟩=>?_) λ_ _ z=>by rw [hxe] at z;exact z.elim)
   ·rw [z1];exact λσ4 ι4 H4 q4 st4 er4=>⟨ι4,q4,st4,er4⟩
   cases z2:mt ρ2 S2 with
   | no=>rw [z2] at e1;cases e1
   | err=>rw [z2] at e1;cases e1
   | ok b S3 =>
    rw [z2,Res.bind_ok] at e1
    refine wA (wg (ht _ s4 σ4 H4 (λb' H5=>b'=b∧∃ ι5,Stp ι4 H4 ι5 H5∧Sto ι5 H5 S3) I4 ⟨ι4,S2,ρ2,er4,st4,?_⟩) (λb' s5 ⟨H5,I5,eb,ι5,q5,st5⟩=>?_) λ_ _ z=>by rw [hxe] at z;exact z.elim)
    ·rw [z2];exact λb' ι5 H5 q5 st5 eb=>⟨(show b=b' from eb).symm,ι5,q5,st5⟩
    subst eb
    have again:∀ {σ7:St} {H7:Hp} {s7:Shared} {ι7:List Addr} {S7:Sr},Inv X ([]++pinsAt fp s3.heap) σ7 H7 s7→Stp ι1 H1 ι7 H7→EnR ι7 H7 ρ2 σ7→Sto ι7 H7 S7→lcLoop n g mt me (ds.drop (i+1)) ρ2 S7=.ok ρf Sf →
      ∃ m,m<ds.length-i∧∃ (i:Nat) (σ':St) (H':Hp) (ι':List Addr) (S':Sr) (ρ':En),m=ds.length-i∧i≤ds.length∧Inv X [] σ' H' s7∧tn i s7.heap∧(∀ b∈fp,H' b=none)∧Stp ι H ι' H'∧EnR ι' H' ρ' σ'∧Sto ι' H' S'∧lcLoop n g mt me (ds.drop i) ρ' S'=.ok ρf Sf:=by
     intro σ7 H7 s7 ι7 S7 I7 q7 er7 st7 e7
     refine ⟨ds.length-(i+1),by omega,i+1,σ7,H7,ι7,S7,ρ2,rfl,hlt,I7.unpinned,T'.keep _ _ _ t3 λb hb o eo=>(I7.pin (b,o) (wV _ (wV _ (zq hb eo)))).1,λb hb=>?_,p1.trans q7,er7,st7,e7⟩
     obtain ⟨o,eo,_⟩:=T'.obj _ _ t3 b hb
     exact (I7.pin (b,o) (wV _ (wV _ (zq hb eo)))).2.1
    cases b' with
    | false =>
     rw [wK (by decide)] at e1
     exact wC ⟨rfl,again I5 ((q3.trans q4).trans q5) (er4.mono q5) st5 e1⟩
    | true =>
     rw [wJ rfl] at e1
     cases z3:me ρ2 S3 with
     | no=>rw [z3] at e1;cases e1
     | err=>rw [z3] at e1;cases e1
     | ok v S4 =>
      rw [z3,Res.bind_ok] at e1
      refine wA (wA (wg (he _ s5 σ4 H5 (λy H6=>∃ ι6,Stp ι5 H5 ι6 H6∧Sto ι6 H6 S4∧Den ι6 H6 v y) I5 ⟨ι5,S3,ρ2,er4.mono q5,st5,?_⟩) (λy' s6 ⟨y,H6,I6,ry,ι6,q6,st6,dv⟩=>?_) λ_ _ z=>by rw [hxe] at z;exact z.elim))
      ·rw [z3];exact λy ι6 H6 q6 st6 dv=>⟨ι6,q6,st6,dv⟩
      cases z4:appD S4 (.ref n) v with
      | no=>rw [z4] at e1;cases e1
      | err=>rw [z4] at e1;cases e1
      | ok w S5 =>
       rw [z4,Res.bind_ok] at e1
       have tot:=((q3.trans q4).trans q5).trans q6
       have hD6:ι6[n]?=some Dl:=(p1.trans tot).get hD
       refine wA (wg (qan (X:=X) _ s6 σ4 H6 (.ref Dl) [y] (.ref Dl) [y'] (λ_ H7=>∃ ι7,Stp ι6 H6 ι7 H7∧Sto ι7 H7 S5) I6 rfl (.cons ry .nil) (qhu (x:=.ref n) st6 ⟨Dl,rfl,hD6⟩ dv ?_)) (λ_ s7 ⟨_,H7,I7,_,ι7,q7,st7⟩=>?_) λ_ _ z=>by rw [hxe] at z;exact z.elim)
       ·rw [z4];exact λb ι' H' s' st' _=>⟨ι',s',st'⟩
       ·exact wC (wC ⟨rfl,again I7 (tot.trans q7) ((er4.mono (q5.trans q6)).mono q7) st7 e1⟩)
 ·have hi':i=ds.length:=by omega
  subst hi'
  rw [List.drop_of_length_le (wG _)] at e1
  cases e1
  refine thnF (T'.done X rfl rfl rfl hc _ [] s1 σ1 H1 _ I1 (stat f1) t1 (ok.stop ι1 H1 _ p1 st1 hSf)) λr s2 ⟨hr,I2⟩=>?_
  subst hr
  exact wC (fin σ1 H1 ι1 s2 I2 p1 st1)
structure Blk (X:Cx) (sc:Scope) (N':List Str) (tg:Expr) (ifs:List Expr) (elt:Expr) (g:D→En→Sr→Res En) (mt:En→Sr→Res Bool) (me:En→Sr→Res D):Prop where
 tg:∀ cl C fp s H,PG (compCx X sc cl C N' fp s H) tg (TGt g)
 ifs:∀ cl C fp s H,PTl (compCx X sc cl C N' fp s H) ifs (TB mt)
 elt:∀ cl C fp s H,PE (compCx X sc cl C N' fp s H) elt (T me)
structure CSc (X:Cx) (sc:Scope) (fr:List Nat) (xs ts:List Str):Prop where
 kind:sc.kind=.function
 nocell:∀ y∈sc.names,y.2≠.cell
 names:∀ x∈sc.names,x.2=.local→sc.names.lookup x.1=some .local
 frees:∀ x∈sc.names,x.2=.free→X.env.kindOf x.1=some .cell∨X.env.kindOf x.1=some .free
 frs:Frs X sc fr xs ts
noncomputable def mLc (m:Bool) (fr:List Nat) (nt:Nat) (mi:En→Sr→Res (List D)) (g:D→En→Sr→Res En) (mt:En→Sr→Res Bool) (me:En→Sr→Res D):En→Sr→Res D:=λρ S=>(mi ρ S).bind λds S1 =>
 (lcLoop S1.length g mt me ds (frE ρ fr nt) (S1++[.lst []])).bind λ_ S2=>lcEnd m S1.length S2
noncomputable def mLcG (m:Bool) (fr:List Nat) (nt:Nat) (mi:En→Sr→Res (List D × (Sr→Prop))) (g:D→En→Sr→Res En) (mt:En→Sr→Res Bool) (me:En→Sr→Res D):En→Sr→Res D:=λρ S=>(mi ρ S).bind λp S1 =>
 (lcLoop S1.length (λd ρ S=>grd p.2 S (g d ρ S)) mt me p.1 (frE ρ fr nt) (S1++[.lst []])).bind λ_ S2=>grd p.2 S2 (lcEnd m S1.length S2)
theorem qhw {m:Bool} {fr:List Nat} {nt:Nat} {mi:En→Sr→Res (List D)} {g:D→En→Sr→Res En} {mt:En→Sr→Res Bool} {me:En→Sr→Res D}:mLcG m fr nt (λρ S=>(mi ρ S).bind λds S1=>.ok (ds,λ_=>True) S1) g mt me=mLc m fr nt mi g mt me:=by
 funext ρ S
 unfold mLcG mLc
 dsimp only
 cases mi ρ S with
 | ok ds S1 =>
  show ((lcLoop S1.length (λd ρ S=>grd (λ_=>True) S (g d ρ S)) mt me ds (frE ρ fr nt) (S1++[.lst []])).bind λ_ S2=>grd (λ_=>True) S2 (lcEnd m S1.length S2))=_
  simp only [qci]
 | err=>rfl
 | no=>rfl
theorem qiw {tg:Expr} {g:D→En→Sr→Res En} {gd:Sr→Prop} (h:PG X tg (TGt g)):PG X tg (TGt λd ρ S=>grd gd S (g d ρ S)):=PGimp h λv σ H Q hw=>by
 obtain ⟨ι,S,ρ,d,er,st,hd,p⟩:=hw
 refine ⟨ι,S,ρ,d,er,st,hd,?_⟩
 dsimp only at p
 by_cases hg:gd S
 ·rw [zP hg] at p;exact p
 ·rw [yn hg] at p;exact p.elim
theorem qcT {tg elt iter:Expr} {ifs:List Expr} {sc:Scope} {fr:List Nat} {xs ts:List Str} {mi:En→Sr→Res (List D × (Sr→Prop))} {g:D→En→Sr→Res En} {mt:En→Sr→Res Bool} {me:En→Sr→Res D} {mm:Bool} (hc:X.calm=true)
  (hi:PI X tg iter (TIg mi)) (hs:∀ x,foldedSetIterable iter X.env x=pure x) (C':CSc X sc fr xs ts) (B:Blk X sc (xs++ts) tg ifs elt g mt me)
  {pins:List (Addr × Obj)} {s:Shared} {σ:St} {H:Hp} {Q:VK} {use:Option (Value→Sem Unit)} {Q':Value→Shared→Prop} (I:Inv X pins σ H s) (hw:T (mLcG mm fr ts.length mi g mt me) σ H Q)
  (fin:∀ (D C:Addr) (H':Hp) (s':Shared) (m:Str→Option Value),s'.heap.Ns C m→C≠X.env.locals→(∀ x c,X.env.cells.lookup x=some c→c≠C)→(H' C=none∧X.s₀.heap.objs.size≤C∧∀ p∈X.pn++pins,p.1≠C)→(∀ h',Heap.SameBut C s'.heap h'→Inv X pins σ H' { s' with heap:=h' })→Q (.ref D) H'→compPost (model X.prog X.w) X.A X.xe use Q' (.ref D) C (.ok .next) s') :
  wpAny (model X.prog X.w) X.A (comprehension (.ListComp elt [⟨tg,iter,ifs,0⟩] sc pos) sc X.env (firstIterPos [⟨tg,iter,ifs,0⟩] pos) (newList []) false (eval iter X.env) use) Q' X.xe s:=by
 obtain ⟨ι,S,ρ,er,st,p⟩:=hw
 dsimp only [mLcG] at p
 cases z:mi ρ S with
 | no=>rw [z] at p;exact p.elim
 | err=>rw [z] at p;exact p.elim
 | ok dg S1 =>
 obtain ⟨ds,gd⟩:=dg
 rw [z,Res.bind_ok] at p
 dsimp only at p
 cases z2:lcLoop S1.length (λd ρ S=>grd gd S (g d ρ S)) mt me ds (frE ρ fr ts.length) (S1++[.lst []]) with
 | no=>rw [z2] at p;exact p.elim
 | err=>rw [z2] at p;exact p.elim
 | ok ρf Sf =>
 rw [z2,Res.bind_ok] at p
 have hSf:gd Sf:=by
  apply Classical.byContradiction
  intro hn
  rw [yn hn] at p
  exact p
 rw [zP hSf] at p
 obtain ⟨cl,CL⟩:=qcR (X:=X) (sc:=sc) λx hx hf=>I.ok.has x.1 (C'.frees x hx hf)
 refine wpAny_comprehension_free rfl hs CL.eq C'.kind C'.names ?_
 refine thn (hi pins s σ H (λJ H2=>∃ ι2,Stp ι H ι2 H2∧Sto ι2 H2 S1∧ItG ι2 H2 J ds gd) I ⟨ι,S,ρ,er,st,?_⟩) λxv s1 h1=>thn h1 λitv s2 h2=>?_
 ·rw [z];exact λι' H' J q st' ok=>⟨ι',q,st',ok⟩
 obtain ⟨it,fp,tn,J,H2,e,I2,T',t2,f2,ι2,q2,st2,ok2⟩:=h2
 subst e
 refine wT ?_
 have hfD:H2 s2.heap.objs.size=none:=I2.hok.fresh (wG _)
 have fpl:∀ b∈fp,b<s2.heap.objs.size:=λb hb=>by
  obtain ⟨o,eo,_⟩:=T'.obj _ _ t2 b hb
  exact wE eo
 have I3:Inv X pins σ (upd H2 s2.heap.objs.size (.lst [])) { s2 with heap:=s2.heap.push { cls:=.type "list",dict:=none,data:=.seq ([]:List Value).toArray } } :=
  I2.laid (t':=s2.toks) (λb o e=>wB _ e) (wG _) ⟨vO _,[],0,.nil,wH _ rfl⟩
 have f3:∀ b∈fp,FpOk X pins (upd H2 s2.heap.objs.size (.lst [])) b:=λb hb=>⟨by rw [qk (wW (fpl b hb))];exact (f2 b hb).1,(f2 b hb).2⟩
 have g3:=Stp.grow (ι:=ι2) hfD (.lst [])
 have st3:Sto (ι2++[s2.heap.objs.size]) (upd H2 s2.heap.objs.size (.lst [])) (S1++[.lst []]):=st2.grow hfD ⟨⟨ι2.length,by simp,rfl⟩,[],qC,rfl⟩
 have hD3:(ι2++[s2.heap.objs.size])[S1.length]?=some s2.heap.objs.size:=by rw [← st2.len];simp
 generalize hs3:({ s2 with heap:=s2.heap.push { cls:=.type "list",dict:=none,data:=.seq ([]:List Value).toArray } }:Shared)=s3 at I3 ⊢
 have fpl3:∀ b∈fp,b<s3.heap.objs.size:=λb hb=>by
  rw [← hs3]
  show b<(s2.heap.push _).objs.size
  rw [Heap.size_push];exact Nat.lt_succ_of_lt (fpl b hb)
 have t3:tn 0 s3.heap:=T'.keep _ _ _ t2 λb hb o eo=>by rw [← hs3];exact wB _ eo
 refine wpAny_newFunctionEnv C'.nocell (by intro y hy;simp at hy) (λh4 hn4 hs4=>?_) C'.kind
 have keep4:∀ b o,s3.heap.get? b=some o→h4.get? b=some o:=λb o eo=>hs4.extBut b o (wW (wE eo)) (wB _ eo)
 have I4:=qcj (tk:=s3.toks+([]:List (Str × Value)).length) I3 C'.kind C'.nocell CL f3 fpl3 C'.frs hn4 keep4
 have t4:tn 0 h4:=T'.keep _ _ _ t3 λb hb o eo=>keep4 b o eo
 have er3:EnR (ι2++[s2.heap.objs.size]) (upd H2 s2.heap.objs.size (.lst [])) (frE ρ fr ts.length) (frS σ fr ts.length):=(qcS er fr ts.length).mono (q2.trans g3)
 have loop:codeAny (model X.prog X.w) X.A (.compLoop (.ListComp elt [⟨tg,iter,ifs,0⟩] sc pos) 0 (.ref it) (.ref s2.heap.objs.size) (compEnvC sc cl s3.heap.objs.size X.env)) (compPost (model X.prog X.w) X.A X.xe use Q' (.ref s2.heap.objs.size) s3.heap.objs.size) { s3 with heap:=h4,toks:=s3.toks+([]:List (Str × Value)).length }:=by
  refine qgE (X:=compCx X sc cl s3.heap.objs.size (xs++ts) fp s3 (upd H2 s2.heap.objs.size (.lst []))) (pos:=pos) rfl hc rfl rfl T' (qiw (gd:=gd) (B.tg _ _ _ _ _)) (B.ifs _ _ _ _ _) (B.elt _ _ _ _ _) (λd ρ S hn=>yn hn _) hD3 (ok2.mono g3) I4 t4 (λb hb=>(f3 b hb).1) er3 st3 z2 hSf λσ' H' ι' s' J' q' st'=>?_
  obtain ⟨m',hn',_⟩:=J'.loc
  refine fin s2.heap.objs.size s3.heap.objs.size H' s' m' hn' (vN I3.lt) (λx c ec ez=>?_) ⟨J'.free,I3.sz,λq hq ez=>by have:=wE (I3.pin q hq).1;rw [ez] at this;exact absurd this (Nat.lt_irrefl _)⟩ (λh5 hs5=>qck I3 f3 J' hs5) ?_
  ·obtain ⟨v,o,eo,_⟩:=I3.cell x c ec
   rw [ez] at eo
   exact absurd (wE eo) (Nat.lt_irrefl _)
  ·have hDf:ι'[S1.length]?=some s2.heap.objs.size:=q'.get hD3
   unfold lcEnd at p
   cases mm with
   | true =>
    rw [wJ rfl] at p
    exact p _ ι' H' ((q2.trans g3).trans q') st' ⟨_,rfl,hDf⟩
   | false =>
    rw [wK (by decide)] at p
    by_cases hl:Sf.length=S1.length+1
    ·rw [wJ hl] at p
     split at p
     ·rename_i l hl2
      obtain ⟨⟨n',en',fr'⟩,ys,h1,dl⟩:=st'.obj _ _ _ hDf hl2
      obtain rfl:n'=S1.length:=zt st'.nd en' hDf
      have en:S1.length=ι2.length:=st2.len.symm
      have qq:Stp ι H (ι'.take S1.length) H':=by rw [en];exact q2.trans (g3.trans q').less
      have st'':=st'.less S1.length
      refine p (.ref s2.heap.objs.size) _ H' qq st'' ⟨_,ys,rfl,λhm=>?_,.inl h1,Dens.less l fr' dl⟩
      obtain ⟨j,hj,ej⟩:=List.getElem_of_mem hm
      rw [vF] at hj
      have ej':ι'[j]?=some s2.heap.objs.size:=by
       rw [List.getElem_take] at ej
       rw [wD (by omega),ej]
      have:=zt st'.nd ej' hDf
      omega
     ·exact p.elim
    ·rw [wK hl] at p;exact p.elim
 exact codeAny_compStart_list loop (T'.self _ 0 _ _ _ t4 loop)
theorem qjZ {tg elt iter:Expr} {ifs:List Expr} {sc:Scope} {fr:List Nat} {xs ts:List Str} {mi:En→Sr→Res (List D × (Sr→Prop))} {g:D→En→Sr→Res En} {mt:En→Sr→Res Bool} {me:En→Sr→Res D} {mm:Bool} (hc:X.calm=true)
  (hi:PI X tg iter (TIg mi)) (hs:∀ x,foldedSetIterable iter X.env x=pure x) (C':CSc X sc fr xs ts) (B:Blk X sc (xs++ts) tg ifs elt g mt me) :
  PE X (.ListComp elt [⟨tg,iter,ifs,0⟩] sc pos) (T (mLcG mm fr ts.length mi g mt me)):=λpins s σ H Q I hw=>by
 rw [eval_ListComp]
 refine qcT hc hi hs C' B I hw λD C H' s' m hn _ _ _ hI q=>⟨m,hn,λh' hs'=>⟨.ref D,H',hI h' hs',rfl,q⟩⟩
theorem qeO {tg elt iter:Expr} {ifs:List Expr} {sc:Scope} {fr:List Nat} {xs ts:List Str} {mi:En→Sr→Res (List D × (Sr→Prop))} {g:D→En→Sr→Res En} {mt:En→Sr→Res Bool} {me:En→Sr→Res D} {mm:Bool} {i:Nat} {y:Str} {py spos:Pos} (hc:X.calm=true)
  (hi:PI X tg iter (TIg mi)) (hs:∀ x,foldedSetIterable iter X.env x=pure x) (C':CSc X sc fr xs ts) (B:Blk X sc (xs++ts) tg ifs elt g mt me)
  (hN:X.N.Nodup) (hy:X.N[i]?=some y) (hl:X.env.scope.names.lookup y=some .local) (hsw:swapsWith (.ListComp elt [⟨tg,iter,ifs,0⟩] sc pos) (some (.Name y py)) spos.line X.env=pure true) :
  PS X (.Assign [.Name y py] (.ListComp elt [⟨tg,iter,ifs,0⟩] sc pos) spos) (TSm λρ S=>(mLcG mm fr ts.length mi g mt me ρ S).bind λd S1=>.ok (.nx (ρ.set i (some d))) S1):=λpins s σ H D I hw=>by
 obtain ⟨ι,S,ρ,er,st,p⟩:=hw
 rw [exec_Assign_Name_used _ _ _ _ hsw]
 refine wA (wpAny_standAt (wA ?_))
 show wpAny _ X.A (do let _ ← comprehension (.ListComp elt [⟨tg,iter,ifs,0⟩] sc pos) sc X.env _ (newList []) false (eval iter X.env) (some (assign (.Name y py) X.env))) _ _ s
 have hT:T (mLcG mm fr ts.length mi g mt me) σ H (λv H1=>D.nx (σ.set i (some v)) H1):=⟨ι,S,ρ,er,st,PsF.bind p λa S1 ι1 H1 b s1 st1 ra p1=>p1 ι1 H1 (Stp.refl _ _) st1 _ ((er.mono s1).set ra)⟩
 refine wA (wg (qcT (use:=some (assign (.Name y py) X.env)) (Q':=λ_ s'=>SP X pins D .next s') hc hi hs C' B I hT λDl C H' s' m hn hCL hCc hCx hI q=>?_) (λ_ s' hq=>wC (wC hq)) λ_ _ e=>e)
 show wpAny _ X.A (assign (.Name y py) X.env (.ref Dl)) _ _ _
 have I0:Inv X pins σ H' s':=by
  have:=hI s'.heap (Heap.SameBut.refl ..)
  exact this
 refine wpAny_assign_Name (qah I0 hN hy (.inl hl) (v:=.ref Dl) rfl (λs'' I'' hsb=>?_) (.inr hl))
 obtain ⟨a,sb,ha⟩:=hsb
 have hCa:C≠a:=by
  rcases ha with z | z
  ·rw [z];exact hCL
  ·exact λq=>hCc y a z q.symm
 refine ⟨m,hn.sameBut sb hCa,λh' hs'=>?_⟩
 have I3:=I''.turned (h':=h') (t':=s''.toks) (it:=C) (λb o hb e=>hs'.extBut b o hb e) hCx.1 hCL (.inr hCx.2.1) hCc hCx.2.2
 exact ⟨_,H',I3,q⟩
theorem r_lc {tg elt iter:Expr} {ifs:List Expr} {sc:Scope} {fr:List Nat} {xs ts:List Str} {mi:En→Sr→Res (List D)} {g:D→En→Sr→Res En} {mt:En→Sr→Res Bool} {me:En→Sr→Res D} {mm:Bool} (hc:X.calm=true)
  (hi:PI X tg iter (TIt mi)) (hs:∀ x,foldedSetIterable iter X.env x=pure x) (C':CSc X sc fr xs ts) (B:Blk X sc (xs++ts) tg ifs elt g mt me) :
  PE X (.ListComp elt [⟨tg,iter,ifs,0⟩] sc pos) (T (mLc mm fr ts.length mi g mt me)):=by
 rw [← qhw];exact qjZ hc (pi_g hi) hs C' B
theorem qgF {tg elt iter:Expr} {ifs:List Expr} {sc:Scope} {fr:List Nat} {xs ts:List Str} {mi:En→Sr→Res (List D)} {g:D→En→Sr→Res En} {mt:En→Sr→Res Bool} {me:En→Sr→Res D} {mm:Bool} {i:Nat} {y:Str} {py spos:Pos} (hc:X.calm=true)
  (hi:PI X tg iter (TIt mi)) (hs:∀ x,foldedSetIterable iter X.env x=pure x) (C':CSc X sc fr xs ts) (B:Blk X sc (xs++ts) tg ifs elt g mt me)
  (hN:X.N.Nodup) (hy:X.N[i]?=some y) (hl:X.env.scope.names.lookup y=some .local) (hsw:swapsWith (.ListComp elt [⟨tg,iter,ifs,0⟩] sc pos) (some (.Name y py)) spos.line X.env=pure true) :
  PS X (.Assign [.Name y py] (.ListComp elt [⟨tg,iter,ifs,0⟩] sc pos) spos) (TSm λρ S=>(mLc mm fr ts.length mi g mt me ρ S).bind λd S1=>.ok (.nx (ρ.set i (some d))) S1):=by
 rw [← qhw];exact qeO hc (pi_g hi) hs C' B hN hy hl hsw
end
end R
namespace R
open PySem PySem.Spec L2 SeqAt
open PyProof.Rows hiding St
noncomputable def Sg (M:Model) (B:Around) (Φ:End→Shared→Prop) (k:Code) (t:Sem Fin) (l:List Frame) (s:Shared):Prop:=∀ G p,G.code=k→G.Woken B→∃ x z,Runs M G p t l s x z∧Φ x z
section
variable {M:Model} {B:Around} {Φ:End→Shared→Prop} {k:Code} {l:List Frame} {s:Shared}
theorem qaM {α:Type} {m:Sem α} {f:α→Sem Fin} {e:Value→Sem Fin} {gd:Bool→Bool} {lv:List Value→List Value}
  (h:wpAny M (B.over k l) m (λa z=>Sg M B Φ k (f a) l z) (λx z=>Sg M B Φ k (e x) l z) s):Sg M B Φ k (m.wrap f e gd lv) l s:=λG p hk hw=>by
 subst hk
 exact runs_wrap_of_wp f e gd lv m (h _ p (hw.over l)) (λ_ q _ z=>z G q rfl hw) λ_ q _ z=>z G q rfl hw
theorem zV {α β:Type} {m:Sem α} {f:α→Sem β} {f':β→Sem Fin} {e':Value→Sem Fin} {gd:Bool→Bool} {lv:List Value→List Value}
  (h:wpAny M (B.over k l) m (λa z=>Sg M B Φ k ((f a).wrap f' e' gd lv) l z) (λx z=>Sg M B Φ k (e' x) l z) s):Sg M B Φ k ((m >>= f).wrap f' e' gd lv) l s:=by
 have q:=qaM (f:=λa=>(f a).wrap f' e' gd lv) (e:=λx=>(Sem.raise x).wrap f' e' gd lv) (gd:=λb=>gd (id b)) (lv:=λb=>lv (id b)) h
 rwa [Sem.bind_eq_wrap',Sem.wrap_wrap]
theorem yp {k':Code} (hq:k'.quiet=true) (h:Sg M B Φ k' (M.den k') l s):Sg M B Φ k (.pure (.again k')) l s:=λG p hk hw=>by
 subst hk
 have ⟨x,z,r,q⟩:=h (G.goto k') p rfl (hw.goto k')
 exact ⟨x,z,Runs.head (c₁:=k') (λ_ _ y=>.again hq y) r,q⟩
theorem qix (r:Result) (h:Φ (.ret r) s):Sg M B Φ k (leafOf r) [] s:=λG p hk hw=>⟨_,s,Runs.leaf r,h⟩
theorem qj0 {p':Pos} {f:Unit→Sem Fin} (h:Sg M B Φ k (f ()) l s):Sg M B Φ k (.at p' f) l s:=by
 have q:Sg M B Φ k ((standAt p').wrap f .raise id id) l s:=qaM (wpAny_standAt h)
 exact q
theorem qeP {v:Value} {vs:List Value} {f:Resume→Sem Fin} (h:∀ p,Φ (.susp v false vs f k p []) s):Sg M B Φ k (.yield v false vs f) [] s:=λG p hk hw=>by
 subst hk
 exact ⟨_,s,Runs.yield' [] rfl,h p⟩
end
noncomputable def Go (M:Model) (B:Around) (Φ:End→Shared→Prop) (s:Shared):GenState→Prop
 | .fresh k=>Sg M B Φ k (M.den k) [] s
 | .suspended f _ k _ l _=>Sg M B Φ k (f (.send .none)) l s
 | _=>False
theorem qeQ {prog:Program} {w:World} {A:Around} {E:Value→Shared→Prop} {s:Shared} {a:Addr} {n:Nat} {gs:GenState} {Φ:End→Shared→Prop} {Q:Option Value→Shared→Prop} (hh:A.handled=none) (hl:s.heap.NoLimit) (hd:A.depth<recursionLimit)
  (ha:s.heap.IsGen a n) (hs:s.gens[n]?=some gs) (hg:Go (model prog w) A.in1 Φ (s.setGen n .running) gs)
  (hx:∀ x z,Φ x z→match x with
   | .ret r=>r=.ok .next∧∀ h',(∀ b o,z.heap.get? b=some o→h'.get? b=some o)→Q none { z.setGen n .finished with heap:=h' }
   | .susp v g vs f k p l=>(End.susp v g vs f k p l).quiet=true∧Q (some v) (z.setGen n (End.susp v g vs f k p l).genState)) :
  wpAny (model prog w) A (pyNext (.ref a)) Q E s:=by
 have wake:∀ {α:Type} {l:List Value} {f:GenResult→Sem α} {R:α→Shared→Prop} {E':Value→Shared→Prop},(∀ x z,Φ x z→x.quiet=true∧wpAny (model prog w) A.in1 (f x.result) R E' (z.setGen n x.genState))→wpAny (model prog w) A.in1 (.resume n (.send .none) l f) R E' s:=by
  intro α l f R E' hf G p hG
  rw [Sem.wp_resume]
  cases gs with
  | fresh k =>
   obtain ⟨x,z,r,q⟩:=hg (G.wake k p) p rfl (hG.wake k p)
   exact ⟨x.result,z.setGen n x.genState,by unfold Wakes;rw [hs];exact ⟨x,z,r,(hf x z q).1,rfl,rfl⟩,(hf x z q).2 G p hG⟩
  | suspended f0 l0 k p0 fs0 cl =>
   obtain ⟨x,z,r,q⟩:=hg (G.wake k p) p0 rfl (hG.wake k p)
   exact ⟨x.result,z.setGen n x.genState,by unfold Wakes;rw [hs];exact ⟨x,z,r,(hf x z q).1,rfl,rfl⟩,(hf x z q).2 G p hG⟩
  | running=>exact hg.elim
  | finished=>exact hg.elim
 unfold pyNext
 refine wA (wpAny_attempt ?_)
 refine wb (name:=Str.ofString "__next__") ha.typeIs slot_gen_next ?_
 refine wj slot_gen_next ha.typeIs entry_gen_next (?_:wpAny _ A.in1 (Builtin.Generator.genWake (.ref a) (.send .none)) _ _ s) (args_gen_next _)
 unfold Builtin.Generator.genWake
 refine wA (wp (wpAny_genNumber ha ?_))
 refine wA (wpAny_genState hs ?_)
 have go:∀ x z,Φ x z→x.quiet=true:=λx z q=>by
  cases x with
  | ret r=>rfl
  | susp v g vs f k p l=>exact (hx _ _ q).1
 cases gs with
 | running=>exact hg.elim
 | finished=>exact hg.elim
 | _ =>
  refine wA (wpAny_roomToWake hl hd (wake λx z q=>⟨go x z q,?_⟩))
  cases x with
  | susp v g vs f k p l=>exact wC ⟨v,rfl,wC (hx _ _ q).2⟩
  | ret r =>
   obtain ⟨e,q'⟩:=hx _ _ q
   subst e
   show wpAny _ A.in1 (newExc (.type "StopIteration") [] >>= _) _ _ (z.setGen n .finished)
   refine wA ?_
   unfold newExc newTuple
   refine wA (wT ?_ (by size_fits))
   refine wA (wpAny_of_eq (t:=firstArgMember _ _) (a:=Value.none) (by first | rfl | (simp only [firstArgMember];rfl)) ?_)
   refine wT ?_ (by size_fits)
   unfold raiseNew
   refine wA (wA (wpAny_handled ?_))
   rw [show A.in1.handled=none from hh]
   refine wpAny_throw (wA (wpAny_isInstance (T:="StopIteration") (b:=true) ⟨_,wH _ rfl,rfl⟩ isSubtype_stop ?_))
   exact wC (q' _ λb o hb=>wB _ (wB _ hb))
end R
namespace R
open PySem PySem.Spec L2 SeqAt
open PyProof.Rows hiding St
inductive GN where
 | fin (S:Sr) | yl (i:Nat) (ρ:En) (v:D) (S:Sr) | bad
noncomputable def grdN (gu:Sr→Prop) (S:Sr) (r:GN):GN:=@ite _ (gu S) (Classical.propDecidable _) r .bad
theorem yA {gu:Sr→Prop} {S:Sr} (h:gu S) (r:GN):grdN gu S r=r:=wJ h
theorem yV {gu:Sr→Prop} {S:Sr} {r:GN} (h:grdN gu S r≠.bad):gu S:=Classical.byContradiction λn=>h (wK n)
noncomputable def gnx (gu:Sr→Prop) (g:D→En→Sr→Res En) (mt:En→Sr→Res Bool) (me:En→Sr→Res D):Nat→List D→En→Sr→GN
 | _,[],_,S=>grdN gu S (.fin S)
 | i,d::r,ρ,S=>grdN gu S <| match g d ρ S with
  | .ok ρ1 S1=>match mt ρ1 S1 with
   | .ok true S2=>match me ρ1 S2 with
    | .ok v S3=>.yl (i+1) ρ1 v S3
    | _=>.bad
   | .ok false S2=>gnx gu g mt me (i+1) r ρ1 S2
   | _=>.bad
  | _=>.bad
section
variable {X:Cx} {pos:Pos}
structure Sus (X:Cx) (J:It) (tn:Nat→Heap→Prop) (fp:List Addr) (ds:List D) (gu:Sr→Prop) (i:Nat) (ρ:En) (S:Sr) (ι:List Addr) (H:Hp) (pins:List (Addr × Obj)) (s:Shared):Prop where
 inv:∃ σ,Inv X pins σ H s∧EnR ι H ρ σ
 sto:Sto ι H S
 at':tn i s.heap
 le:i≤ds.length
 fz:∀ b∈fp,H b=none
 it:ItG ι H J ds gu
 pf:∀ p∈pins,p.1 ∉ fp
noncomputable def Pw (X:Cx) (J:It) (tn:Nat→Heap→Prop) (fp:List Addr) (ds:List D) (gu:Sr→Prop) (M:Model) (B:Around) (g:D→En→Sr→Res En) (mt:En→Sr→Res Bool) (me:En→Sr→Res D):Nat→GenState→Nat→En→Sr→Prop
 | 0,_,_,_,_=>True
 | n+1,gs,i,ρ,S=>∀ pins ι H s,Sus X J tn fp ds gu i ρ S ι H pins s→gnx gu g mt me i (ds.drop i) ρ S≠.bad→Go M B (λx z=>match x with
  | .ret r=>r=.ok .next∧∃ S' ι' H' σ',gnx gu g mt me i (ds.drop i) ρ S=.fin S'∧Inv X pins σ' H' z∧Stp ι H ι' H'∧Sto ι' H' S'
  | .susp v gd vs f k p l=>(End.susp v gd vs f k p l).quiet=true∧∃ i' ρ' d S' ι' H' y,gnx gu g mt me i (ds.drop i) ρ S=.yl i' ρ' d S'∧Stp ι H ι' H'∧Den ι' H' d y∧RelV y v∧Sus X J tn fp ds gu i' ρ' S' ι' H' pins z ∧
   Pw X J tn fp ds gu M B g mt me n (End.susp v gd vs f k p l).genState i' ρ' S') s gs
noncomputable def Pz (X:Cx) (J:It) (tn:Nat→Heap→Prop) (fp:List Addr) (ds:List D) (gu:Sr→Prop) (M:Model) (B:Around) (g:D→En→Sr→Res En) (mt:En→Sr→Res Bool) (me:En→Sr→Res D) (n:Nat) (r0:GN) (pins:List (Addr × Obj)) (ι:List Addr) (H:Hp):End→Shared→Prop:=λx z=>match x with
  | .ret r=>r=.ok .next∧∃ S' ι' H' σ',r0=.fin S'∧Inv X pins σ' H' z∧Stp ι H ι' H'∧Sto ι' H' S'
  | .susp v gd vs f k p l=>(End.susp v gd vs f k p l).quiet=true∧∃ i' ρ' d S' ι' H' y,r0=.yl i' ρ' d S'∧Stp ι H ι' H'∧Den ι' H' d y∧RelV y v∧Sus X J tn fp ds gu i' ρ' S' ι' H' pins z ∧
   Pw X J tn fp ds gu M B g mt me n (End.susp v gd vs f k p l).genState i' ρ' S'
theorem qeR {tg elt iter:Expr} {ifs:List Expr} {sc:Scope} {J:It} {fp:List Addr} {it:Addr} {tn:Nat→Heap→Prop} {g:D→En→Sr→Res En} {mt:En→Sr→Res Bool} {me:En→Sr→Res D} {ds:List D} {gu:Sr→Prop} {B:Around}
  (hxe:X.xe=λ_ _=>False) (hc:X.calm=true) (hex:X.ex=fp) (hpf:∀ p∈X.pn,p.1 ∉ fp) (hA:X.A=B.over (.compLoop (.GeneratorExp elt [⟨tg,iter,ifs,0⟩] sc pos) 0 (.ref it) .none X.env) []) (hco:X.env.scope.isCoroutine=false)
  (T':Turn X.prog X.w X.K tg J fp it tn) (hg:PG X tg (TGt g)) (ht:PTl X ifs (TB mt)) (he:PE X elt (T me)):∀ (n m i:Nat) (ρ:En) (S:Sr) (pins:List (Addr × Obj)) (ι0:List Addr) (H0:Hp) (ι:List Addr) (H:Hp) (s:Shared),ds.length-i=m →
   Sus X J tn fp ds gu i ρ S ι H pins s→Stp ι0 H0 ι H→gnx gu g mt me i (ds.drop i) ρ S≠.bad →
   Sg (model X.prog X.w) B (Pz X J tn fp ds gu (model X.prog X.w) B g mt me n (gnx gu g mt me i (ds.drop i) ρ S) pins ι0 H0) (.compLoop (.GeneratorExp elt [⟨tg,iter,ifs,0⟩] sc pos) 0 (.ref it) .none X.env)
    ((model X.prog X.w).den (.compLoop (.GeneratorExp elt [⟨tg,iter,ifs,0⟩] sc pos) 0 (.ref it) .none X.env)) [] s:=by
 intro n
 induction n using Nat.strongRecOn with
 | ind n ihn =>
 intro m
 induction m with
 | zero =>
  intro i ρ S pins ι0 H0 ι H s hm U q0 hb
  obtain ⟨⟨σ,I,er⟩,st,t1,le,f1,ok,pf⟩:=U
  have hi:i=ds.length:=by omega
  subst hi
  have stat:∀ {H':Hp},(∀ b∈fp,H' b=none)→∀ b∈fp,FpOk X pins H' b:=λhn b hb=>by
   have hb':b∈X.ex:=by rw [hex];exact hb
   exact ⟨hn b hb,(I.ok.exf b hb').1,λz=>I.ok.exfs b hb' z,.inl hb',(I.ok.exf b hb').2,λp hp z=>(vC.mp hp).elim (λy=>hpf p y (z ▸ hb)) λy=>pf p y (z ▸ hb)⟩
  show Sg _ B _ _ ((compTurn (.GeneratorExp elt [⟨tg,iter,ifs,0⟩] sc pos) 0 (.ref it) .none X.env).onRaise (leaving X.env)) [] s
  rw [compTurn_gen,Sem.onRaise_eq_wrap]
  refine zV (wpAny_standAt (zV ?_))
  rw [← hA]
  have hg0:gu S:=by
   rw [List.drop_of_length_le (wG _)] at hb
   exact yV hb
  refine thnF (T'.done X rfl rfl rfl hc _ pins s σ H _ I (stat f1) t1 (ok.stop ι H S (Stp.refl _ _) st hg0)) λr s2 ⟨hr,I2⟩=>?_
  subst hr
  refine qix (.ok .next) ⟨rfl,S,ι,H,σ,?_,I2,q0,st⟩
  rw [List.drop_of_length_le (wG _)];exact yA hg0 _
 | succ m ihm =>
  intro i ρ S pins ι0 H0 ι H s hm U q0 hb
  obtain ⟨⟨σ,I,er⟩,st,t1,le,f1,ok,pf⟩:=U
  have hlt:i<ds.length:=by omega
  have stat:∀ {H':Hp},(∀ b∈fp,H' b=none)→∀ b∈fp,FpOk X pins H' b:=λhn b hb=>by
   have hb':b∈X.ex:=by rw [hex];exact hb
   exact ⟨hn b hb,(I.ok.exf b hb').1,λz=>I.ok.exfs b hb' z,.inl hb',(I.ok.exf b hb').2,λp hp z=>(vC.mp hp).elim (λy=>hpf p y (z ▸ hb)) λy=>pf p y (z ▸ hb)⟩
  have hd:ds[i]?=some ds[i]:=wD hlt
  have ed:ds.drop i=ds[i]::ds.drop (i+1):=List.drop_eq_getElem_cons hlt
  have hg0:gu S:=by
   rw [ed] at hb
   exact yV hb
  obtain ⟨go,yl⟩:=ok.go i _ ι H S (Stp.refl _ _) st hg0 hd
  show Sg _ B _ _ ((compTurn (.GeneratorExp elt [⟨tg,iter,ifs,0⟩] sc pos) 0 (.ref it) .none X.env).onRaise (leaving X.env)) [] s
  rw [compTurn_gen,Sem.onRaise_eq_wrap]
  refine zV (wpAny_standAt (zV ?_))
  rw [← hA]
  refine thnF (T'.item X rfl rfl rfl hc i pins s σ H _ I (stat f1) t1 go) λr s2 ⟨u,hr,h2⟩=>?_
  subst hr
  refine zV ?_
  rw [← hA]
  refine thnF h2 λ_ s3 ⟨x,H3,I3,r3,y3,t3,f3⟩=>?_
  obtain ⟨q3,kd3⟩:=yl x H3 y3
  obtain ⟨k3,d3⟩:=kd3 S st
  have I3':=I3.pinned (stat f3) (T'.obj _ _ t3)
  rw [ed] at hb ⊢
  unfold gnx at hb ⊢
  rw [yA hg0] at hb ⊢
  cases z1:g ds[i] ρ S with
  | no=>rw [z1] at hb;exact absurd rfl hb
  | err=>rw [z1] at hb;exact absurd rfl hb
  | ok ρ2 S2 =>
   rw [z1] at hb
   dsimp only at hb ⊢
   refine zV ?_
   rw [← hA]
   refine wg (hg _ s3 σ H3 x u (λσ4 H4=>∃ ι4,Stp ι H3 ι4 H4∧Sto ι4 H4 S2∧EnR ι4 H4 ρ2 σ4) I3' r3 ⟨ι,S,ρ,ds[i],er.mono q3,k3,d3,?_⟩) (λ_ s4 ⟨σ4,H4,I4,ι4,q4,st4,er4⟩=>?_) λ_ _ z=>by rw [hxe] at z;exact z.elim
   ·rw [z1];exact λσ4 ι4 H4 q4 st4 er4=>⟨ι4,q4,st4,er4⟩
   cases z2:mt ρ2 S2 with
   | no=>rw [z2] at hb;exact absurd rfl hb
   | err=>rw [z2] at hb;exact absurd rfl hb
   | ok b S3 =>
    rw [z2] at hb
    refine zV ?_
    rw [← hA]
    refine wg (ht _ s4 σ4 H4 (λb' H5=>b'=b∧∃ ι5,Stp ι4 H4 ι5 H5∧Sto ι5 H5 S3) I4 ⟨ι4,S2,ρ2,er4,st4,?_⟩) (λb' s5 ⟨H5,I5,eb,ι5,q5,st5⟩=>?_) λ_ _ z=>by rw [hxe] at z;exact z.elim
    ·rw [z2];exact λb' ι5 H5 q5 st5 eb=>⟨(show b=b' from eb).symm,ι5,q5,st5⟩
    subst eb
    have sus:∀ {σ7:St} {H7:Hp} {s7:Shared} {ι7:List Addr} {S7:Sr},Inv X (pins++pinsAt fp s3.heap) σ7 H7 s7→Stp ι H ι7 H7→EnR ι7 H7 ρ2 σ7→Sto ι7 H7 S7→Sus X J tn fp ds gu (i+1) ρ2 S7 ι7 H7 pins s7:=by
     intro σ7 H7 s7 ι7 S7 I7 q7 er7 st7
     refine ⟨⟨σ7,I7.unpinned,er7⟩,st7,T'.keep _ _ _ t3 λb hb o eo=>(I7.pin (b,o) (wV _ (wV _ (zq hb eo)))).1,hlt,λb hb=>?_,ok.mono q7,pf⟩
     obtain ⟨o,eo,_⟩:=T'.obj _ _ t3 b hb
     exact (I7.pin (b,o) (wV _ (wV _ (zq hb eo)))).2.1
    cases b' with
    | false =>
     dsimp only at hb ⊢
     exact yp rfl (ihm (i+1) ρ2 S3 pins ι0 H0 ι5 H5 s5 (by omega) (sus I5 ((q3.trans q4).trans q5) (er4.mono q5) st5) (q0.trans ((q3.trans q4).trans q5)) hb)
    | true =>
     dsimp only at hb ⊢
     cases z3:me ρ2 S3 with
     | no=>rw [z3] at hb;exact absurd rfl hb
     | err=>rw [z3] at hb;exact absurd rfl hb
     | ok v S4 =>
      dsimp only
      have hy:∀ v,yieldOut X.env v=yieldValue v:=λv=>by simp only [yieldOut,hco,Bool.false_eq_true,if_false]
      simp only [hy,if_true]
      rw [Sem.bind_eq_wrap',Sem.bind_eq_wrap',Sem.wrap_wrap,Sem.wrap_wrap]
      refine qaM ?_
      rw [← hA]
      refine wg (he _ s5 σ4 H5 (λy H6=>∃ ι6,Stp ι5 H5 ι6 H6∧Sto ι6 H6 S4∧Den ι6 H6 v y) I5 ⟨ι5,S3,ρ2,er4.mono q5,st5,?_⟩) (λy' s6 ⟨y,H6,I6,ry,ι6,q6,st6,dv⟩=>?_) λ_ _ z=>by rw [hxe] at z;exact z.elim
      ·rw [z3];exact λy ι6 H6 q6 st6 dv=>⟨ι6,q6,st6,dv⟩
      have tot:=((q3.trans q4).trans q5).trans q6
      refine qj0 (qeP λp=>⟨rfl,i+1,ρ2,v,S4,ι6,H6,y,rfl,q0.trans tot,dv,ry,sus I6 tot (er4.mono (q5.trans q6)) st6,?_⟩)
      cases n with
      | zero=>trivial
      | succ n' =>
       intro pins' ι' H' s' U' hb'
       exact yp rfl (ihn n' (Nat.lt_succ_self _) _ (i+1) ρ2 S4 pins' ι' H' ι' H' s' rfl U' (Stp.refl _ _) hb')
end
end R
namespace R
open PySem PySem.Spec L2 SeqAt
open PyProof.Rows hiding St
section
variable {gu:Sr→Prop} {g:D→En→Sr→Res En} {mt:En→Sr→Res Bool} {me:En→Sr→Res D}
theorem jM:∀ (l:List D) (i:Nat) (ρ:En) (S:Sr) {i':Nat} {ρ':En} {v:D} {S':Sr},gnx gu g mt me i l ρ S=.yl i' ρ' v S'→i<i'∧i'≤i+l.length
 | [],_,_,S,_,_,_,_,h=>by
  rw [show gnx gu g mt me _ [] _ S=grdN gu S (.fin S) from rfl,yA (yV (by rw [show grdN gu S (.fin S)=_ from h];intro z;cases z))] at h
  cases h
 | d::r,i,ρ,S,i',ρ',v,S',h=>by
  unfold gnx at h
  rw [yA (yV (by rw [h];intro z;cases z))] at h
  split at h
  ·split at h
   ·split at h
    ·cases h;simp
    ·cases h
   ·have:=jM r (i+1) _ _ h
    simp only [w5]
    lia
   ·cases h
  ·cases h
noncomputable def gen1 {β:Type} (step:β→D→Option (β ⊕ D)) (fin:β→Option D) (rest:Nat→En→β→Sr→Res D) (b:β):GN→Res D
 | .fin S=>ofO (fin b) S
 | .yl i ρ v S=>match step b v with
  | some (.inl b')=>rest i ρ b' S
  | some (.inr x)=>.ok x S
  | none=>.no
 | .bad=>.no
theorem qcU {β:Type} {step:β→D→Option (β ⊕ D)} {fin:β→Option D}:∀ (l:List D) (i:Nat) (ρ:En) (b:β) (S:Sr) {d:D} {S':Sr},genLoopG gu g mt me step fin l ρ b S=.ok d S' →
  gen1 step fin (λj ρ b S=>genLoopG gu g mt me step fin (l.drop (j-i)) ρ b S) b (gnx gu g mt me i l ρ S)=.ok d S'
 | [],_,_,_,S,d,S',h=>by
  have hg:gu S:=Classical.byContradiction λn=>by
   unfold genLoopG at h
   rw [yn n] at h;cases h
  unfold genLoopG at h
  rw [zP hg] at h
  unfold gnx
  rw [yA hg]
  exact h
 | x::r,i,ρ,b,S,d,S',h=>by
  have hg:gu S:=Classical.byContradiction λn=>by
   unfold genLoopG at h
   rw [yn n] at h;cases h
  unfold genLoopG at h
  rw [zP hg] at h
  unfold gnx
  rw [yA hg]
  cases z1:g x ρ S with
  | no=>rw [z1] at h;cases h
  | err=>rw [z1] at h;cases h
  | ok ρ1 S1 =>
   rw [z1,Res.bind_ok] at h
   dsimp only
   cases z2:mt ρ1 S1 with
   | no=>rw [z2] at h;cases h
   | err=>rw [z2] at h;cases h
   | ok t S2 =>
    rw [z2,Res.bind_ok] at h
    cases t with
    | true =>
     rw [wJ rfl] at h
     dsimp only
     cases z3:me ρ1 S2 with
     | no=>rw [z3] at h;cases h
     | err=>rw [z3] at h;cases h
     | ok v S3 =>
      rw [z3,Res.bind_ok] at h
      have e:i+1-i=1:=by lia
      simp only [gen1,e,List.drop_succ_cons,List.drop_zero]
      exact h
    | false =>
     rw [wK (by decide)] at h
     dsimp only
     have q:=qcU r (i+1) ρ1 b S2 h
     cases z4:gnx gu g mt me (i+1) r ρ1 S2 with
     | fin S3=>rw [z4] at q;exact q
     | bad=>rw [z4] at q;cases q
     | yl j ρ' v S3 =>
      rw [z4] at q
      have:=jM r (i+1) ρ1 S2 z4
      have e:j-i=j-(i+1)+1:=by lia
      simp only [gen1] at q ⊢
      rw [e,List.drop_succ_cons]
      exact q
theorem yq {β:Type} {step:β→D→Option (β ⊕ D)} {fin:β→Option D} {ds:List D} {gu:Sr→Prop} {i:Nat} {ρ:En} {b:β} {S:Sr} {d:D} {S':Sr} (h:genLoopG gu g mt me step fin (ds.drop i) ρ b S=.ok d S') :
  gen1 step fin (λj ρ b S=>genLoopG gu g mt me step fin (ds.drop j) ρ b S) b (gnx gu g mt me i (ds.drop i) ρ S)=.ok d S':=by
 have q:=qcU _ i ρ b S h
 cases z:gnx gu g mt me i (ds.drop i) ρ S with
 | fin S3=>rw [z] at q;exact q
 | bad=>rw [z] at q;cases q
 | yl j ρ' v S3 =>
  rw [z] at q
  have:=jM _ i ρ S z
  simp only [gen1] at q ⊢
  rw [List.drop_drop] at q
  have e:i+(j-i)=j:=by lia
  rw [e] at q
  exact q
end
theorem qgG {s:Shared} {n:Nat} {x y:GenState}:(s.setGen n x).setGen n y=s.setGen n y:=by
 unfold Shared.setGen
 simp
theorem GK.done {g0 g:Array GenState} {x:GenState} (h:GK (g0.push .running) (g.setIfInBounds g0.size .running)) (e:g[g0.size]?=some x) (hx:x.bare=true):GK g0 g:=by
 refine ⟨λy hy=>?_,?_,λi hi=>?_⟩
 ·obtain ⟨i,hi,rfl⟩:=Array.mem_iff_getElem.mp hy
  by_cases q:i=g0.size
  ·subst q
   rw [Array.getElem?_eq_getElem hi] at e
   cases e;exact hx
  ·refine h.bare _ ?_
   have:(g.setIfInBounds g0.size .running)[i]'(by simpa using hi)=g[i]:=by
    rw [Array.getElem_setIfInBounds]
    rw [wK (Ne.symm q)]
   rw [← this]
   exact Array.getElem_mem _
 ·have:=h.sz
  simp at this
  lia
 ·have:=h.old i (by simp;lia)
  rw [Array.getElem?_setIfInBounds_ne (by lia)] at this
  rw [this,Array.getElem?_push_lt hi]
  exact (Array.getElem?_eq_getElem hi).symm
theorem qeS {X:Cx} {pins:List (Addr × Obj)} {σ:St} {H:Hp} {s:Shared} (I:Inv X pins σ H s) {g':Array GenState} (h:GK X.s₀.gens g'):Inv X pins σ H { s with gens:=g' } :=
 ⟨I.ok,I.os,h,I.base,I.loc,I.cell,I.free,I.freeC,I.pin,I.hok,I.len⟩
section
variable {X:Cx}
structure Cs (X:Cx) (J:It) (tn:Nat→Heap→Prop) (fp:List Addr) (ds:List D) (gu:Sr→Prop) (B:Around) (g:D→En→Sr→Res En) (mt:En→Sr→Res Bool) (me:En→Sr→Res D) (n k i:Nat) (ρ:En) (S:Sr) (ι:List Addr) (H:Hp) (pins:List (Addr × Obj)) (s:Shared):Prop where
 sus:Sus X J tn fp ds gu i ρ S ι H pins (s.setGen n .running)
 st:∃ gs,s.gens[n]?=some gs∧gs.bare=true∧Pw X J tn fp ds gu (model X.prog X.w) B g mt me k gs i ρ S
theorem qcV {J:It} {tn:Nat→Heap→Prop} {fp:List Addr} {ds:List D} {gu:Sr→Prop} {A:Around} {g:D→En→Sr→Res En} {mt:En→Sr→Res Bool} {me:En→Sr→Res D} {n k i:Nat} {ρ:En} {S:Sr} {ι:List Addr} {H:Hp} {pins:List (Addr × Obj)} {s:Shared} {a:Addr} {o:Obj} {g0:Array GenState} {Q:Option Value→Shared→Prop} {E:Value→Shared→Prop}
  (hh:A.handled=none) (hd:A.depth<recursionLimit) (ho:(a,o)∈X.pn) (hg:∀ h:Heap,h.get? a=some o→h.IsGen a n) (h0:X.s₀.gens=g0.push .running) (hn:n=g0.size)
  (C:Cs X J tn fp ds gu A.in1 g mt me n (k+1) i ρ S ι H pins s) (hb:gnx gu g mt me i (ds.drop i) ρ S≠.bad)
  (fin:∀ S' ι' H' σ' z,gnx gu g mt me i (ds.drop i) ρ S=.fin S'→Inv X pins σ' H' (z.setGen n .running)→GK g0 z.gens→Stp ι H ι' H'→Sto ι' H' S'→Q none z)
  (yl:∀ i' ρ' d S' ι' H' y v z,gnx gu g mt me i (ds.drop i) ρ S=.yl i' ρ' d S'→Stp ι H ι' H'→Den ι' H' d y→RelV y v→Cs X J tn fp ds gu A.in1 g mt me n k i' ρ' S' ι' H' pins z→Q (some v) z) :
  wpAny (model X.prog X.w) A (pyNext (.ref a)) Q E s:=by
 obtain ⟨U,gs,hs,hbr,pw⟩:=C
 obtain ⟨⟨σ,I,er⟩,_⟩:=id U
 have hp:s.heap.get? a=some o:=(I.pin (a,o) (List.mem_append_left _ ho)).1
 refine qeQ hh I.nolimit hd (hg _ hp) hs (pw pins ι H _ U hb) λx z q=>?_
 have hsz:∀ {σ':St} {H':Hp},Inv X pins σ' H' z→z.gens[n]?=some .running∧n<z.gens.size:=λ{σ' H'} J=>by
  have e:=J.bare.old n (by rw [h0,hn];simp)
  rw [h0,hn] at e
  rw [hn]
  have e2:(g0.push GenState.running)[g0.size]?=some .running:=by simp
  rw [e2] at e
  exact ⟨e,by
   rcases Nat.lt_or_ge g0.size z.gens.size with z' | z'
   ·exact z'
   ·rw [Array.getElem?_eq_none z'] at e;cases e⟩
 have bk:∀ {σ':St} {H':Hp} (y:GenState),Inv X pins σ' H' z→Inv X pins σ' H' ((z.setGen n y).setGen n .running):=λ{σ' H'} y J=>by
  rw [qgG]
  have e:(z.gens.setIfInBounds n .running)=z.gens:=by
   obtain ⟨e1,e2⟩:=hsz J
   apply Array.ext
   ·simp
   ·intro j h1 h2
    rw [Array.getElem_setIfInBounds]
    split
    ·rename_i q
     subst q
     rw [Array.getElem?_eq_getElem e2] at e1
     exact (Option.some.inj e1).symm
    ·rfl
  have:=qeS J (g':=z.gens.setIfInBounds n .running) (by rw [e];exact J.bare)
  exact this
 cases x with
 | ret r =>
  obtain ⟨e,S',ι',H',σ',e1,J,s1,st1⟩:=q
  refine ⟨e,λh' hk=>fin S' ι' H' σ' _ e1 ?_ ?_ s1 st1⟩
  ·have:=(bk .finished J).kept (h':=h') (t':=z.toks) hk
   exact this
  ·refine GK.done (x:=.finished) (g:=(z.gens.setIfInBounds n .finished)) ?_ ?_ rfl
   ·have:=(bk .finished J).bare
    rw [h0] at this
    rw [← hn]
    exact this
   ·rw [← hn]
    obtain ⟨_,e2⟩:=hsz J
    simp [e2]
 | susp v gd vs f k' p l =>
  obtain ⟨qt,i',ρ',d,S',ι',H',y,e1,s1,dv,ry,U',pw'⟩:=q
  refine ⟨qt,yl i' ρ' d S' ι' H' y v _ e1 s1 dv ry ⟨?_,_,?_,End.bare_of_quiet qt,pw'⟩⟩
  ·obtain ⟨⟨σ',J,er'⟩,a1,a2,a3,a4,a5,a6⟩:=U'
   exact ⟨⟨σ',bk _ J,er'⟩,a1,a2,a3,a4,a5,a6⟩
  ·obtain ⟨⟨σ',J,er'⟩,_⟩:=U'
   obtain ⟨_,e2⟩:=hsz J
   show (z.gens.setIfInBounds n _)[n]?=_
   simp [e2]
end
end R
namespace R
open PySem PySem.Spec L2 SeqAt
open PyProof.Rows hiding St
section
variable {X:Cx} {pos:Pos}
theorem qcl {K:PySem.W.Frag} {h:Heap} (kin:K.In h) {c T:Addr} {ps:Array Value} (e:codeTab K c T=true) (hT:h.get? T=some { cls:=.none,data:=.fields ps }) (tr:TriplesOk ps.toList):h.IsCode c T ps∧h.TableAt c T ps:=by
 unfold codeTab at e
 split at e
 ·rename_i cls d vs sl hl
  simp only [wL,beq_iff_eq] at e
  obtain ⟨⟨e1,_⟩,e2⟩:=e
  split at e2
  ·rename_i a b x1 x2 x3 x4 x5 x6 x7 h11 h11' h18 h7 h9 h10
   simp only [wL,beq_iff_eq,bne_iff_ne] at e2
   obtain ⟨⟨ea,eb⟩,ne⟩:=e2
   subst ea
   subst eb
   have ho:=kin _ _ hl
   exact ⟨⟨_,vs,_,_,_,_,_,_,_,_,ho,rfl,h11,h18,h7,h9,h10,hT,rfl,tr,ne⟩,⟨_,vs,ho,e1,rfl,h11'⟩,hT⟩
  ·cases e2
 ·cases e
theorem qeT {M:Model} {A:Around} {E:Value→Shared→Prop} {pins:List (Addr × Obj)} {σ:St} {H:Hp} {s:Shared} {c T:Addr} {q:Str} {sc:Scope} (I:Inv X pins σ H s) (hc:X.env.code=.ref c) (ht:codeTab X.K c T=true) :
  wpAny M A (genexprCode X.env pos q sc) (λ_ s'=>∃ H',Inv X pins σ H' s'∧s'.gens=s.gens∧(∀ ι,Stp ι H ι H')∧(∀ ι S,Sto ι H S→Sto ι H' S)∧∀ b o,s.heap.get? b=some o→H b=none→s'.heap.get? b=some o∧H' b=none) E s:=by
 obtain ⟨ps0,h0⟩:=I.ok.tab c T ht
 obtain ⟨mo,hT⟩:=I.base.tbls T ps0 h0
 generalize ps0++mo=ps at hT
 obtain ⟨eT,tr⟩:=I.hok T _ hT
 obtain ⟨ic,ta⟩:=qcl I.kIn ht eT tr
 cases z:codeAmong pos ps.toList with
 | some v=>exact wpAny_genexprCode_hit hc ic z ⟨H,I,rfl,λ_=>Stp.refl _ _,λ_ _ x=>x,λb o e n=>⟨e,n⟩⟩
 | none =>
  refine wpAny_genexprCodeX hc ic ta z λc' h' tk hx _ _ ic' _ ta' _=>?_
  generalize hps:ps++#[rawInt pos.line,rawInt pos.col,.ref c']=ps' at ic' ta'
  have nT:∀ {b:Addr} {u:HO},H b=some u→(∀ x,u≠.tbl x)→b≠T:=λ{b u} e n z=>by
   subst z;rw [hT] at e;cases e;exact n _ rfl
  have fT:∀ {b:Addr},H b=none→b≠T:=λ{b} e z=>by subst z;rw [hT] at e;cases e
  have tr':TriplesOk ps'.toList:=by
   obtain ⟨_,_,_,_,_,_,_,_,_,_,_,_,_,_,_,_,_,e1,e2,t,_⟩:=ic'
   exact t
  have ok':HOk X.prog X.w (upd H T (.tbl ps')) h':=λb u e=>by
   by_cases q:b=T
   ·subst q
    rw [qC] at e;cases e
    exact ⟨ta'.2,tr'⟩
   ·rw [qk q] at e
    refine (I.hok b u e).stay (λd v hd eo=>hx d v ?_ eo) (λd e'=>by rw [qk (nT e' (by intro _ z;cases z))];exact e') λd xs e'=>by rw [qk (nT e' (by intro _ z;cases z))];exact e'
    rcases hd with y | y
    ·subst y;exact q
    ·exact nT y (by intro _ z;cases z)
  have I':Inv X pins σ (upd H T (.tbl ps')) { s with heap:=h',toks:=tk }:=by
   refine I.step (g':=s.gens) (d':=s.drawn) (ch:=[]) (λ_ z=>nomatch z) (λb o _ _ _ e n=>hx b o (fT n) e) (λb o _ _ _ e n=>⟨o.slots,hx b o (fT n) e⟩) (λb o _ e n=>by rw [qk (fT n)];exact n)
    (λb o _ e=>?_) (λb xs e=>by rw [qk (nT e (by intro _ z;cases z))];exact e) (λb o u e=>by rw [qk (nT e (by intro _ z;cases z))];exact e) (λb qs e=>?_) (λm hm=>?_) ok' I.bare.self
   ·by_cases q:b=T
    ·subst q;exact ⟨_,ta'.2⟩
    ·exact ⟨o,hx b o q e⟩
   ·by_cases q:b=T
    ·subst q
     rw [hT] at e;cases e
     exact ⟨#[rawInt pos.line,rawInt pos.col,.ref c'],by rw [qC,← hps]⟩
    ·exact ⟨#[],by rw [qk q,e];simp⟩
   ·obtain ⟨o,es,ep,ho,r⟩:=hm
    exact ⟨o,es,ep,hx _ o (fT I.free) ho,r⟩
  have sp:∀ ι,Stp ι H ι (upd H T (.tbl ps')):=λι=>⟨List.prefix_refl _,λ_ m=>.inl m,λa u e _ nt=>by
    rw [qk (nT e (by intro x z;subst z;exact nt))];exact e,λa e=>by
    by_cases q:a=T
    ·subst q;rw [qC];simp
    ·rw [qk q];exact e⟩
  refine ⟨_,I',rfl,sp,λι S st=>⟨st.len,st.nd,λn a so e1 e2=>(st.obj n a so e1 e2).mono (sp ι) ?_⟩,λb o e n=>⟨hx b o (fT n) e,by rw [qk (fT n)];exact n⟩⟩
  have k:=st.obj n a so e1 e2
  cases so with
  | lst l=>obtain ⟨_,xs,e,_⟩:=k;rw [qk (nT e (by intro _ z;cases z))]
  | dic l=>obtain ⟨_,xs,e,_⟩:=k;rw [qk (nT e (by intro _ z;cases z))]
  | dis l=>obtain ⟨_,xs,e,_⟩:=k;rw [qk (nT e (by intro _ z;cases z))]
theorem qgH {M:Model} {A:Around} {E:Value→Shared→Prop} {pins:List (Addr × Obj)} {σ:St} {H:Hp} {s:Shared} {Q:Addr→Shared→Prop} (I:Inv X pins σ H s) (h:Q builtinsNs s):wpAny M A (builtinsFor X.env.globals X.env.builtins) Q E s:=by
 obtain ⟨bm,ob,e1,e2,e3,e4,e5,e6⟩:=I.ok.mod.bmod
 rw [I.ok.glob]
 exact wpAny_builtinsFor (I.ok.mod.glob.keeps I.bk) e1 e2 (I.bk _ _ e3) e4 e5 e6 h
noncomputable def genCx (X:Cx) (sc:Scope) (cl:List (Str × Addr)) (C:Addr) (code:Value) (N':List Str) (fp:List Addr) (ge:Expr) (it:Addr) (o:Addr × Obj) (s:Shared) (H:Hp):Cx :=
 { X with A:=X.A.in4.in1.over (.compLoop ge 0 (.ref it) .none (genEnv sc cl C code builtinsNs X.env)) [],N:=N',s₀:={ s with gens:=s.gens.push .running },H₀:=H,env:=genEnv sc cl C code builtinsNs X.env,outer:=X.stack,stack:=genEnv sc cl C code builtinsNs X.env::X.stack,ex:=fp,fn:=λ_=>false,pn:=[o],xe:=λ_ _=>False }
theorem qeU {sc:Scope} {cl:List (Str × Addr)} {code:Value} {N':List Str} {fp:List Addr} {tg elt iter:Expr} {ifs:List Expr} {it:Addr} {o:Addr × Obj} {pins:List (Addr × Obj)} {σ:St} {H:Hp} {s:Shared} (I:Inv X pins σ H s) (hk:sc.kind=.function) (hcell:∀ y∈sc.names,y.2≠.cell) (CL:Clos X sc cl)
  (hf:∀ b∈fp,FpOk X pins H b) (ho:∀ b∈fp,b<s.heap.objs.size):(genCx X sc cl s.heap.objs.size code N' fp (.GeneratorExp elt [⟨tg,iter,ifs,0⟩] sc pos) it o s H).Ok where
 mod:=I.ok.mod
 kind:=hk
 glob:=I.ok.glob
 blt:=rfl
 above:=wG _
 inj:=λx y c h1 h2=>I.ok.inj x y c (CL.sub x c h1) (CL.sub y c h2)
 has:=λx hx=>by
  have hx:sc.names.lookup x=some .cell∨sc.names.lookup x=some .free:=hx
  rcases hx with z | z
  ·exact absurd rfl (hcell _ (vK z))
  ·exact CL.all x z
 cab:=λx c h _=>by cases h
 hd:=λh=>I.ok.hd h
 frames:=by
  unfold genCx Around.over
  dsimp only [List.map_nil,envsOf,List.filter_nil,List.filterMap_nil,pushEnvs]
  rw [I.ok.frames]
  rfl
 stk:=.inr ⟨rfl,rfl⟩
 exf:=λb hb=>⟨wW (ho b hb),λx c h=>(hf b hb).2.2.2.2.1 x c (CL.sub x c h)⟩
 bs:=I.bs
 bsz:=vA I.ok.bsz I.sz
 noex:=λb o e hb=>by
  rcases (hf b hb).2.2.2.1 with z | z
  ·exact I.ok.noex b o e z
  ·exact absurd (wQ (wE e) (vA I.ok.bsz z)) (Nat.lt_irrefl _)
 exfs:=λb hb hs=>by
  rcases wO.mp (I.stkSub b hs) with z | z
  ·exact (hf b hb).2.1 z
  ·exact (hf b hb).2.2.1 z
 funs:=I.stack
 frf:=I.stkFree
 tab:=λc T z=>let ⟨ps,e⟩:=I.ok.tab c T z;let ⟨m,e'⟩:=I.base.tbls _ _ e;⟨_,e'⟩
end
end R
namespace R
open PySem PySem.Spec L2 SeqAt
open PyProof.Rows hiding St
section
variable {X:Cx} {pos:Pos}
theorem qdK {tg elt iter:Expr} {ifs:List Expr} {sc:Scope} {J:It} {fp:List Addr} {it:Addr} {tn:Nat→Heap→Prop} {g:D→En→Sr→Res En} {mt:En→Sr→Res Bool} {me:En→Sr→Res D} {ds:List D} {gu:Sr→Prop} {B:Around}
  (hxe:X.xe=λ_ _=>False) (hc:X.calm=true) (hex:X.ex=fp) (hpf:∀ p∈X.pn,p.1 ∉ fp) (hA:X.A=B.over (.compLoop (.GeneratorExp elt [⟨tg,iter,ifs,0⟩] sc pos) 0 (.ref it) .none X.env) []) (hco:X.env.scope.isCoroutine=false)
  (T':Turn X.prog X.w X.K tg J fp it tn) (hg:PG X tg (TGt g)) (ht:PTl X ifs (TB mt)) (he:PE X elt (T me)) (ρ:En) (S:Sr):∀ k,Pw X J tn fp ds gu (model X.prog X.w) B g mt me k (.fresh (.compStart (.GeneratorExp elt [⟨tg,iter,ifs,0⟩] sc pos) 0 (.ref it) .none X.env)) 0 ρ S
 | 0=>trivial
 | k+1=>by
  intro pins ι H s U hb
  have loop:=qeR hxe hc hex hpf hA hco T' hg ht he k _ 0 ρ S pins ι H ι H s rfl U (Stp.refl _ _) hb
  have t0:=U.at'
  show Sg _ B (Pz X J tn fp ds gu _ B g mt me k _ pins ι H) _ ((compStart (.GeneratorExp elt [⟨tg,iter,ifs,0⟩] sc pos) 0 (.ref it) .none X.env).onRaise (leaving X.env)) [] s
  unfold compStart
  rw [Sem.onRaise_eq_wrap]
  refine zV (m:=ask) (wpAny_askSetting ?_)
  split
  ·exact yp rfl loop
  ·refine zV (wpAny_rule ?_)
   first
    | exact zV (wpAny_standAt (zV (T'.self _ 0 s _ _ t0 (yp rfl loop))))
    | (show Sg _ B _ _ ((standAt iter.pos >>= _).wrap _ _ _ _) [] s
       exact zV (wpAny_standAt (zV (T'.self _ 0 s _ _ t0 (yp rfl loop)))))
structure BlkG (X:Cx) (sc:Scope) (N':List Str) (tg iter:Expr) (ifs:List Expr) (elt:Expr) (pos:Pos) (g:D→En→Sr→Res En) (mt:En→Sr→Res Bool) (me:En→Sr→Res D):Prop where
 rt:∀ cl C code fp it o s H,PG (genCx X sc cl C code N' fp (.GeneratorExp elt [⟨tg,iter,ifs,0⟩] sc pos) it o s H) tg (TGt g)
 ri:∀ cl C code fp it o s H,PTl (genCx X sc cl C code N' fp (.GeneratorExp elt [⟨tg,iter,ifs,0⟩] sc pos) it o s H) ifs (TB mt)
 re:∀ cl C code fp it o s H,PE (genCx X sc cl C code N' fp (.GeneratorExp elt [⟨tg,iter,ifs,0⟩] sc pos) it o s H) elt (T me)
noncomputable def GH (X:Cx) (pins:List (Addr × Obj)) (σ:St) (ds:List D) (gu:Sr→Prop) (g:D→En→Sr→Res En) (mt:En→Sr→Res Bool) (me:En→Sr→Res D) (a:Addr) (ρ:En) (S:Sr) (ι:List Addr) (H:Hp) (s:Shared):Prop :=
 ∃ sc cl C code N' fp ge it o s4 H4 J tn,(∀ h:Heap,h.get? a=some o→h.IsGen a s4.gens.size)∧(∀ k,Cs (genCx X sc cl C code N' fp ge it (a,o) s4 H4) J tn fp ds gu X.A.in4.in1 g mt me s4.gens.size k 0 ρ S ι H [] s)∧(∀ b∈fp,b<s.heap.objs.size) ∧
  (∀ i h h',tn i h→(∀ b∈fp,∀ o,h.get? b=some o→h'.get? b=some o)→tn i h') ∧
  ∀ pins' σ' H' z,Inv (genCx X sc cl C code N' fp ge it (a,o) s4 H4) pins' σ' H' (z.setGen s4.gens.size .running)→GK s4.gens z.gens→Inv X pins σ H' z
theorem qeV {tg elt iter:Expr} {ifs:List Expr} {sc:Scope} {fr:List Nat} {xs ts:List Str} {mi:En→Sr→Res (List D × (Sr→Prop))} {g:D→En→Sr→Res En} {mt:En→Sr→Res Bool} {me:En→Sr→Res D} {c T:Addr} (hc:X.calm=true) (hroom:X.A.depth<recursionLimit)
  (hi:PI X tg iter (TIg mi)) (hs:∀ x,genFold iter X.env x=pure x) (C':CSc X sc fr xs ts) (hz:sc.names.lookup (".0":Str)=some NameKind.local) (hco:sc.isCoroutine=false) (hcode:X.env.code=.ref c) (htab:codeTab X.K c T=true) (B:BlkG X sc (xs++ts) tg iter ifs elt pos g mt me)
  {pins:List (Addr × Obj)} {s:Shared} {σ:St} {H:Hp} {ι:List Addr} {S:Sr} {ρ:En} (I:Inv X pins σ H s) (er:EnR ι H ρ σ) (st:Sto ι H S) {ds:List D} {gu:Sr→Prop} {S1:Sr} (hm:mi ρ S=.ok (ds,gu) S1) :
  wpAny (model X.prog X.w) X.A (eval (.GeneratorExp elt [⟨tg,iter,ifs,0⟩] sc pos) X.env) (λv s'=>∃ a ι' H',v=.ref a∧Stp ι H ι' H'∧GH X pins σ ds gu g mt me a (frE ρ fr ts.length) S1 ι' H' s') X.xe s:=by
 obtain ⟨cl,CL⟩:=qcR (X:=X) (sc:=sc) λx hx hf=>I.ok.has x.1 (C'.frees x hx hf)
 refine wpAny_GeneratorExp_make hco CL.eq C'.nocell hz C'.kind hroom ?_ hs
 refine thn (hi pins s σ H (λJ H2=>∃ ι2,Stp ι H ι2 H2∧Sto ι2 H2 S1∧ItG ι2 H2 J ds gu) I ⟨ι,S,ρ,er,st,?_⟩) λxv s1 h1=>thn h1 λitv s2 h2=>?_
 ·rw [hm];exact λι' H' J q st' ok=>⟨ι',q,st',ok⟩
 obtain ⟨it,fp,tn,J,H2,e,I2,T',t2,f2,ι2,q2,st2,ok2⟩:=h2
 subst e
 refine ⟨I2.nolimit,thn (qeT I2 hcode htab) λcode s3 ⟨H3,I3,eg,sp3,so3,kp3⟩=>qgH I3 ?_⟩
 intro h5 hn5 hs5
 have fpl:∀ b∈fp,∃ o,s2.heap.get? b=some o∧H2 b=none:=λb hb=>by
  obtain ⟨o,eo,_⟩:=T'.obj _ _ t2 b hb
  exact ⟨o,eo,(f2 b hb).1⟩
 have f3:∀ b∈fp,FpOk X pins H3 b:=λb hb=>by
  obtain ⟨o,e1,e2⟩:=fpl b hb
  exact ⟨(kp3 b o e1 e2).2,(f2 b hb).2⟩
 have l3:∀ b∈fp,b<s3.heap.objs.size:=λb hb=>by
  obtain ⟨o,e1,e2⟩:=fpl b hb
  exact wE (kp3 b o e1 e2).1
 have hsz:h5.objs.size=s3.heap.objs.size+1:=by rw [hs5.1,Heap.size_push]
 have keep5:∀ (u:Obj) b o,s3.heap.get? b=some o→(h5.push u).get? b=some o:=λu b o e=>wB _ (hs5.extBut b o (wW (wE e)) (wB _ e))
 generalize hob:({ cls:=.type "generator",data:=.fields #[.int s3.gens.size 0,.str "<genexpr>" (s3.toks+1),.str (X.env.qual++"<genexpr>") (s3.toks+1+1)] }:Obj)=ob
 have hfree:H3 h5.objs.size=none:=I3.hok.fresh (by rw [hsz];lia)
 have ok5:=qeU (code:=code) (N':=xs++ts) (tg:=tg) (elt:=elt) (iter:=iter) (ifs:=ifs) (pos:=pos) (it:=it) (o:=(h5.objs.size,ob)) I3 C'.kind C'.nocell CL f3 l3
 have ns5:(h5.push ob).Ns s3.heap.objs.size (λy=>if y=".0" then some (.ref it) else none):=hn5.push _
 have ek:∀ n,(s3.gens.push (GenState.fresh n)).setIfInBounds s3.gens.size .running=s3.gens.push .running:=λn=>by
  apply Array.ext
  ·simp
  ·intro j h1 h2
   by_cases q:j=s3.gens.size
   ·subst q;simp
   ·have:j<s3.gens.size:=by simp at h2;lia
    rw [Array.getElem_setIfInBounds (by simp;lia),wK (Ne.symm q),Array.getElem_push_lt this,Array.getElem_push_lt this]
 have pinA:∀ b:Addr,(h5.objs.size)≠b∨b=h5.objs.size:=λb=>by
  by_cases q:b=h5.objs.size
  ·exact .inr q
  ·exact .inl (Ne.symm q)
 have hpin:(h5.push ob).get? h5.objs.size=some ob:=by subst hob;exact wH _ rfl
 have F:=C'.frs
 have inv5:∀ (gg:Array GenState) (tk:Nat),gg=s3.gens.push .running→Inv (genCx X sc cl s3.heap.objs.size code (xs++ts) fp (.GeneratorExp elt [⟨tg,iter,ifs,0⟩] sc pos) it (h5.objs.size,ob) s3 H3) [] (frS σ fr ts.length) H3 { s3 with heap:=h5.push ob,toks:=tk,gens:=gg }:=by
  intro gg tk hgg
  refine ⟨ok5,rfl,?_,Un.kept (keep5 ob),⟨_,ns5,λi x v h1 h2 h3=>?_⟩,λx cc e=>?_,I3.hok.fresh (wG _),λx cc e=>I3.freeC x cc (CL.sub x cc e),λp hp=>?_,I3.hok.kept (keep5 ob),?_⟩
  ·subst hgg
   exact GK.refl (AllBare.push I3.bare.bare rfl)
  ·have h1:(xs++ts)[i]?=some x:=h1
   have h2:(frS σ fr ts.length)[i]?=some (some v):=h2
   unfold frS at h2
   by_cases hi:i<fr.length
   ·rw [wU (by simpa using hi),wY,wD hi] at h2
    rw [wU (by rw [← F.len];exact hi)] at h1
    simp only [wk,Option.some.injEq] at h2
    have hN:=F.at' i fr[i] x (wD hi) h1
    have hσ:σ[fr[i]]?=some (some v):=by
     cases z:σ[fr[i]]? with
     | none=>rw [z] at h2;cases h2
     | some o=>rw [z] at h2;simp at h2;rw [h2]
    obtain ⟨kf,ko⟩:=F.kd x (wq h1)
    obtain ⟨m0,hn0,hl0⟩:=I3.loc
    obtain ⟨u,r,l⟩:=hl0 fr[i] x v hN hσ (.inr ko)
    refine ⟨u,r,.inr ?_⟩
    have hcc:∃ cc,X.env.cells.lookup x=some cc∧s3.heap.IsCell cc (some u):=by
     rcases l with ⟨z,_⟩ | ⟨_,cc,e1,e2⟩
     ·rcases ko with q | q <;> (rw [z] at q;cases q)
     ·exact ⟨cc,e1,e2⟩
    obtain ⟨cc,e1,o,e2,e3⟩:=hcc
    obtain ⟨c',e4⟩:=CL.all x kf
    have e5:=CL.sub x c' e4
    rw [e1] at e5;cases e5
    exact ⟨.inr kf,cc,e4,o,keep5 ob _ _ e2,e3⟩
   ·rw [wZ (by simpa using hi),List.getElem?_replicate] at h2
    split at h2 <;> cases h2
  ·obtain ⟨v,o,e1,e2⟩:=I3.cell x cc (CL.sub x cc e)
   exact ⟨v,o,keep5 ob _ _ e1,e2⟩
  ·have hp':p=(h5.objs.size,ob):=by
    have:p∈[(h5.objs.size,ob)]++([]:List (Addr × Obj)):=hp
    simpa using this
   subst hp'
   refine ⟨hpin,hfree,(show h5.objs.size≠s3.heap.objs.size by lia),λz=>?_,λv=>?_⟩
   ·have z':h5.objs.size∈frs X.stack:=z
    rcases wO.mp (I3.stkSub _ z') with q | q
    ·have:=I3.lt
     rw [← q,hsz] at this
     exact absurd this (Nat.not_lt.mpr (Nat.le_succ _))
    ·exact absurd q (I3.nofs (by lia))
   ·show ob.data≠_
    rw [← hob];intro z;cases z
  ·show (frS σ fr ts.length).length=(xs++ts).length
   simp [frS,F.len]
 refine ⟨h5.objs.size,ι2,H3,rfl,q2.trans (sp3 ι2),sc,cl,s3.heap.objs.size,code,xs++ts,fp,.GeneratorExp elt [⟨tg,iter,ifs,0⟩] sc pos,it,ob,s3,H3,J,tn,λh e=>?_,λk=>⟨?_,_,Array.getElem?_push_size ..,rfl,?_⟩,λb hb=>?_,T'.keep,λpins' σ' H' z J' gk=>?_⟩
 ·rw [← hob] at e
  exact ⟨_,_,_,e,rfl,rfl,rfl⟩
 ·refine ⟨⟨frS σ fr ts.length,?_,(qcS er fr ts.length).mono (q2.trans (sp3 ι2))⟩,so3 _ _ st2,T'.keep _ _ _ t2 λb hb o eo=>keep5 ob b o (kp3 b o eo (f2 b hb).1).1,vO _,λb hb=>(f3 b hb).1,ok2.mono (sp3 ι2),λp hp=>absurd hp (by simp)⟩
  exact inv5 _ _ (ek _)
 ·exact qdK (X:=genCx X sc cl s3.heap.objs.size code (xs++ts) fp (.GeneratorExp elt [⟨tg,iter,ifs,0⟩] sc pos) it (h5.objs.size,ob) s3 H3) rfl hc rfl (λp hp hb=>by
   have hp':p=(h5.objs.size,ob):=by
    have:p∈[(h5.objs.size,ob)]:=hp
    simpa using this
   subst hp'
   have:=l3 _ hb
   have e:h5.objs.size<s3.heap.objs.size:=this
   lia) rfl hco T' (B.rt _ _ _ _ _ _ _ _) (B.ri _ _ _ _ _ _ _ _) (B.re _ _ _ _ _ _ _ _) _ _ k
 ·have:=l3 b hb
  show b<(h5.push ob).objs.size
  rw [Heap.size_push]
  exact wQ (l3 b hb) (by lia)
 ·have ba:Un (frs X.stack) fp H3 H' s3.heap z.heap:=J'.base
  exact I3.call' (ch:=fp) J'.os ba J'.hok gk λb hb=>⟨(f3 b hb).2.2.2.1,(f3 b hb).2.1,(f3 b hb).2.2.2.2.1,(f3 b hb).2.2.2.2.2⟩
end
end R
namespace R
open PySem PySem.Spec L2 SeqAt
open PyProof.Rows hiding St
section
variable {X:Cx} {pos:Pos}
theorem qbv {M:Model} {A:Around} {α:Type} {t:Sem α} {Q:α→Shared→Prop} {E:Value→Shared→Prop} {s:Shared} (h:wpAny M A.in4 t Q E s):wpAny M A.in1 t Q E s:=wpAny_of_in1 (wpAny_of_in1 (wpAny_of_in1 h))
section
variable {sc:Scope} {cl:List (Str × Addr)} {C:Addr} {code:Value} {N':List Str} {fp:List Addr} {ge:Expr} {it a:Addr} {o:Obj} {s4:Shared} {H4:Hp} {J:It} {tn:Nat→Heap→Prop} {ds:List D} {gu:Sr→Prop} {g:D→En→Sr→Res En} {mt:En→Sr→Res Bool} {me:En→Sr→Res D}
theorem qeW {β:Type} {step:β→D→Option (β ⊕ D)} {fin:β→Option D} {i:Nat} {ρ:En} {b:β} {S S':Sr} {d:D} (h:genLoopG gu g mt me step fin (ds.drop i) ρ b S=.ok d S'):gnx gu g mt me i (ds.drop i) ρ S≠.bad:=λz=>by
 have q:=yq h
 rw [z] at q;cases q
theorem qgI {R:Result→Shared→Prop} (hh:X.A.handled=none) (hd:X.A.depth<recursionLimit) (hg:∀ h:Heap,h.get? a=some o→h.IsGen a s4.gens.size):∀ (k i:Nat) (ρ:En) (b:D) (S:Sr) (ι:List Addr) (H:Hp) (s:Shared) {d:D} {S':Sr},ds.length<k+i →
  Cs (genCx X sc cl C code N' fp ge it (a,o) s4 H4) J tn fp ds gu X.A.in4.in1 g mt me s4.gens.size k i ρ S ι H [] s→genLoopG gu g mt me (stepG .all) (finG .all) (ds.drop i) ρ b S=.ok d S' →
  (∀ σ' ι' H' z c,d=.bl c→Inv (genCx X sc cl C code N' fp ge it (a,o) s4 H4) [] σ' H' (z.setGen s4.gens.size .running)→GK s4.gens z.gens→Stp ι H ι' H'→Sto ι' H' S'→R (.ok (.ret (.bool c))) z) →
  codeAny (model X.prog X.w) X.A (.builtin "all.loop" ⟨[.ref a],[]⟩) R s:=by
 intro k
 induction k with
 | zero =>
  intro i ρ b S ι H s d S' hk Cc _ _
  have:=Cc.sus.le
  lia
 | succ k ih =>
  intro i ρ b S ι H s d S' hk Cc e hR
  refine codeAny_builtin F.entry_all_loop ?_
  rw [Around.under_plainId F.plain_all_loop]
  refine wA (m:=pyNext (.ref a)) (qbv (qcV (X:=genCx X sc cl C code N' fp ge it (a,o) s4 H4) (A:=X.A.in4) hh hd wN hg rfl rfl Cc (qeW e) (λS2 ι' H' σ' z ez Iz gk q st=>?_) λi' ρ' v S2 ι' H' y u z ez q dv ry Cz=>?_))
  ·have q2:=yq e
   rw [ez] at q2
   cases q2
   exact wA (wpAny_rule (wC (hR σ' ι' H' z true rfl Iz gk q st)))
  ·have q2:=yq e
   have hi:=jM _ _ _ _ ez
   rw [ez] at q2
   simp only [gen1] at q2
   have hv:∃ c,v=.bl c:=by
    cases v with
    | bl c=>exact ⟨c,rfl⟩
    | _=>simp only [stepG] at q2;cases q2
   obtain ⟨c,rfl⟩:=hv
   cases (show y=_ from dv)
   cases (show u=Value.bool c from ry)
   refine wA (wp (vI (wA (wpAny_letGo ?_))))
   cases c with
   | true =>
    simp only [stepG] at q2
    rw [wJ rfl]
    exact wC ⟨plainId_quiet F.plain_all_loop _,ih i' ρ' _ S2 ι' H' z (by lia) Cz q2 λσ2 ι2 H2 z2 c ec I2 gk s2 st2=>hR σ2 ι2 H2 z2 c ec I2 gk (q.trans s2) st2⟩
   | false =>
    simp only [stepG] at q2
    cases q2
    rw [wK (by decide)]
    obtain ⟨⟨⟨σz,Iz,erz⟩,stz,_⟩,gs,eg,bg,_⟩:=Cz
    exact wA (wpAny_rule (wC (hR σz ι' H' z false rfl Iz (GK.done Iz.bare eg bg) q stz)))
end
end
end R
namespace R
open PySem PySem.Spec L2 SeqAt
open PyProof.Rows hiding St
section
variable {X:Cx} {J:It} {tn:Nat→Heap→Prop} {fp:List Addr} {ds:List D} {gu:Sr→Prop} {B:Around} {g:D→En→Sr→Res En} {mt:En→Sr→Res Bool} {me:En→Sr→Res D} {n k i:Nat} {ρ:En} {S:Sr} {ι:List Addr} {H:Hp} {s:Shared}
theorem qgJ (C:Cs X J tn fp ds gu B g mt me n k i ρ S ι H [] s) (tk:∀ i h h',tn i h→(∀ b∈fp,∀ o,h.get? b=some o→h'.get? b=some o)→tn i h') (hf:∀ b∈fp,b<s.heap.objs.size) {u:Obj} (hu:(s.heap.push u).get? s.heap.objs.size=some u) (hc:∀ v,u.data≠.cell v) {t:Nat} :
  Cs X J tn fp ds gu B g mt me n k i ρ S ι H [(s.heap.objs.size,u)] { s with heap:=s.heap.push u,toks:=t }:=by
 obtain ⟨⟨⟨σ,I,er⟩,st,at',le,fz,ok,pf⟩,w⟩:=C
 refine ⟨⟨⟨σ,?_,er⟩,st,tk _ _ _ at' λb _ o e=>wB _ e,le,fz,ok,λp hp hb=>?_⟩,w⟩
 ·have I1:=I.kept (h':=s.heap.push u) (t':=t) λb o e=>wB _ e
  refine I1.pins_of λp hp=>?_
  obtain rfl:=w9.mp hp
  exact ⟨hu,I.hok.fresh (wG _),vN I.lt,I.nofs (wG _),hc⟩
 ·obtain rfl:=w9.mp hp
  exact absurd (hf _ hb) (Nat.lt_irrefl _)
theorem qgK {p:Addr} {u u':Obj} {h':Heap} {t:Nat} (C:Cs X J tn fp ds gu B g mt me n k i ρ S ι H [(p,u)] s) (tk:∀ i h h',tn i h→(∀ b∈fp,∀ o,h.get? b=some o→h'.get? b=some o)→tn i h') (hs:X.s₀.heap.objs.size≤p) (hn:∀ q∈X.pn,q.1≠p)
  (hk:∀ b o,b≠p→s.heap.get? b=some o→h'.get? b=some o) (hu:h'.get? p=some u') (hc:∀ v,u'.data≠.cell v):Cs X J tn fp ds gu B g mt me n k i ρ S ι H [(p,u')] { s with heap:=h',toks:=t }:=by
 obtain ⟨⟨⟨σ,I,er⟩,st,at',le,fz,ok,pf⟩,w⟩:=C
 obtain ⟨e1,e2,e3,e4,e5⟩:=I.pin (p,u) (wV _ (w9.mpr rfl))
 have np:p ∉ fp:=pf (p,u) (w9.mpr rfl)
 refine ⟨⟨⟨σ,?_,er⟩,st,tk _ _ _ at' λb hb o e=>hk b o (λz=>np (z ▸ hb)) e,le,fz,ok,λq hq hb=>?_⟩,w⟩
 ·have I0:Inv X [] σ H (s.setGen n .running):=I.unpinned (pins:=[]) (pl:=[(p,u)])
  have I1:=I0.turned (h':=h') (t':=t) (it:=p) hk e2 e3 (.inr hs) (λx c ec z=>by
   obtain ⟨v,o,eo,d⟩:=I0.cell x c ec
   rw [z,e1] at eo;cases eo
   exact e5 v d) λq hq=>hn q (by simpa using hq)
  refine I1.pins_of λq hq=>?_
  obtain rfl:=w9.mp hq
  exact ⟨hu,e2,e3,e4,hc⟩
 ·obtain rfl:=w9.mp hq
  exact np hb
end
noncomputable def accO (t:Int) (tA:Tok) (c:Nat):Obj:={ cls:=.type "list",dict:=none,data:=.seq #[.int t tA] c,slots:=#[] }
section
variable {X:Cx} {sc:Scope} {cl:List (Str × Addr)} {C:Addr} {code:Value} {N':List Str} {fp:List Addr} {ge:Expr} {it a:Addr} {o:Obj} {s4:Shared} {H4:Hp} {J:It} {tn:Nat→Heap→Prop} {ds:List D} {gu:Sr→Prop} {g:D→En→Sr→Res En} {mt:En→Sr→Res Bool} {me:En→Sr→Res D}
theorem qgL {R:Result→Shared→Prop} (hh:X.A.handled=none) (hd:X.A.depth<recursionLimit) (hg:∀ h:Heap,h.get? a=some o→h.IsGen a s4.gens.size) (tk:∀ i h h',tn i h→(∀ b∈fp,∀ o,h.get? b=some o→h'.get? b=some o)→tn i h')
  {p:Addr} (hp:s4.heap.objs.size≤p) (hpa:a≠p):∀ (k i:Nat) (ρ:En) (t:Int) (S:Sr) (ι:List Addr) (H:Hp) (s:Shared) (tA:Tok) (c:Nat) (sg:Int) {d:D} {S':Sr},(sg=0∨sg=2)→ds.length<k+i →
  Cs (genCx X sc cl C code N' fp ge it (a,o) s4 H4) J tn fp ds gu X.A.in4.in1 g mt me s4.gens.size k i ρ S ι H [(p,accO t tA c)] s→genLoopG gu g mt me (stepG .sum) (finG .sum) (ds.drop i) ρ (.int t) S=.ok d S' →
  (∀ pins' σ' ι' H' z r tz,d=.int r→Inv (genCx X sc cl C code N' fp ge it (a,o) s4 H4) pins' σ' H' (z.setGen s4.gens.size .running)→GK s4.gens z.gens→Stp ι H ι' H'→Sto ι' H' S'→R (.ok (.ret (.int r tz))) z) →
  codeAny (model X.prog X.w) X.A (.builtin "sum.loop" ⟨[.ref a,.ref p,rawInt sg,rawInt 0],[]⟩) R s:=by
 intro k
 induction k with
 | zero =>
  intro i ρ t S ι H s tA c sg d S' _ hk Cc _ _
  have:=Cc.sus.le
  lia
 | succ k ih =>
  intro i ρ t S ι H s tA c sg d S' hsg hk Cc e hR
  have hS:s.heap.get? p=some (accO t tA c):=by
   obtain ⟨σ,I,_⟩:=Cc.sus.inv
   exact (I.pin (p,accO t tA c) (wV _ (w9.mpr rfl))).1
  refine codeAny_builtin F.entry_sum_loop ?_
  rw [Around.under_plainId F.plain_sum_loop]
  refine wA (m:=seqItems? (.ref p)) (wpAny_seqItems hS rfl ?_)
  refine wA (m:=tryCatch (pyNext (.ref a)) _) (wpAny_tryCatch ?_)
  refine qbv (qcV (X:=genCx X sc cl C code N' fp ge it (a,o) s4 H4) (A:=X.A.in4) hh hd wN hg rfl rfl Cc (qeW e) (λS2 ι' H' σ' z ez Iz gk q st=>?_) λi' ρ' v S2 ι' H' y u z ez q dv ry Cz=>?_)
  ·have q2:=yq e
   rw [ez] at q2
   cases q2
   exact wC (hR _ σ' ι' H' z t tA rfl Iz gk q st)
  ·have q2:=yq e
   have hi:=jM _ _ _ _ ez
   rw [ez] at q2
   simp only [gen1] at q2
   have hv:∃ r,v=.int r:=by
    cases v with
    | int r=>exact ⟨r,rfl⟩
    | _=>simp only [stepG] at q2;cases q2
   obtain ⟨r,rfl⟩:=hv
   cases (show y=_ from dv)
   obtain ⟨tr,rfl⟩:=(show ∃ tr,u=Value.int r tr from ry)
   simp only [stepG] at q2
   have hS':z.heap.get? p=some (accO t tA c):=by
    obtain ⟨σ,I,_⟩:=Cz.sus.inv
    exact (I.pin (p,accO t tA c) (wV _ (w9.mpr rfl))).1
   have hup:=wv (h:=z.heap) (Obj.mapSeq λ_=>#[Value.int (t+r) z.toks]) hS' rfl
   have fin:∀ (h2:Heap) (tk2:Nat) (tA2:Tok) (c2:Nat) (sg2:Int),(sg2=0∨sg2=2)→(∀ b o,b≠p→z.heap.get? b=some o→h2.get? b=some o)→h2.get? p=some (accO (t+r) tA2 c2) →
     codeAny (model X.prog X.w) X.A (.builtin "sum.loop" ⟨[.ref a,.ref p,rawInt sg2,rawInt 0],[]⟩) R { z with heap:=h2,toks:=tk2 }:=λh2 tk2 tA2 c2 sg2 hs2 hk2 hu2=>by
    refine ih i' ρ' (t+r) S2 ι' H' _ tA2 c2 sg2 hs2 (by lia) (qgK Cz tk hp (λq hq=>?_) hk2 hu2 λv z=>by cases z) q2 λpins' σ2 ι2 H2 z2 r2 tz ec I2 gk s2 st2=>hR pins' σ2 ι2 H2 z2 r2 tz ec I2 gk (q.trans s2) st2
    have hq':q=(a,o):=by
     have:q∈[(a,o)]:=hq
     simpa using this
    subst hq'
    exact hpa
   have oth:∀ (f:Obj→Obj) (h1:Heap) (b:Addr) (x:Obj),b≠p→h1.get? b=some x→(h1.update p f).get? b=some x:=λf h1 b x hb ex=>(wS _ _ (Ne.symm hb)).trans ex
   rcases hsg with rfl | rfl
   ·show wpAny _ _ (if (_:Bool)=true then (mkInt (t+r) >>= _) else _) _ _ z
    split
    ·refine wA (wpAny_mkInt ?_)
     refine wA (m:=updateSeq p _) (wpAny_updateSeq hS' rfl (wC ⟨plainId_quiet F.plain_sum_loop _,?_⟩))
     exact fin _ _ z.toks _ 0 (.inl rfl) (λb x hb ex=>oth _ _ b x hb ex) hup
    ·refine wA (wpAny_rule (wA (wpAny_attempt (wp (wpAny_add_int ?_)))))
     refine wA (m:=updateSeq p _) (wpAny_updateSeq hS' rfl (wA (wpAny_letGo ?_)))
     refine wA (m:=updateSeq p _) (wpAny_updateSeq hup rfl (wC ⟨plainId_quiet F.plain_sum_loop _,?_⟩))
     exact fin _ _ z.toks _ 2 (.inr rfl) (λb x hb ex=>oth _ _ b x hb (oth _ _ b x hb ex)) (wv _ hup rfl)
   ·refine wA (m:=(holding [Value.int r tr] (binaryOp .Add (.int t tA) (.int r tr))).attempt) (wpAny_attempt (wp (wpAny_add_int ?_)))
    refine wA (m:=updateSeq p _) (wpAny_updateSeq hS' rfl (wA (wpAny_letGo ?_)))
    refine wA (m:=updateSeq p _) (wpAny_updateSeq hup rfl (wC ⟨plainId_quiet F.plain_sum_loop _,?_⟩))
    exact fin _ _ z.toks _ 2 (.inr rfl) (λb x hb ex=>oth _ _ b x hb (oth _ _ b x hb ex)) (wv _ hup rfl)
end
end R
namespace R
open PySem PySem.Spec L2 SeqAt
open PyProof.Rows hiding St
noncomputable def mGenG (w:GW) (fr:List Nat) (nt:Nat) (mi:En→Sr→Res (List D × (Sr→Prop))) (g:D→En→Sr→Res En) (mt:En→Sr→Res Bool) (me:En→Sr→Res D):En→Sr→Res D:=λρ S=>(mi ρ S).bind λp S1 =>
 genLoopG p.2 g mt me (stepG w) (finG w) p.1 (frE ρ fr nt) (startG w) S1
noncomputable def mGen (w:GW) (fr:List Nat) (nt:Nat) (mi:En→Sr→Res (List D)) (g:D→En→Sr→Res En) (mt:En→Sr→Res Bool) (me:En→Sr→Res D):En→Sr→Res D:=λρ S=>(mi ρ S).bind λds S1 =>
 genLoop g mt me (stepG w) (finG w) ds (frE ρ fr nt) (startG w) S1
theorem qiy {w:GW} {fr:List Nat} {nt:Nat} {mi:En→Sr→Res (List D)} {g:D→En→Sr→Res En} {mt:En→Sr→Res Bool} {me:En→Sr→Res D}:mGenG w fr nt (λρ S=>(mi ρ S).bind λds S1=>.ok (ds,λ_=>True) S1) g mt me=mGen w fr nt mi g mt me:=by
 funext ρ S
 unfold mGenG mGen
 dsimp only
 cases mi ρ S with
 | ok ds S1=>exact yo _ _ _ _
 | err=>rfl
 | no=>rfl
section
variable {X:Cx} {pos gp:Pos}
noncomputable def GCall (X:Cx) (w:GW) (f:Value):Prop:=∀ (pins:List (Addr × Obj)) (s:Shared) (σ:St) (H:Hp) (ι:List Addr) (a:Addr) (ds:List D) (gu:Sr→Prop) (g:D→En→Sr→Res En) (mt:En→Sr→Res Bool) (me:En→Sr→Res D) (ρ:En) (S:Sr) (Q:VK),
 GH X pins σ ds gu g mt me a ρ S ι H s→Pst Den (genLoopG gu g mt me (stepG w) (finG w) ds ρ (startG w) S) ι H Q→wpAny (model X.prog X.w) X.A (call f [.ref a]) (EP X pins σ Q) X.xe s
theorem qcW {w:GW} {ds:List D} {gu:Sr→Prop} {g:D→En→Sr→Res En} {mt:En→Sr→Res Bool} {me:En→Sr→Res D} {ρ:En} {b:D} {S:Sr} {ι:List Addr} {H:Hp} {Q:VK} (h:Pst Den (genLoopG gu g mt me (stepG w) (finG w) ds ρ b S) ι H Q) :
  ∃ d S',genLoopG gu g mt me (stepG w) (finG w) (ds.drop 0) ρ b S=.ok d S'∧∀ y ι' H',Stp ι H ι' H'→Sto ι' H' S'→Den ι' H' d y→Q y H':=by
 rw [List.drop_zero]
 cases z:genLoopG gu g mt me (stepG w) (finG w) ds ρ b S with
 | no=>rw [z] at h;exact h.elim
 | err=>rw [z] at h;exact h.elim
 | ok d S'=>rw [z] at h;exact ⟨d,S',rfl,h⟩
theorem qiz (hc:X.calm=true) (hd:X.A.depth<recursionLimit) (hok:X.calm=true→X.A.handled=none):GCall X .all (.builtin "all"):=by
 intro pins s σ H ι a ds gu g mt me ρ S Q gh h
 obtain ⟨sc,cl,C,code,N',fp,ge,it,o,s4,H4,J,tn,hg,cs,hf,tk,out⟩:=gh
 obtain ⟨d,S',e,q⟩:=qcW h
 have ha:s.heap.get? a=some o:=by
  obtain ⟨σ',I,_⟩:=(cs 0).sus.inv
  exact (I.pin (a,o) (List.mem_append_left _ wN)).1
 refine call_function_tree F.kind_all F.plain_all F.entry_all (F.args_all1 _) ?_
 unfold Builtin.«all»
 refine wA (m:=oneArg "all" _) (wC (wA (wpAny_pyIter_gen (hg _ ha) (wC ⟨plainId_quiet F.plain_all_loop _,?_⟩))))
 exact qgI (hok hc) hd hg (ds.length+1) 0 ρ _ S ι H s (by lia) (cs _) e λσ' ι' H' z c ed Iz gk s1 st1=>⟨.bl c,H',out _ σ' H' z Iz gk,rfl,q _ ι' H' s1 st1 (by subst ed;rfl)⟩
theorem qiA (hc:X.calm=true) (hd:X.A.depth<recursionLimit) (hok:X.calm=true→X.A.handled=none):GCall X .sum (.builtin "sum"):=by
 intro pins s σ H ι a ds gu g mt me ρ S Q gh h
 obtain ⟨sc,cl,C,code,N',fp,ge,it,o,s4,H4,J,tn,hg,cs,hf,tk,out⟩:=gh
 obtain ⟨d,S',e,q⟩:=qcW h
 have hh:=(cs 0).sus.inv
 obtain ⟨σ',I,_⟩:=hh
 have ha:s.heap.get? a=some o:=(I.pin (a,o) (List.mem_append_left _ wN)).1
 refine call_function_tree F.kind_sum F.plain_sum F.entry_sum (F.args_sum1 _) ?_
 unfold Builtin.«sum»
 simp only [w5,vD]
 rw [wK (by decide)]
 refine wA (wpAny_of_eq (show Builtin.Builtins.bindParams "sum" ["start"] 0 { }=pure [none] from rfl) (wA (wpAny_pyIter_gen (hg _ ha) ?_)))
 refine wA (wpAny_mkInt (wA (wC ?_)))
 simp only [List.forIn_cons,List.forIn_nil]
 refine wA (wA (wA (wpAny_isInstance (T:="int") (b:=false) (typeIs_int _ _ _) PySem.sub_int_str ?_)))
 rw [wK wR]
 refine wC (wA (wA (wpAny_isInstance (T:="int") (b:=false) (typeIs_int _ _ _) PySem.sub_int_bytes ?_)))
 rw [wK wR]
 refine wC (wA (wA (wpAny_isInstance (T:="int") (b:=false) (typeIs_int _ _ _) PySem.sub_int_bytearray ?_)))
 rw [wK wR]
 refine wC (wC (wA (wT (wC ⟨plainId_quiet F.plain_sum_loop _,?_⟩))))
 have lt:s4.heap.objs.size≤s.heap.objs.size:=I.sz
 have hne:a≠s.heap.objs.size:=wW (wE ha)
 refine qgL (hok hc) hd hg tk (p:=s.heap.objs.size) lt hne (ds.length+1) 0 ρ 0 S ι H _ s.toks 0 0 (.inl rfl) (by lia) (qgJ (cs _) tk hf (wH _ rfl) λv z=>by cases z) e λpins' σ' ι' H' z r tz ed Iz gk s1 st1=>⟨.int r,H',out _ σ' H' z Iz gk,⟨tz,rfl⟩,q _ ι' H' s1 st1 (by subst ed;rfl)⟩
theorem qiB {w:GW} {id:String} {f:Str} {p:Pos} {tg elt iter:Expr} {ifs:List Expr} {sc:Scope} {fr:List Nat} {xs ts:List Str} {mi:En→Sr→Res (List D × (Sr→Prop))} {g:D→En→Sr→Res En} {mt:En→Sr→Res Bool} {me:En→Sr→Res D} {c T':Addr} (hc:X.calm=true) (hroom:X.A.depth<recursionLimit)
  (gc:GCall X w (.builtin id)) (hgl:Gl X f) (hm:X.mg f=none) (hv:bootBuiltins f=some (.builtin id)) (hn:f≠"__name__") (hdb:(f == ("__debug__":Str))=false)
  (hi:PI X tg iter (TIg mi)) (hs:∀ x,genFold iter X.env x=pure x) (C':CSc X sc fr xs ts) (hz:sc.names.lookup (".0":Str)=some NameKind.local) (hco:sc.isCoroutine=false) (hcode:X.env.code=.ref c) (htab:codeTab X.K c T'=true) (B:BlkG X sc (xs++ts) tg iter ifs elt gp g mt me) :
  PE X (.Call (.Name f p) [.GeneratorExp elt [⟨tg,iter,ifs,0⟩] sc gp] [] pos) (T (mGenG w fr ts.length mi g mt me)):=by
 intro pins s σ H Q I hw
 refine wpAny_Call_Name_kw (yH I hgl hm hv ?_ hn hdb)
 obtain ⟨ι,S,ρ,er,st,h⟩:=hw
 dsimp only [mGenG] at h
 cases z:mi ρ S with
 | no=>rw [z] at h;exact h.elim
 | err=>rw [z] at h;exact h.elim
 | ok dg S1 =>
  obtain ⟨ds,gu⟩:=dg
  rw [z,Res.bind_ok] at h
  refine PyProof.Rows.callWith_builtin1 (e:=.GeneratorExp elt [⟨tg,iter,ifs,0⟩] sc gp) (rest:=[]) ?_ rfl rfl
  refine Calls.spliced_cons (thn (qeV hc hroom hi hs C' hz hco hcode htab B I er st z) λv s' ⟨a,ι',H',ev,q,gh⟩=>?_)
  subst ev
  exact Calls.spliced_nil (gc pins s' σ H' ι' a ds gu g mt me _ S1 Q gh (Pst.from h q))
theorem qj1 {w:GW} {id:String} {f:Str} {p:Pos} {tg elt iter:Expr} {ifs:List Expr} {sc:Scope} {fr:List Nat} {xs ts:List Str} {mi:En→Sr→Res (List D)} {g:D→En→Sr→Res En} {mt:En→Sr→Res Bool} {me:En→Sr→Res D} {c T':Addr} (hc:X.calm=true) (hroom:X.A.depth<recursionLimit)
  (gc:GCall X w (.builtin id)) (hgl:Gl X f) (hm:X.mg f=none) (hv:bootBuiltins f=some (.builtin id)) (hn:f≠"__name__") (hdb:(f == ("__debug__":Str))=false)
  (hi:PI X tg iter (TIt mi)) (hs:∀ x,genFold iter X.env x=pure x) (C':CSc X sc fr xs ts) (hz:sc.names.lookup (".0":Str)=some NameKind.local) (hco:sc.isCoroutine=false) (hcode:X.env.code=.ref c) (htab:codeTab X.K c T'=true) (B:BlkG X sc (xs++ts) tg iter ifs elt gp g mt me) :
  PE X (.Call (.Name f p) [.GeneratorExp elt [⟨tg,iter,ifs,0⟩] sc gp] [] pos) (T (mGen w fr ts.length mi g mt me)):=by
 rw [← qiy];exact qiB hc hroom gc hgl hm hv hn hdb (pi_g hi) hs C' hz hco hcode htab B
end
end R
namespace R
open PySem PySem.Spec L2 SeqAt
open PyProof.Rows hiding St
theorem qbw {a b c:Int} (hc:0<c):Builtin.Range.rangeSize a b c=(((b-a+c-1) / c).toNat:Int):=by
 unfold Builtin.Range.rangeSize
 rw [wJ hc]
 by_cases h:a<b
 ·rw [wJ h]
  have e:b-a+c-1=(b-a-1)+c:=by omega
  have q:(b-a-1+c) / c=(b-a-1) / c+1:=Int.add_ediv_of_dvd_right (Int.dvd_refl c) |>.trans (by rw [Int.ediv_self (by omega)])
  rw [e,q]
  have:=Int.ediv_nonneg (a:=b-a-1) (b:=c) (by omega) (by omega)
  omega
 ·rw [wK h]
  have:(b-a+c-1) / c≤0:=by
   have h1:b-a+c-1≤c-1:=by omega
   have h2:=Int.ediv_le_ediv hc h1
   have h3:(c-1) / c=0:=Int.ediv_eq_zero_of_lt (by omega) (by omega)
   rw [h3] at h2
   exact h2
  omega
theorem qdL {a b c:Int} (h1:-(2^62)≤a) (h2:a<2^62) (h3:-(2^62)≤b) (h4:b<2^62) (h5:0<c) (h6:c<2^62):Builtin.Range.small a b c=true:=by
 have hz:=qbw (a:=a) (b:=b) h5
 have hle:(b-a+c-1) / c≤2^63-1:=by
  by_cases h:b-a+c-1<0
  ·have:=Int.ediv_neg_of_neg_of_pos h h5
   omega
  ·have h7:(b-a+c-1) / c≤b-a+c-1-(c-1)∨b-a≤0:=by
    by_cases h8:b-a≤0
    ·exact .inr h8
    ·left
     have e:b-a+c-1=(b-a-1)+c:=by omega
     have q:(b-a-1+c) / c=(b-a-1) / c+1:=Int.add_ediv_of_dvd_right (Int.dvd_refl c) |>.trans (by rw [Int.ediv_self (by omega)])
     rw [e,q]
     have:=Int.ediv_le_self c (a:=b-a-1) (by omega)
     omega
   rcases h7 with z | z
   ·omega
   ·have h1:b-a+c-1≤c-1:=by omega
    have h2:=Int.ediv_le_ediv h5 h1
    have h3:(c-1) / c=0:=Int.ediv_eq_zero_of_lt (by omega) (by omega)
    rw [h3] at h2
    omega
 unfold Builtin.Range.small
 rw [hz]
 simp only [Builtin.Range.rangeFitsLong,wL,Bool.or_eq_true,we,beq_iff_eq]
 rw [wJ h5]
 simp only [wL,we]
 omega
theorem noPy {x c:Int} (h1:0<c) (h2:c<2^63):Builtin.divisionGoesByPylong x c=false:=by
 refine PyProof.noPylong_of_log2 ?_
 have h:c.natAbs.log2<63:=(Nat.log2_lt (by omega)).mpr (by omega)
 omega
theorem qbx:∀ {xs:List V} {us:List Value},xs.length=us.length→(∀ (i:Nat) (x:V) (u:Value),xs[i]?=some x→us[i]?=some u→RelV x u)→Vals xs us
 | [],[],_,_=>.nil
 | [],_::_,h,_=>by cases h
 | _::_,[],h,_=>by cases h
 | x::xs,u::us,h,k=>.cons (k 0 x u rfl rfl) (qbx (by simpa using h) λi y w e1 e2=>k (i+1) y w (by simpa using e1) (by simpa using e2))
section
variable {X:Cx} {pos:Pos} {tg:Expr}
noncomputable def RngAt (X:Cx) (pins:List (Addr × Obj)) (σ:St) (ds:List D) (H:Hp) (v:Value) (s:Shared):Prop :=
 ∃ a b c t u w p,v=.ref p∧IsRange s.heap p a b c t u w∧Inv X pins σ H s∧Builtin.Range.small a b c=true∧Builtin.Range.rangeSize a b c=ds.length∧ds=(List.range ds.length).map λ(k:Nat)=>D.int (a+k*c)
theorem qeX {pins:List (Addr × Obj)} {σ:St} {H:Hp} {s:Shared} {ι:List Addr} {l ds:List D} {vs:List V} {us:List Value} {E:Value→Shared→Prop} (I:Inv X pins σ H s) (r:Vals vs us) (hd:Dens ι H l vs) (e:rngD l=some ds) :
  wpAny (model X.prog X.w) X.A (call (.type "range") us) (RngAt X pins σ ds H) E s:=by
 have fin:∀ {a b c:Int} {t u w:Tok} {tk:Nat},-(2^62)≤a→a<2^62→-(2^62)≤b→b<2^62→0<c→c<2^62→ds=rngL a b c →
   RngAt X pins σ ds H (.ref s.heap.objs.size) { s with heap:=s.heap.push { cls:=.type "range",data:=.fields #[.int a t,.int b u,.int c w] },toks:=tk }:=by
  intro a b c t u w tk h1 h2 h3 h4 h5 h6 ed
  have el:ds.length=((b-a+c-1) / c).toNat:=by rw [ed];unfold rngL;simp
  refine ⟨a,b,c,t,u,w,_,rfl,IsRange.new ..,I.kept λb o e=>wB _ e,qdL h1 h2 h3 h4 h5 h6,?_,?_⟩
  ·rw [qbw h5,el]
  ·rw [el,ed]
   unfold rngL
   exact List.map_congr_left λk _=>by rw [Int.mul_comm]
 match l,e,hd with
 | [.int b],e,hd =>
  obtain ⟨x,rfl,hx⟩:=dens1 hd
  cases (show x=_ from hx)
  obtain ⟨u,rfl,tu,rfl⟩:=vals1 r
  simp only [rngD] at e
  split at e
  ·rename_i h
   cases e
   exact call_range_1 (fin (by omega) (by omega) h.1 h.2 (by omega) (by omega) rfl)
  ·cases e
 | [.int a,.int b],e,hd =>
  obtain ⟨x,y,rfl,hx,hy⟩:=dens2 hd
  cases (show x=_ from hx)
  cases (show y=_ from hy)
  obtain ⟨u,w,rfl,⟨tu,rfl⟩,tw,rfl⟩:=vals2 r
  simp only [rngD] at e
  split at e
  ·rename_i h
   cases e
   exact call_range_2 (fin h.1 h.2.1 h.2.2.1 h.2.2.2 (by omega) (by omega) rfl)
  ·cases e
 | [.int a,.int b,.int c],e,hd =>
  obtain ⟨x,r1,rfl,hx,hr1⟩:=hd
  obtain ⟨y,z,rfl,hy,hz⟩:=dens2 hr1
  cases (show x=_ from hx)
  cases (show y=_ from hy)
  cases (show z=_ from hz)
  cases r with
  | cons ra rb =>
   obtain ⟨u,w,rfl,⟨tu,rfl⟩,tw,rfl⟩:=vals2 rb
   obtain ⟨ta,rfl⟩:=ra
   simp only [rngD] at e
   split at e
   ·rename_i h
    cases e
    exact call_range_3 (by omega) (fin h.1 h.2.1 h.2.2.1 h.2.2.2.1 h.2.2.2.2.1 h.2.2.2.2.2 rfl) (.inl (noPy (by omega) (by omega)))
   ·cases e
theorem qeY {a:Expr} {es:List Expr} {p:Pos} {ms:En→Sr→Res (List D)} (hg:Gl X "range") (hm:X.mg "range"=none) (ha:PA X (a::es) (TL ms)) (hs:starEach (a::es) X.env=(false,eval a X.env)::starEach es X.env) (hpl:(backTo pos (starEach es X.env)).any (·.1)=false)
  {pins:List (Addr × Obj)} {σ:St} {H:Hp} {s:Shared} {ι:List Addr} {S S1:Sr} {ρ:En} {l ds:List D} (I:Inv X pins σ H s) (er:EnR ι H ρ σ) (st:Sto ι H S) (z:ms ρ S=.ok l S1) (e:rngD l=some ds) :
  wpAny (model X.prog X.w) X.A (eval (.Call (.Name "range" p) (a::es) [] pos) X.env) (λv s'=>∃ ι' H',Stp ι H ι' H'∧Sto ι' H' S1∧RngAt X pins σ ds H' v s') X.xe s:=by
 refine Call_ (yH I hg hm boot_range (PyProof.Rows.callWith_type1 (thn (ha pos pins s σ H (λvs H1=>∃ ι1,Stp ι H ι1 H1∧Sto ι1 H1 S1∧Dens ι1 H1 l vs) I ⟨ι,S,ρ,er,st,?_⟩) λus s1 ⟨vs,H1,I1,r1,ι1,q1,st1,d1⟩=>?_) hs hpl))
 ·rw [z];exact λvs ι1 H1 q1 st1 d1=>⟨ι1,q1,st1,d1⟩
 ·exact thn (qeX I1 r1 d1 e) λv s2 q2=>⟨ι1,H1,q1,st1,q2⟩
noncomputable def ItS (lo c:Int) (n:Nat):It:=⟨λi _=>i<n,λi H x H'=>H'=H∧x=.int (lo+i*c),λi _=>n≤i⟩
theorem qdM {P:Program} {w:World} {K:PySem.W.Frag} (it:Addr) (lo c:Int) (n:Nat):Turn P w K tg (ItS lo c n) [it] it (λi h=>IsRangeIter h it (lo+(i:Nat)*c) ((n:Int)-(i:Nat)) c) where
 mem:=by simp
 obj:=λi h st b hb=>by
  obtain rfl:=w9.mp hb
  exact ⟨_,st,λv z=>by cases (show Data.fields _=Data.cell v from z)⟩
 keep:=λi h h' st k=>k it (by simp) _ st
 item:=by
  intro X hP hw hK hc i pins s σ H E I hf st hg
  subst hP hw hK
  obtain ⟨f0,f1,f2,f3,f4,f5⟩:=hf it (by simp)
  refine (Walks.range (prog:=X.prog) (w:=X.w) (I.ok.hd hc) it lo c n).item i s _ _ hg st λv h' tk hv st' kk=>?_
  obtain ⟨t,rfl⟩:=hv
  have I1:Inv X pins σ H { s with heap:=h',toks:=tk }:=I.turned (λb o hb e=>kk b o (by simpa using hb) e) f0 f1 f3 f4 f5
  exact ⟨_,rfl,qef (s:={ s with heap:=h',toks:=tk }) (n:="range_iterator") st' rfl rfl (by decide) ⟨.int (lo+i*c),H,I1,⟨t,rfl⟩,⟨rfl,rfl⟩,st',λb hb=>(hf b hb).1⟩⟩
 done:=by
  intro X hP hw hK hc i pins s σ H E I hf st hg
  subst hP hw hK
  obtain ⟨f0,f1,f2,f3,f4,f5⟩:=hf it (by simp)
  exact wpAny_pyNext_range_end (I.ok.hd hc) st (by have:n≤i:=hg;omega) λh' eb=>⟨rfl,I.turned (t':=s.toks) (λb o hb e=>eb b o hb e) f0 f1 f3 f4 f5⟩
 self:=λ_ _ _ _ _ st h=>wpAny_pyIter_rangeiter st h
theorem qiC {ι:List Addr} {H:Hp} {lo c:Int} {n:Nat}:ItOk ι H (ItS lo c n) ((List.range n).map λ(k:Nat)=>D.int (lo+k*c)) where
 go:=λi d ι2 H2 s e=>by
  rw [wY] at e
  cases z:(List.range n)[i]? with
  | none=>rw [z] at e;cases e
  | some k =>
   rw [z] at e;cases e
   obtain ⟨h1,h2⟩:=wI.mp z
   simp only [List.length_range] at h1
   simp only [List.getElem_range] at h2
   subst h2
   refine ⟨h1,λy H3 hy=>?_⟩
   obtain ⟨rfl,rfl⟩:=hy
   exact ⟨Stp.refl _ _,λ_ z=>⟨z,rfl⟩⟩
 stop:=λι2 H2 s=>by
  show n≤_
  simp
theorem i_rng {a:Expr} {es:List Expr} {p:Pos} {ms:En→Sr→Res (List D)} (hg:Gl X "range") (hm:X.mg "range"=none) (ha:PA X (a::es) (TL ms)) (hs:starEach (a::es) X.env=(false,eval a X.env)::starEach es X.env) (hpl:(backTo pos (starEach es X.env)).any (·.1)=false) :
  PI X tg (.Call (.Name "range" p) (a::es) [] pos) (TIt λρ S=>(ms ρ S).bind λl S1=>ofO (rngD l) S1):=by
 intro pins s σ H R I hw
 obtain ⟨ι,S,ρ,er,st,q⟩:=hw
 dsimp only at q
 cases z:ms ρ S with
 | no=>rw [z] at q;exact q.elim
 | err=>rw [z] at q;exact q.elim
 | ok l S1 =>
  rw [z,Res.bind_ok] at q
  cases z2:rngD l with
  | none=>rw [z2] at q;exact q.elim
  | some ds =>
   rw [z2] at q
   refine thn (qeY hg hm ha hs hpl I er st z z2) λv s1 ⟨ι1,H1,q1,st1,ra⟩=>?_
   obtain ⟨x,y,c,t,u,w,pp,rfl,ir,I1,sm,sz,ed⟩:=ra
   refine wpAny_pyIter_range ir sm ?_
   refine ⟨s1.heap.objs.size,[s1.heap.objs.size],_,ItS x c ds.length,H1,rfl,I1.kept (t':=s1.toks) λb o e=>wB _ e,qdM _ x c ds.length,?_,λb hb=>?_,q ι1 H1 _ q1 st1 (by rw [ed];simpa using qiC (ι:=ι1) (H:=H1) (lo:=x) (c:=c) (n:=ds.length))⟩
   ·show IsRangeIter _ _ (x+((0:Nat):Int)*c) ((ds.length:Int)-((0:Nat):Int)) c
    have e1:x+((0:Nat):Int)*c=x:=by simp
    have e2:(ds.length:Int)-((0:Nat):Int)=Builtin.Range.rangeSize x y c:=by rw [sz];simp
    rw [e1,e2]
    exact wH _ rfl
   ·obtain rfl:=w9.mp hb
    exact I1.fpOk (wG _) (I1.hok.fresh (wG _))
theorem jN {a c:Int}:∀ {acc:Array Value} {n:Nat},ItemsOf (λi v=>∃ t,v=.int (a+i*c) t) acc n→Vals ((List.range n).map λ(k:Nat)=>V.int (a+k*c)) acc.toList:=by
 intro acc n h
 obtain ⟨h1,h2⟩:=h
 apply qbx
 ·simp [h1]
 ·intro i x u e1 e2
  rw [wY] at e1
  cases z:(List.range n)[i]? with
  | none=>rw [z] at e1;cases e1
  | some k =>
   rw [z] at e1;cases e1
   obtain ⟨h3,h4⟩:=wI.mp z
   simp only [List.getElem_range] at h4
   subst h4
   obtain ⟨t,rfl⟩:=h2 i u (by simpa using e2)
   exact ⟨t,rfl⟩
end
end R
namespace R
open PySem PySem.Spec L2 SeqAt
open PyProof.Rows hiding St
section
variable {prog:Program} {w:World} {A:Around} {E:Value→Shared→Prop} {s:Shared}
theorem qeZ {Q:List Value→Shared→Prop} {r:Addr} {a b c:Int} {t u v:Tok} {n:Nat} (hh:A.handled=none) (hr:IsRange s.heap r a b c t u v) (hs:Builtin.Range.small a b c=true) (hn:Builtin.Range.rangeSize a b c=n) (hl:n≤2^24)
  (hQ:∀ (h':Heap) (tk:Nat) (acc:Array Value),(∀ b o,s.heap.get? b=some o→h'.get? b=some o)→ItemsOf (λi v=>∃ t,v=.int (a+i*c) t) acc n→Q acc.toList { s with heap:=h',toks:=tk }):wpAny (model prog w) A (collect (.ref r)) Q E s:=by
 have core:∀ R:Result→Shared→Prop,(∀ (h':Heap) (tk:Nat) (acc:Array Value) (c':Nat),(∀ b o,s.heap.get? b=some o→h'.get? b=some o)→h'.get? s.heap.objs.size=some { cls:=.type "list",dict:=none,data:=.seq acc c',slots:=#[] }→ItemsOf (λi v=>∃ t,v=.int (a+i*c) t) acc n →
   R (.ok (.ret (.ref s.heap.objs.size))) { s with heap:=h',toks:=tk })→codeAny (model prog w) A (.builtin "proto.collect" ⟨[.ref r],[]⟩) R s:=by
  intro R hR
  refine codeAny_builtin F.entry_proto_collect ?_
  rw [Around.under_plainId F.plain_proto_collect]
  refine wA (m:=newList []) (wT (wC ⟨plainId_quiet F.plain_list_iadd _,codeAny_builtin F.entry_list_iadd ?_⟩))
  rw [Around.under_plainId F.plain_list_iadd]
  have h0:(s.heap.push { cls:=.type "list",data:=.seq ([]:List Value).toArray }).get? s.heap.objs.size=some { cls:=.type "list",data:=.seq #[] 0 }:=wH _ rfl
  exact wpAny_extend_range (R:=R) (s:={ s with heap:=s.heap.push { cls:=.type "list",data:=.seq ([]:List Value).toArray } }) hh (wB _ hr) hs hn hl s.heap.objs.size (.ref s.heap.objs.size) 0 h0 λh' tk acc c' hk hS hi =>
   hR h' tk acc c' (λb o e=>hk b o (wW (wE e)) (wB _ e)) hS hi
 unfold collect
 refine wA (wpAny_runValue (core _ λh' tk acc c' hk hS hi=>?_))
 exact wA (m:=load s.heap.objs.size) (wpAny_load hS (wC (hQ h' tk acc hk hi)))
theorem qgM {Q:Value→Shared→Prop} {r:Addr} {a b c:Int} {t u v:Tok} {n:Nat} (hh:A.handled=none) (hr:IsRange s.heap r a b c t u v) (hs:Builtin.Range.small a b c=true) (hn:Builtin.Range.rangeSize a b c=n) (hl:n≤2^24)
  (hQ:∀ (h':Heap) (tk:Nat) (acc:Array Value),(∀ b o,s.heap.get? b=some o→h'.get? b=some o)→ItemsOf (λi v=>∃ t,v=.int (a+i*c) t) acc n→Q (.ref h'.objs.size) { s with heap:=h'.push { cls:=.type "tuple",data:=.seq acc },toks:=tk }) :
  wpAny (model prog w) A (call (.type "tuple") [.ref r]) Q E s:=by
 have new:codeAny (model prog w) A.in1 (.call (.builtin "tuple.__new__") ⟨[.type "tuple",.ref r],[]⟩) (wants (λobj s₁=>s₁.TypeIs obj "tuple"∧Q obj s₁) E) s:=by
  refine codeAny_of_tree (?_:wpAny _ A.in1.in1 (do checkBuiltinCall "tuple.__new__" ⟨[.type "tuple",.ref r],[]⟩;again (.builtin "tuple.__new__" ⟨[.type "tuple",.ref r],[]⟩)) _ _ s)
  refine wA (wpAny_of_eq (F.newCall_tuple_1 _) (wC ⟨plainId_quiet F.plain_tuple_new _,codeAny_builtin F.entry_tuple_new ?_⟩))
  rw [Around.under_plainId F.plain_tuple_new]
  have k1:=sub_tuple_self
  have k2:=init_tuple_lookup
  have k3:=madeHere_tuple
  have hT:s.TypeIs (.ref r) "range":=⟨_,hr,rfl⟩
  wp_walk using wpAny_typeOf hT,qeZ (A:=A.in1.in1) hh hr hs hn hl
  intro h' tk acc hk hi
  refine wA (m:=Builtin.Tuple.tupleExact acc.toList.toArray) ?_
  unfold Builtin.Tuple.tupleExact
  refine wT (wC ?_) (by
   have:acc.toList.toArray.size≤sizeLine:=by rw [Array.toArray_toList,hi.1];exact hl
   exact this)
  have e:acc.toList.toArray=acc:=Array.toArray_toList ..
  rw [e]
  exact ⟨⟨_,wH _ rfl,rfl⟩,hQ h' tk acc hk hi⟩
 refine callType_codes F.called_tuple (F.typeCall_tuple_1 _) F.entry_object_init new λobj s₁ h₁=>?_
 exact ⟨h₁.1,F.args_object_init_2 obj _,object_init_meets F.called_tuple.init.lookup F.called_tuple.made (by decide) prog w A.in1 _ s₁ ⟨h₁.1,rfl,h₁.2⟩⟩
end
section
variable {X:Cx} {pos:Pos}
noncomputable def mRng (k:Option Bool) (ms:En→Sr→Res (List D)):En→Sr→Res D:=λρ S=>(ms ρ S).bind λl S1=>match rngD l with
 | some ds=>if ds.length≤1000000 then (match k with
  | some m=>newL m ds S1
  | none=>.ok (.tup ds) S1) else .no
 | none=>.no
theorem qgN {ι:List Addr} {H:Hp} {a c:Int} {n:Nat}:Dens ι H ((List.range n).map λ(k:Nat)=>D.int (a+k*c)) ((List.range n).map λ(k:Nat)=>V.int (a+k*c)):=by
 have:∀ l:List Nat,Dens ι H (l.map λ(k:Nat)=>D.int (a+k*c)) (l.map λ(k:Nat)=>V.int (a+k*c)):=λl=>by
  induction l with
  | nil=>rfl
  | cons x r ih=>exact ⟨_,_,rfl,rfl,ih⟩
 exact this _
theorem qhx {k:Option Bool} {f:Str} {ty:String} {a:Expr} {es:List Expr} {p1 p2 pos2:Pos} {ms:En→Sr→Res (List D)} (hf:(f=Str.ofString "list"∧ty="list"∧∃ m,k=some m)∨(f=Str.ofString "tuple"∧ty="tuple"∧k=none)) (hc:X.calm=true) (hg:Gl X "range") (hm:X.mg "range"=none) (hg2:Gl X f) (hm2:X.mg f=none)
  (ha:PA X (a::es) (TL ms)) (hs:starEach (a::es) X.env=(false,eval a X.env)::starEach es X.env) (hpl:(backTo pos2 (starEach es X.env)).any (·.1)=false) :
  PE X (.Call (.Name f p1) [.Call (.Name "range" p2) (a::es) [] pos2] [] pos) (T (mRng k ms)):=by
 intro pins s σ H Q I hw
 have hb:bootBuiltins f=some (.type ty):=by
  rcases hf with ⟨rfl,rfl,_⟩ | ⟨rfl,rfl,_⟩ <;> decide +kernel
 have hn:f≠"__name__":=by rcases hf with ⟨rfl,rfl,_⟩ | ⟨rfl,rfl,_⟩ <;> decide
 have hd:(f == ("__debug__":Str))=false:=by rcases hf with ⟨rfl,rfl,_⟩ | ⟨rfl,rfl,_⟩ <;> decide
 refine Call_ (yH I hg2 hm2 hb ?_ hn hd)
 obtain ⟨ι,S,ρ,er,st,q⟩:=hw
 dsimp only [mRng] at q
 cases z:ms ρ S with
 | no=>rw [z] at q;exact q.elim
 | err=>rw [z] at q;exact q.elim
 | ok l S1 =>
  rw [z,Res.bind_ok] at q
  cases z2:rngD l with
  | none=>simp only [z2] at q;exact q.elim
  | some ds =>
   simp only [z2] at q
   by_cases hle:ds.length≤1000000
   ·rw [wJ hle] at q
    refine PyProof.Rows.callWith_type1 (e:=.Call (.Name "range" p2) (a::es) [] pos2) (rest:=[]) ?_ rfl rfl
    refine Calls.spliced_cons (thn (qeY hg hm ha hs hpl I er st z z2) λv s1 ⟨ι1,H1,q1,st1,ra⟩=>Calls.spliced_nil ?_)
    obtain ⟨x,y,c,t,u,w,pp,rfl,ir,I1,sm,sz,ed⟩:=ra
    have hfr:H1 s1.heap.objs.size=none:=I1.hok.fresh (wG _)
    have dd:Dens ι1 H1 ds ((List.range ds.length).map λ(k:Nat)=>V.int (x+k*c)):=by
     have:=qgN (ι:=ι1) (H:=H1) (a:=x) (c:=c) (n:=ds.length)
     rwa [← ed] at this
    have hl24:ds.length≤2^24:=vA hle (by decide)
    rcases hf with ⟨rfl,rfl,e⟩ | ⟨rfl,rfl,e⟩
    ·obtain ⟨m,rfl⟩:=e
     ·refine call_list_range (I.ok.hd hc) ir sm sz hl24 λh' tk acc c' hk hS hi=>?_
      exact ⟨.ref _,_,I1.laid (o:=.lst ((List.range ds.length).map λ(k:Nat)=>V.int (x+k*c))) (t':=tk) hk (wG _) ⟨by simp;exact hl24,acc.toList,c',jN hi,by rw [hS]⟩,rfl,qW st1 dd (Pst.from q q1) _ hfr⟩
    ·subst e
     ·refine qgM (I.ok.hd hc) ir sm sz hl24 λh' tk acc hk hi=>?_
      have I2:=I1.kept (h':=h') (t':=tk) hk
      have hfr2:H1 h'.objs.size=none:=I2.hok.fresh (wG _)
      refine ⟨.ref _,upd H1 h'.objs.size (.tup _),I2.laid (t':=tk) (λb o e=>wB _ e) (wG _) ⟨by simp;exact hl24,acc.toList,jN hi,⟨_,wH _ rfl,rfl,0,by simp⟩,λo q=>by rw [wH _ rfl] at q;cases q;rfl⟩,rfl,zd st1 dd ?_ _ hfr2⟩
      exact λv ι' H' s' st' dv=>q v ι' H' (q1.trans s') st' dv
   ·rw [wK hle] at q;exact q.elim
end
end R
namespace R
open PySem PySem.Spec L2 SeqAt
open PyProof.Rows hiding St
noncomputable def SI (b:Bool) (h:Heap) (it l:Addr) (k:Nat):Prop:=match b with
 | true=>h.IsTupleIter it l k
 | false=>h.IsListIter it l k
noncomputable def SQ (b:Bool) (h:Heap) (l:Addr) (xs:Array Value):Prop:=match b with
 | true=>h.IsTuple l xs
 | false=>h.IsList l xs
theorem SI.at {b:Bool} {h h':Heap} {it l:Addr} {k:Nat} (x:SI b h it l k) (e:∀ o,h.get? it=some o→h'.get? it=some o):SI b h' it l k:=by
 cases b with
 | true=>exact Heap.IsTupleIter.at x e
 | false=>exact Heap.IsListIter.at x e
theorem SQ.at {b:Bool} {h h':Heap} {l:Addr} {xs:Array Value} (x:SQ b h l xs) (e:∀ o,h.get? l=some o→h'.get? l=some o):SQ b h' l xs:=by
 cases b with
 | true=>exact Heap.IsTuple.at x e
 | false=>exact Heap.IsList.at x e
theorem SI.obj {b:Bool} {h:Heap} {it l:Addr} {k:Nat} (x:SI b h it l k):∃ o,h.get? it=some o∧(∀ v,o.data≠.cell v):=by
 cases b with
 | true=>obtain ⟨o,e,_,d⟩:=x;exact ⟨o,e,λv z=>by rw [d] at z;cases z⟩
 | false=>obtain ⟨o,e,_,d⟩:=x;exact ⟨o,e,λv z=>by rw [d] at z;cases z⟩
section
variable {prog:Program} {w:World} {A:Around} {E:Value→Shared→Prop} {s:Shared}
theorem qe0 {it l:Addr} {i:Nat} {xs:Array Value} {x:Value} {Q:Value→Shared→Prop} (hi:s.heap.IsTupleIter it l i) (hl:s.heap.IsTuple l xs) (hx:xs[i]?=some x)
  (hQ:∀ h',h'.IsTupleIter it l (i+1)→Heap.SameBut it s.heap h'→Q x { s with heap:=h' }):wpAny (model prog w) A (Builtin.SmallTypes.nextOf (.ref it)) Q E s:=by
 have hT:=hi.typeIs
 obtain ⟨o,eo,co,d⟩:=hi
 obtain ⟨u,eu,_,m,du⟩:=hl
 unfold Builtin.SmallTypes.nextOf
 refine wA (wb (name:=Str.ofString "__next__") hT F.slot_tuple_iterator_next (wj F.slot_tuple_iterator_next hT F.entry_tuple_iterator_next ?_ (F.args_tuple_iterator_next_1 _)))
 refine wA (m:=field (.ref it) 0) (wd eo d (x:=.ref l) rfl (?_:wpAny _ _ (if (Value.ref l == Value.none)=true then _ else _) _ _ s))
 rw [wK (show ¬ ((Value.ref l == Value.none)=true) from wR)]
 refine wA (m:=field (.ref it) 1) (wd eo d (x:=.int i 0) rfl ?_)
 refine wA (m:=seqItems? (.ref l)) (wpAny_seqItems eu du ?_)
 simp only [Int.toNat_natCast,hx]
 refine wA (wpAny_setField eo d (by simp) (wC ⟨x,rfl,wC (hQ _ ⟨_,wv _ eo (Obj.isFreed_of_fields (vB d _)),(Obj.cls_mapFields ..).trans co,?_⟩ (Heap.SameBut.update ..))⟩))
 rw [vB d];simp [rawInt]
theorem qaN {it l:Addr} {i:Nat} {xs:Array Value} {Q:Value→Shared→Prop} (hh:A.handled=none) (hi:s.heap.IsTupleIter it l i) (hl:s.heap.IsTuple l xs) (hx:xs[i]?=none)
  (hE:∀ h' e,Heap.ExtBut it s.heap h'→(∃ o,h'.get? e=some o∧o.cls=.type "StopIteration")→E (.ref e) { s with heap:=h' }):wpAny (model prog w) A (Builtin.SmallTypes.nextOf (.ref it)) Q E s:=by
 have hT:=hi.typeIs
 obtain ⟨o,eo,co,d⟩:=hi
 obtain ⟨u,eu,_,m,du⟩:=hl
 unfold Builtin.SmallTypes.nextOf
 refine wA (wb (name:=Str.ofString "__next__") hT F.slot_tuple_iterator_next (wj F.slot_tuple_iterator_next hT F.entry_tuple_iterator_next ?_ (F.args_tuple_iterator_next_1 _)))
 refine wA (m:=field (.ref it) 0) (wd eo d (x:=.ref l) rfl (?_:wpAny _ _ (if (Value.ref l == Value.none)=true then _ else _) _ _ s))
 rw [wK (show ¬ ((Value.ref l == Value.none)=true) from wR)]
 refine wA (m:=field (.ref it) 1) (wd eo d (x:=.int i 0) rfl ?_)
 refine wA (m:=seqItems? (.ref l)) (wpAny_seqItems eu du ?_)
 simp only [Int.toNat_natCast,hx]
 refine wA (wpAny_rule (wA (wpAny_setField eo d (by simp) (?_:wpAny _ _ (newExc (.type "StopIteration") [] >>= _) _ _ _))))
 refine wA ?_
 unfold newExc newTuple
 refine wA (wT (wA (wpAny_of_eq (t:=firstArgMember _ _) (a:=Value.none) (by first | rfl | (simp only [firstArgMember];rfl)) (wT ?_ (by size_fits)))) (by size_fits))
 unfold raiseNew
 refine wA (wpAny_handled ?_)
 rw [show A.in1.handled=none from hh]
 exact wA (wC (wpAny_throw (hE _ _ (((Heap.SameBut.update ..).extBut.push _).push _) ⟨_,wH _ rfl,rfl⟩)))
theorem draw {b:Bool} {it l:Addr} {i:Nat} {xs:Array Value} {x:Value} {Q:Value→Shared→Prop} (hi:SI b s.heap it l i) (hl:SQ b s.heap l xs) (hx:xs[i]?=some x)
  (hQ:∀ h',SI b h' it l (i+1)→Heap.SameBut it s.heap h'→Q x { s with heap:=h' }):wpAny (model prog w) A (Builtin.SmallTypes.nextOf (.ref it)) Q E s:=by
 cases b with
 | true=>exact qe0 hi hl hx hQ
 | false=>exact wpAny_nextOf_list_item hi hl hx hQ
theorem qby {b:Bool} {it l:Addr} {i:Nat} {xs:Array Value} {Q:Value→Shared→Prop} (hh:A.handled=none) (hi:SI b s.heap it l i) (hl:SQ b s.heap l xs) (hx:xs[i]?=none)
  (hE:∀ h' e,Heap.ExtBut it s.heap h'→(∃ o,h'.get? e=some o∧o.cls=.type "StopIteration")→E (.ref e) { s with heap:=h' }):wpAny (model prog w) A (Builtin.SmallTypes.nextOf (.ref it)) Q E s:=by
 cases b with
 | true=>exact qaN hh hi hl hx hE
 | false=>exact wpAny_nextOf_list_end hh hi hl hx hE
structure ZA (z TI TO i j l m:Addr):Prop where
 zTI:TI≠z
 zTO:TO≠z
 zi:i≠z
 zj:j≠z
 TT:TI≠TO
 TIi:TI≠i
 TIj:TI≠j
 TOi:TO≠i
 TOj:TO≠j
 ij:i≠j
 lz:l≠z
 lT:l≠TO
 li:l≠i
 lj:l≠j
 mz:m≠z
 mT:m≠TO
 mi:m≠i
 mj:m≠j
structure ZS (b c:Bool) (h:Heap) (z TI TO i j l m:Addr) (k:Nat) (xs ys:Array Value) (f:Value):Prop where
 z:IsZip h z TI TO f
 ti:IsPair h TI (.ref i) (.ref j)
 to':∃ a d,IsPair h TO a d
 i1:SI b h i l k
 i2:SI c h j m k
 q1:SQ b h l xs
 q2:SQ c h m ys
variable {b c:Bool} {z TI TO i j l m:Addr} {k:Nat} {xs ys:Array Value}
theorem qiD {x y:Value} {Q:Option Value→Shared→Prop} (D:ZA z TI TO i j l m) (st:ZS b c s.heap z TI TO i j l m k xs ys .none) (hx:xs[k]?=some x) (hy:ys[k]?=some y)
  (hQ:∀ h',ZS b c h' z TI TO i j l m (k+1) xs ys (rawInt s.heap.objs.size)→IsPair h' s.heap.objs.size x y→(∀ a o,a≠z→a≠TO→a≠i→a≠j→s.heap.get? a=some o→h'.get? a=some o)→Q (some (.ref s.heap.objs.size)) { s with heap:=h' }) :
  wpAny (model prog w) A (pyNext (.ref z)) Q E s:=by
 obtain ⟨oz,ti,⟨t0,t1,to'⟩,i1,i2,q1,q2⟩:=st
 have hT:s.TypeIs (.ref z) "zip":=⟨_,oz,rfl⟩
 unfold pyNext
 refine wA (wpAny_attempt (wb (name:=Str.ofString "__next__") hT F.slot_zip_next (wj F.slot_zip_next hT F.entry_zip_next ?_ (F.args_zip_next_1 _))))
 refine wA (m:=field (.ref z) 2) (wd oz rfl (x:=.bool false) rfl (wA (m:=field (.ref z) 3) (wd oz rfl (x:=.ref TI) rfl (wA (wpAny_seqItems ti rfl ?_)))))
 refine wA (m:=Builtin.SmallTypes.ownedTupleIsFree (.ref z)) ?_
 unfold Builtin.SmallTypes.ownedTupleIsFree
 refine wA (wd oz rfl (x:=.none) rfl (wC ?_))
 simp only [if_true]
 refine wA (wpAny_rule (wA (wd oz rfl (x:=.ref TO) rfl (wA (wpAny_setField_rec oz (by simp) λh1 z1 b1=>?_)))))
 have z1':IsZip h1 z TI TO .ellipsis:=z1
 refine wA ?_
 simp only [List.zipIdx_cons,List.zipIdx_nil,List.forIn_cons,List.forIn_nil]
 refine wA (wA (wpAny_onRaise (wA (m:=Builtin.SmallTypes.nextOf (.ref i)) ?_)))
 refine draw (i1.at λo e=>b1.extBut _ o D.zi e) (q1.at λo e=>b1.extBut _ o D.lz e) hx λh2 i2' b2=>wC ?_
 have o2:IsPair h2 TO t0 t1:=b2.extBut _ _ D.TOi (b1.extBut _ _ D.zTO to')
 refine wA (wpAny_seqItems o2 rfl (wA (wpAny_updateSeq_pair o2 λh3 o3 b3=>wA (wpAny_letGo (wC ?_)))))
 have o3':IsPair h3 TO x t1:=o3
 refine wA (wA (wpAny_onRaise (wA (m:=Builtin.SmallTypes.nextOf (.ref j)) ?_)))
 refine draw (i2.at λo e=>b3.extBut _ o D.TOj.symm (b2.extBut _ o D.ij.symm (b1.extBut _ o D.zj e))) (q2.at λo e=>b3.extBut _ o D.mT (b2.extBut _ o D.mi (b1.extBut _ o D.mz e))) hy λh4 i4 b4=>wC ?_
 have o4:IsPair h4 TO x t1:=b4.extBut _ _ D.TOj o3'
 refine wA (wpAny_seqItems o4 rfl (wA (wpAny_updateSeq_pair o4 λh5 o5 b5=>wA (wpAny_letGo (wC (wC ?_))))))
 have o5':IsPair h5 TO x y:=o5
 refine wA (wpAny_seqItems o5' rfl (wA (wpAny_newTuple ?_)))
 have sz:h5.objs.size=s.heap.objs.size:=by rw [b5.1,b4.1,b3.1,b2.1,b1.1]
 have z5:IsZip h5 z TI TO .ellipsis:=b5.extBut _ _ D.zTO.symm (b4.extBut _ _ D.zj.symm (b3.extBut _ _ D.zTO.symm (b2.extBut _ _ D.zi.symm z1')))
 have k5:∀ a o,a≠z→a≠TO→a≠i→a≠j→s.heap.get? a=some o→h5.get? a=some o:=λa o n1 n2 n3 n4 e=>b5.extBut _ _ n2 (b4.extBut _ _ n4 (b3.extBut _ _ n2 (b2.extBut _ _ n3 (b1.extBut _ _ n1 e))))
 have zl:z<h5.objs.size:=wE z5
 refine wA (m:=Builtin.SmallTypes.ownedTupleHandOut (.ref z) (.ref h5.objs.size)) ?_
 unfold Builtin.SmallTypes.ownedTupleHandOut
 have z6:IsZip (h5.push { cls:=.type "tuple",data:=.seq #[x,y] }) z TI TO .ellipsis:=wB _ z5
 refine wA (wpAny_setField_rec z6 (by simp) λh7 z7 b7=>?_)
 have z7':IsZip h7 z TI TO (rawInt h5.objs.size):=z7
 refine wpAny_setField_rec z7' (by simp) λh8 z8 b8=>?_
 have z8':IsZip h8 z TI TO (rawInt h5.objs.size):=z8
 have up:∀ a o,a≠z→h5.get? a=some o→h8.get? a=some o:=λa o n e=>b8.extBut _ _ n (b7.extBut _ _ n (wB _ e))
 have t8:IsPair h8 h5.objs.size x y:=b8.extBut _ _ (vN zl) (b7.extBut _ _ (vN zl) (wH _ rfl))
 rw [sz] at z8' t8
 refine wC ⟨_,rfl,wC ?_⟩
 have all:∀ a o,a≠z→a≠TO→a≠i→a≠j→s.heap.get? a=some o→h8.get? a=some o:=λa o n1 n2 n3 n4 e=>up a o n1 (k5 a o n1 n2 n3 n4 e)
 have fin:=hQ h8 ⟨z8',all _ _ D.zTI D.TT D.TIi D.TIj ti,⟨_,_,up _ _ D.zTO o5'⟩,i2'.at λo e=>up _ o D.zi (b5.extBut _ o D.TOi.symm (b4.extBut _ o D.ij (b3.extBut _ o D.TOi.symm e))),i4.at λo e=>up _ o D.zj (b5.extBut _ o D.TOj.symm e),
  q1.at λo e=>all _ o D.lz D.lT D.li D.lj e,q2.at λo e=>all _ o D.mz D.mT D.mi D.mj e⟩ t8 all
 rw [← sz] at fin
 exact fin
theorem qgO {Q:Option Value→Shared→Prop} (hh:A.handled=none) (D:ZA z TI TO i j l m) (st:ZS b c s.heap z TI TO i j l m k xs ys .none) (hx:xs[k]?=none∨ys[k]?=none)
  (hQ:∀ h',(∀ a o,a≠z→a≠TO→a≠i→a≠j→s.heap.get? a=some o→h'.get? a=some o)→Q none { s with heap:=h' }):wpAny (model prog w) A (pyNext (.ref z)) Q E s:=by
 obtain ⟨oz,ti,⟨t0,t1,to'⟩,i1,i2,q1,q2⟩:=st
 have hT:s.TypeIs (.ref z) "zip":=⟨_,oz,rfl⟩
 have last:∀ (h':Heap) (e:Addr),(∀ a o,a≠z→a≠TO→a≠i→a≠j→s.heap.get? a=some o→h'.get? a=some o)→(∃ o,h'.get? e=some o∧o.cls=.type "StopIteration") →
   wpAny (model prog w) A (do if ← isInstance (.ref e) (.type "StopIteration") then pure none else throw (Value.ref e)) Q E { s with heap:=h' }:=λh' e hk ⟨o,ho,hc⟩ =>
  wA (wpAny_isInstance (T:="StopIteration") (b:=true) ⟨o,ho,hc⟩ isSubtype_stop (wC (hQ h' hk)))
 unfold pyNext
 refine wA (wpAny_attempt (wb (name:=Str.ofString "__next__") hT F.slot_zip_next (wj F.slot_zip_next hT F.entry_zip_next ?_ (F.args_zip_next_1 _))))
 refine wA (m:=field (.ref z) 2) (wd oz rfl (x:=.bool false) rfl (wA (m:=field (.ref z) 3) (wd oz rfl (x:=.ref TI) rfl (wA (wpAny_seqItems ti rfl ?_)))))
 refine wA (m:=Builtin.SmallTypes.ownedTupleIsFree (.ref z)) ?_
 unfold Builtin.SmallTypes.ownedTupleIsFree
 refine wA (wd oz rfl (x:=.none) rfl (wC ?_))
 simp only [if_true]
 refine wA (wpAny_rule (wA (wd oz rfl (x:=.ref TO) rfl (wA (wpAny_setField_rec oz (by simp) λh1 z1 b1=>?_)))))
 have z1':IsZip h1 z TI TO .ellipsis:=z1
 refine wA ?_
 simp only [List.zipIdx_cons,List.zipIdx_nil,List.forIn_cons,List.forIn_nil]
 refine wA (wA (wpAny_onRaise (wA (m:=Builtin.SmallTypes.nextOf (.ref i)) ?_)))
 cases ex:xs[k]? with
 | none =>
  refine qby hh (i1.at λo e=>b1.extBut _ o D.zi e) (q1.at λo e=>b1.extBut _ o D.lz e) ex λh2 e b2 ⟨oe,he,ce⟩=>?_
  have z2:IsZip h2 z TI TO .ellipsis:=b2 _ _ D.zi.symm z1'
  have ne:e≠z:=λq=>by subst q;rw [z2] at he;cases he;simp at ce
  exact wpAny_setField_rec z2 (by simp) λh3 _ b3=>last h3 e (λa o n1 _ n3 _ q=>b3.extBut _ _ n1 (b2 _ _ n3 (b1.extBut _ _ n1 q))) ⟨oe,b3.extBut _ _ ne he,ce⟩
 | some x =>
  have ey:ys[k]?=none:=by
   rcases hx with q | q
   ·rw [ex] at q;cases q
   ·exact q
  refine draw (i1.at λo e=>b1.extBut _ o D.zi e) (q1.at λo e=>b1.extBut _ o D.lz e) ex λh2 i2' b2=>wC ?_
  have o2:IsPair h2 TO t0 t1:=b2.extBut _ _ D.TOi (b1.extBut _ _ D.zTO to')
  refine wA (wpAny_seqItems o2 rfl (wA (wpAny_updateSeq_pair o2 λh3 o3 b3=>wA (wpAny_letGo (wC ?_)))))
  refine wA (wA (wpAny_onRaise (wA (m:=Builtin.SmallTypes.nextOf (.ref j)) ?_)))
  refine qby hh (i2.at λo e=>b3.extBut _ o D.TOj.symm (b2.extBut _ o D.ij.symm (b1.extBut _ o D.zj e))) (q2.at λo e=>b3.extBut _ o D.mT (b2.extBut _ o D.mi (b1.extBut _ o D.mz e))) ey λh4 e b4 ⟨oe,he,ce⟩=>?_
  have z4:IsZip h4 z TI TO .ellipsis:=b4 _ _ D.zj.symm (b3.extBut _ _ D.zTO.symm (b2.extBut _ _ D.zi.symm z1'))
  have ne:e≠z:=λq=>by subst q;rw [z4] at he;cases he;simp at ce
  exact wpAny_setField_rec z4 (by simp) λh5 _ b5=>last h5 e (λa o n1 n2 n3 n4 q=>b5.extBut _ _ n1 (b4 _ _ n4 (b3.extBut _ _ n2 (b2.extBut _ _ n3 (b1.extBut _ _ n1 q))))) ⟨oe,b5.extBut _ _ ne he,ce⟩
end
end R
namespace R
open PySem PySem.Spec L2 SeqAt
open PyProof.Rows hiding St
noncomputable def siO (b:Bool) (l:Addr):Obj:=match b with
 | true=>{ cls:=.type "tuple_iterator",data:=.fields #[.ref l,.int 0 0] }
 | false=>{ cls:=.type "list_iterator",data:=.fields #[.ref l,.int 0 0] }
theorem qe1 {b:Bool} {h:Heap} {l:Addr}:SI b (h.push (siO b l)) h.objs.size l 0:=by
 cases b with
 | true=>exact ⟨_,wH _ rfl,rfl,rfl⟩
 | false=>exact ⟨_,wH _ rfl,rfl,rfl⟩
section
variable {prog:Program} {w:World} {A:Around} {E:Value→Shared→Prop} {s:Shared}
theorem qbz {b:Bool} {l:Addr} {xs:Array Value} {Q:Value→Shared→Prop} (hl:SQ b s.heap l xs) (hQ:Q (.ref s.heap.objs.size) { s with heap:=s.heap.push (siO b l) }):wpAny (model prog w) A (pyIter (.ref l)) Q E s:=by
 cases b with
 | true=>exact wpAny_pyIter_tuple hl hQ
 | false=>exact wpAny_pyIter_list hl hQ
end
noncomputable def zh1 (b:Bool) (h:Heap) (l:Addr):Heap:=h.push (siO b l)
noncomputable def zh2 (b c:Bool) (h:Heap) (l m:Addr):Heap:=(zh1 b h l).push (siO c m)
noncomputable def zh3 (b c:Bool) (h:Heap) (l m:Addr):Heap:=(zh2 b c h l m).push { cls:=.type "tuple",data:=.seq #[.ref h.objs.size,.ref (zh1 b h l).objs.size] }
noncomputable def zh4 (b c:Bool) (h:Heap) (l m:Addr):Heap:=(zh3 b c h l m).push { cls:=.type "tuple",data:=.seq #[.none,.none] }
noncomputable def zh5 (b c:Bool) (h:Heap) (l m:Addr):Heap:=(zh4 b c h l m).push { cls:=.type "zip",data:=.fields #[.none,.bool false,.bool false,.ref (zh2 b c h l m).objs.size,.ref (zh3 b c h l m).objs.size] }
theorem qgP (b c:Bool) (l m:Addr) (xs ys:Array Value):Meets (Builtin.«zip.__new__» ⟨[.type "zip",.ref l,.ref m],[]⟩) (λ_ R s=>SQ b s.heap l xs∧SQ c s.heap m ys∧R (.ok (.ret (.ref (zh4 b c s.heap l m).objs.size))) { s with heap:=zh5 b c s.heap l m }) :=
 .of_wp λprog w A R s h=>by
  obtain ⟨hp,g,d,tk,os⟩:=s
  obtain ⟨a1,a2,h⟩:=h
  have k0:=sub_zip
  have e1:SQ b (Shared.heap ⟨hp,g,d,tk,os⟩) l xs:=a1
  have e2:SQ c (Shared.heap ⟨hp.push (siO b l),g,d,tk,os⟩) m ys:=SQ.at a2 λo e=>wB _ e
  wp_walk using qbz e1,qbz e2
  exact ⟨_,rfl,h⟩
section
variable {prog:Program} {w:World} {A:Around} {E:Value→Shared→Prop} {s:Shared}
theorem qe2 {b c:Bool} {l m:Addr} {xs ys:Array Value} {Q:Value→Shared→Prop} (h1:SQ b s.heap l xs) (h2:SQ c s.heap m ys)
  (h:∀ h':Heap,ZS b c h' (s.heap.objs.size+4) (s.heap.objs.size+2) (s.heap.objs.size+3) s.heap.objs.size (s.heap.objs.size+1) l m 0 xs ys .none→(∀ a o,s.heap.get? a=some o→h'.get? a=some o)→Q (.ref (s.heap.objs.size+4)) { s with heap:=h' }) :
  wpAny (model prog w) A (call (.type "zip") [.ref l,.ref m]) Q E s:=by
 have z1:(zh1 b s.heap l).objs.size=s.heap.objs.size+1:=Heap.size_push ..
 have z2:(zh2 b c s.heap l m).objs.size=s.heap.objs.size+2:=by unfold zh2;rw [Heap.size_push,z1]
 have z3:(zh3 b c s.heap l m).objs.size=s.heap.objs.size+3:=by unfold zh3;rw [Heap.size_push,z2]
 have z4:(zh4 b c s.heap l m).objs.size=s.heap.objs.size+4:=by unfold zh4;rw [Heap.size_push,z3]
 have kp:∀ a o,s.heap.get? a=some o→(zh5 b c s.heap l m).get? a=some o:=λa o e=>by
  unfold zh5 zh4 zh3 zh2 zh1
  exact wB _ (wB _ (wB _ (wB _ (wB _ e))))
 have g5:IsZip (zh5 b c s.heap l m) (zh4 b c s.heap l m).objs.size (zh2 b c s.heap l m).objs.size (zh3 b c s.heap l m).objs.size .none:=wH _ rfl
 have g4:IsPair (zh5 b c s.heap l m) (zh3 b c s.heap l m).objs.size .none .none:=by
  have q:(zh4 b c s.heap l m).get? (zh3 b c s.heap l m).objs.size=some _:=wH _ rfl
  exact wB _ q
 have g3:IsPair (zh5 b c s.heap l m) (zh2 b c s.heap l m).objs.size (.ref s.heap.objs.size) (.ref (zh1 b s.heap l).objs.size):=by
  have q:(zh3 b c s.heap l m).get? (zh2 b c s.heap l m).objs.size=some _:=wH _ rfl
  exact wB _ (wB _ q)
 have i2:SI c (zh5 b c s.heap l m) (zh1 b s.heap l).objs.size m 0:=SI.at (qe1 (b:=c) (h:=zh1 b s.heap l) (l:=m)) λo e=>wB _ (wB _ (wB _ e))
 have i1:SI b (zh5 b c s.heap l m) s.heap.objs.size l 0:=SI.at (qe1 (b:=b) (h:=s.heap) (l:=l)) λo e=>wB _ (wB _ (wB _ (wB _ e)))
 refine callType_new F.called_zip (by decide) (F.typeCall_zip_2 _ _) (F.newCall_zip_2 _ _) (λobj=>F.args_object_init_3 obj _ _) F.entry_zip_new (qgP b c l m xs ys) ⟨h1,h2,?_⟩
 rw [z4,z3,z2] at g5
 rw [z3] at g4
 rw [z2,z1] at g3
 rw [z1] at i2
 rw [z4]
 exact ⟨⟨_,g5,rfl⟩,h _ ⟨g5,g3,⟨_,_,g4⟩,i1,i2,h1.at λo e=>kp _ o e,h2.at λo e=>kp _ o e⟩ kp⟩
end
noncomputable def SqB (b:Bool) (K:PySem.W.Frag) (H:Hp) (l:Addr) (xs:List V):Prop:=match b with
 | true=>SqT K H l xs
 | false=>SqL K H l xs
noncomputable def ItZ (K:PySem.W.Frag) (b c:Bool) (l m:Addr):It:=⟨λi H=>∃ xs ys u v,SqB b K H l xs∧SqB c K H m ys∧xs[i]?=some u∧ys[i]?=some v,
 λi H x H'=>∃ p u v,x=.ref p∧H p=none∧H'=upd H p (.tup [u,v])∧(∀ xs,SqB b K H l xs→xs[i]?=some u)∧∀ ys,SqB c K H m ys→ys[i]?=some v,λi H=>∃ xs ys,SqB b K H l xs∧SqB c K H m ys∧(xs.length≤i∨ys.length≤i)⟩
section
variable {X:Cx} {pos:Pos}
theorem jh {pins:List (Addr × Obj)} {σ:St} {H:Hp} {s:Shared} {b:Bool} {l:Addr} {xs:List V} (I:Inv X pins σ H s) (h:SqB b X.K H l xs):∃ its:List Value,Vals xs its∧SQ b s.heap l its.toArray:=by
 cases b with
 | true=>obtain ⟨its,r,p,_⟩:=I.tuple h;exact ⟨its,r,p⟩
 | false=>obtain ⟨its,r,p,_⟩:=I.list h;exact ⟨its,r,p.isList⟩
theorem qcX {pins:List (Addr × Obj)} {σ:St} {H:Hp} {s:Shared} {b:Bool} {l:Addr} {xs ys:List V} (I:Inv X pins σ H s) (h:SqB b X.K H l xs) (h':SqB b X.K H l ys):xs=ys:=by
 cases b with
 | true=>exact I.tuple_inj h h'
 | false=>exact I.list_inj h h'
noncomputable def ztn (b c:Bool) (z TI TO i j l m:Addr) (k:Nat) (h:Heap):Prop:=IsZip h z TI TO .none∧IsPair h TI (.ref i) (.ref j)∧(∃ a d,IsPair h TO a d)∧SI b h i l k∧SI c h j m k
theorem qe3 {P:Program} {w:World} {K:PySem.W.Frag} {es:List Expr} {n:Nat} {tp:Pos} {b c:Bool} {z TI TO i j l m:Addr} (D:ZA z TI TO i j l m):Turn P w K (.Tuple es n tp) (ItZ K b c l m) [z,TI,TO,i,j] z (ztn b c z TI TO i j l m) where
 mem:=by simp
 obj:=λk h ⟨h1,h2,⟨a,d,h3⟩,h4,h5⟩ x hx=>by
  simp only [wO,wf,or_false] at hx
  rcases hx with rfl | rfl | rfl | rfl | rfl
  ·exact ⟨_,h1,λv q=>by cases (show Data.fields _=Data.cell v from q)⟩
  ·exact ⟨_,h2,λv q=>by cases (show Data.seq _ _=Data.cell v from q)⟩
  ·exact ⟨_,h3,λv q=>by cases (show Data.seq _ _=Data.cell v from q)⟩
  ·exact h4.obj
  ·exact h5.obj
 keep:=λk h h' ⟨h1,h2,⟨a,d,h3⟩,h4,h5⟩ kp=>⟨kp z (by simp) _ h1,kp TI (by simp) _ h2,⟨a,d,kp TO (by simp) _ h3⟩,h4.at λo e=>kp i (by simp) o e,h5.at λo e=>kp j (by simp) o e⟩
 item:=by
  intro X hP hw hK hc k pins s σ H E I hf st hg
  subst hP hw hK
  obtain ⟨xs,ys,u,v,hx,hy,eu,ev⟩:=hg
  obtain ⟨s1,s2,s3,s4,s5⟩:=st
  obtain ⟨its,rx,qx⟩:=jh I hx
  obtain ⟨jts,ry,qy⟩:=jh I hy
  obtain ⟨x,ex,rxu⟩:=rx.get eu
  obtain ⟨y,ey,ryv⟩:=ry.get ev
  refine qiD D ⟨s1,s2,s3,s4,s5,qx,qy⟩ (by simpa using ex) (by simpa using ey) λh' zs pr kp=>⟨_,rfl,?_⟩
  obtain ⟨t1,t2,t3,t4,t5,t6,t7⟩:=zs
  refine wpAny_letOwnedTupleGo_zip (s:={ s with heap:=h' }) t1 λh2 z2 b2=>?_
  have hfz:H s.heap.objs.size=none:=I.hok.fresh (wG _)
  have nz:s.heap.objs.size≠z:=vN (wE s1)
  have all:∀ a o,a ∉ [z,TI,TO,i,j]→s.heap.get? a=some o→h2.get? a=some o:=λa o na e=>by
   simp only [wO,wf,or_false,not_or] at na
   exact b2.extBut _ _ na.1 (kp a o na.1 na.2.2.1 na.2.2.2.1 na.2.2.2.2 e)
  have ne:∀ a o,s.heap.get? a=some o→a≠s.heap.objs.size:=λa o e=>wW (wE e)
  have nt:∀ {a:Addr} {q:HO},H a=some q→a ∉ [z,TI,TO,i,j]:=λ{a q} e hm=>by rw [(hf a hm).1] at e;cases e
  have nu:∀ {a:Addr} {q:HO},H a=some q→a≠s.heap.objs.size:=λ{a q} e z'=>by subst z';rw [hfz] at e;cases e
  have ok':HOk X.prog X.w (upd H s.heap.objs.size (.tup [u,v])) h2:=λa q e=>by
   by_cases qa:a=s.heap.objs.size
   ·subst qa
    rw [qC] at e;cases e
    exact ⟨(show (2:Nat)≤sizeLine by decide),[x,y],.cons rxu (.cons ryv .nil),⟨_,b2.extBut _ _ nz pr,rfl,0,rfl⟩,λo q=>by rw [b2.extBut _ _ nz pr] at q;cases q;rfl⟩
   ·rw [qk qa] at e
    refine (I.hok a q e).stay (λd o hd eo=>all d o ?_ eo) (λd e'=>by rw [qk (nu e')];exact e') λd xs e'=>by rw [qk (nu e')];exact e'
    rcases hd with y' | y'
    ·subst y';exact nt e
    ·exact nt y'
  have I2:Inv X pins σ (upd H s.heap.objs.size (.tup [u,v])) { s with heap:=h2 }:=by
   refine I.step (g':=s.gens) (d':=s.drawn) (t':=s.toks) (ch:=[z,TI,TO,i,j]) (λa ha=>⟨(hf a ha).2.2.2.1,(hf a ha).2.1,(hf a ha).2.2.2.2.1,(hf a ha).2.2.2.2.2⟩) (λa o _ _ na e _=>all a o na e) (λa o _ _ na e _=>⟨o.slots,all a o na e⟩)
    (λa o _ e n=>by rw [qk (ne a o e)];exact n) (λa o na e=>⟨o,all a o na e⟩) (λa xs e=>by rw [qk (nu e)];exact e) (λa o q e=>by rw [qk (nu e)];exact e) (λa ps e=>⟨#[],by rw [qk (nu e),e];simp⟩) (λmm hm=>?_) ok' I.bare.self
   obtain ⟨o,es,ep,ho,r⟩:=hm
   exact ⟨o,es,ep,all _ o (λq=>(hf _ q).2.1 rfl) ho,r⟩
  refine ⟨.ref s.heap.objs.size,_,I2,rfl,⟨_,u,v,rfl,hfz,rfl,λxs' q=>by rw [qcX I q hx];exact eu,λys' q=>by rw [qcX I q hy];exact ev⟩,⟨z2,b2.extBut _ _ D.zTI t2,?_,t4.at λo e=>b2.extBut _ o D.zi e,t5.at λo e=>b2.extBut _ o D.zj e⟩,λa ha=>?_⟩
  ·obtain ⟨a,d,t3⟩:=t3
   exact ⟨a,d,b2.extBut _ _ D.zTO t3⟩
  ·rw [qk]
   ·exact (hf a ha).1
   ·intro q
    have:∃ o,s.heap.get? a=some o:=by
     obtain ⟨a',d',s3'⟩:=s3
     simp only [wO,wf,or_false] at ha
     rcases ha with rfl | rfl | rfl | rfl | rfl
     ·exact ⟨_,s1⟩
     ·exact ⟨_,s2⟩
     ·exact ⟨_,s3'⟩
     ·exact ⟨_,s4.obj.choose_spec.1⟩
     ·exact ⟨_,s5.obj.choose_spec.1⟩
    obtain ⟨o,e⟩:=this
    exact ne a o e q
 done:=by
  intro X hP hw hK hc k pins s σ H E I hf st hg
  subst hP hw hK
  obtain ⟨xs,ys,hx,hy,hl⟩:=hg
  obtain ⟨s1,s2,s3,s4,s5⟩:=st
  obtain ⟨its,rx,qx⟩:=jh I hx
  obtain ⟨jts,ry,qy⟩:=jh I hy
  have hn:its.toArray[k]?=none∨jts.toArray[k]?=none:=by
   rcases hl with q | q
   ·left;simp;rw [← rx.length];exact q
   ·right;simp;rw [← ry.length];exact q
  refine qgO (I.ok.hd hc) D ⟨s1,s2,s3,s4,s5,qx,qy⟩ hn λh' kp=>⟨rfl,?_⟩
  have nt:∀ {a:Addr} {q:HO},H a=some q→a ∉ [z,TI,TO,i,j]:=λ{a q} e hm=>by rw [(hf a hm).1] at e;cases e
  have all:∀ a o,a ∉ [z,TI,TO,i,j]→s.heap.get? a=some o→h'.get? a=some o:=λa o na e=>by
   simp only [wO,wf,or_false,not_or] at na
   exact kp a o na.1 na.2.2.1 na.2.2.2.1 na.2.2.2.2 e
  have ok':HOk X.prog X.w H h':=λa q e=>by
   refine (I.hok a q e).stay (λd o hd eo=>all d o ?_ eo) (λd e'=>e') λd xs e'=>e'
   rcases hd with y' | y'
   ·subst y';exact nt e
   ·exact nt y'
  refine I.step (g':=s.gens) (d':=s.drawn) (t':=s.toks) (ch:=[z,TI,TO,i,j]) (λa ha=>⟨(hf a ha).2.2.2.1,(hf a ha).2.1,(hf a ha).2.2.2.2.1,(hf a ha).2.2.2.2.2⟩) (λa o _ _ na e _=>all a o na e) (λa o _ _ na e _=>⟨o.slots,all a o na e⟩)
   (λa o _ e n=>n) (λa o na e=>⟨o,all a o na e⟩) (λa xs e=>e) (λa o q e=>e) (λa ps e=>⟨#[],by rw [e];simp⟩) (λmm hm=>?_) ok' I.bare.self
  obtain ⟨o,es,ep,ho,r⟩:=hm
  exact ⟨o,es,ep,all _ o (λq=>(hf _ q).2.1 rfl) ho,r⟩
 self:=λ_ _ _ _ _ st h=>wpAny_pyIter_zip st.1 h
end
end R
namespace R
open PySem PySem.Spec L2 SeqAt
open PyProof.Rows hiding St
section
variable {X:Cx} {pos:Pos}
theorem qaq {ι:List Addr} {H:Hp} {d:D} {l:List D} {v:V} (e:walkF d=some l) (h:Den ι H d v):∃ b a xs,v=.ref a∧a ∉ ι∧Dens ι H l xs∧(if b=true then H a=some (.tup xs) else Rd H a (.lst xs)):=by
 cases d with
 | tup l'=>cases e;obtain ⟨a,xs,e1,n,ha,dl⟩:=h;exact ⟨true,a,xs,e1,n,dl,by simpa using ha⟩
 | lst l'=>cases e;obtain ⟨a,xs,e1,n,ha,dl⟩:=h;exact ⟨false,a,xs,e1,n,dl,by simpa using ha⟩
 | _=>cases e
noncomputable def AtB (b:Bool) (H:Hp) (a:Addr) (xs:List V):Prop:=if b=true then H a=some (.tup xs) else Rd H a (.lst xs)
theorem AtB.sq {b:Bool} {H:Hp} {K:PySem.W.Frag} {a:Addr} {xs:List V} (h:AtB b H a xs):SqB b K H a xs:=by
 cases b with
 | true=>exact .inl (.inl h)
 | false=>exact .inl h
theorem AtB.mono {b:Bool} {ι ι':List Addr} {H H':Hp} {a:Addr} {xs:List V} (h:AtB b H a xs) (n:a ∉ ι) (s:Stp ι H ι' H'):AtB b H' a xs:=by
 cases b with
 | true=>exact s.keep _ _ h n trivial
 | false=>exact (s.rd h n).1
theorem qiE {ι:List Addr} {H:Hp} {K:PySem.W.Frag} {b c:Bool} {l m:Addr} {xs ys:List V} {ds es:List D} (nl:l ∉ ι) (nm:m ∉ ι) (al:AtB b H l xs) (am:AtB c H m ys) (h1:Dens ι H ds xs) (h2:Dens ι H es ys):ItOk ι H (ItZ K b c l m) ((ds.zip es).map λp=>.tup [p.1,p.2]) where
 go:=λi d ι2 H2 s e=>by
  rw [wY] at e
  cases z:(ds.zip es)[i]? with
  | none=>rw [z] at e;cases e
  | some p =>
   rw [z] at e;cases e
   obtain ⟨e1,e2⟩:=List.getElem?_zip_eq_some.mp z
   obtain ⟨u,u1,u2⟩:=(Dens.mono s ds h1).get e1
   obtain ⟨v,v1,v2⟩:=(Dens.mono s es h2).get e2
   have al2:=(al.mono nl s).sq (K:=K)
   have am2:=(am.mono nm s).sq (K:=K)
   refine ⟨⟨xs,ys,u,v,al2,am2,u1,v1⟩,λx H3 hy=>?_⟩
   obtain ⟨q,u',v',rfl,hq,rfl,w1,w2⟩:=hy
   have w1:=w1 xs al2
   have w2:=w2 ys am2
   rw [u1] at w1;cases w1
   rw [v1] at w2;cases w2
   have g:=Stp.laid (ι:=ι2) hq (.tup [u,v])
   exact ⟨g,λS st=>⟨st.laid hq _,q,[u,v],rfl,st.fresh hq,qC,u,[v],rfl,Den.mono g _ u2,v,[],rfl,Den.mono g _ v2,rfl⟩⟩
 stop:=λι2 H2 s=>by
  refine ⟨xs,ys,(al.mono nl s).sq,(am.mono nm s).sq,?_⟩
  rw [wP,List.length_zip,h1.length,h2.length]
  lia
theorem qj2 (N l m:Nat) (h1:l<N) (h2:m<N):ZA (N+4) (N+2) (N+3) N (N+1) l m :=
 ⟨(by lia:N+2≠N+4),(by lia:N+3≠N+4),(by lia:N≠N+4),(by lia:N+1≠N+4),(by lia:N+2≠N+3),(by lia:N+2≠N),(by lia:N+2≠N+1),(by lia:N+3≠N),(by lia:N+3≠N+1),(by lia:N≠N+1),
  (by lia:l≠N+4),(by lia:l≠N+3),(by lia:l≠N),(by lia:l≠N+1),(by lia:m≠N+4),(by lia:m≠N+3),(by lia:m≠N),(by lia:m≠N+1)⟩
theorem qe4:bootBuiltins "zip"=some (.type "zip"):=by decide +kernel
theorem qj3 {es:List Expr} {n:Nat} {tp:Pos} {e1 e2:Expr} {p:Pos} {m1 m2:En→Sr→Res D} (hg:Gl X "zip") (hm:X.mg "zip"=none) (h1:PE X e1 (T m1)) (h2:PE X e2 (T m2)) (hs:starEach [e1,e2] X.env=(false,eval e1 X.env)::starEach [e2] X.env) (hs2:starEach [e2] X.env=(false,eval e2 X.env)::starEach [] X.env) :
  PI X (.Tuple es n tp) (.Call (.Name "zip" p) [e1,e2] [] pos) (TIt λρ S=>(m1 ρ S).bind λx S1=>(m2 ρ S1).bind λy S2=>match walkF x,walkF y with
   | some l,some m=>.ok ((l.zip m).map λp=>.tup [p.1,p.2]) S2
   | _,_=>.no):=by
 intro pins s σ H R I hw
 obtain ⟨ι,S,ρ,er,st,q⟩:=hw
 dsimp only at q
 cases z1:m1 ρ S with
 | no=>rw [z1] at q;exact q.elim
 | err=>rw [z1] at q;exact q.elim
 | ok x S1 =>
  rw [z1,Res.bind_ok] at q
  cases z2:m2 ρ S1 with
  | no=>rw [z2] at q;exact q.elim
  | err=>rw [z2] at q;exact q.elim
  | ok y S2 =>
   rw [z2,Res.bind_ok] at q
   cases z3:walkF x with
   | none=>simp only [z3] at q
   | some l =>
    cases z4:walkF y with
    | none=>simp only [z3,z4] at q
    | some m =>
     simp only [z3,z4] at q
     refine Call_ (yH I hg hm qe4 (PyProof.Rows.callWith_type1 (e:=e1) (rest:=[e2]) ?_ hs (by rw [hs2];rfl)))
     rw [hs,hs2]
     refine Calls.spliced_cons (thn (h1 pins s σ H (λv H1=>∃ ι1,Stp ι H ι1 H1∧Sto ι1 H1 S1∧Den ι1 H1 x v) I ⟨ι,S,ρ,er,st,by rw [z1];exact λv ι1 H1 a b c=>⟨ι1,a,b,c⟩⟩) λu1 s1 ⟨v1,H1,I1,r1,ι1,q1,st1,d1⟩=>?_)
     refine Calls.spliced_cons (thn (h2 pins s1 σ H1 (λv H2=>∃ ι2,Stp ι1 H1 ι2 H2∧Sto ι2 H2 S2∧Den ι2 H2 y v) I1 ⟨ι1,S1,ρ,er.mono q1,st1,by rw [z2];exact λv ι1 H1 a b c=>⟨ι1,a,b,c⟩⟩) λu2 s2 ⟨v2,H2,I2,r2,ι2,q2,st2,d2⟩=>Calls.spliced_nil ?_)
     obtain ⟨b,la,xs,rfl,nl,dl,al⟩:=qaq z3 (Den.mono q2 x d1)
     obtain ⟨c,ma,ys,rfl,nm,dm,am⟩:=qaq z4 d2
     cases r1
     cases r2
     obtain ⟨its,rx,qx⟩:=jh I2 (AtB.sq al)
     obtain ⟨jts,ry,qy⟩:=jh I2 (AtB.sq am)
     have lt:∀ {b:Bool} {a:Addr} {w:Array Value},SQ b s2.heap a w→a<s2.heap.objs.size:=λ{b a w} h=>by
      cases b with
      | true=>obtain ⟨o,e,_⟩:=h;exact wE e
      | false=>obtain ⟨o,e,_⟩:=h;exact wE e
     have l1:=lt qx
     have l2:=lt qy
     refine qe2 qx qy λh' zs kp=>wpAny_pyIter_zip zs.z ?_
     have I3:Inv X pins σ H2 { s2 with heap:=h' }:=I2.kept (t':=s2.toks) kp
     generalize hN:s2.heap.objs.size=N at l1 l2 zs
     have D:ZA (N+4) (N+2) (N+3) N (N+1) la ma:=qj2 N la ma l1 l2
     refine ⟨N+4,[N+4,N+2,N+3,N,N+1],_,ItZ X.K b c la ma,H2,rfl,I3,qe3 D,⟨zs.z,zs.ti,zs.to',zs.i1,zs.i2⟩,λa ha=>?_,q ι2 H2 _ (q1.trans q2) st2 (qiE nl nm al am dl dm)⟩
     have hle:s2.heap.objs.size≤a:=by
      rw [hN]
      simp only [wO,wf,or_false] at ha
      rcases ha with rfl | rfl | rfl | rfl | rfl
      ·exact Nat.le_add_right _ _
      ·exact Nat.le_add_right _ _
      ·exact Nat.le_add_right _ _
      ·exact wG _
      ·exact Nat.le_add_right _ _
     exact I2.fpOk hle (I2.hok.fresh hle)
end
end R
namespace R
open PySem PySem.Spec L2 SeqAt
open PyProof.Rows hiding St
open PySem.W (KasT kas_rev kas_asc kas_desc kas_tail3 kas_descPart kas_count kas_place kas_bin kas_sort)
noncomputable def evT {α:Type} (lt:Nat→Nat→Bool):KasT α→α
 | .ret a=>a
 | .ask i j k=>evT lt (k (lt i j))
theorem zW {α β:Type} (lt:Nat→Nat→Bool) (f:α→KasT β):∀ t:KasT α,evT lt (t.bind f)=evT lt (f (evT lt t))
 | .ret _=>rfl
 | .ask i j k=>zW lt f (k (lt i j))
structure Ord (lt:Nat→Nat→Bool) (n:Nat):Prop where
 irr:∀ a,a<n→lt a a=false
 tr:∀ a b c,a<n→b<n→c<n→lt a b=true→lt b c=true→lt a c=true
 tot:∀ a b,a<n→b<n→a≠b→lt a b=true∨lt b a=true
noncomputable def gt (p:Array Nat) (k:Nat):Nat:=p.getD k 0
noncomputable def Pm (n:Nat) (p:Array Nat):Prop:=p.toList.Perm (List.range n)
section
variable {lt:Nat→Nat→Bool} {n:Nat} {p:Array Nat}
theorem Pm.size (h:Pm n p):p.size=n:=by
 have:=h.length_eq
 simpa using this
theorem qbA {k:Nat} (hk:k<p.size):gt p k=p[k]:=by simp [gt,Array.getD,hk]
theorem yW {q:Array Nat} {k j:Nat} (h:q[k]?=p[j]?):gt q k=gt p j:=by
 unfold gt
 rw [Array.getD_eq_getD_getElem?,Array.getD_eq_getD_getElem?,h]
theorem Pm.bd (h:Pm n p) {k:Nat} (hk:k<n):gt p k<n:=by
 have hs:k<p.size:=by rw [h.size];exact hk
 rw [qbA hs]
 have hm:p[k]∈p.toList:=by simp
 exact List.mem_range.mp (h.mem_iff.mp hm)
theorem Pm.inj (h:Pm n p) {i j:Nat} (hi:i<n) (hj:j<n) (e:gt p i=gt p j):i=j:=by
 have nd:p.toList.Nodup:=h.nodup_iff.mpr List.nodup_range
 have hs:i<p.size:=by rw [h.size];exact hi
 have ht:j<p.size:=by rw [h.size];exact hj
 rw [qbA hs,qbA ht] at e
 have e':p.toList[i]'(by simpa using hs)=p.toList[j]'(by simpa using ht):=by simpa using e
 exact (List.getElem_inj nd).mp e'
noncomputable def Srt (lt:Nat→Nat→Bool) (p:Array Nat) (m:Nat):Prop:=∀ i j,i<j→j<m→lt (gt p i) (gt p j)=true
theorem Srt.one:Srt lt p 1:=λi j h1 h2=>by lia
theorem Srt.snoc (O:Ord lt n) (h:Pm n p) {m:Nat} (hm:1≤m) (hn:m<n) (s:Srt lt p m) (q:lt (gt p (m-1)) (gt p m)=true):Srt lt p (m+1):=λi j h1 h2=>by
 by_cases hj:j<m
 ·exact s i j h1 hj
 ·have e:j=m:=by lia
  subst e
  by_cases hi:i=j-1
  ·subst hi;exact q
  ·exact O.tr _ _ _ (h.bd (by lia)) (h.bd (by lia)) (h.bd hn) (s i (j-1) (by lia) (by lia)) q
theorem qaO (O:Ord lt n) (h:Pm n p):∀ (f k:Nat),1≤k→k+f=n→Srt lt p k→(k≤evT lt (kas_asc p f k)∧evT lt (kas_asc p f k)≤n∧Srt lt p (evT lt (kas_asc p f k)))∧(evT lt (kas_asc p f k)<n→lt (gt p (evT lt (kas_asc p f k))) (gt p (evT lt (kas_asc p f k)-1))=true)
 | 0,k,h1,h2,s=>⟨⟨wG _,by show k≤n;lia,s⟩,λq=>by have q':k<n:=q;lia⟩
 | f+1,k,h1,h2,s=>by
  unfold kas_asc
  simp only [evT]
  cases z:lt (p.getD k 0) (p.getD (k-1) 0) with
  | true =>
   rw [wJ rfl]
   exact ⟨⟨wG _,by show k≤n;lia,s⟩,λ_=>z⟩
  | false =>
   rw [wK (by decide)]
   have hne:gt p k≠gt p (k-1):=λe=>by
    have:=h.inj (by lia) (by lia) e
    lia
   have q:lt (gt p (k-1)) (gt p k)=true:=by
    rcases O.tot _ _ (h.bd (show k<n by lia)) (h.bd (show k-1<n by lia)) hne with y | y
    ·have z':lt (gt p k) (gt p (k-1))=false:=z
     rw [z'] at y;cases y
    ·exact y
   obtain ⟨⟨a1,a2,a3⟩,a4⟩:=qaO O h f (k+1) (by lia) (by lia) (s.snoc O h h1 (by lia) q)
   exact ⟨⟨by lia,a2,a3⟩,a4⟩
noncomputable def Fal (lt:Nat→Nat→Bool) (p:Array Nat) (m:Nat):Prop:=∀ i j,i<j→j<m→lt (gt p j) (gt p i)=true
theorem Fal.snoc (O:Ord lt n) (h:Pm n p) {m:Nat} (hm:1≤m) (hn:m<n) (s:Fal lt p m) (q:lt (gt p m) (gt p (m-1))=true):Fal lt p (m+1):=λi j h1 h2=>by
 by_cases hj:j<m
 ·exact s i j h1 hj
 ·have e:j=m:=by lia
  subst e
  by_cases hi:i=j-1
  ·subst hi;exact q
  ·exact O.tr _ _ _ (h.bd hn) (h.bd (by lia)) (h.bd (by lia)) q (s i (j-1) (by lia) (by lia))
theorem qaP (O:Ord lt n) (h:Pm n p):∀ (f k:Nat),1≤k→k+f=n→Fal lt p k→∃ m,evT lt (kas_desc f p k 0)=(p,m,0)∧k≤m∧m≤n∧Fal lt p m
 | 0,k,h1,h2,s=>⟨k,rfl,wG _,by lia,s⟩
 | f+1,k,h1,h2,s=>by
  unfold kas_desc
  simp only [evT]
  cases z:lt (p.getD k 0) (p.getD (k-1) 0) with
  | true =>
   rw [wJ rfl,wK (by lia)]
   obtain ⟨m,e,a1,a2,a3⟩:=qaP O h f (k+1) (by lia) (by lia) (s.snoc O h h1 (by lia) z)
   exact ⟨m,e,by lia,a2,a3⟩
  | false =>
   rw [wK (by decide)]
   simp only [evT]
   have hne:gt p k≠gt p (k-1):=λe=>by
    have:=h.inj (by lia) (by lia) e
    lia
   have q:lt (p.getD (k-1) 0) (p.getD k 0)=true:=by
    rcases O.tot _ _ (h.bd (show k<n by lia)) (h.bd (show k-1<n by lia)) hne with y | y
    ·have z':lt (gt p k) (gt p (k-1))=false:=z
     rw [z'] at y;cases y
    ·exact y
   rw [q,wJ rfl]
   exact ⟨k,rfl,wG _,by lia,s⟩
theorem qe5 (h:Pm n p) (i j:Nat):Pm n (kas_rev p i j):=(mirror_perm p i j _).toList.trans h
theorem qgQ (O:Ord lt n) (h:Pm n p) {k:Nat} (h1:1≤k) (hk:k≤n) (s:Fal lt p k):∃ m q,evT lt (kas_tail3 k n p)=(m,q)∧Pm n q∧1≤m∧m≤n∧Srt lt q m:=by
 have hp:Pm n (kas_rev p 0 k):=qe5 h 0 k
 have sr:Srt lt (kas_rev p 0 k) k:=λi j h2 h3=>by
  have e:∀ x,x<k→gt (kas_rev p 0 k) x=gt p (k-1-x):=λx hx=>by
   have:=getElem?_mirror_all (xs:=p) (i:=0) (j:=k) (by rw [h.size];exact hk) x
   rw [wJ ⟨vO _,hx⟩] at this
   have q:=yW this
   have e2:0+k-1-x=k-1-x:=by lia
   rw [e2] at q
   exact q
  rw [e i (by lia),e j h3]
  exact s (k-1-j) (k-1-i) (by lia) (by lia)
 unfold kas_tail3
 rw [zW]
 obtain ⟨⟨a1,a2,a3⟩,_⟩:=qaO O hp (n-k) k h1 (by lia) sr
 exact ⟨_,_,rfl,hp,by lia,a2,a3⟩
theorem qbB (O:Ord lt n) (hn:1≤n) (h:Pm n p):∃ m q,evT lt (kas_count n p)=(m,q)∧Pm n q∧1≤m∧m≤n∧Srt lt q m:=by
 unfold kas_count
 rw [zW]
 obtain ⟨⟨a1,a2,a3⟩,a4⟩:=qaO O h (n-1) 1 (wG _) (by lia) Srt.one
 generalize evT lt (kas_asc p (n-1) 1)=m at *
 by_cases e:m=n
 ·subst e
  rw [wJ (by simp)]
  exact ⟨m,p,rfl,h,a1,a2,a3⟩
 ·rw [wK (by simpa using e)]
  by_cases h1:m>1
  ·rw [wJ h1]
   simp only [evT]
   have q:lt (p.getD 0 0) (p.getD (m-1) 0)=true:=a3 0 (m-1) (by lia) (by lia)
   rw [q,wJ rfl]
   exact ⟨m,p,rfl,h,a1,a2,a3⟩
  ·rw [wK h1]
   have e1:m=1:=by lia
   subst e1
   have q:=a4 (by lia)
   unfold kas_descPart
   rw [zW]
   have f2:Fal lt p 2:=Fal.snoc (m:=1) O h (wG _) (by lia) (λi j h1 h2=>by lia) q
   obtain ⟨k,e,b1,b2,b3⟩:=qaP O h (n-(1+1)) (1+1) (by lia) (by lia) f2
   rw [e]
   rw [wK (by simp)]
   exact qgQ (k:=k) O h (by lia) b2 b3
theorem jO (O:Ord lt n) (h:Pm n p) {k:Nat} (hk:k<n) (s:Srt lt p k):∀ (f l r:Nat),l≤r→r≤k→r-l≤f→(∀ i,i<l→lt (gt p i) (gt p k)=true)→(∀ i,r≤i→i<k→lt (gt p k) (gt p i)=true) →
  evT lt (kas_place p k f l r)≤k∧(∀ i,i<evT lt (kas_place p k f l r)→lt (gt p i) (gt p k)=true)∧∀ i,evT lt (kas_place p k f l r)≤i→i<k→lt (gt p k) (gt p i)=true
 | 0,l,r,h1,h2,h3,a,b=>⟨by show l≤k;lia,a,λi h4 h5=>b i (by have h4':l≤i:=h4;lia) h5⟩
 | f+1,l,r,h1,h2,h3,a,b=>by
  unfold kas_place
  by_cases hl:l≥r
  ·rw [wJ hl]
   exact ⟨by show l≤k;lia,a,λi h4 h5=>b i (by have h4':l≤i:=h4;lia) h5⟩
  ·rw [wK hl]
   simp only [evT]
   have hm:(l+r) / 2<k:=by lia
   cases z:lt (p.getD k 0) (p.getD ((l+r) / 2) 0) with
   | true =>
    rw [wJ rfl]
    refine jO O h hk s f l ((l+r) / 2) (by lia) (by lia) (by lia) a λi h4 h5=>?_
    by_cases e:i=(l+r) / 2
    ·subst e;exact z
    ·exact O.tr _ _ _ (h.bd hk) (h.bd (by lia)) (h.bd (by lia)) z (s ((l+r) / 2) i (by lia) h5)
   | false =>
    rw [wK (by decide)]
    have hne:gt p k≠gt p ((l+r) / 2):=λe=>by
     have:=h.inj hk (by lia) e
     lia
    have q:lt (gt p ((l+r) / 2)) (gt p k)=true:=by
     rcases O.tot _ _ (h.bd hk) (h.bd (show (l+r) / 2<n by lia)) hne with y | y
     ·have z':lt (gt p k) (gt p ((l+r) / 2))=false:=z
      rw [z'] at y;cases y
     ·exact y
    refine jO O h hk s f ((l+r) / 2+1) r (by lia) h2 (by lia) (λi h4=>?_) b
    by_cases e:i=(l+r) / 2
    ·subst e;exact q
    ·exact O.tr _ _ _ (h.bd (by lia)) (h.bd (by lia)) (h.bd hk) (s i ((l+r) / 2) (by lia) hm) q
theorem qe6 (O:Ord lt n):∀ (f k:Nat) (p:Array Nat),Pm n p→k+f=n→Srt lt p k→Pm n (evT lt (kas_bin f p k))∧Srt lt (evT lt (kas_bin f p k)) n
 | 0,k,p,h,h1,s=>by
  have e:k=n:=by lia
  subst e
  exact ⟨h,s⟩
 | f+1,k,p,h,h1,s=>by
  unfold kas_bin
  rw [zW]
  obtain ⟨a1,a2,a3⟩:=jO O h (k:=k) (by lia) s k 0 k (vO _) (wG _) (by lia) (λi hi=>by lia) λi h2 h3=>by lia
  generalize evT lt (kas_place p k k 0 k)=l at *
  have hp:Pm n (bubble p k (k-l)):=(bubble_perm p k (k-l)).toList.trans h
  refine qe6 O f (k+1) _ hp (by lia) λi j h2 h3=>?_
  have ev:∀ x,gt (bubble p k (k-l)) x=if x=l then gt p k else if l<x∧x≤k then gt p (x-1) else gt p x:=λx=>by
   have e:=getElem?_bubble (xs:=p) (src:=k) (by rw [h.size];lia) (k-l) (by lia) x
   have e3:k-(k-l)=l:=by lia
   rw [e3] at e
   by_cases q1:x=l
   ·rw [wJ q1] at e ⊢;exact yW e
   ·rw [wK q1] at e ⊢
    by_cases q2:l<x∧x≤k
    ·rw [wJ q2] at e ⊢;exact yW e
    ·rw [wK q2] at e ⊢;exact yW e
  rw [ev i,ev j]
  by_cases i1:i=l
  ·rw [wJ i1,wK (by lia),wJ ⟨by lia,by lia⟩]
   exact a3 (j-1) (by lia) (by lia)
  ·rw [wK i1]
   by_cases j1:j=l
   ·rw [wJ j1,wK (by lia)]
    exact a2 i (by lia)
   ·rw [wK j1]
    by_cases i2:l<i∧i≤k
    ·rw [wJ i2,wJ ⟨by lia,by lia⟩]
     exact s (i-1) (j-1) (by lia) (by lia)
    ·rw [wK i2]
     by_cases j2:l<j∧j≤k
     ·rw [wJ j2]
      exact s i (j-1) (by lia) (by lia)
     ·rw [wK j2]
      exact s i j h2 (by lia)
theorem qcY (O:Ord lt n) (hn:1≤n):Pm n (evT lt (kas_sort n))∧Srt lt (evT lt (kas_sort n)) n:=by
 unfold kas_sort
 rw [zW]
 have h0:Pm n (List.toArray (List.range n)):=by
  show (List.toArray (List.range n)).toList.Perm _
  simp
 obtain ⟨m,q,e,a1,a2,a3,a4⟩:=qbB O hn h0
 rw [e]
 by_cases hm:m<n
 ·rw [wJ hm]
  have e2:max m 1=m:=by lia
  show Pm n (evT lt (kas_bin (n-max m 1) q (max m 1)))∧_
  rw [e2]
  exact qe6 O (n-m) m q a1 (by lia) a4
 ·rw [wK hm]
  have e2:m=n:=by lia
  subst e2
  exact ⟨a1,a4⟩
end
end R
namespace R
open PySem PySem.Spec L2 SeqAt
open PyProof.Rows hiding St
open PySem.W (KasT kas_rev kas_asc kas_desc kas_tail3 kas_descPart kas_count kas_place kas_bin kas_sort kas_cmp kas_item kas_item_eq kas_runs kas_st kas_range KatLex kat_lt KatTups kat_kind)
noncomputable def InT {α:Type} (lt:Nat→Nat→Bool) (n:Nat):KasT α→Prop
 | .ret _=>True
 | .ask i j k=>i<n∧j<n∧InT lt n (k (lt i j))
section
variable {lt:Nat→Nat→Bool} {n:Nat} {p:Array Nat}
theorem zX {α β:Type} {f:α→KasT β}:∀ {t:KasT α},InT lt n t→InT lt n (f (evT lt t))→InT lt n (t.bind f)
 | .ret _,_,h=>h
 | .ask i j k,h,h'=>⟨h.1,h.2.1,zX h.2.2 h'⟩
theorem qcm (h:Pm n p):∀ (f k:Nat),1≤k→k+f=n→InT lt n (kas_asc p f k)
 | 0,_,_,_=>trivial
 | f+1,k,h1,h2=>by
  refine ⟨h.bd (show k<n by lia),h.bd (show k-1<n by lia),?_⟩
  dsimp only
  split
  ·trivial
  ·exact qcm h f (k+1) (by lia) (by lia)
theorem qcZ (O:Ord lt n) (h:Pm n p):∀ (f k:Nat),1≤k→k+f=n→InT lt n (kas_desc f p k 0)
 | 0,_,_,_=>trivial
 | f+1,k,h1,h2=>by
  refine ⟨h.bd (show k<n by lia),h.bd (show k-1<n by lia),?_⟩
  cases z:lt (p.getD k 0) (p.getD (k-1) 0) with
  | true =>
   dsimp only
   rw [wJ rfl,wK (by lia)]
   exact qcZ O h f (k+1) (by lia) (by lia)
  | false =>
   dsimp only
   rw [wK (by decide)]
   refine ⟨h.bd (show k-1<n by lia),h.bd (show k<n by lia),?_⟩
   have hne:gt p k≠gt p (k-1):=λe=>by
    have:=h.inj (by lia) (by lia) e
    lia
   have q:lt (p.getD (k-1) 0) (p.getD k 0)=true:=by
    rcases O.tot _ _ (h.bd (show k<n by lia)) (h.bd (show k-1<n by lia)) hne with y | y
    ·have z':lt (gt p k) (gt p (k-1))=false:=z
     rw [z'] at y;cases y
    ·exact y
   rw [q]
   dsimp only
   rw [wJ rfl]
   trivial
theorem qgR (h:Pm n p) {k:Nat} (h1:1≤k) (hk:k≤n):InT lt n (kas_tail3 k n p):=zX (qcm (qe5 h 0 k) (n-k) k h1 (by lia)) trivial
theorem qe7 (O:Ord lt n) (hn:1≤n) (h:Pm n p):InT lt n (kas_count n p):=by
 unfold kas_count
 obtain ⟨⟨a1,a2,a3⟩,a4⟩:=qaO O h (n-1) 1 (wG _) (by lia) Srt.one
 refine zX (qcm h (n-1) 1 (wG _) (by lia)) ?_
 generalize evT lt (kas_asc p (n-1) 1)=m at *
 by_cases e:m=n
 ·subst e;rw [wJ (by simp)];trivial
 ·rw [wK (by simpa using e)]
  by_cases h1:m>1
  ·rw [wJ h1]
   refine ⟨h.bd (show 0<n by lia),h.bd (show m-1<n by lia),?_⟩
   have q:lt (p.getD 0 0) (p.getD (m-1) 0)=true:=a3 0 (m-1) (by lia) (by lia)
   rw [q]
   dsimp only
   rw [wJ rfl];trivial
  ·rw [wK h1]
   have e1:m=1:=by lia
   subst e1
   have q:=a4 (by lia)
   unfold kas_descPart
   have f2:Fal lt p 2:=Fal.snoc (m:=1) O h (wG _) (by lia) (λi j h1 h2=>by lia) q
   obtain ⟨k,e,b1,b2,b3⟩:=qaP O h (n-(1+1)) (1+1) (by lia) (by lia) f2
   refine zX (qcZ O h (n-(1+1)) (1+1) (by lia) (by lia)) ?_
   rw [e,wK (by simp)]
   exact qgR (k:=k) h (by lia) b2
theorem jP (h:Pm n p) {k:Nat} (hk:k<n):∀ (f l r:Nat),r≤k→InT lt n (kas_place p k f l r)
 | 0,_,_,_=>trivial
 | f+1,l,r,h2=>by
  unfold kas_place
  by_cases hl:l≥r
  ·rw [wJ hl];trivial
  ·rw [wK hl]
   refine ⟨h.bd hk,h.bd (show (l+r) / 2<n by lia),?_⟩
   dsimp only
   split
   ·exact jP h hk f l _ (by lia)
   ·exact jP h hk f _ r h2
theorem qe8 (O:Ord lt n):∀ (f k:Nat) (p:Array Nat),Pm n p→k+f=n→InT lt n (kas_bin f p k)
 | 0,_,_,_,_=>trivial
 | f+1,k,p,h,h1=>zX (jP h (by lia) k 0 k (wG _)) (qe8 O f (k+1) _ ((bubble_perm p k _).toList.trans h) (by lia))
theorem qgS (O:Ord lt n) (hn:1≤n):InT lt n (kas_sort n):=by
 have h0:Pm n (List.toArray (List.range n)):=by
  show (List.toArray (List.range n)).toList.Perm _
  simp
 obtain ⟨m,q,e,a1,a2,a3,a4⟩:=qbB O hn h0
 refine zX (qe7 O hn h0) ?_
 rw [e]
 by_cases hm:m<n
 ·rw [wJ hm]
  have e2:max m 1=m:=by lia
  show InT lt n (kas_bin (n-max m 1) q (max m 1))
  rw [e2]
  exact qe8 O (n-m) m q a1 (by lia)
 ·rw [wK hm];trivial
theorem qc0 {α:Type} {cmp:Nat→Nat→(Bool→Shared→Prop)→Shared→Prop} {s:Shared} (hc:∀ i j C,i<n→j<n→C (lt i j) s→cmp i j C s) {Q:α→Shared→Prop}:∀ {t:KasT α},InT lt n t→Q (evT lt t) s→t.kasWp cmp Q s
 | .ret _,_,h=>h
 | .ask i j k,h,q=>hc i j _ h.1 h.2.1 (qc0 hc h.2.2 q)
end
section
variable {prog:Program} {w:World} {A:Around} {E:Value→Shared→Prop} {s:Shared}
theorem qiF {b:Bool} {x y:Int} {t u:Tok} {Q:Bool→Shared→Prop} (h:Q (decide (x<y)) s):wpAny (model prog w) A (oneLt' b (.int x t) (.int y u)) Q E s:=by
 cases b with
 | true=>exact oneLt_int h
 | false=>exact PySem.W.kat_one _ _ (PySem.P.lt_int h)
theorem qe9 {b:Bool} {Q:Bool→Shared→Prop}:∀ {xs ys:List Int} {us vs:List Value} {i:Nat},IntsAre us xs→IntsAre vs ys→Q (HT.lexLt xs ys) s→KatLex prog w A b (decide (xs.length<ys.length)) Q (us.zip vs) i s:=by
 intro xs
 induction xs with
 | nil =>
  intro ys us vs i h1 h2 h
  cases h1
  cases h2 with
  | nil=>exact h
  | cons =>
   show Q _ s
   simpa [HT.lexLt] using h
 | cons x xs ih =>
  intro ys us vs i h1 h2 h
  cases h1 with
  | cons _ t rx =>
  cases h2 with
  | nil =>
   show Q _ s
   simpa [HT.lexLt] using h
  | cons _ u ry =>
  refine wpAny_eqBool_int ?_
  rw [HT.qZ] at h
  split at h
  ·rename_i e
   subst e
   rw [wJ (by simp)]
   have:=ih (i:=i+1) rx ry h
   simpa [List.zip] using this
  ·rename_i e
   rw [wK (by simpa using e)]
   exact qiF h
noncomputable def TupsAt (h:Heap):List Value→List (List Int)→Prop
 | [],ks=>ks=[]
 | v::vs,ks=>∃ a its k r,v=.ref a∧ks=k::r∧IsTup h a its.toArray∧IntsAre its k∧TupsAt h vs r
theorem TupsAt.len {h:Heap}:∀ {vs:List Value} {ks:List (List Int)},TupsAt h vs ks→vs.length=ks.length
 | [],_,e=>by cases (show _=[] from e);rfl
 | _::_,_,e=>by obtain ⟨a,its,k,r,_,rfl,_,_,t⟩:=e;simp [TupsAt.len t]
theorem TupsAt.get {h:Heap}:∀ {vs:List Value} {ks:List (List Int)} (i:Nat),TupsAt h vs ks→i<ks.length→∃ a its,vs.getD i .none=.ref a∧IsTup h a its.toArray∧IntsAre its (ks.getD i [])
 | [],_,_,e,hi=>by cases (show _=[] from e);simp at hi
 | _::vs,_,0,e,hi=>by obtain ⟨a,its,k,r,rfl,rfl,h1,h2,_⟩:=e;exact ⟨a,its,rfl,h1,by simpa using h2⟩
 | _::vs,_,i+1,e,hi=>by
  obtain ⟨a,its,k,r,rfl,rfl,h1,h2,t⟩:=e
  obtain ⟨a',its',e1,e2,e3⟩:=TupsAt.get i t (by simpa using hi)
  exact ⟨a',its',by simpa using e1,e2,by simpa using e3⟩
theorem TupsAt.keep {h h':Heap}:∀ {vs:List Value} {ks:List (List Int)},TupsAt h vs ks→(∀ a o,Value.ref a∈vs→h.get? a=some o→h'.get? a=some o)→TupsAt h' vs ks
 | [],_,e,_=>e
 | _::_,_,e,hk=>by
  obtain ⟨a,its,k,r,rfl,rfl,⟨o,eo,c⟩,h2,t⟩:=e
  exact ⟨a,its,k,r,rfl,rfl,⟨o,hk a o wN eo,c⟩,h2,t.keep λb u hb=>hk b u (wM _ hb)⟩
theorem TupsAt.firsts {h:Heap}:∀ {vs:List Value} {ks:List (List Int)},TupsAt h vs ks→(∀ k∈ks,k≠[])→∃ fs:List Value,KatTups h vs fs∧fs.length=vs.length∧∀ f∈fs,∃ x t,f=.int x t
 | [],_,e,_=>⟨[],trivial,rfl,λf hf=>by cases hf⟩
 | _::_,_,e,hn=>by
  obtain ⟨a,its,k,r,rfl,rfl,⟨o,eo,c,m,d⟩,h2,t⟩:=e
  obtain ⟨fs,k1,k2,k3⟩:=t.firsts λk hk=>hn k (wM _ hk)
  cases h2 with
  | nil=>exact absurd rfl (hn [] wN)
  | cons x tx h2 =>
   refine ⟨.int x tx::fs,⟨⟨a,o,_,m,rfl,eo,c,d,by simp⟩,k1⟩,by simp [k2],λf hf=>?_⟩
   rcases wO.mp hf with z | z
   ·exact ⟨x,tx,z⟩
   ·exact k3 f z
noncomputable def ltK (ks:List (List Int)) (i j:Nat):Bool:=HT.lexLt (ks.getD i []) (ks.getD j [])
theorem qgT {vs:List Value} {ks:List (List Int)} (t:TupsAt s.heap vs ks) {i j:Nat} (hi:i<ks.length) (hj:j<ks.length) {C:Bool→Shared→Prop} (h:C (ltK ks i j) s):kas_cmp prog w A (tuples' true) (pairsOf vs) i j C s:=by
 unfold kas_cmp
 rw [kas_item_eq,kas_item_eq]
 obtain ⟨a,xs,e1,⟨o,eo,_,m,d⟩,r1⟩:=t.get i hi
 obtain ⟨b,ys,e2,⟨u,eu,_,m',d'⟩,r2⟩:=t.get j hj
 dsimp only
 rw [e1,e2]
 have:=qe9 (prog:=prog) (w:=w) (A:=A) (s:=s) (b:=true) (i:=0) (Q:=C) r1 r2 h
 refine kat_lt eo d eu d' ?_
 have l1:=r1.length
 have l2:=r2.length
 simpa [l1,l2] using this
theorem qfa {vs:List Value} {ks:List (List Int)} (t:TupsAt s.heap vs ks) (hn:∀ k∈ks,k≠[]) (h2:2≤vs.length) {Q:SortKind→Shared→Prop} (h:Q (tuples' true) s):wpAny (model prog w) A (keyKind' vs.toArray) Q E s:=by
 obtain ⟨fs,k1,k2,k3⟩:=t.firsts hn
 refine kat_kind (T:=Value.type "int") k1 (by lia) (λv hv=>?_) (by decide) h
 obtain ⟨x,tx,rfl⟩:=k3 v hv
 exact .now
end
end R
namespace R
open PySem PySem.Spec L2 SeqAt
open PyProof.Rows hiding St
open PySem.W (KasT kas_sort kas_cmp kas_item kas_item_eq kas_runs kas_st kas_range KdlSrc kdl_extend kdl_hint_dict)
section
variable {prog:Program} {w:World} {A:Around} {E:Value→Shared→Prop} {s:Shared}
structure Answers (prog:Program) (w:World) (A:Around) (vs:List Value) (s:Shared) (κ:SortKind) (lt:Nat→Nat→Bool):Prop where
 kind:∀ (E:Value→Shared→Prop) (Q:SortKind→Shared→Prop),Q κ s→wpAny (model prog w) A (keyKind' vs.toArray) Q E s
 ord:Ord lt vs.length
 cmp:∀ i j C,i<vs.length→j<vs.length→C (lt i j) s→kas_cmp prog w A κ (pairsOf vs) i j C s
noncomputable def outOf (lt:Nat→Nat→Bool) (vs:List Value):List Value:=if vs.length<2 then vs else (evT lt (kas_sort vs.length)).toList.map λi=>vs.getD i Value.none
theorem lsort {D:Addr} {vs:List Value} {n:Nat} {κ:SortKind} {lt:Nat→Nat→Bool} {P:PySem.Fin→Shared→Prop} (ho:s.heap.get? D=some (seqObj "list" vs.toArray n)) (h64:vs.length<64)
  (ans:2≤vs.length→∀ h':Heap,(∀ b o,b≠D→s.heap.get? b=some o→h'.get? b=some o)→Answers prog w A vs { s with heap:=h' } κ lt)
  (h:∀ (h':Heap) (c:Nat),(∀ b o,b≠D→s.heap.get? b=some o→h'.get? b=some o)→h'.get? D=some (seqObj "list" (outOf lt vs).toArray c)→P (.done (.ret .none)) { s with heap:=h' }) :
  wpAny (model prog w) A (Builtin.«list.sort» ⟨[.ref D],[]⟩) P E s:=by
 have hD:D<s.heap.objs.size:=wE ho
 obtain ⟨e1,o1⟩:∃ e1,(s.heap.update D (Obj.mapSeq λ_=>(#[]:Array Value))).get? D=some (seqObj "list" #[] e1):=⟨_,get?_update_seq ho λ_=>#[]⟩
 have k1:∀ b o,b≠D→s.heap.get? b=some o→(((s.heap.update D (Obj.mapSeq λ_=>(#[]:Array Value))).push (seqObj "tuple" vs.toArray 0)).push (seqObj "list" #[] 0)).get? b=some o:=λb o hb e =>
  wB _ (wB _ ((wS _ _ (Ne.symm hb)).trans e))
 have o3:(((s.heap.update D (Obj.mapSeq λ_=>(#[]:Array Value))).push (seqObj "tuple" vs.toArray 0)).push (seqObj "list" #[] 0)).get? D=some (seqObj "list" #[] e1):=wB _ (wB _ o1)
 rw [list_sort_plain]
 refine wA (listItems_at ho rfl (wA (listUpdate_at ho rfl (wA (seqEpoch_at o1 rfl (wA (wpAny_newTuple (wA (wpAny_newList (wp ?_) (vO _))) (by show vs.length≤_;rw [vJ];lia)))))
  (by rw [wF,vJ];lia) (vO _))))
 generalize hh:((s.heap.update D (Obj.mapSeq λ_=>(#[]:Array Value))).push (seqObj "tuple" vs.toArray 0)).push (seqObj "list" #[] 0)=h3 at k1 o3
 show wpAny (model prog w) A _ P E { s with heap:=h3 }
 dsimp only
 have fin:∀ (xs:Array Value),xs=(outOf lt vs).toArray→P (.done (.ret .none)) { s with heap:=h3.update D (Obj.mapSeq λ_=>xs) }:=λxs ex=>by
  subst ex
  exact h _ _ (λb o hb e=>(wS _ _ (Ne.symm hb)).trans (k1 b o hb e)) (get?_update_seq o3 λ_=>(outOf lt vs).toArray)
 by_cases h2:vs.toArray.size<2
 ·have h2':vs.length<2:=by simpa using h2
  rw [wJ h2,wJ h2]
  refine wA (wC ?_)
  rw [StateT.run_pure]
  refine wA (wC (?_:wpAny _ A _ _ _ _))
  dsimp only
  refine wA (seqEpoch_at o3 rfl (wA (listUpdate_at o3 rfl ?_ (vO _) (by rw [Array.size_map];show (pairsOf vs).size≤_;rw [pairsOf_size,vJ];lia))))
  simp only [bne_self_eq_false,Bool.false_eq_true,if_false]
  refine wC (fin _ ?_)
  unfold outOf
  rw [wJ h2']
  apply Array.toList_inj.mp
  show ((vs.toArray.zip vs.toArray).map (·.2)).toList=_
  simp [List.map_snd_zip]
 ·have h2':2≤vs.length:=by
   have:¬ vs.length<2:=by simpa using h2
   lia
  have a:=ans h2' h3 k1
  rw [wK h2,wK h2]
  refine wA (a.kind _ _ ?_)
  have est:SortSt.mk' κ (vs.toArray.zip vs.toArray) #[] 7 none=kas_st κ (pairsOf vs) (List.toArray (List.range vs.length)):=by
   have e:=kas_range (pairsOf vs)
   rw [pairsOf_size] at e
   show SortSt.mk' κ (pairsOf vs) #[] 7 none=SortSt.mk' κ ((List.toArray (List.range vs.length)).map (kas_item (pairsOf vs))) #[] 7 none
   rw [e]
  have run:=kas_runs (prog:=prog) (w:=w) (A:=A) (E:=E) (κ:=κ) (it:=pairsOf vs) (s:={ s with heap:=h3 }) (Q:=λ_ st' s'=>s'={ s with heap:=h3 }∧failedOf st'=none∧∃ p:Array Nat,p=evT lt (kas_sort vs.length)∧p.size=vs.length∧arrOf st'=p.map (kas_item (pairsOf vs)))
   (G:=λp s'=>s'={ s with heap:=h3 }∧p=evT lt (kas_sort vs.length)) h2' h64 (λp' st' s' b1 b2 b3 b4=>⟨b4.1,b3,p',b4.2,b1,b2⟩) (qc0 a.cmp (qgS a.ord (by lia)) ⟨rfl,rfl⟩)
  rw [← est] at run
  refine wA (wg run ?_ λ_ _ e=>e)
  rintro ⟨⟨⟩,st'⟩ s' ⟨rfl,hf,p,ep,hp,har⟩
  dsimp only
  have hout:(arrOf st').map (·.2)=(outOf lt vs).toArray:=by
   unfold outOf
   rw [wK (by lia),← ep]
   apply Array.toList_inj.mp
   rw [har,Array.map_map,Array.toList_map]
   exact List.map_congr_left λi _=>by show (kas_item (pairsOf vs) i).2=_;rw [kas_item_eq]
  have hsz:((arrOf st').map (·.2)).size=vs.length:=by rw [har,Array.map_map,Array.size_map,hp]
  refine wA (seqEpoch_at o3 rfl (wA (listUpdate_at o3 rfl ?_ (vO _) (by show ((arrOf st').map (·.2)).size≤_;rw [hsz,vJ];lia))))
  rw [hf]
  simp only [bne_self_eq_false,Bool.false_eq_true,if_false]
  exact wC (fin _ hout)
theorem qdN {x:Value} {vs:List Value} {κ:SortKind} {lt:Nat→Nat→Bool} {Q:Value→Shared→Prop} (h64:vs.length<64)
  (col:∀ (E':Value→Shared→Prop) (Q':List Value→Shared→Prop),(∀ (h':Heap) (tk:Nat),s.heap.objs.size≤h'.objs.size→(∀ b o,s.heap.get? b=some o→h'.get? b=some o)→Q' vs { s with heap:=h',toks:=tk })→wpAny (model prog w) A.in1 (collect x) Q' E' s)
  (ans:2≤vs.length→∀ (h':Heap) (tk:Nat),(∀ b o,s.heap.get? b=some o→h'.get? b=some o)→Answers prog w A.in1.in1 vs { s with heap:=h',toks:=tk } κ lt)
  (h:∀ (h':Heap) (tk:Nat) (D:Addr) (c:Nat),s.heap.objs.size≤D→(∀ b o,s.heap.get? b=some o→h'.get? b=some o)→h'.get? D=some (seqObj "list" (outOf lt vs).toArray c)→Q (.ref D) { s with heap:=h',toks:=tk }) :
  wpAny (model prog w) A (call (.builtin "sorted") [x]) Q E s:=by
 refine Calls.call_function_entry kind_sorted plain_sorted entry_sorted (args_sorted1 _) ?_
 unfold Builtin.«sorted»
 refine wA (m:=checkCount "sorted" 1 1 _) (wC (wA (col _ _ λh1 tk sz k1=>wA (wpAny_newList ?_ (by rw [vJ];lia)))))
 have o1:(h1.push (seqObj "list" vs.toArray 0)).get? h1.objs.size=some (seqObj "list" vs.toArray 0):=wH _ rfl
 have up:∀ b o,s.heap.get? b=some o→(h1.push (seqObj "list" vs.toArray 0)).get? b=some o:=λb o e=>wB _ (k1 b o e)
 have ne:∀ b o,s.heap.get? b=some o→b≠h1.objs.size:=λb o e=>wW (wE (k1 b o e))
 show wpAny _ _ _ _ _ { s with heap:=h1.push (seqObj "list" vs.toArray 0),toks:=tk }
 refine wA (wp (wj slot_list_sort ⟨_,o1,rfl⟩ entry_list_sort ?_ (args_list_sort _)))
 refine lsort (κ:=κ) (lt:=lt) (s:={ s with heap:=h1.push (seqObj "list" vs.toArray 0),toks:=tk }) o1 h64 (λh2 h' kp=>ans h2 h' tk λb o e=>kp b o (ne b o e) (up b o e)) λh' c kp hD=>?_
 exact ⟨_,rfl,wC ⟨_,rfl,h h' tk h1.objs.size c sz (λb o e=>kp b o (ne b o e) (up b o e)) hD⟩⟩
noncomputable def EsAt (h:Heap) (d:Addr) (es:Array DictEntry) (ep:Nat):Prop:=∃ o,h.get? d=some o∧o.ExactDict∧o.data=.dict es ep
theorem EsAt.at {h h':Heap} {d:Addr} {es:Array DictEntry} {ep:Nat} (x:EsAt h d es ep) (e:∀ o,h.get? d=some o→h'.get? d=some o):EsAt h' d es ep:=let ⟨o,ho,r⟩:=x;⟨o,e o ho,r⟩
theorem EsAt.typeIs {s:Shared} {d:Addr} {es:Array DictEntry} {ep:Nat} (x:EsAt s.heap d es ep):s.TypeIs (.ref d) "dict":=let ⟨o,ho,c,_⟩:=x;⟨o,ho,c.1⟩
theorem qdO {d:Addr} {es:Array DictEntry} {ep:Nat} {Q:Value→Shared→Prop} (hd:(d == sysModules)=false) (hm:EsAt s.heap d es ep)
  (hQ:Q (.ref s.heap.objs.size) { s with heap:=s.heap.push { cls:=.type "dict_keyiterator",data:=.fields #[.ref d,.int 0 0,.int es.size 0,.int ep 0] } }):wpAny (model prog w) A (pyIter (.ref d)) Q E s:=by
 have hT:=hm.typeIs
 obtain ⟨o,ho,hc,hdat⟩:=hm
 refine wpAny_pyIter_slot hT F.slot_dict_iter (wj F.slot_dict_iter hT F.entry_dict_iter ?_ (F.args_dict_iter_1 _))
 unfold Builtin.«dict.__iter__»
 refine wA ?_
 unfold Builtin.Dict.dictSlotNone
 refine wA (wpAny_notOrdered_dict hT (wC (?_:wpAny _ _ (Builtin.Dict.showsAll d >>= _) _ _ s)))
 unfold Builtin.Dict.showsAll
 rw [wK (by rw [hd];exact wR)]
 refine wA (wC (wA (wpAny_dictEntries ho hdat (wA (wpAny_dictEpoch ho hdat ?_)))))
 refine wA (wT (wC ⟨_,rfl,"dict_keyiterator",_,⟨_,wH _ rfl,rfl⟩,F.slot_dict_keyiterator_next.lookup,?_⟩))
 simpa [rawInt] using hQ
theorem qdP {it d:Addr} {i ep:Nat} {es:Array DictEntry} {e:DictEntry} {Q:Option Value→Shared→Prop} (hit:s.heap.IsKeyIter it d i es.size ep) (hm:EsAt s.heap d es ep) (hx:es[i]?=some e)
  (hQ:∀ h',h'.IsKeyIter it d (i+1) es.size ep→Heap.SameBut it s.heap h'→Q (some e.key) { s with heap:=h' }):wpAny (model prog w) A (pyNext (.ref it)) Q E s:=by
 have hT:=hit.typeIs
 obtain ⟨o,ho,hc,hd⟩:=hit
 obtain ⟨od,hod,hcd,hdd⟩:=hm
 unfold pyNext
 refine wA (wpAny_attempt (wb (name:=Str.ofString "__next__") hT F.slot_dict_keyiterator_next (wj F.slot_dict_keyiterator_next hT F.entry_dict_keyiterator_next ?_ (F.args_dict_keyiterator_next_1 _))))
 refine wA (wC (wA (wA ?_)))
 first | refine wA (wpAny_typeNameOfWhole_keyiter hT (wC (wA (wpAny_fieldsOf ho hd ?_)))) | refine wA (wpAny_typeNameOf_keyiter hT (wC (wA (wpAny_fieldsOf ho hd ?_))))
 have own:Builtin.Dict_items.ownsTuple "dict_keyiterator"=false:=by decide
 simp only [own,Bool.false_eq_true,if_false]
 show wpAny _ _ (if (Value.ref d == Value.none)=true then _ else _) _ _ s
 rw [wK (show ¬ ((Value.ref d == Value.none)=true) from wR)]
 refine wA (wC (wA (wpAny_dictEntries hod hdd ?_)))
 rw [wK (by simp)]
 refine wA (wC (wA (wpAny_dictEpoch hod hdd ?_)))
 rw [wK (by simp)]
 refine wC ?_
 obtain ⟨lt',ee⟩:=wx.mp hx
 simp only [show ¬ ((i:Int)<0) from by lia,if_false,Int.toNat_natCast,hx]
 refine wA ?_
 first | refine wA (wpAny_typeNameOfWhole_keyiter hT (wC ?_)) | refine wA (wpAny_typeNameOf_keyiter hT (wC ?_))
 refine wA (wpAny_isOneOf_keyiter hT (?_:wpAny _ _ (setField (.ref it) 1 (rawInt ((i:Int)+1)) >>= _) _ _ s))
 refine wA (wpAny_setField ho hd (by simp) ?_)
 have hit':(s.heap.update it (Obj.mapFields (·.setIfInBounds 1 (rawInt ((i:Int)+1))))).IsKeyIter it d (i+1) es.size ep :=
  ⟨_,wv _ ho (Obj.isFreed_of_fields (vB hd _)),(Obj.cls_mapFields ..).trans hc,by rw [vB hd];simp [rawInt]⟩
 refine wA (wp (wA (wpAny_isOneOf_keyiter (s:={ s with heap:=s.heap.update it (Obj.mapFields (·.setIfInBounds 1 (rawInt ((i:Int)+1)))) }) hit'.typeIs (?_:wpAny _ _ (pure e.key) _ _ _))))
 exact wC (wC ⟨_,rfl,wC (hQ _ hit' (Heap.SameBut.update ..))⟩)
theorem qfb {it d:Addr} {i ep:Nat} {es:Array DictEntry} {Q:Option Value→Shared→Prop} (hh:A.handled=none) (hit:s.heap.IsKeyIter it d i es.size ep) (hm:EsAt s.heap d es ep) (hx:es[i]?=none)
  (hQ:∀ h',Heap.ExtBut it s.heap h'→Q none { s with heap:=h' }):wpAny (model prog w) A (pyNext (.ref it)) Q E s:=by
 have hT:=hit.typeIs
 obtain ⟨o,ho,hc,hd⟩:=hit
 obtain ⟨od,hod,hcd,hdd⟩:=hm
 unfold pyNext
 refine wA (wpAny_attempt (wb (name:=Str.ofString "__next__") hT F.slot_dict_keyiterator_next (wj F.slot_dict_keyiterator_next hT F.entry_dict_keyiterator_next ?_ (F.args_dict_keyiterator_next_1 _))))
 refine wA (wC (wA (wA ?_)))
 first | refine wA (wpAny_typeNameOfWhole_keyiter hT (wC (wA (wpAny_fieldsOf ho hd ?_)))) | refine wA (wpAny_typeNameOf_keyiter hT (wC (wA (wpAny_fieldsOf ho hd ?_))))
 have own:Builtin.Dict_items.ownsTuple "dict_keyiterator"=false:=by decide
 simp only [own,Bool.false_eq_true,if_false]
 show wpAny _ _ (if (Value.ref d == Value.none)=true then _ else _) _ _ s
 rw [wK (show ¬ ((Value.ref d == Value.none)=true) from wR)]
 refine wA (wC (wA (wpAny_dictEntries hod hdd ?_)))
 rw [wK (by simp)]
 refine wA (wC (wA (wpAny_dictEpoch hod hdd ?_)))
 rw [wK (by simp)]
 refine wC ?_
 simp only [show ¬ ((i:Int)<0) from by lia,if_false,Int.toNat_natCast,hx]
 refine wA ?_
 first | refine wA (wpAny_typeNameOfWhole_keyiter hT (wC ?_)) | refine wA (wpAny_typeNameOf_keyiter hT (wC ?_))
 refine wA (m:=setField (.ref it) 0 .none) (wpAny_setField ho hd (by simp) (?_:wpAny _ _ (newExc (.type "StopIteration") [] >>= _) _ _ _))
 refine wA ?_
 unfold newExc newTuple
 refine wA (wT (wA (wpAny_of_eq (t:=firstArgMember _ _) (a:=Value.none) (by first | rfl | (simp only [firstArgMember];rfl)) (wT ?_ (by size_fits)))) (by size_fits))
 unfold raiseNew
 refine wA (wpAny_handled ?_)
 rw [show A.in1.handled=none from hh]
 refine wA (wC (wpAny_throw ?_))
 refine wA (wpAny_isInstance (T:="StopIteration") (b:=true) ⟨_,wH _ rfl,rfl⟩ isSubtype_stop ?_)
 exact wC (hQ _ (((Heap.SameBut.update ..).extBut.push _).push _))
theorem qdQ (hh:A.handled=none) (I d:Addr) (hne:d≠I) (es:Array DictEntry) (ep:Nat):Walks prog w A I [I,d] [I] es.size (λi v=>(es[i]?).map (·.key)=some v) (λi h=>h.IsKeyIter I d i es.size ep∧EsAt h d es ep) where
 sub:=λb hb=>by simp at hb;simp [hb]
 frame:=λ_ _ _ st hk=>⟨st.1.at λo e=>hk I (by simp) o e,st.2.at λo e=>hk d (by simp) o e⟩
 item:=λi s Q E hi st hQ=>by
  have hx:es[i]?=some es[i]:=Array.getElem?_eq_getElem hi
  exact qdP st.1 st.2 hx λh' k' b'=>hQ _ h' s.toks (by rw [hx];rfl) ⟨k',st.2.at λo e=>b'.extBut _ o hne e⟩ λb o hb e=>b'.extBut b o (λz=>hb (by simp [z])) e
 done:=λs Q E st hQ=>qfb hh st.1 st.2 (Array.getElem?_eq_none (wG _)) λh' eb=>hQ h' s.toks λb o hb e=>eb b o (λz=>hb (by simp [z])) e
 self:=λ_ _ _ _ st hQ=>wpAny_pyIter_keyiter st.1 hQ
theorem qfc {d:Addr} {es:Array DictEntry} {ep:Nat} (lo:(d == sysModules)=false):KdlSrc prog w "dict" d d es.size (λi v=>(es[i]?).map (·.key)=some v) (λh=>EsAt h d es ep) where
 type:=λ_ hm=>hm.typeIs
 there:=λ_ hm=>let ⟨o,ho,_⟩:=hm;⟨wE ho,wE ho⟩
 keep:=λ_ _ hm hk=>hm.at λo e=>hk d (.inl rfl) o e
 notList:=by decide
 notTuple:=by decide
 hint:=λ_ _ _ _ hm hq=>kdl_hint_dict hm.typeIs hq
 iter:=λA s hh hm=>⟨_,_,(λ_ _ hq=>qdO lo hm hq),qdQ hh _ d (by obtain ⟨o,ho,_⟩:=hm;exact wW (wE ho)) es ep,⟨⟨_,wH _ rfl,rfl,rfl⟩,hm.at λo e=>wB _ e⟩⟩
theorem qar {d:Addr} {es:Array DictEntry} {ep:Nat} {Q:List Value→Shared→Prop} (hh:A.handled=none) (lo:(d == sysModules)=false) (hm:EsAt s.heap d es ep) (hn:es.size≤sizeLine)
  (hQ:∀ (h':Heap) (tk:Nat),s.heap.objs.size≤h'.objs.size→(∀ b o,s.heap.get? b=some o→h'.get? b=some o)→Q (es.toList.map (·.key)) { s with heap:=h',toks:=tk }):wpAny (model prog w) A (collect (.ref d)) Q E s:=by
 have hd:d≠s.heap.objs.size:=by obtain ⟨o,ho,_⟩:=hm;exact wW (wE ho)
 have core:∀ R:Result→Shared→Prop,(∀ (h':Heap) (tk:Nat) (acc:Array Value) (c':Nat),(∀ b o,s.heap.get? b=some o→h'.get? b=some o)→h'.get? s.heap.objs.size=some { cls:=.type "list",dict:=none,data:=.seq acc c',slots:=#[] }→ItemsOf (λi v=>(es[i]?).map (·.key)=some v) acc es.size →
   R (.ok (.ret (.ref s.heap.objs.size))) { s with heap:=h',toks:=tk })→codeAny (model prog w) A (.builtin "proto.collect" ⟨[.ref d],[]⟩) R s:=by
  intro R hR
  refine codeAny_builtin F.entry_proto_collect ?_
  rw [Around.under_plainId F.plain_proto_collect]
  refine wA (m:=newList []) (wT (wC ⟨plainId_quiet F.plain_list_iadd _,codeAny_builtin F.entry_list_iadd ?_⟩))
  rw [Around.under_plainId F.plain_list_iadd]
  have h0:(s.heap.push { cls:=.type "list",data:=.seq ([]:List Value).toArray }).get? s.heap.objs.size=some { cls:=.type "list",data:=.seq #[] 0 }:=wH _ rfl
  exact kdl_extend (R:=R) (s:={ s with heap:=s.heap.push { cls:=.type "list",data:=.seq ([]:List Value).toArray } }) (qfc lo) hh (hm.at λo e=>wB _ e) s.heap.objs.size (Ne.symm hd) (Ne.symm hd) (.ref s.heap.objs.size) 0 h0 (λh' tk acc c' hk hS hi =>
   hR h' tk acc c' (λb o e=>hk b o (wW (wE e)) (wB _ e)) hS hi) hn
 unfold collect
 refine wA (wpAny_runValue (core _ λh' tk acc c' hk hS hi=>?_))
 refine wA (m:=load s.heap.objs.size) (wpAny_load hS (wC ?_))
 have e:acc.toList=es.toList.map (·.key):=by
  apply List.ext_getElem?
  intro i
  rw [wY]
  cases z:acc[i]? with
  | none =>
   have h1:acc.size≤i:=by simpa using z
   rw [hi.1] at h1
   have h2:es[i]?=none:=Array.getElem?_eq_none h1
   rw [Array.getElem?_toList,Array.getElem?_toList,z,h2];rfl
  | some v =>
   have:=hi.2 i v z
   rw [Array.getElem?_toList,Array.getElem?_toList,z,this]
 rw [e]
 exact hQ h' tk (Nat.le_of_lt (wE hS)) hk
end
end R
namespace R
open PySem PySem.Spec L2 SeqAt
open PyProof.Rows hiding St
open PySem.W (KasT kas_sort)
theorem qaQ:∀ a:List Int,HT.lexLt a a=false
 | []=>rfl
 | x::a=>by rw [HT.qZ,wJ rfl];exact qaQ a
theorem qaR:∀ {a b c:List Int},HT.lexLt a b=true→HT.lexLt b c=true→HT.lexLt a c=true
 | [],[],_,h,_=>by cases h
 | [],_::_,[],_,h=>by cases h
 | [],_::_,_::_,_,_=>rfl
 | _::_,[],_,h,_=>by cases h
 | _::_,_::_,[],_,h=>by cases h
 | x::a,y::b,z::c,h,k=>by
  rw [HT.qZ] at h k ⊢
  by_cases e1:x=y
  ·subst e1
   rw [wJ rfl] at h
   by_cases e2:x=z
   ·subst e2
    rw [wJ rfl] at k ⊢
    exact qaR h k
   ·rw [wK e2] at k ⊢;exact k
  ·rw [wK e1] at h
   have h':=ww h
   by_cases e2:y=z
   ·subst e2
    rw [wK e1];exact h
   ·rw [wK e2] at k
    have k':=ww k
    rw [wK (by lia)]
    exact wm (by lia)
theorem lex_tot:∀ {a b:List Int},a≠b→HT.lexLt a b=true∨HT.lexLt b a=true
 | [],[],h=>absurd rfl h
 | [],_::_,_=>.inl rfl
 | _::_,[],_=>.inr rfl
 | x::a,y::b,h=>by
  rw [HT.qZ,HT.qZ]
  by_cases e:x=y
  ·subst e
   rw [wJ rfl,wJ rfl]
   exact lex_tot λz=>h (by rw [z])
  ·rw [wK e,wK (Ne.symm e)]
   rcases Int.lt_or_gt_of_ne e with z | z
   ·exact .inl (wm z)
   ·exact .inr (wm z)
theorem ji (x:List Int):∀ l:List (List Int),(insT x l).Perm (x::l)
 | []=>.refl _
 | y::r=>by
  unfold insT
  split
  ·exact ((ji x r).cons y).trans (.swap ..)
  ·exact .refl _
theorem qU:∀ l:List (List Int),(sortT l).Perm l
 | []=>.refl _
 | x::r=>(ji x (sortT r)).trans ((qU r).cons x)
noncomputable def Ris (l:List (List Int)):Prop:=l.Pairwise λa b=>HT.lexLt a b=true
theorem qbC {x:List Int}:∀ {l:List (List Int)},x ∉ l→Ris l→Ris (insT x l)
 | [],_,_=>List.pairwise_singleton _ _
 | y::r,hn,h=>by
  obtain ⟨h1,h2⟩:=w8.mp h
  unfold insT
  split
  ·rename_i hl
   refine w8.mpr ⟨λz hz=>?_,qbC (λm=>hn (wM _ m)) h2⟩
   rcases wO.mp ((ji x r).mem_iff.mp hz) with e | e
   ·rw [e];exact hl
   ·exact h1 z e
  ·rename_i hl
   have hxy:HT.lexLt x y=true:=by
    rcases lex_tot (a:=x) (b:=y) λe=>hn (by rw [e];exact wN) with z | z
    ·exact z
    ·rw [z] at hl;exact absurd rfl hl
   refine w8.mpr ⟨λz hz=>?_,h⟩
   rcases wO.mp hz with e | e
   ·rw [e];exact hxy
   ·exact qaR hxy (h1 z e)
theorem jj:∀ {l:List (List Int)},l.Nodup→Ris (sortT l)
 | [],_=>.nil
 | x::r,h=>by
  obtain ⟨h1,h2⟩:=List.nodup_cons.mp h
  exact qbC (λm=>h1 ((qU r).mem_iff.mp m)) (jj h2)
theorem qbD:∀ {a b:List (List Int)},a.Perm b→Ris a→Ris b→a=b
 | [],b,p,_,_=>(List.nil_perm.mp p).symm
 | x::a,[],p,_,_=>absurd (List.perm_nil.mp p) (by simp)
 | x::a,y::b,p,h,k=>by
  obtain ⟨h1,h2⟩:=w8.mp h
  obtain ⟨k1,k2⟩:=w8.mp k
  have e:x=y:=by
   rcases wO.mp (p.mem_iff.mp wN) with z | z
   ·exact z
   ·rcases wO.mp (p.symm.mem_iff.mp wN) with z' | z'
    ·exact z'.symm
    ·have:=qaR (h1 y z') (k1 x z)
     rw [qaQ] at this;cases this
  subst e
  rw [qbD (List.Perm.cons_inv p) h2 k2]
theorem jk (x:Int):∀ l:List Int,(insI x l).Perm (x::l)
 | []=>.refl _
 | y::r=>by
  unfold insI
  split
  ·exact .refl _
  ·exact ((jk x r).cons y).trans (.swap ..)
theorem zu:∀ l:List Int,(sortI l).Perm l
 | []=>.refl _
 | x::r=>(jk x (sortI r)).trans ((zu r).cons x)
theorem qc1 {x:Int}:∀ {l:List Int},l.Pairwise (·≤·)→(insI x l).Pairwise (·≤·)
 | [],_=>List.pairwise_singleton _ _
 | y::r,h=>by
  obtain ⟨h1,h2⟩:=w8.mp h
  unfold insI
  split
  ·rename_i hl
   refine w8.mpr ⟨λz hz=>?_,h⟩
   rcases wO.mp hz with e | e
   ·rw [e];exact hl
   ·exact Int.le_trans hl (h1 z e)
  ·rename_i hl
   refine w8.mpr ⟨λz hz=>?_,qc1 h2⟩
   rcases wO.mp ((jk x r).mem_iff.mp hz) with e | e
   ·rw [e];lia
   ·exact h1 z e
theorem jQ:∀ l:List Int,(sortI l).Pairwise (·≤·)
 | []=>.nil
 | x::r=>qc1 (jQ r)
theorem qcn {ks:List (List Int)} (nd:ks.Nodup):Ord (ltK ks) ks.length where
 irr:=λa _=>qaQ _
 tr:=λa b c _ _ _ h k=>qaR h k
 tot:=λa b ha hb h=>lex_tot λe=>h (by
  rw [wo,wo,wD ha,wD hb] at e
  exact (List.getElem_inj nd).mp e)
theorem qbE {ks:List (List Int)} (nd:ks.Nodup) (h1:1≤ks.length):(evT (ltK ks) (kas_sort ks.length)).toList.map (λi=>ks.getD i [])=sortT ks:=by
 obtain ⟨pm,sr⟩:=qcY (qcn nd) h1
 generalize evT (ltK ks) (kas_sort ks.length)=p at *
 have hp:(p.toList.map λi=>ks.getD i []).Perm ks:=by
  have e:(List.range ks.length).map (λi=>ks.getD i [])=ks:=by
   apply List.ext_getElem?
   intro i
   rw [wY]
   by_cases hi:i<ks.length
   ·rw [wD (by simpa using hi),wD hi]
    simp [hi]
   ·rw [List.getElem?_eq_none (by simpa using hi),List.getElem?_eq_none (by lia)];rfl
  have:=pm.map λi=>ks.getD i []
  rwa [e] at this
 refine qbD (hp.trans (qU ks).symm) ?_ (jj nd)
 show (p.toList.map λi=>ks.getD i []).Pairwise _
 rw [List.pairwise_map,List.pairwise_iff_getElem]
 intro i j hi hj hij
 have hsz:=pm.size
 have:=sr i j hij (by simpa [hsz] using hj)
 rw [qbA (by simpa using hi),qbA (by simpa using hj)] at this
 simpa [ltK] using this
end R
namespace R
open PySem PySem.Spec L2 SeqAt
open PyProof.Rows hiding St
open PySem.W (KasT kas_sort)
section
variable {X:Cx} {pins:List (Addr × Obj)} {σ:St} {H:Hp} {s:Shared} {ι:List Addr} {S:Sr}
theorem qc2 (I:Inv X pins σ H s):∀ {l:List D} {ks:List (List Int)} {xs:List V} {vs:List Value},tupsOf l=some ks→Dens ι H l xs→Vals xs vs→TupsAt s.heap vs ks∧l=ks.map tupI
 | [],ks,xs,vs,e,hd,r=>by
  cases e
  cases (show xs=[] from hd)
  cases r
  exact ⟨rfl,rfl⟩
 | .tup a::l,ks,xs,vs,e,hd,r=>by
  obtain ⟨x,xs',rfl,hx,hl⟩:=hd
  obtain ⟨b,ys,rfl,_,hb,dy⟩:=hx
  simp only [tupsOf] at e
  cases z1:intsOf a with
  | none=>rw [z1] at e;cases e
  | some k =>
   rw [z1,wX] at e
   cases z2:tupsOf l with
   | none=>rw [z2] at e;cases e
   | some kr =>
    rw [z2] at e;cases e
    cases r with
    | cons r1 r2 =>
     cases r1
     obtain ⟨t1,t2⟩:=qc2 I z2 hl r2
     obtain ⟨its,rv,p,_⟩:=jJ I hb
     have ea:=intsOf_eq z1
     subst ea
     cases dens_ints dy
     refine ⟨⟨b,its,k,kr,rfl,rfl,p,zr rv,t1⟩,?_⟩
     rw [t2];rfl
 | .non::_,_,_,_,e,_,_=>by cases e
 | .bl _::_,_,_,_,e,_,_=>by cases e
 | .int _::_,_,_,_,e,_,_=>by cases e
 | .str _::_,_,_,_,e,_,_=>by cases e
 | .lst _::_,_,_,_,e,_,_=>by cases e
 | .emp::_,_,_,_,e,_,_=>by cases e
 | .exc _::_,_,_,_,e,_,_=>by cases e
 | .ref _::_,_,_,_,e,_,_=>by cases e
theorem qbF {xs:List V} {vs:List Value} (r:Vals xs vs):∀ p:List Nat,(∀ i∈p,i<vs.length)→Vals (p.map λi=>xs.getD i .non) (p.map λi=>vs.getD i .none)
 | [],_=>.nil
 | i::p,h=>by
  refine .cons ?_ (qbF r p λj hj=>h j (wM _ hj))
  have hi:=h i wN
  obtain ⟨x,e1,e2⟩:=Vals.at r hi
  dsimp only
  rw [wo,wo,e1,wD hi]
  exact e2
theorem qbG {l:List D} {xs:List V} (h:Dens ι H l xs):∀ p:List Nat,(∀ i∈p,i<l.length)→Dens ι H (p.map λi=>l.getD i .non) (p.map λi=>xs.getD i .non)
 | [],_=>rfl
 | i::p,hp=>by
  have hi:=hp i wN
  obtain ⟨x,e1,e2⟩:=h.get (wD hi)
  refine ⟨_,_,rfl,?_,qbG h p λj hj=>hp j (wM _ hj)⟩
  dsimp only
  rw [wo,wo,e1,wD hi]
  exact e2
theorem zM {m:Bool} {x:Value} {l:List D} {ks:List (List Int)} {xs:List V} {vs:List Value} {Q:VK} (I:Inv X pins σ H s) (st:Sto ι H S) (hc:X.calm=true) (dl:Dens ι H l xs) (rv:Vals xs vs) (e:tupsOf l=some ks) (h64:l.length<64) (nd:ks.Nodup) (ne:∀ k∈ks,k≠[])
  (col:∀ (E':Value→Shared→Prop) (Q':List Value→Shared→Prop),(∀ (h':Heap) (tk:Nat),s.heap.objs.size≤h'.objs.size→(∀ b o,s.heap.get? b=some o→h'.get? b=some o)→Q' vs { s with heap:=h',toks:=tk })→wpAny (model X.prog X.w) X.A.in1 (collect x) Q' E' s)
  (q:Pst Den (newL m ((sortT ks).map tupI) S) ι H Q):wpAny (model X.prog X.w) X.A (call (.builtin "sorted") [x]) (EP X pins σ Q) X.xe s:=by
 obtain ⟨ta,el⟩:=qc2 I e dl rv
 have len:vs.length=ks.length:=ta.len
 have ll:l.length=ks.length:=by rw [el];simp
 refine qdN (κ:=tuples' true) (lt:=ltK ks) (by lia) col (λh2 h' tk kp=>?_) λh' tk D c sz kp hD=>?_
 ·have t':TupsAt h' vs ks:=ta.keep λa o _ eo=>kp a o eo
  exact ⟨λE' Q' hq=>qfa (s:={ s with heap:=h',toks:=tk }) t' ne h2 hq,by rw [len];exact qcn nd,λi j C hi hj hC=>qgT (s:={ s with heap:=h',toks:=tk }) t' (by lia) (by lia) hC⟩
 ·-- the answer's data
  have fin:∃ xs',Vals xs' (outOf (ltK ks) vs)∧Dens ι H ((sortT ks).map tupI) xs':=by
   unfold outOf
   by_cases h2:vs.length<2
   ·rw [wJ h2]
    refine ⟨xs,rv,?_⟩
    have:sortT ks=ks:=by
     match ks,len with
     | [],_=>rfl
     | [k],_=>rfl
     | _::_::_,len=>simp at len;lia
    rw [this,← el]
    exact dl
   ·rw [wK h2]
    rw [len]
    obtain ⟨pm,_⟩:=qcY (qcn nd) (show 1≤ks.length by lia)
    have hb:∀ i∈(evT (ltK ks) (kas_sort ks.length)).toList,i<ks.length:=λi hi=>List.mem_range.mp (pm.mem_iff.mp hi)
    refine ⟨_,qbF rv _ λi hi=>by rw [len];exact hb i hi,?_⟩
    have d:=qbG dl _ λi hi=>by rw [ll];exact hb i hi
    have e2:(sortT ks).map tupI=(evT (ltK ks) (kas_sort ks.length)).toList.map λi=>l.getD i .non:=by
     rw [← qbE nd (by lia),wu]
     refine List.map_congr_left λi hi=>?_
     have:=hb i hi
     rw [el]
     simp [this]
    rw [e2]
    exact d
  obtain ⟨xs',r',d'⟩:=fin
  have fr:H D=none:=I.hok.fresh sz
  have hz:xs'.length≤sizeLine:=by
   rw [← d'.length,wP,(qU ks).length_eq,vJ];lia
  exact ⟨.ref D,upd H D (.lst xs'),I.laid (o:=.lst xs') (t':=tk) kp sz ⟨hz,outOf (ltK ks) vs,c,r',hD⟩,rfl,qW st d' q D fr⟩
theorem qfd {a:Addr} {xs:List V} (I:Inv X pins σ H s) (h:Rd H a (.lst xs)):∃ vs:List Value,Vals xs vs∧s.heap.IsList a vs.toArray∧(∀ (A:Around) (E':Value→Shared→Prop) (Q':List Value→Shared→Prop),(∀ (h':Heap) (tk:Nat),s.heap.objs.size≤h'.objs.size→(∀ b o,s.heap.get? b=some o→h'.get? b=some o)→Q' vs { s with heap:=h',toks:=tk })→wpAny (model X.prog X.w) A (collect (.ref a)) Q' E' s):=by
 obtain ⟨vs,r,p,hz⟩:=jK I h
 refine ⟨vs,r,p,λA E' Q' hq=>collect_list p (hq _ s.toks ?_ λb o e=>?_) (by rw [← r.length];exact hz)⟩
 ·rw [Heap.size_update,size_push'];lia
 ·exact (wS _ _ (vN (wE e))).trans (wB _ e)
theorem qdR {m:Bool} {a:Addr} {ns:List Int} {xs:List V} {Q:VK} (I:Inv X pins σ H s) (st:Sto ι H S) (h:Rd H a (.lst xs)) (dl:Dens ι H (ns.map .int) xs) (h64:ns.length<64) (q:Pst Den (newL m ((sortI ns).map .int) S) ι H Q) :
  wpAny (model X.prog X.w) X.A (call (.builtin "sorted") [.ref a]) (EP X pins σ Q) X.xe s:=by
 obtain ⟨vs,r,p,hz⟩:=jK I h
 cases dens_ints dl
 have ia:IntsAre vs ns:=zr r
 have hl:=ia.length
 refine sorted_ints p ia (by lia) λout ns' i1 i2 i3=>?_
 have en:ns'=sortI ns:=PySem.W.lks_uniq (i2.trans (zu ns).symm) i3 (jQ ns)
 have up:∀ b o,s.heap.get? b=some o→(sortedAll s.heap vs out).get? b=some o:=λb o e=>by
  have hb:b<s.heap.objs.size:=wE e
  unfold sortedAll sortedHeap
  refine (wS _ _ (vN (Nat.lt_succ_of_lt hb))).trans (wB _ (wB _ ((wS _ _ (vN (Nat.lt_succ_of_lt hb))).trans (wB _ ?_))))
  exact (wS _ _ (vN hb)).trans (wB _ e)
 have o1:(((s.heap.push (seqObj "list" #[] 0)).update s.heap.objs.size (Obj.mapSeq (·++vs.toArray))).push (seqObj "list" vs.toArray 0)).get? (s.heap.objs.size+1)=some (seqObj "list" vs.toArray 0):=by
  have:((s.heap.push (seqObj "list" #[] 0)).update s.heap.objs.size (Obj.mapSeq (·++vs.toArray))).objs.size=s.heap.objs.size+1:=by rw [Heap.size_update,size_push']
  rw [← this];exact wH _ rfl
 obtain ⟨c,at'⟩:∃ c,(sortedAll s.heap vs out).get? (s.heap.objs.size+1)=some (seqObj "list" out c):=by
  unfold sortedAll sortedHeap
  have e1:=get?_update_seq o1 λ_=>(#[]:Array Value)
  have e2:=wB (seqObj "list" #[] 0) (wB (seqObj "tuple" vs.toArray 0) e1)
  exact ⟨_,get?_update_seq e2 λ_=>out⟩
 have sz:s.heap.objs.size≤s.heap.objs.size+1:=Nat.le_succ _
 have fr:H (s.heap.objs.size+1)=none:=I.hok.fresh sz
 have rr:Vals (ns'.map V.int) out.toList:=by
  have:∀ {us:List Value} {ms:List Int},IntsAre us ms→Vals (ms.map V.int) us:=λ{us ms} h=>by
   induction h with
   | nil=>exact .nil
   | cons n t _ ih=>exact .cons ⟨t,rfl⟩ ih
  exact this i1
 have dd:Dens ι H ((sortI ns).map .int) (ns'.map V.int):=by
  rw [en]
  have:∀ ms:List Int,Dens ι H (ms.map .int) (ms.map V.int):=λms=>by
   induction ms with
   | nil=>rfl
   | cons x r ih=>exact ⟨_,_,rfl,rfl,ih⟩
  exact this _
 have hz2:(ns'.map V.int).length≤sizeLine:=by rw [wP,i2.length_eq,vJ];lia
 refine ⟨.ref _,upd H (s.heap.objs.size+1) (.lst (ns'.map V.int)),I.laid (o:=.lst (ns'.map V.int)) (t':=s.toks) up sz ⟨hz2,out.toList,c,rr,by rw [at']⟩,rfl,qW st dd q _ fr⟩
theorem qfe (m:Bool) (hc:X.calm=true):CallR X (.builtin "sorted") (Gn (one (bSorted m))):=by
 intro pins s σ H xs us Q I r h
 obtain ⟨ι,S,ds,st,hd,p⟩:=h
 obtain ⟨d,rfl,p⟩:=qaI p
 ·skip
  obtain ⟨x,rfl,hx⟩:=dens1 hd
  obtain ⟨u,rfl,ru⟩:=vals1 r
  simp only [one,bSorted] at p
  have lists:∀ {l:List D},lstOf S d=some l→walkD S d=some l→wpAny (model X.prog X.w) X.A (call (.builtin "sorted") [u]) (EP X pins σ Q) X.xe s:=λ{l} hl hw=>by
   obtain ⟨a,xs,rfl,ha,dl⟩:=qF st hl hx
   cases ru
   rw [hw,wX] at p
   unfold sortL at p
   by_cases h64:l.length<64
   ·rw [wJ h64] at p
    cases z:intsOf l with
    | some ns =>
     rw [z] at p
     have:=intsOf_eq z
     subst this
     exact qdR I st ha dl (by simpa using h64) p
    | none =>
     rw [z] at p
     cases z2:tupsOf l with
     | none=>simp only [z2,Option.bind_none] at p;exact p.elim
     | some ks =>
      simp only [z2,wX] at p
      by_cases hk:ks.Nodup∧∀ t∈ks,t≠[]
      ·rw [wJ hk] at p
       obtain ⟨vs,rv,_,col⟩:=qfd I ha
       exact zM I st hc dl rv z2 h64 hk.1 hk.2 (col _) p
      ·rw [wK hk] at p;exact p.elim
   ·rw [wK h64] at p;exact p.elim
  cases d with
  | lst l=>exact lists rfl rfl
  | ref k =>
   cases z:S[k]? with
   | none=>simp only [walkD,z,Option.bind_none] at p;exact p.elim
   | some so =>
    cases so with
    | lst l=>exact lists (by unfold lstOf;dsimp only;rw [z]) (by unfold walkD;dsimp only;rw [z])
    | dis l=>simp only [walkD,z,Option.bind_none] at p;exact p.elim
    | dic l =>
     obtain ⟨a,rfl,ha⟩:=hx
     cases ru
     obtain ⟨_,kvs,e1,dk⟩:=st.obj k a _ ha z
     obtain ⟨hz,lo,ys,pr,o,es,ep,eo,ex,ed,eL,ndp⟩:=I.hok a _ e1
     simp only [walkD,z,wX] at p
     have keys:∀ {l:List (List Int × D)} {kvs:List (List Key × V)} {ys:List (List Key × Addr × Value)},DGs keyT ι H l kvs→Paired (λ(p:List Key × V) (q:List Key × Addr × Value)=>p.1=q.1∧H q.2.1=some (.tup (p.1.map kV))∧RelV p.2 q.2.2) kvs ys →
       Dens ι H (l.map λp=>tupI p.1) (ys.map λq=>V.ref q.2.1):=λ{l}=>by
      induction l with
      | nil=>intro kvs ys h1 h2;cases (show kvs=[] from h1);cases h2;rfl
      | cons q l ih =>
       intro kvs ys h1 h2
       obtain ⟨v,r',rfl,_,h1'⟩:=h1
       cases h2 with
       | cons y t =>
        rename_i q2 ys'
        obtain ⟨ya,yb,yc⟩:=y
        refine ⟨_,_,rfl,⟨q2.2.1,_,rfl,λhm=>?_,yb,?_⟩,ih h1' t⟩
        ·obtain ⟨j,hj,ej⟩:=List.getElem_of_mem hm
         have hs:j<S.length:=by rw [← st.len];exact hj
         have k':=st.obj j _ S[j] (by rw [wD hj,ej]) (wD hs)
         cases e:S[j] with
         | lst _=>rw [e] at k';obtain ⟨_,_,k2,_⟩:=k';rw [yb] at k2;cases k2
         | dic _=>rw [e] at k';obtain ⟨_,_,k2,_⟩:=k';rw [yb] at k2;cases k2
         | dis _=>rw [e] at k';obtain ⟨_,_,k2,_⟩:=k';rw [yb] at k2;cases k2
        ·show Dens ι H (q.1.map .int) ((keyT q.1).map kV)
         unfold keyT
         rw [wu]
         have:∀ ms:List Int,Dens ι H (ms.map .int) (ms.map (kV∘Sum.inl)):=λms=>by
          induction ms with
          | nil=>rfl
          | cons x r ih=>exact ⟨_,_,rfl,rfl,ih⟩
         exact this _
     have dl:=keys dk pr
     have rv:Vals (ys.map λq=>V.ref q.2.1) (ys.map λq=>Value.ref q.2.1):=by
      clear pr eL dl ndp
      induction ys with
      | nil=>exact .nil
      | cons q r ih=>exact .cons rfl ih
     have ev:es.toList.map (·.key)=ys.map λq=>Value.ref q.2.1:=by rw [eL,wu];rfl
     have hsz:es.size≤sizeLine:=by
      have h1:es.toList.length=ys.length:=by rw [eL];simp
      have h2:kvs.length=ys.length:=Paired.length pr
      have:es.size=es.toList.length:=by simp
      lia
     have col:∀ (E':Value→Shared→Prop) (Q':List Value→Shared→Prop),(∀ (h':Heap) (tk:Nat),s.heap.objs.size≤h'.objs.size→(∀ b o,s.heap.get? b=some o→h'.get? b=some o)→Q' (ys.map λq=>Value.ref q.2.1) { s with heap:=h',toks:=tk })→wpAny (model X.prog X.w) X.A.in1 (collect (.ref a)) Q' E' s:=λE' Q' hq =>
      qar (A:=X.A.in1) (I.ok.hd hc) lo ⟨o,eo,ex,ed⟩ hsz (by rw [ev];exact hq)
     unfold sortL at p
     by_cases h64:(l.map λp=>tupI p.1).length<64
     ·rw [wJ h64] at p
      cases z1:intsOf (l.map λp=>tupI p.1) with
      | some ns =>
       rw [z1] at p
       cases l with
       | nil =>
        cases z1
        exact zM (ks:=[]) I st hc dl rv rfl (by simp) (by simp) (by simp) col p
       | cons q l=>cases z1
      | none =>
       rw [z1] at p
       cases z2:tupsOf (l.map λp=>tupI p.1) with
       | none=>simp only [z2,Option.bind_none] at p;exact p.elim
       | some ks =>
        simp only [z2,wX] at p
        by_cases hk:ks.Nodup∧∀ t∈ks,t≠[]
        ·rw [wJ hk] at p
         exact zM I st hc dl rv z2 h64 hk.1 hk.2 col p
        ·rw [wK hk] at p;exact p.elim
     ·rw [wK h64] at p;exact p.elim
  | emp =>
   obtain ⟨a,rfl,_,ha⟩:=hx
   cases ru
   obtain ⟨hz,lo,ys,pr,o,es,ep,eo,ex,ed,eK,eP,_⟩:=I.hok a _ ha
   cases pr
   have e0:es.toList.map (·.key)=[]:=by
    cases eP' :es.toList with
    | nil=>rfl
    | cons q r=>rw [eP'] at eP;cases eP
   have hsz:es.size≤sizeLine:=by
    have:es.toList=[]:=by simpa using e0
    have:es.size=es.toList.length:=by simp
    simp_all
   simp only [walkD,wX] at p
   refine zM (l:=[]) (ks:=[]) (xs:=[]) (vs:=[]) I st hc rfl .nil rfl (by simp) (by simp) (by simp) (λE' Q' hq=>qar (A:=X.A.in1) (I.ok.hd hc) lo ⟨o,eo,ex,ed⟩ hsz (by rw [e0];exact hq)) p
  | _=>exact p.elim
end
end R
namespace R
open PySem PySem.Spec L2 SeqAt
open PyProof.Rows hiding St
noncomputable def CEs.len:CEs→Nat
 | .nil=>0
 | .cons _ r=>r.len+1
theorem z9 {F:Fs}:∀ {es:CEs} {ρ:En} {S:Sr} {l:List D} {S':Sr},evs F es ρ S=.ok l S'→l.length=es.len
 | .nil,_,_,_,_,h=>by cases h;rfl
 | .cons e r,ρ,S,l,S',h=>by
  unfold evs at h
  cases z:ev F e ρ S with
  | no=>rw [z] at h;cases h
  | err=>rw [z] at h;cases h
  | ok x S1 =>
   rw [z,Res.bind_ok] at h
   cases z2:evs F r ρ S1 with
   | no=>rw [z2] at h;cases h
   | err=>rw [z2] at h;cases h
   | ok l2 S2 =>
    rw [z2,Res.bind_ok] at h
    cases h
    show l2.length+1=r.len+1
    rw [z9 z2]
noncomputable def CTs.len:CTs→Nat
 | .nil=>0
 | .cons _ r=>r.len+1
theorem qbH {F:Fs}:∀ {ts:CTs} {l:List D} {ρ:En} {S:Sr} {ρ':En} {S':Sr},asgs F ts l ρ S=.ok ρ' S'→l.length=ts.len
 | .nil,[],_,_,_,_,_=>rfl
 | .nil,_::_,_,_,_,_,h=>by unfold asgs at h;cases h
 | .cons t r,[],_,_,_,_,h=>by unfold asgs at h;cases h
 | .cons t r,d::l,ρ,S,ρ',S',h=>by
  unfold asgs at h
  dsimp only at h
  cases z:asg F t d ρ S with
  | no=>rw [z] at h;cases h
  | err=>rw [z] at h;cases h
  | ok ρ1 S1 =>
   rw [z,Res.bind_ok] at h
   show l.length+1=r.len+1
   rw [qbH h]
noncomputable def FnAt (P:Program) (w:World) (K:PySem.W.Frag) (mg:Str→Option Value) (base:Heap) (k:Nat) (F:Fs) (i:Nat) (x:Str) (ps:List Str):Prop :=
 ∃ f fd,mg x=some (.ref f)∧PySem.W.keepIn K (.ref f)=true∧Binds K fd ps []∧FnOk P w K mg base CX0 k f fd ps (SpD ps.length (F i))
structure Gb (mg:Str→Option Value):Prop where
 len:mg "len"=none
 range:mg "range"=none
 list:mg "list"=none
 tuple:mg "tuple"=none
 sorted:mg "sorted"=none
 sum:mg "sum"=none
 all:mg "all"=none
 any:mg "any"=none
 zip:mg "zip"=none
 min:mg "min"=none
 max:mg "max"=none
 abs:mg "abs"=none
 divmod:mg "divmod"=none
 isinstance:mg "isinstance"=none
 int:mg "int"=none
 bool:mg "bool"=none
 str:mg "str"=none
 dict:mg "dict"=none
 set:mg "set"=none
theorem Gb.ty {mg:Str→Option Value} (g:Gb mg):∀ t:Ty,mg (Str.ofString t.nm)=none
 | .int=>g.int | .bool=>g.bool | .tuple=>g.tuple | .list=>g.list | .str=>g.str | .dict=>g.dict
noncomputable def nodupB:List Str→Bool
 | []=>true
 | x::r=>!(r.any λy=>y == x)&&nodupB r
theorem zG:∀ {l:List Str},nodupB l=true→l.Nodup
 | [],_=>.nil
 | x::r,h=>by
  unfold nodupB at h
  simp only [wL,Bool.not_eq_true',List.any_eq_false,beq_iff_eq] at h
  exact List.nodup_cons.mpr ⟨λhm=>h.1 x hm rfl,zG h.2⟩
@[irreducible] noncomputable def QE (X:Cx) (e:Expr) (t:TE):Prop:=PE X e t
@[irreducible] noncomputable def QT (X:Cx) (e:Expr) (t:TT):Prop:=PT X e t
@[irreducible] noncomputable def QW (X:Cx) (e:Expr) (t:TT):Prop:=PW X e t
@[irreducible] noncomputable def QA (X:Cx) (e:List Expr) (t:TA):Prop:=PA X e t
@[irreducible] noncomputable def QS (X:Cx) (e:Stmt) (t:TS):Prop:=PS X e t
@[irreducible] noncomputable def QSs (X:Cx) (e:List Stmt) (t:TS):Prop:=PSs X e t
@[irreducible] noncomputable def QG (X:Cx) (e:Expr) (t:L2.TG):Prop:=PG X e t
@[irreducible] noncomputable def QGs (X:Cx) (e:List Expr) (t:L2.TGs):Prop:=PGs X e t
@[irreducible] noncomputable def QI (X:Cx) (tg e:Expr) (t:TI):Prop:=PI X tg e t
@[irreducible] noncomputable def QO (X:Cx) (e:Option Expr) (t:TO):Prop:=PO X e t
@[irreducible] noncomputable def QTl (X:Cx) (e:List Expr) (t:TT):Prop:=PTl X e t
theorem Qpt {X:Cx} {e:Expr} {t:TT} (h:QW X e t):QT X e t:=by delta QW at h;delta QT;exact h.pt
theorem QSs.un {X:Cx} {e:List Stmt} {t:TS} (h:QSs X e t):PSs X e t:=by delta QSs at h;exact h
section
variable {X:Cx} {F:Fs} {pos:Pos}
theorem qc (i:Nat) {x:Str} (hN:X.N[i]?=some x:=by rfl) (hv:Vis X.env.scope x:=by first | exact Or.inl rfl | exact Or.inr (Or.inl rfl) | exact Or.inr (Or.inr rfl)) (hd:(x == ("__debug__":Str))=false:=by decide) (hcd:(x == ("__classdict__":Str))=false:=by decide):QE X (.Name x pos) (T (ev F (.var i))):=by
 delta QE;exact (qjx (qhM hN hv hd hcd))
theorem qg {n:Int} {j}:QE X (.Constant (.int n) j pos) (T (ev F (.cst (.int n)))):=by
 delta QE;exact (qbl qd9 λ_ _=>rfl)
theorem qN {b:Bool} {j}:QE X (.Constant (.bool b) j pos) (T (ev F (.cst (.bl b)))):=by
 delta QE;exact (qbl qhm λ_ _=>rfl)
theorem zQ {j}:QE X (.Constant .none j pos) (T (ev F (.cst .non))):=by
 delta QE;exact (qbl qhN λ_ _=>rfl)
theorem js {x:Str} {j}:QE X (.Constant (.str x) j pos) (T (ev F (.cst (.str x)))):=by
 delta QE;exact (qbl qhO λ_ _=>rfl)
theorem jR {x:Str} {n:Int} {t:Tok} (hm:X.mg x=some (.int n t)) (hg:Gl X x:=by rfl) (hd:(x == ("__debug__":Str))=false:=by decide):QE X (.Name x pos) (T (ev F (.cst (.int n)))):=by
 delta QE;exact (qie (qcy (v:=.int n) hg hm ⟨t,rfl⟩ hd) λ_ _=>rfl)
theorem qm (o:BOp) {a b:Expr} {ca cb:CE} (ha:QE X a (T (ev F ca))) (hb:QE X b (T (ev F cb))):QE X (.BinOp a (opOf o) b pos) (T (ev F (.bin o ca cb))):=by
 delta QE;delta QE at ha;delta QE at hb;exact (qht (qgp o) ha hb)
theorem qiG (o:BOp) {a b:Expr} {ca cb:CE} (ha:QE X a (T (ev F ca))) (hb:QE X b (T (ev F cb))):QE X (.BinOp a (opOf o) b pos) (T (ev F (.binM o ca cb))):=by
 delta QE;delta QE at ha;delta QE at hb;exact (qht (qgq o) ha hb)
theorem qbI {a:Expr} {ca:CE} (ha:QE X a (T (ev F ca))):QE X (.UnaryOp .USub a pos) (T (ev F (.neg ca))):=by
 delta QE;delta QE at ha;exact (qjD ha)
theorem qbJ (o:COp) {k:Nat} {a b:Expr} {ca cb:CE} (hr:Room k X.A) (ha:QE X a (T (ev F ca))) (hb:QE X b (T (ev F cb))) (hm:behindInMarks (cOf o) b=false:=by rfl):QE X (.Compare a [cOf o] [b] pos) (T (ev F (.cmp o ca cb))):=by
 delta QE;delta QE at ha;delta QE at hb;exact (qjz (yz o (by have:=hr.un;lia)) ha hb hm)
theorem qgU (o o':COp) {k:Nat} {a b c:Expr} {ca cb cc:CE} (hr:Room k X.A) (ha:QE X a (T (ev F ca))) (hb:QE X b (T (ev F cb))) (hc:QE X c (T (ev F cc))) (hm:lastMarks [cOf o,cOf o'] [b,c]=false:=by rfl) :
  QE X (.Compare a [cOf o,cOf o'] [b,c] pos) (T (ev F (.chain o o' ca cb cc))):=by
 delta QE;delta QE at ha;delta QE at hb;delta QE at hc;exact (qgu (yz o (by have:=hr.un;lia)) (yz o' (by have:=hr.un;lia)) ha hb hc hm)
theorem yN {a:Expr} {t:TE} (ha:QE X a t):QE X (.BoolOp .And [a] pos) t:=by
 delta QE;delta QE at ha;exact (qhQ ha)
theorem jS {a b:Expr} {rest:List Expr} {ca cb:CE} (ha:QE X a (T (ev F ca))) (hb:QE X (.BoolOp .And (b::rest) pos) (T (ev F cb))):QE X (.BoolOp .And (a::b::rest) pos) (T (ev F (.and ca cb))):=by
 delta QE;delta QE at ha;delta QE at hb;exact (qjB ha hb)
theorem qj4 {a:Expr} {ca:CE} (ha:QE X a (T (ev F ca))):QE X (.UnaryOp .Not a pos) (T (ev F (.not ca))):=by
 delta QE;delta QE at ha;exact (qjC ha)
theorem qd :QA X [] (TL (evs F .nil)):=by
 delta QA;exact (qjy)
theorem qb {e:Expr} {es:List Expr} {c:CE} {cs:CEs} (h1:QE X e (T (ev F c))) (h2:QA X es (TL (evs F cs))) (hs:starEach (e::es) X.env=(false,eval e X.env)::starEach es X.env:=by rfl):QA X (e::es) (TL (evs F (.cons c cs))):=by
 delta QA;delta QE at h1;delta QA at h2;exact (qif h1 h2 hs)
theorem qp {es:List Expr} {k:Nat} {cs:CEs} (h:QA X es (TL (evs F cs))):QE X (.Tuple es k pos) (T (ev F (.tup cs))):=by
 delta QE;delta QA at h;exact (qjE h)
theorem qP (m:Bool) {es:List Expr} {cs:CEs} (h:QA X es (TL (evs F cs))):QE X (.List es pos) (T (ev F (.lst m cs))):=by
 delta QE;delta QA at h;exact (qjF h)
theorem qc3 (m:Bool):QE X (.Dict [] [] pos) (T (ev F (.dic m))):=by
 delta QE;exact (qjG)
theorem qi {k i:Nat} {x:Str} {ps:List Str} {e:Expr} {es:List Expr} {cs:CEs} {p:Pos} (h:FnAt X.prog X.w X.K X.mg X.base k F i x ps) (hr:Room k X.A) (ha:QA X (e::es) (TL (evs F cs))) (hg:Gl X x:=by rfl) (hl:cs.len=ps.length:=by rfl) (hdb:(x == ("__debug__":Str))=false:=by decide) (he:starEach (e::es) X.env=(false,eval e X.env)::starEach es X.env:=by rfl) (hpl:(backTo pos (starEach es X.env)).any (·.1)=false:=by rfl):QE X (.Call (.Name x p) (e::es) [] pos) (T (ev F (.call i cs))):=by
 delta QE;delta QA at ha
 obtain ⟨f,fd,hm,hk,hb,hF⟩:=h
 exact qil hF hr hg hm hk hb pass0 ha (λρ S l S' z=>(z9 z).trans hl) hdb he hpl
theorem jt (b:Blt) {x:Str} {id:String} {e:Expr} {es:List Expr} {cs:CEs} {p:Pos} (hc:CallR X (.builtin id) (Gn (bltD b))) (hm:X.mg x=none) (hv:bootBuiltins x=some (.builtin id)) (ha:PA X (e::es) (TL (evs F cs))) (hg:Gl X x:=by rfl) (hn:x≠"__name__":=by decide) (hdb:(x == ("__debug__":Str))=false:=by decide)
  (he:starEach (e::es) X.env=(false,eval e X.env)::starEach es X.env:=by rfl) (hpl:(backTo pos (starEach es X.env)).any (·.1)=false:=by rfl):PE X (.Call (.Name x p) (e::es) [] pos) (T (ev F (.blt b cs))):=qgy hc hg hm hv ha hn hdb he hpl
theorem qhy (b:Blt) {x:Str} {ty:String} {e:Expr} {es:List Expr} {cs:CEs} {p:Pos} (hc:CallR X (.type ty) (Gn (bltD b))) (hm:X.mg x=none) (hv:bootBuiltins x=some (.type ty)) (ha:PA X (e::es) (TL (evs F cs))) (hg:Gl X x:=by rfl) (hn:x≠"__name__":=by decide) (hdb:(x == ("__debug__":Str))=false:=by decide)
  (he:starEach (e::es) X.env=(false,eval e X.env)::starEach es X.env:=by rfl) (hpl:(backTo pos (starEach es X.env)).any (·.1)=false:=by rfl):PE X (.Call (.Name x p) (e::es) [] pos) (T (ev F (.blt b cs))):=qeJ hc hg hm hv ha hn hdb he hpl
theorem jT (t:Ty) {a:Expr} {ca:CE} {p p':Pos} (gb:Gb X.mg) (ha:QE X a (T (ev F ca))) (hg:Gl X "isinstance":=by rfl) (hgt:Gl X (Str.ofString t.nm):=by rfl) (he:starEach [a,.Name (Str.ofString t.nm) p'] X.env=(false,eval a X.env)::starEach [.Name (Str.ofString t.nm) p'] X.env:=by rfl) (he2:starEach [.Name (Str.ofString t.nm) p'] X.env=(false,eval (.Name (Str.ofString t.nm) p') X.env)::starEach [] X.env:=by rfl) (hpl:(backTo pos (starEach [.Name (Str.ofString t.nm) p'] X.env)).any (·.1)=false:=by rfl) :
  QE X (.Call (.Name "isinstance" p) [a,.Name (Str.ofString t.nm) p'] [] pos) (T (ev F (.isi t ca))):=by
 delta QE;delta QE at ha;exact (qjI hg gb.isinstance hgt (gb.ty t) ha he he2 hpl)
theorem qj5 {o e:Expr} {co ce:CE} {apos:Pos} (ho:QE X o (T (ev F co))) (he:QE X e (T (ev F ce))) (hst:starEach [e] X.env=(false,eval e X.env)::starEach [] X.env:=by rfl) (hbase:attributeBase o "pop" X.env (eval o X.env)=eval o X.env:=by rfl) (hline:(apos.endLine == pos.line)=true:=by rfl) (hfew:((backTo pos (starEach [e] X.env)).all (λx=>!x.1)&&(backToKw pos (keywordEach [] X.env)).all (λx=>x.1.isSome)&&decide ([e].length+([]:List Keyword).length+(if ([]:List Keyword).isEmpty then 0 else 1)<30))=true:=by rfl) (hplain:(backTo pos (starEach [] X.env)).any (·.1)=false:=by rfl):QE X (.Call (.Attribute o "pop" apos) [e] [] pos) (T (ev F (.popAt co ce))):=by
 delta QE;delta QE at ho;delta QE at he;exact (qeM PySem.F.slot_list_pop PySem.F.type_list_pop qer (λι S x y v u H Q st hx hy p=>qjQ st hx hy p) ho he hst hbase hline hfew hplain)
theorem qc4 {o e:Expr} {co ce:CE} {apos:Pos} (ho:QE X o (T (ev F co))) (he:QE X e (T (ev F ce))) (hst:starEach [e] X.env=(false,eval e X.env)::starEach [] X.env:=by rfl) (hbase:attributeBase o "append" X.env (eval o X.env)=eval o X.env:=by rfl) (hline:(apos.endLine == pos.line)=true:=by rfl) (hfew:((backTo pos (starEach [e] X.env)).all (λx=>!x.1)&&(backToKw pos (keywordEach [] X.env)).all (λx=>x.1.isSome)&&decide ([e].length+([]:List Keyword).length+(if ([]:List Keyword).isEmpty then 0 else 1)<30))=true:=by rfl) (hplain:(backTo pos (starEach [] X.env)).any (·.1)=false:=by rfl):QE X (.Call (.Attribute o "append" apos) [e] [] pos) (T (ev F (.app co ce))):=by
 delta QE;delta QE at ho;delta QE at he;exact (qeM PySem.F.slot_list_append PySem.F.type_list_append qan (λι S x y v u H Q st hx hy p=>qhu st hx hy p) ho he hst hbase hline hfew hplain)
theorem qj6 {e:Expr} {c:CE} {p2 p3 p4:Pos} {k:Nat} (he:QE X e (T (ev F c))):QE X (.Subscript e (.Slice none none (some (.UnaryOp .USub (.Constant (.int 1) k p4) p3)) p2) pos) (T (ev F (.rev c))):=by
 delta QE;delta QE at he;exact (qjK he)
theorem qX {k:Nat} {a b:Expr} {ca cb:CE} (hr:Room k X.A) (ha:QE X a (T (ev F ca))) (hb:QE X b (T (ev F cb))) (hs:PlainIx b:=by exact λ_ _=>rfl):QE X (.Subscript a b pos) (T (ev F (.idx ca cb))):=by
 delta QE;delta QE at ha;delta QE at hb;exact (qjH (qhs hr) ha hb hs)
theorem k_on :QO X none (TOp (evO F .none)):=by
 delta QO;exact (qeI)
theorem k_os {e:Expr} {c:CE} (h:QE X e (T (ev F c))):QO X (some e) (TOp (evO F (.some c))):=by
 delta QO;delta QE at h;exact (qeH h)
theorem jU {e:Expr} {lo hi:Option Expr} {p2:Pos} {c:CE} {cl ch:CO} (he:QE X e (T (ev F c))) (hl:QO X lo (TOp (evO F cl))) (hh:QO X hi (TOp (evO F ch))):QE X (.Subscript e (.Slice lo hi none p2) pos) (T (ev F (.slc c cl ch))):=by
 delta QE;delta QE at he;delta QO at hl;delta QO at hh;exact (qjJ he hl hh)
theorem qiH (m:Bool) {a:Expr} {es:List Expr} {cs:CEs} {p1 p2 pos2:Pos} (gb:Gb X.mg) (ha:QA X (a::es) (TL (evs F cs))) (hc:X.calm=true:=by rfl) (hg:Gl X "range":=by rfl) (hg2:Gl X "list":=by rfl) (hs:starEach (a::es) X.env=(false,eval a X.env)::starEach es X.env:=by rfl) (hpl:(backTo pos2 (starEach es X.env)).any (·.1)=false:=by rfl):QE X (.Call (.Name "list" p1) [.Call (.Name "range" p2) (a::es) [] pos2] [] pos) (T (ev F (.rng (some m) cs))):=by
 delta QE;delta QA at ha;exact (qhx (k:=some m) (.inl ⟨rfl,rfl,m,rfl⟩) hc hg gb.range hg2 gb.list ha hs hpl)
theorem qiI {a:Expr} {es:List Expr} {cs:CEs} {p1 p2 pos2:Pos} (gb:Gb X.mg) (ha:QA X (a::es) (TL (evs F cs))) (hc:X.calm=true:=by rfl) (hg:Gl X "range":=by rfl) (hg2:Gl X "tuple":=by rfl) (hs:starEach (a::es) X.env=(false,eval a X.env)::starEach es X.env:=by rfl) (hpl:(backTo pos2 (starEach es X.env)).any (·.1)=false:=by rfl):QE X (.Call (.Name "tuple" p1) [.Call (.Name "range" p2) (a::es) [] pos2] [] pos) (T (ev F (.rng none cs))):=by
 delta QE;delta QA at ha;exact (qhx (k:=none) (.inr ⟨rfl,rfl,rfl⟩) hc hg gb.range hg2 gb.tuple ha hs hpl)
theorem q8 {e:Expr} {c:CE} (h:QE X e (T (ev F c))) (he:∀ whole,isTrue e X.env whole=(do let v ← whole;standAt e.pos;holding [v] (truthy v)):=by intro _;rfl):QT X e (TB (tst F (.val c))):=by
 delta QT;delta QE at h;exact (qih h he)
theorem zx (o:COp) {k:Nat} {a b:Expr} {ca cb:CE} (hr:Room k X.A) (ha:QE X a (T (ev F ca))) (hb:QE X b (T (ev F cb))) (hm:behindInMarks (cOf o) b=false:=by rfl):QT X (.Compare a [cOf o] [b] pos) (TB (tst F (.val (.cmp o ca cb)))):=by
 delta QT;delta QE at ha;delta QE at hb;exact (qii (yz o (by have:=hr.un;lia)) ha hb hm)
theorem qgV (o o':COp) {k:Nat} {a b c:Expr} {ca cb cc:CE} (hr:Room k X.A) (ha:QE X a (T (ev F ca))) (hb:QE X b (T (ev F cb))) (hc:QE X c (T (ev F cc))) (hm:lastMarks [cOf o,cOf o'] [b,c]=false:=by rfl) :
  QT X (.Compare a [cOf o,cOf o'] [b,c] pos) (TB (tst F (.val (.chain o o' ca cb cc)))):=by
 delta QT;delta QE at ha;delta QE at hb;delta QE at hc;exact (qeF (yz o (by have:=hr.un;lia)) (yz o' (by have:=hr.un;lia)) ha hb hc hm)
theorem ze {a:Expr} {ca:CB} (ha:QT X a (TB (tst F ca))):QT X (.UnaryOp .Not a pos) (TB (tst F (.not ca))):=by
 delta QT;delta QT at ha;exact (qij ha)
theorem yX {a:Expr} {t:TT} (ha:QT X a t):QW X (.BoolOp .Or [a] pos) t:=by
 delta QW;delta QT at ha;exact (qhP ha)
theorem w_or {a b:Expr} {rest:List Expr} {ca cb:CB} (ha:QT X a (TB (tst F ca))) (hb:QW X (.BoolOp .Or (b::rest) pos) (TB (tst F cb))):QW X (.BoolOp .Or (a::b::rest) pos) (TB (tst F (.or ca cb))):=by
 delta QW;delta QT at ha;delta QW at hb;exact (qjA ha hb)
theorem zf :QTl X [] (TB (tsts F .nil)):=by
 delta QTl;exact (qiv)
theorem jV {c:Expr} {ifs:List Expr} {cc:CB} {cs:CBs} (h1:QT X c (TB (tst F cc))) (h2:QTl X ifs (TB (tsts F cs))):QTl X (c::ifs) (TB (tsts F (.cons cc cs))):=by
 delta QTl;delta QT at h1;delta QTl at h2;exact (qgD h1 h2)
theorem q9 {tg e:Expr} {c:CE} (h:QE X e (T (ev F c))):QI X tg e (TIt (evI F (.seq c))):=by
 delta QI;delta QE at h;exact (qjX h)
theorem ju {tg a:Expr} {es:List Expr} {cs:CEs} {p:Pos} (gb:Gb X.mg) (ha:QA X (a::es) (TL (evs F cs))) (hg:Gl X "range":=by rfl) (hs:starEach (a::es) X.env=(false,eval a X.env)::starEach es X.env:=by rfl) (hpl:(backTo pos (starEach es X.env)).any (·.1)=false:=by rfl) :
  QI X tg (.Call (.Name "range" p) (a::es) [] pos) (TIt (evI F (.rng cs))):=by
 delta QI;delta QA at ha;exact (i_rng hg gb.range ha hs hpl)
theorem qj7 {es:List Expr} {n:Nat} {tp:Pos} {e1 e2:Expr} {c1 c2:CE} {p:Pos} (gb:Gb X.mg) (h1:QE X e1 (T (ev F c1))) (h2:QE X e2 (T (ev F c2))) (hg:Gl X "zip":=by rfl) (hs:starEach [e1,e2] X.env=(false,eval e1 X.env)::starEach [e2] X.env:=by rfl) (hs2:starEach [e2] X.env=(false,eval e2 X.env)::starEach [] X.env:=by rfl):QI X (.Tuple es n tp) (.Call (.Name "zip" p) [e1,e2] [] pos) (TIt (evI F (.zip c1 c2))):=by
 delta QI;delta QE at h1;delta QE at h2;exact (qj3 hg gb.zip h1 h2 hs hs2)
theorem qu (i:Nat) {x:Str} (hN:nodupB X.N=true:=by rfl) (hi:X.N[i]?=some x:=by rfl) (hx:Loc X.env.scope x:=by first | exact Or.inl rfl | exact Or.inr rfl) (hf:X.fn x=true∨X.env.scope.names.lookup x=some .local:=by first | exact .inl rfl | exact .inr rfl):QG X (.Name x pos) (TGt (asg F (.var i))):=by
 delta QG;exact (qjR (qf9 (zG hN) hi hx hf))
theorem yD :QGs X [] (TGts (asgs F .nil)):=by
 delta QGs;exact (qjS)
theorem qO {e:Expr} {es:List Expr} {c:CT} {cs:CTs} (h1:QG X e (TGt (asg F c))) (h2:QGs X es (TGts (asgs F cs))) (hs:(assignEach (e::es) X.env).map (·.2)=assign e X.env::(assignEach es X.env).map (·.2):=by rfl):QGs X (e::es) (TGts (asgs F (.cons c cs))):=by
 delta QGs;delta QG at h1;delta QGs at h2;exact (qio h1 h2 hs)
theorem yE {es:List Expr} {k:Nat} {cs:CTs} (h:QGs X es (TGts (asgs F cs))) (hc:X.calm=true:=by rfl) (hn:(assignEach es X.env).length=cs.len:=by rfl) (hst:(assignEach es X.env).findIdx? (·.1)=none:=by rfl):QG X (.Tuple es k pos) (TGt (asg F (.tup cs))):=by
 delta QG;delta QGs at h;exact (qjT hc h hn hst λl ρ S ρ' S' z=>qbH z)
theorem qhz {k:Nat} {o i:Expr} {co ci:CE} (hr:Room k X.A) (ho:QE X o (T (ev F co))) (hi:QE X i (T (ev F ci))) (ha:∀ v,assign (.Subscript o i pos) X.env v=(do
   let ov ← holding [v] (eval o X.env)
   let iv ← holding [v,ov] (eval i X.env)
   standAt pos
   holding [v,ov,iv] (setItem ov iv v)
   release [v,ov,iv] []):=by intro _;rfl):QG X (.Subscript o i pos) (TGt (asg F (.sub co ci))):=by
 delta QG;delta QE at ho;delta QE at hi;exact (qjU (qhs hr) ho hi ha)
end
end R
namespace R
open PySem PySem.Spec L2 SeqAt
open PyProof.Rows hiding St
section
variable {X:Cx} {F:Fs} {N:Nat} {pos:Pos}
theorem qj :QSs X [] (TSm (exs F N .nil)):=by
 delta QSs;exact (qjV)
theorem qf {st:Stmt} {rest:List Stmt} {c:CS} {cs:CSs} (h1:QS X st (TSm (ex F N c))) (h2:QSs X rest (TSm (exs F N cs))):QSs X (st::rest) (TSm (exs F N (.cons c cs))):=by
 delta QSs;delta QS at h1;delta QSs at h2;exact (qip h1 h2)
theorem yr {e:Expr} {c:CE} (he:QE X e (T (ev F c))) (hs:swapsWith e none pos.line X.env=pure false:=by rfl):QS X (.Expr e pos) (TSm (ex F N (.expr c))):=by
 delta QS;delta QE at he;exact (qiq he hs)
theorem qr {e:Expr} {c:CE} (he:QE X e (T (ev F c))):QS X (.Return (some e) pos) (TSm (ex F N (.ret c))):=by
 delta QS;delta QE at he;exact (qjW he)
theorem z_if {c:Expr} {a b:List Stmt} {cc:CB} {ca cb:CSs} (hc:QT X c (TB (tst F cc))) (ha:QSs X a (TSm (exs F N ca))) (hb:QSs X b (TSm (exs F N cb))):QS X (.If c a b pos) (TSm (ex F N (.ifs cc ca cb))):=by
 delta QS;delta QT at hc;delta QSs at ha;delta QSs at hb;exact (s_if hc ha hb)
theorem qbK {tg e:Expr} {c:CE} {t:CT} (he:QE X e (T (ev F c))) (hg:QG X tg (TGt (asg F t))) (hs:swapsWithSole [tg] e pos.line X.env=pure false:=by rfl) (hw:swappedStores [tg] e X.env=pure none:=by rfl) (h1:(assignEach [tg] X.env).map (·.2)=[assign tg X.env]:=by rfl) :
  QS X (.Assign [tg] e pos) (TSm (ex F N (.set t c))):=by
 delta QS;delta QE at he;delta QG at hg;exact (qhv (qhV he hg hs hw h1))
theorem qE (i:Nat) {x:Str} {e:Expr} {c:CE} {pos':Pos} (he:QE X e (T (ev F c))) (hN:nodupB X.N=true:=by rfl) (hi:X.N[i]?=some x:=by rfl) (hx:Loc X.env.scope x:=by first | exact Or.inl rfl | exact Or.inr rfl) (hs:swapsWith e (some (.Name x pos')) pos.line X.env=pure false:=by rfl) (hf:X.fn x=true∨X.env.scope.names.lookup x=some .local:=by first | exact .inl rfl | exact .inr rfl):QS X (.Assign [.Name x pos'] e pos) (TSm (ex F N (.set (.var i) c))):=by
 delta QS;delta QE at he
 refine qhv (g:=λd ρ S=>.ok (ρ.set i (some d)) S) (PSimp (qhW (zG hN) hi hx he hs hf) λD σ H hw=>?_)
 obtain ⟨ι,S,ρ,er,st,p⟩:=hw
 refine ⟨ι,S,ρ,er,st,?_⟩
 cases z:ev F c ρ S with
 | no=>rw [z] at p;exact p
 | err=>rw [z] at p;exact p
 | ok d S1 =>
  rw [z] at p
  intro v ι1 H1 s1 st1 hv
  obtain ⟨ι2,S2,ρ2,d2,er2,st2,hd2,p2⟩:=p v ι1 H1 s1 st1 hv
  exact p2 _ ι2 H1 (Stp.refl _ _) st2 (er2.set hd2)
theorem yF {tg iter:Expr} {body:List Stmt} {it:CI} {t:CT} {cb:CSs} (hi:QI X tg iter (TIt (evI F it))) (hg:QG X tg (TGt (asg F t))) (hb:QSs X body (TSm (exs F N cb))) (hp:PassesOwn (model X.prog X.w) X.A X.env X.xe:=by exact PassesOwn.never) (hc:X.calm=true:=by rfl) (hs:∀ x,foldedSetIterable iter X.env x=pure x:=by intro _;rfl):QS X (.For tg iter body [] pos) (TSm (ex F N (.forS t it cb))):=by
 delta QS;delta QI at hi;delta QG at hg;delta QSs at hb;exact (qjY hp hc hi hg hb hs)
theorem qgW {c:Expr} {body:List Stmt} {cc:CB} {cb:CSs} (hc:QT X c (TB (tst F cc))) (hb:QSs X body (TSm (exs F N cb))) (hp:PassesOwn (model X.prog X.w) X.A X.env X.xe:=by exact PassesOwn.never):QS X (.While c body [] pos) (TSm (ex F N (.whileS cc cb))):=by
 delta QS;delta QT at hc;delta QSs at hb;exact (qgB hp hc hb)
noncomputable def cscB (O:List (Str × NameKind)) (N':List Str) (sc:Scope) (fr:List Nat) (xs ts:List Str):Bool :=
 (sc.kind == .function)&&sc.names.all (λy=>y.2 != .cell)&&sc.names.all (λy=>y.2 != .local || sc.names.lookup y.1 == some .local)&&sc.names.all (λy=>y.2 != .free || O.lookup y.1 == some .cell || O.lookup y.1 == some .free) &&
 decide (fr.length=xs.length)&&(fr.zip xs).all (λp=>N'[p.1]? == some p.2)&&xs.all (λx=>sc.names.lookup x == some .free&&(O.lookup x == some .cell || O.lookup x == some .free))&&ts.all (λx=>sc.names.lookup x == some .local)&&decide (xs++ts).Nodup
theorem qco {sc:Scope} {fr:List Nat} {xs ts:List Str} (h:cscB X.env.scope.names X.N sc fr xs ts=true):CSc X sc fr xs ts:=by
 unfold cscB at h
 simp only [wL,List.all_eq_true,Bool.or_eq_true,bne_iff_ne,beq_iff_eq,we] at h
 obtain ⟨⟨⟨⟨⟨⟨⟨⟨h1,h2⟩,h3⟩,h4⟩,h5⟩,h6⟩,h7⟩,h8⟩,h9⟩:=h
 refine ⟨h1,h2,λy hy hl=>?_,λy hy hf=>?_,⟨h5,λi j x e1 e2=>?_,h7,h8,h9⟩⟩
 ·rcases h3 y hy with z | z
  ·exact absurd hl z
  ·exact z
 ·rcases h4 y hy with (z | z) | z
  ·exact absurd hf z
  ·exact .inl z
  ·exact .inr z
 ·have hm:(j,x)∈fr.zip xs:=by
   apply wq (i:=i)
   rw [List.getElem?_zip_eq_some]
   exact ⟨e1,e2⟩
  exact h6 (j,x) hm
theorem qV {k:Nat} {sc:Scope} {cl:List (Str × Addr)} {C:Addr} {code:Value} {N':List Str} {fp:List Addr} {tg elt iter:Expr} {ifs:List Expr} {gp:Pos} {it:Addr} {o:Addr × Obj} {s:Shared} {H:Hp} (r:Room (k+1) X.A) :
  Room k (genCx X sc cl C code N' fp (.GeneratorExp elt [⟨tg,iter,ifs,0⟩] sc gp) it o s H).A:=by
 have h1:=r.hd
 have h2:=r.dp
 have h3:=r.un
 refine ⟨h1,?_,?_⟩
 ·show X.A.depth+frameCount ([].map Frame.where_)+Code.weight _+3*k+5<_
  have:Code.weight (.compLoop (.GeneratorExp elt [⟨tg,iter,ifs,0⟩] sc gp) 0 (.ref it) .none (genEnv sc cl C code builtinsNs X.env))≤1:=Nat.le_of_ble_eq_true rfl
  have e0:frameCount (([]:List Frame).map Frame.where_)=0:=rfl
  rw [e0]
  lia
 ·show X.A.units+1+1+1+1+1+unitsOf ([].map Frame.where_)+Code.cUnits _+16*k+200<_
  have:Code.cUnits (.compLoop (.GeneratorExp elt [⟨tg,iter,ifs,0⟩] sc gp) 0 (.ref it) .none (genEnv sc cl C code builtinsNs X.env))≤3:=Nat.le_of_ble_eq_true rfl
  have e0:unitsOf (([]:List Frame).map Frame.where_)=0:=rfl
  rw [e0]
  lia
theorem k_lc (m:Bool) (fr:List Nat) (xs ts:List Str) {tg elt iter:Expr} {ifs:List Expr} {sc:Scope} {t:CT} {it:CI} {ci:CBs} {ce:CE} (hi:QI X tg iter (TIt (evI F it))) (rt:∀ cl C fp s H,QG (compCx X sc cl C (xs++ts) fp s H) tg (TGt (asg F t))) (ri:∀ cl C fp s H,QTl (compCx X sc cl C (xs++ts) fp s H) ifs (TB (tsts F ci))) (re:∀ cl C fp s H,QE (compCx X sc cl C (xs++ts) fp s H) elt (T (ev F ce))) (hc:X.calm=true:=by rfl) (hs:∀ x,foldedSetIterable iter X.env x=pure x:=by intro _;rfl) (h:cscB X.env.scope.names X.N sc fr xs ts=true:=by rfl):QE X (.ListComp elt [⟨tg,iter,ifs,0⟩] sc pos) (T (ev F (.lc m fr ts.length ce t it ci))):=by
 delta QE;delta QI at hi;delta QG at rt;delta QTl at ri;delta QE at re;exact (r_lc hc hi hs (qco h) ⟨rt,ri,re⟩)
theorem qaS (i:Nat) (m:Bool) (fr:List Nat) (xs ts:List Str) {tg elt iter:Expr} {ifs:List Expr} {sc:Scope} {t:CT} {it:CI} {ci:CBs} {ce:CE} {y:Str} {py spos:Pos} (hi:QI X tg iter (TIt (evI F it))) (rt:∀ cl C fp s H,QG (compCx X sc cl C (xs++ts) fp s H) tg (TGt (asg F t))) (ri:∀ cl C fp s H,QTl (compCx X sc cl C (xs++ts) fp s H) ifs (TB (tsts F ci))) (re:∀ cl C fp s H,QE (compCx X sc cl C (xs++ts) fp s H) elt (T (ev F ce))) (hc:X.calm=true:=by rfl) (hs:∀ x,foldedSetIterable iter X.env x=pure x:=by intro _;rfl) (h:cscB X.env.scope.names X.N sc fr xs ts=true:=by rfl) (hN:nodupB X.N=true:=by rfl) (hy:X.N[i]?=some y:=by rfl) (hl:X.env.scope.names.lookup y=some .local:=by rfl) (hsw:swapsWith (.ListComp elt [⟨tg,iter,ifs,0⟩] sc pos) (some (.Name y py)) spos.line X.env=pure true:=by rfl) :
  QS X (.Assign [.Name y py] (.ListComp elt [⟨tg,iter,ifs,0⟩] sc pos) spos) (TSm (ex F N (.set (.var i) (.lc m fr ts.length ce t it ci)))):=by
 delta QS;delta QI at hi;delta QG at rt;delta QTl at ri;delta QE at re;exact (qgF hc hi hs (qco h) ⟨rt,ri,re⟩ (zG hN) hy hl hsw)
theorem qhA (w:GW) (fr:List Nat) (xs ts:List Str) {id:String} {f:Str} {p gp:Pos} {tg elt iter:Expr} {ifs:List Expr} {sc:Scope} {k:Nat} {c T':Addr} {t:CT} {it:CI} {ci:CBs} {ce:CE} (hr:Room k X.A) (gc:GCall X w (.builtin id)) (hm:X.mg f=none) (hv:bootBuiltins f=some (.builtin id))
  (hcode:X.env.code=.ref c) (htab:codeTab X.K c T'=true) (hi:PI X tg iter (TIt (evI F it)))
  (rt:∀ cl C code fp it o s H,PG (genCx X sc cl C code (xs++ts) fp (.GeneratorExp elt [⟨tg,iter,ifs,0⟩] sc gp) it o s H) tg (TGt (asg F t)))
  (ri:∀ cl C code fp it o s H,PTl (genCx X sc cl C code (xs++ts) fp (.GeneratorExp elt [⟨tg,iter,ifs,0⟩] sc gp) it o s H) ifs (TB (tsts F ci)))
  (re:∀ cl C code fp it o s H,PE (genCx X sc cl C code (xs++ts) fp (.GeneratorExp elt [⟨tg,iter,ifs,0⟩] sc gp) it o s H) elt (T (ev F ce)))
  (hc:X.calm=true:=by rfl) (hgl:Gl X f:=by rfl) (hn:f≠"__name__":=by decide) (hdb:(f == ("__debug__":Str))=false:=by decide) (hs:∀ x,genFold iter X.env x=pure x:=by intro _;rfl) (h:cscB X.env.scope.names X.N sc fr xs ts=true:=by rfl)
  (hz:sc.names.lookup (".0":Str)=some NameKind.local:=by rfl) (hco:sc.isCoroutine=false:=by rfl):PE X (.Call (.Name f p) [.GeneratorExp elt [⟨tg,iter,ifs,0⟩] sc gp] [] pos) (T (ev F (.gen w fr ts.length ce t it ci))) :=
 qj1 hc hr.depth gc hgl hm hv hn hdb hi hs (qco h) hz hco hcode htab ⟨rt,ri,re⟩
theorem jW (fr:List Nat) (xs ts:List Str) {p gp:Pos} {tg elt iter:Expr} {ifs:List Expr} {sc:Scope} {k:Nat} {c T':Addr} {t:CT} {it:CI} {ci:CBs} {ce:CE} (hr:Room k X.A) (gb:Gb X.mg) (hcode:X.env.code=.ref c) (htab:codeTab X.K c T'=true) (hi:QI X tg iter (TIt (evI F it))) (rt:∀ cl C code fp it o s H,QG (genCx X sc cl C code (xs++ts) fp (.GeneratorExp elt [⟨tg,iter,ifs,0⟩] sc gp) it o s H) tg (TGt (asg F t))) (ri:∀ cl C code fp it o s H,QTl (genCx X sc cl C code (xs++ts) fp (.GeneratorExp elt [⟨tg,iter,ifs,0⟩] sc gp) it o s H) ifs (TB (tsts F ci))) (re:∀ cl C code fp it o s H,QE (genCx X sc cl C code (xs++ts) fp (.GeneratorExp elt [⟨tg,iter,ifs,0⟩] sc gp) it o s H) elt (T (ev F ce))) (hc:X.calm=true:=by rfl) (hgl:Gl X "all":=by rfl) (hs:∀ x,genFold iter X.env x=pure x:=by intro _;rfl) (h:cscB X.env.scope.names X.N sc fr xs ts=true:=by rfl) (hz:sc.names.lookup (".0":Str)=some NameKind.local:=by rfl) (hco:sc.isCoroutine=false:=by rfl):QE X (.Call (.Name "all" p) [.GeneratorExp elt [⟨tg,iter,ifs,0⟩] sc gp] [] pos) (T (ev F (.gen .all fr ts.length ce t it ci))):=by
 delta QE;delta QI at hi;delta QG at rt;delta QTl at ri;delta QE at re;exact (qhA .all fr xs ts hr (qiz hc hr.depth λ_=>hr.hd) gb.all (by decide +kernel) hcode htab hi rt ri re hc hgl (by decide) (by decide) hs h hz hco)
theorem jl (fr:List Nat) (xs ts:List Str) {p gp:Pos} {tg elt iter:Expr} {ifs:List Expr} {sc:Scope} {k:Nat} {c T':Addr} {t:CT} {it:CI} {ci:CBs} {ce:CE} (hr:Room k X.A) (gb:Gb X.mg) (hcode:X.env.code=.ref c) (htab:codeTab X.K c T'=true) (hi:QI X tg iter (TIt (evI F it))) (rt:∀ cl C code fp it o s H,QG (genCx X sc cl C code (xs++ts) fp (.GeneratorExp elt [⟨tg,iter,ifs,0⟩] sc gp) it o s H) tg (TGt (asg F t))) (ri:∀ cl C code fp it o s H,QTl (genCx X sc cl C code (xs++ts) fp (.GeneratorExp elt [⟨tg,iter,ifs,0⟩] sc gp) it o s H) ifs (TB (tsts F ci))) (re:∀ cl C code fp it o s H,QE (genCx X sc cl C code (xs++ts) fp (.GeneratorExp elt [⟨tg,iter,ifs,0⟩] sc gp) it o s H) elt (T (ev F ce))) (hc:X.calm=true:=by rfl) (hgl:Gl X "sum":=by rfl) (hs:∀ x,genFold iter X.env x=pure x:=by intro _;rfl) (h:cscB X.env.scope.names X.N sc fr xs ts=true:=by rfl) (hz:sc.names.lookup (".0":Str)=some NameKind.local:=by rfl) (hco:sc.isCoroutine=false:=by rfl):QE X (.Call (.Name "sum" p) [.GeneratorExp elt [⟨tg,iter,ifs,0⟩] sc gp] [] pos) (T (ev F (.gen .sum fr ts.length ce t it ci))):=by
 delta QE;delta QI at hi;delta QG at rt;delta QTl at ri;delta QE at re;exact (qhA .sum fr xs ts hr (qiA hc hr.depth λ_=>hr.hd) gb.sum (by decide +kernel) hcode htab hi rt ri re hc hgl (by decide) (by decide) hs h hz hco)
end
structure FunT (K:PySem.W.Frag) (x:Str) (st:Stmt) (f:Addr) (fd:FuncData) (c T':Addr):Prop where
 ex:∃ (oc:Value) (od:Option Addr) (kV doc pm:Value) (an:Option Addr) (ct:Value) (osl:Array (Option Value)),
  fd=PySem.W.fnOf x x (defArgs st) (defBody st) (defScope st) .none kV doc pm an (.ref c) ct∧K.lookup f=some ⟨oc,od,.func fd,osl⟩∧PySem.W.codeIn K (.ref c) x=true
 tab:codeTab K c T'=true
 kp:PySem.W.keepIn K (.ref f)=true
mutual
theorem Den.frz {ι:List Addr} {H:Hp} {S:Sr} {n:Nat} (st:Sto ι H S):∀ (d:D) {d':D} {v:V},R.frz S n d=some d'→Den ι H d v→Den (ι.take n) H d' v
 | .non,d',v,e,h=>by cases e;exact h
 | .bl b,d',v,e,h=>by cases e;exact h
 | .int b,d',v,e,h=>by cases e;exact h
 | .str b,d',v,e,h=>by cases e;exact h
 | .exc _,d',v,e,h=>by cases e
 | .emp,d',v,e,h=>by
  cases e
  obtain ⟨a,e1,e2,e3⟩:=h
  exact ⟨a,e1,λm=>e2 (List.mem_of_mem_take m),e3⟩
 | .tup l,d',v,e,h=>by
  unfold R.frz at e
  cases z:R.frzs S n l with
  | none=>rw [z] at e;cases e
  | some l' =>
   rw [z] at e;cases e
   obtain ⟨a,xs,e1,e2,e3,e4⟩:=h
   exact ⟨a,xs,e1,λm=>e2 (List.mem_of_mem_take m),e3,Dens.frz st l z e4⟩
 | .lst l,d',v,e,h=>by
  unfold R.frz at e
  cases z:R.frzs S n l with
  | none=>rw [z] at e;cases e
  | some l' =>
   rw [z] at e;cases e
   obtain ⟨a,xs,e1,e2,e3,e4⟩:=h
   exact ⟨a,xs,e1,λm=>e2 (List.mem_of_mem_take m),e3,Dens.frz st l z e4⟩
 | .ref m,d',v,e,h=>by
  obtain ⟨a,e1,e2⟩:=h
  unfold R.frz at e
  split at e
  ·rename_i hm
   cases e
   exact ⟨a,e1,by rw [List.getElem?_take];rw [wJ hm];exact e2⟩
  ·rename_i hm
   split at e
   ·rename_i l hl
    split at e
    rotate_left
    ·cases e
    rename_i f
    cases e
    obtain ⟨_,xs,h1,h2⟩:=st.obj m a _ e2 hl
    refine ⟨a,xs,e1,λhmem=>?_,.inl h1,Dens.less l f h2⟩
    obtain ⟨i,hi,ei⟩:=List.mem_iff_getElem?.mp hmem |>.elim λi hi=>(⟨i,by
     have:=(wI.mp hi).1
     rw [vF] at this;lia,hi⟩:∃ i,i<n∧(ι.take n)[i]?=some a)
    rw [List.getElem?_take,wJ hi] at ei
    have hlt:=(wI.mp ei).1
    have:=(List.getElem?_inj hlt st.nd).mp (ei.trans e2.symm)
    lia
   ·cases e
theorem Dens.frz {ι:List Addr} {H:Hp} {S:Sr} {n:Nat} (st:Sto ι H S):∀ (ds:List D) {ds':List D} {xs:List V},R.frzs S n ds=some ds'→Dens ι H ds xs→Dens (ι.take n) H ds' xs
 | [],ds',xs,e,h=>by cases e;exact h
 | d::r,ds',xs,e,h=>by
  unfold R.frzs at e
  split at e
  ·rename_i a b h1 h2
   cases e
   obtain ⟨x,t,e1,e2,e3⟩:=h
   exact ⟨x,t,e1,Den.frz st d h1 e2,Dens.frz st r h2 e3⟩
  ·cases e
end
theorem qgX {F:Fs} {N:Nat} {c:CF} {ns ps:List Str} {vs:List V} {H:Hp} {Q:VK} (hp:ps.length=c.np) (hn:ns.length=c.nn) (hle:c.np≤c.nn) (h:SpD ps.length (callC F N c) vs H Q E0):TSm (exs F N c.body) { nx:=λ_ H'=>Q .non H',rt:=Q } (start ns vs) H:=by
 obtain ⟨hl,ι,S,ds,st,dl,p⟩:=h
 have hdl:ds.length=c.np:=by rw [dl.length,hl,hp]
 unfold callC at p
 rw [wJ hdl] at p
 have er:EnR ι H (ds.map some++List.replicate (c.nn-c.np) none) (start ns vs):=by
  unfold L2.start
  have e1:ns.length-vs.length=c.nn-c.np:=by rw [hn,hl,hp]
  rw [e1]
  refine ⟨by simp [dl.length],λi d e=>?_⟩
  by_cases hi:i<ds.length
  ·rw [wU (by simpa using hi),wY,wD hi] at e
   cases e
   obtain ⟨x,e2,e3⟩:=dl.get (wD hi)
   refine ⟨x,?_,e3⟩
   rw [wU (by rw [wP,← dl.length];exact hi),wY,e2];rfl
  ·rw [wZ (by simpa using hi),List.getElem?_replicate] at e
   split at e <;> cases e
 refine ⟨ι,S,_,er,st,?_⟩
 have lv:∀ {d:D} {S1:Sr},Pst Den (leave c.keeps S.length d S1) ι H Q→∀ ι' H',Stp ι H ι' H'→Sto ι' H' S1→∀ v,Den ι' H' d v→Q v H':=by
  intro d S1 q ι' H' s1 st1 v hv
  unfold leave at q
  split at q
  ·exact q v ι' H' s1 st1 hv
  ·split at q
   ·exact q v ι' H' s1 st1 hv
   ·split at q
    ·rename_i hr
     have e:=s1.take_eq
     have el:ι.length=S.length:=st.len
     refine q v (ι'.take S.length) H' (by rw [← el];exact s1.less) (st1.less _) (Den.less d hr hv)
    ·split at q
     ·rename_i d' hd
      have el:ι.length=S.length:=st.len
      exact q v (ι'.take S.length) H' (by rw [← el];exact s1.less) (st1.less _) (Den.frz st1 d hd hv)
     ·exact q.elim
 cases z:exs F N c.body (ds.map some++List.replicate (c.nn-c.np) none) S with
 | no=>rw [z] at p;exact p.elim
 | err=>rw [z] at p;exact p.elim
 | ok f S1 =>
  rw [z,Res.bind_ok] at p
  intro ι' H' s1 st1
  cases f with
  | nx ρ=>exact λσ _=>lv p ι' H' s1 st1 .non rfl
  | rt d=>exact λv hv=>lv p ι' H' s1 st1 v hv
  | bk ρ=>exact p.elim
  | ct ρ=>exact p.elim
end R
namespace R
open PySem PySem.Spec L2 SeqAt
open PyProof.Rows hiding St
noncomputable def isFields:Data→Bool
 | .fields _=>true
 | _=>false
noncomputable def plainK (K:PySem.W.Frag):Bool:=K.all λp=>p.2.cls != .type "list"&&!(p.2.cls == .none&&isFields p.2.data)
noncomputable def sameData:Data→Bool
 | .fields vs=>sameName vs
 | _=>false
noncomputable def codesK (q:Program) (K:PySem.W.Frag):Bool:=K.all λp=>p.2.cls != .type "code" || !(sameData p.2.data) || (recsOf q).any λd=>match PySem.W.nsIn K mainGlobals d.name with
 | some (some (.ref a))=>(match K.lookup a with
  | some ⟨_,_,.func fd,_⟩=>fd.code == .ref p.1
  | _=>false)
 | _=>false
theorem yd:∀ {K:PySem.W.Frag} {a:Addr} {o:Obj},K.lookup a=some o→(a,o)∈K
 | [],_,_,h=>by cases h
 | (b,u)::K,a,o,h=>by
  rw [vP] at h
  cases z:a == b with
  | true=>rw [z] at h;cases h;rw [beq_iff_eq.mp z];exact wN
  | false=>rw [z] at h;exact wM _ (yd h)
theorem qff {K:PySem.W.Frag} (h:plainK K=true) {a:Addr} {o:Obj} (e:K.lookup a=some o):o.cls≠.type "list"∧¬ (o.cls=.none∧isFields o.data=true):=by
 unfold plainK at h
 rw [List.all_eq_true] at h
 have:=h _ (yd e)
 simp only [wL,bne_iff_ne,Bool.not_eq_true',Bool.and_eq_false_iff,wz] at this
 refine ⟨this.1,λ⟨z1,z2⟩=>?_⟩
 rcases this.2 with z | z
 ·exact z z1
 ·rw [z2] at z;cases z
theorem jX {K:PySem.W.Frag} {c t:Addr} (h:codeTab K c t=true):∃ o vs,K.lookup c=some o∧o.cls=.type "code"∧o.data=.fields vs∧vs[11]?=some (.ref t)∧sameName vs=true:=by
 unfold codeTab at h
 split at h
 ·rename_i cls d vs sl hl
  simp only [wL,beq_iff_eq] at h
  obtain ⟨⟨e1,e3⟩,e2⟩:=h
  split at e2
  ·rename_i a b x1 x2 x3 x4 x5 x6 x7 h11 h11' h18 h7 h9 h10
   simp only [wL,beq_iff_eq,bne_iff_ne] at e2
   obtain ⟨⟨ea,eb⟩,ne⟩:=e2
   subst eb
   exact ⟨_,vs,hl,e1,rfl,h11',e3⟩
  ·cases e2
 ·cases h
theorem qgY {q:Program} {loose:List Str} {mean:ExcName→Option Value} {mg mb:Str→Option Value} {h:Heap} {K:PySem.W.Frag} (T:Top q loose mean mg mb h) (KX:K.In h) (hc:codesK q K=true) {c t:Addr} (e:codeTab K c t=true) :
  h.get? t=some { cls:=.none,data:=.fields #[] }∧isCodeTable h t:=by
 obtain ⟨o,vs,lk,cl,da,ix,sn⟩:=jX e
 unfold codesK at hc
 rw [List.all_eq_true] at hc
 have:=hc _ (yd lk)
 simp only [Bool.or_eq_true,bne_iff_ne,List.any_eq_true] at this
 rcases this with (z | z) | ⟨d,hd,hz⟩
 ·exact absurd cl z
 ·rw [da] at z;rw [show sameData (.fields vs)=true from sn] at z;cases z
 ·split at hz
  ·rename_i a hn
   split at hz
   ·rename_i oc od fd sl hl
    have hcode:fd.code=.ref c:=by simpa using hz
    obtain ⟨a',o',fd',c',P',e1,e2,e3,e4,e5,e6⟩:=T.tab d hd
    have em:=PySem.W.mg_of KX T.g hn
    rw [em] at e1
    cases e1
    have:=KX _ _ hl
    rw [e2] at this
    cases this
    cases e3
    rw [hcode] at e4
    cases e4
    obtain ⟨⟨oc',vc,g1,g2,g3,g4⟩,g5⟩:=e6
    have:=KX _ _ lk
    rw [g1] at this
    cases this
    rw [da] at g3
    cases g3
    rw [ix] at g4
    cases g4
    exact ⟨g5,c,_,_,g1,cl,da,ix⟩
   ·cases hz
  ·cases hz
noncomputable def tabOf (K:PySem.W.Frag) (b:Addr):Bool:=K.any λp=>codeTab K p.1 b
theorem qas {K:PySem.W.Frag} {b:Addr}:tabOf K b=true ↔ ∃ c,codeTab K c b=true:=by
 unfold tabOf
 rw [List.any_eq_true]
 constructor
 ·rintro ⟨p,_,h⟩;exact ⟨p.1,h⟩
 ·rintro ⟨c,h⟩
  obtain ⟨o,vs,lk,_⟩:=jX h
  exact ⟨(c,o),yd lk,h⟩
noncomputable def entryH (K:PySem.W.Frag) (a:Addr) (vs:List Value) (ns:List Int):Hp:=λb=>if b=a then some (.frz { cls:=.type "list",data:=.seq vs.toArray } (.lst (ns.map V.int))) else if tabOf K b=true then some (.tbl #[]) else none
theorem qdS {P:Program} {w:World} {q:Program} {loose:List Str} {mean:ExcName→Option Value} {K:PySem.W.Frag} {mg mb:Str→Option Value} {k:Nat} {fa a:Addr} {fd:FuncData} {x:Str} {sp:Sp} {s₁:Shared} {vs:List Value} {ns:List Int} (T:Top q loose mean mg mb s₁.heap)
  (KX:K.In s₁.heap) (hp:plainK K=true) (hcd:codesK q K=true) (hg:s₁.gens=#[])
  (ha:s₁.heap.get? a=some { cls:=.type "list",data:=.seq vs.toArray }) (hi:IntsAre vs ns) (hl:ns.length≤sizeLine) (hr:Room k callerA)
  (F:∀ base:Heap,K.In base→base.Ns mainGlobals mg→FnOk P w K mg base CX0 k fa fd [x] sp) (hbind:∀ (s:Shared) (u:Value),BindsTo s fd ⟨[u],[]⟩ [(x,u)])
  (hsp:∀ H:Hp,H a=some (.frz { cls:=.type "list",data:=.seq vs.toArray } (.lst (ns.map V.int)))→sp [.ref a] H (λv _=>v=.bl true) λ_ _ _=>False) :
  codeAny (model P w) callerA (.call (.ref fa) ⟨[.ref a],[]⟩) (λr s'=>r=.ok (.ret (.bool true))∧OldK s₁.heap s'.heap∧s'.os=s₁.os∧AllBare s'.gens) s₁:=by
 have rv:=qap hi
 have tb:∀ {b:Addr},tabOf K b=true→s₁.heap.get? b=some { cls:=.none,data:=.fields #[] }∧isCodeTable s₁.heap b:=λ{b} h=>by
  obtain ⟨c,e⟩:=qas.mp h
  exact qgY T KX hcd e
 have na:tabOf K a≠true:=λh=>by
  have:=(tb h).1
  rw [ha] at this;cases this
 generalize hH:entryH K a vs ns=H
 have hHa:H a=some (.frz { cls:=.type "list",data:=.seq vs.toArray } (.lst (ns.map V.int))):=by rw [← hH];unfold entryH;rw [wJ rfl]
 have hHt:∀ {b:Addr},tabOf K b=true→H b=some (.tbl #[]):=λ{b} h=>by
  rw [← hH];unfold entryH
  rw [wK (λ(z:b=a)=>na (by rw [← z];exact h)),wJ h]
 have hHs:∀ {b:Addr} {u:HO},H b=some u→(b=a∧u=.frz { cls:=.type "list",data:=.seq vs.toArray } (.lst (ns.map V.int)))∨(tabOf K b=true∧u=.tbl #[]):=λ{b u} e=>by
  rw [← hH] at e;unfold entryH at e
  split at e
  ·rename_i z;cases e;exact .inl ⟨z,rfl⟩
  ·split at e
   ·rename_i z;cases e;exact .inr ⟨z,rfl⟩
   ·cases e
 have hok:HOk P w H s₁.heap:=λb u e=>by
  rcases hHs e with ⟨rfl,rfl⟩ | ⟨h,rfl⟩
  ·exact ⟨ha,by rw [wP];exact hl,vs,_,rv,ha⟩
  ·exact ⟨(tb h).1,trivial⟩
 have base_of:∀ {b:Addr} {o:Obj},s₁.heap.get? b=some o→H b=none→(hidT s₁.heap H).get? b=some o:=λe n=>qd8 e n
 have noD:∀ {b:Addr} {o:Obj} {es:Array DictEntry} {ep:Nat},s₁.heap.get? b=some o→o.data=.dict es ep→H b=none:=λ{b o es ep} e d=>by
  cases z:H b with
  | none=>rfl
  | some u =>
   rcases hHs z with ⟨rfl,rfl⟩ | ⟨h,rfl⟩
   ·rw [ha] at e;cases e;cases (show Data.seq vs.toArray _=Data.dict es ep from d)
   ·rw [(tb h).1] at e;cases e;cases (show Data.fields #[]=Data.dict es ep from d)
 have nsK:∀ {b:Addr} {m:Str→Option Value},s₁.heap.Ns b m→(hidT s₁.heap H).Ns b m:=λ{b m} ⟨o,es,ep,e,d,r⟩=>⟨o,es,ep,base_of e (noD e d),d,r⟩
 have hKb:K.In (hidT s₁.heap H):=λb o e=>base_of (KX b o e) (by
  cases z:H b with
  | none=>rfl
  | some u =>
   obtain ⟨p1,p2⟩:=qff hp e
   have e':=KX b o e
   rcases hHs z with ⟨rfl,rfl⟩ | ⟨h,rfl⟩
   ·rw [ha] at e';cases e';exact absurd rfl p1
   ·rw [(tb h).1] at e';cases e';exact absurd ⟨rfl,rfl⟩ p2)
 have bm:∃ bm ob,mg "__builtins__"=some (.ref bm)∧bm≠builtinsNs∧(hidT s₁.heap H).get? bm=some ob∧ob.cls=.type "module"∧ob.dict=some builtinsNs∧ob.data=.plain:=by
  obtain ⟨bm,ob,e1,e2,e3,e4,e5,e6⟩:=T.bmain
  refine ⟨bm,ob,e1,e2,base_of e3 ?_,e4,e5,e6⟩
  cases z:H bm with
  | none=>rfl
  | some u =>
   rcases hHs z with ⟨rfl,rfl⟩ | ⟨h,rfl⟩
   ·rw [ha] at e3;cases e3;exact absurd (show Value.type "list"=Value.type "module" from e4) (by decide)
   ·rw [(tb h).1] at e3;cases e3;exact absurd e4 (by decide)
 have hM:Mod K mg (hidT s₁.heap H):=⟨hKb,nsK T.g,⟨mb,nsK T.b,T.builtins⟩,(let ⟨mc,h1,h2⟩:=T.nolimit;⟨mc,nsK h1,h2⟩),bm⟩
 have e0:Env0 P w K mg (hidT s₁.heap H) callerA [] s₁ H:=⟨rfl,hM,λb o e=>qf8 e,Nat.le_of_eq (qdq _ _),trivial,λb hb=>absurd (show b∈([]:List Addr) from hb) (by simp),hok,.of_eq hg,λc t z=>⟨_,hHt (qas.mpr ⟨c,z⟩)⟩⟩
 refine codeAny_mono ((F _ hKb (nsK T.g)).run callerA [] s₁ H ⟨[.ref a],[]⟩ [.ref a] [.ref a] _ _ hr e0 (hbind s₁ (.ref a)) (.cons rfl .nil) (hsp H hHa)) λr s' h=>?_
 cases r with
 | error e=>exact (show False from h).elim
 | ok fl =>
  cases fl with
  | next=>exact False.elim h
  | brk=>exact False.elim h
  | cont=>exact False.elim h
  | ret u =>
   obtain ⟨v,H',os,bare,un,hok',r',q'⟩:=h
   have q':v=.bl true:=q'
   subst q'
   obtain rfl:u=Value.bool true:=r'
   have old:∀ b o,s₁.heap.get? b=some o→asItWas s₁.heap s'.heap b o∧∃ o',s'.heap.get? b=some o':=λb o e=>by
    cases z:H b with
    | none =>
     have:=un.keep b o e z (by intro y;exact absurd (show b∈([]:List Addr) from y) (by simp)) (by simp)
     exact ⟨.inl this,_,this⟩
    | some u =>
     rcases hHs z with ⟨rfl,rfl⟩ | ⟨h,rfl⟩
     ·have z2:=un.frzs _ _ _ z
      obtain ⟨e2,_⟩:=hok' _ _ z2
      rw [ha] at e;cases e
      exact ⟨.inl e2,_,e2⟩
     ·obtain ⟨more,z2⟩:=un.tbls _ _ z
      obtain ⟨e2,_⟩:=hok' _ _ z2
      obtain ⟨e3,e4⟩:=tb h
      rw [e3] at e;cases e
      exact ⟨.inr (.inl ⟨e4,rfl,#[],more,rfl,e2⟩),_,e2⟩
   exact ⟨rfl,⟨λb o e=>(old b o e).1,λb o e=>(old b o e).2⟩,os,bare.bare⟩
theorem qiJ {l:PySem.W.OpenLaw} {n k:Nat} {q:Program} {loose:List Str} {XP:(Str→Option Value)→Heap→Prop} {YP:World→Heap→Prop} {d:DefRec} {K:Params→PySem.W.Frag} {x:Str} {g:List D→Sr→Res D}
  (hn:l.most=some n) (hn2:n≤sizeLine) (hdf:d.params.defaults=[]) (hr:Room k callerA) (hY:∀ (w:World) (h:Heap),YP w h→(K w.params).In h) (hp:∀ P,plainK (K P)=true) (hcd:∀ P,codesK q (K P)=true)
  (F:∀ (w:World) (mg:Str→Option Value) (fa:Addr) (h:Heap),(K w.params).In h→h.Ns mainGlobals mg→mg d.name=some (.ref fa) →
   ∃ fd:FuncData,(∀ (s:Shared) (u:Value),BindsTo s fd ⟨[u],[]⟩ [(x,u)])∧∀ base:Heap,(K w.params).In base→base.Ns mainGlobals mg→FnOk l.prog w (K w.params) mg base CX0 k fa fd [x] (SpD 1 g))
  (hG:∀ ns:List Int,ns.length≤n→∃ S',g [.lst (ns.map .int)] []=.ok (.bl true) S') :
  PySem.W.WalkO q loose XP YP l.row.toRowW d [] (λf vs=>PySem.call f vs):=by
 refine Att.attach_call hn hdf λw s₀ s₁ mg mb fa o pm cd doc a vs ns G Y ho hd hcd' hmg hobj hints hlen hg=>?_
 have KX:=hY w _ Y
 obtain ⟨fd,hb,hF⟩:=F w mg fa _ KX G.T.g hmg
 refine qdS G.T KX (hp _) (hcd _) hg hobj hints (vA hlen hn2) hr hF hb λH hS=>?_
 obtain ⟨S',e⟩:=hG ns hlen
 have dd:∀ ms:List Int,Dens [] H (ms.map .int) (ms.map V.int):=λms=>by
  induction ms with
  | nil=>rfl
  | cons x r ih=>exact ⟨_,_,rfl,rfl,ih⟩
 refine ⟨rfl,[],[],[.lst (ns.map .int)],⟨rfl,.nil,λn a so e1 _=>by simp at e1⟩,⟨_,_,rfl,⟨a,ns.map V.int,rfl,by simp,.inr ⟨_,hS⟩,dd ns⟩,rfl⟩,?_⟩
 rw [e]
 exact λv ι' H' _ _ hv=>hv
end R
namespace R
open PySem PySem.Spec L2 SeqAt
open PyProof.Rows hiding St
theorem m2 {k:Nat} {A:Around} (r:Room (k+2) A):Room k A:=r.mono (by lia)
theorem m1 {k:Nat} {A:Around} (r:Room (k+1) A):Room k A:=r.mono (by lia)
theorem qiK:bootBuiltins "len"=some (.builtin "len"):=by decide +kernel
theorem qiL:bootBuiltins "min"=some (.builtin "min"):=by decide +kernel
theorem qiM:bootBuiltins "max"=some (.builtin "max"):=by decide +kernel
theorem qiN:bootBuiltins "abs"=some (.builtin "abs"):=by decide +kernel
theorem qdT:bootBuiltins "divmod"=some (.builtin "divmod"):=by decide +kernel
theorem qdU:bootBuiltins "sorted"=some (.builtin "sorted"):=by decide +kernel
theorem qiO:bootBuiltins "all"=some (.builtin "all"):=by decide +kernel
theorem qiP:bootBuiltins "sum"=some (.builtin "sum"):=by decide +kernel
theorem qgZ:bootBuiltins "list"=some (.type "list"):=by decide +kernel
theorem qfg:bootBuiltins "tuple"=some (.type "tuple"):=by decide +kernel
section
variable {X:Cx} {F:Fs} {pos p:Pos} {e:Expr} {es:List Expr} {cs:CEs}
theorem zy (gb:Gb X.mg) (ha:QA X (e::es) (TL (evs F cs))) (hg:Gl X "len":=by rfl) (he:starEach (e::es) X.env=(false,eval e X.env)::starEach es X.env:=by rfl) (hpl:(backTo pos (starEach es X.env)).any (·.1)=false:=by rfl):QE X (.Call (.Name "len" p) (e::es) [] pos) (T (ev F (.blt .len cs))):=by
 delta QE;delta QA at ha;exact (jt .len qjL gb.len qiK ha hg (by decide) (by decide) he hpl)
theorem qhB (gb:Gb X.mg) (ha:QA X (e::es) (TL (evs F cs))) (hc:X.calm=true:=by rfl) (hg:Gl X "min":=by rfl) (he:starEach (e::es) X.env=(false,eval e X.env)::starEach es X.env:=by rfl) (hpl:(backTo pos (starEach es X.env)).any (·.1)=false:=by rfl):QE X (.Call (.Name "min" p) (e::es) [] pos) (T (ev F (.blt .min2 cs))):=by
 delta QE;delta QA at ha;exact (jt .min2 (qjN hc) gb.min qiL ha hg (by decide) (by decide) he hpl)
theorem qj8 (gb:Gb X.mg) (ha:QA X (e::es) (TL (evs F cs))) (hc:X.calm=true:=by rfl) (hg:Gl X "max":=by rfl) (he:starEach (e::es) X.env=(false,eval e X.env)::starEach es X.env:=by rfl) (hpl:(backTo pos (starEach es X.env)).any (·.1)=false:=by rfl):QE X (.Call (.Name "max" p) (e::es) [] pos) (T (ev F (.blt .max2 cs))):=by
 delta QE;delta QA at ha;exact (jt .max2 (qjO hc) gb.max qiM ha hg (by decide) (by decide) he hpl)
theorem qhC (gb:Gb X.mg) (ha:QA X (e::es) (TL (evs F cs))) (hg:Gl X "abs":=by rfl) (he:starEach (e::es) X.env=(false,eval e X.env)::starEach es X.env:=by rfl) (hpl:(backTo pos (starEach es X.env)).any (·.1)=false:=by rfl):QE X (.Call (.Name "abs" p) (e::es) [] pos) (T (ev F (.blt .abs cs))):=by
 delta QE;delta QA at ha;exact (jt .abs qjM gb.abs qiN ha hg (by decide) (by decide) he hpl)
theorem qfh (gb:Gb X.mg) (ha:QA X (e::es) (TL (evs F cs))) (hg:Gl X "divmod":=by rfl) (he:starEach (e::es) X.env=(false,eval e X.env)::starEach es X.env:=by rfl) (hpl:(backTo pos (starEach es X.env)).any (·.1)=false:=by rfl):QE X (.Call (.Name "divmod" p) (e::es) [] pos) (T (ev F (.blt .divmod cs))):=by
 delta QE;delta QA at ha;exact (jt .divmod qeL gb.divmod qdT ha hg (by decide) (by decide) he hpl)
theorem qbL (m:Bool) (gb:Gb X.mg) (ha:QA X (e::es) (TL (evs F cs))) (hc:X.calm=true:=by rfl) (hg:Gl X "sorted":=by rfl) (he:starEach (e::es) X.env=(false,eval e X.env)::starEach es X.env:=by rfl) (hpl:(backTo pos (starEach es X.env)).any (·.1)=false:=by rfl):QE X (.Call (.Name "sorted" p) (e::es) [] pos) (T (ev F (.blt (.sorted m) cs))):=by
 delta QE;delta QA at ha;exact (jt (.sorted m) (qfe m hc) gb.sorted qdU ha hg (by decide) (by decide) he hpl)
theorem qj9 (gb:Gb X.mg) (ha:QA X (e::es) (TL (evs F cs))) (hc:X.calm=true:=by rfl) (hg:Gl X "all":=by rfl) (he:starEach (e::es) X.env=(false,eval e X.env)::starEach es X.env:=by rfl) (hpl:(backTo pos (starEach es X.env)).any (·.1)=false:=by rfl):QE X (.Call (.Name "all" p) (e::es) [] pos) (T (ev F (.blt .all cs))):=by
 delta QE;delta QA at ha;exact (jt .all (qjP hc) gb.all qiO ha hg (by decide) (by decide) he hpl)
theorem qaT (m:Bool) (gb:Gb X.mg) (ha:QA X (e::es) (TL (evs F cs))) (hg:Gl X "list":=by rfl) (he:starEach (e::es) X.env=(false,eval e X.env)::starEach es X.env:=by rfl) (hpl:(backTo pos (starEach es X.env)).any (·.1)=false:=by rfl):QE X (.Call (.Name "list" p) (e::es) [] pos) (T (ev F (.blt (.list m) cs))):=by
 delta QE;delta QA at ha;exact (qhy (.list m) (qin m) gb.list qgZ ha hg (by decide) (by decide) he hpl)
theorem jB (gb:Gb X.mg) (ha:QA X (e::es) (TL (evs F cs))) (hg:Gl X "tuple":=by rfl) (he:starEach (e::es) X.env=(false,eval e X.env)::starEach es X.env:=by rfl) (hpl:(backTo pos (starEach es X.env)).any (·.1)=false:=by rfl):QE X (.Call (.Name "tuple" p) (e::es) [] pos) (T (ev F (.blt .tuple cs))):=by
 delta QE;delta QA at ha;exact (qhy .tuple qgz gb.tuple qfg ha hg (by decide) (by decide) he hpl)
end
end R
namespace R
open PySem PySem.Spec L2 SeqAt
open PyProof.Rows hiding St
theorem qH {P:Program} {w:World} {K:PySem.W.Frag} {mg:Str→Option Value} {base:Heap} {k N i:Nat} {F G:Fs} {x:Str} {st:Stmt} {f c T':Addr} {fd:FuncData} {cf:CF} {ns ps:List Str} (U:FunT K x st f fd c T') (S:FnScope ns ps (defScope st))
  (hp:ps.length=cf.np) (hn:ns.length=cf.nn) (hle:cf.np≤cf.nn) (hG:G i=callC F N cf)
  (body:∀ (A:Around) (outer:List Env) (s:Shared) (H:Hp) (E:XK),Room k (A.deeper (envOfC x (defScope st) s.heap.objs.size f (.ref c)))→QSs (cxOf CX0 P w K mg base ns x (defScope st) f (.ref c) A outer s H E).nox (defBody st) (TSm (exs F N cf.body))) :
  FnOk P w K mg base CX0 (k+1) f fd ps (SpD ps.length (G i)):=by
 obtain ⟨oc,od,kV,doc,pm,an,ct,osl,rfl,lk,hcd⟩:=U.ex
 refine qhp lk hcd S (λvs H Q E h=>h.1) λA outer s H vs Q E hr h=>⟨_,(body A outer s H E hr).un.nox,?_⟩
 rw [hG] at h
 exact qgX hp hn hle h
theorem qI {P:Program} {w:World} {K:PySem.W.Frag} {mg:Str→Option Value} {base:Heap} {i:Nat} {G:Fs} {f:Addr} {fd:FuncData} {ps:List Str} (hG:G i=λ_ _=>.no) {k:Nat} :
  FnOk P w K mg base CX0 k f fd ps (SpD ps.length (G i)):=by
 refine ⟨λvs H Q E h=>h.1,λA outer s H args us vs Q E _ _ _ _ h=>?_⟩
 obtain ⟨_,ι,S,ds,_,_,p⟩:=h
 rw [hG] at p
 exact p.elim
noncomputable def DefIn (K:PySem.W.Frag) (mg:Str→Option Value) (x:Str) (st:Stmt) (ps:List Str):Prop:=∃ (f:Addr) (fd:FuncData) (c t:Addr),mg x=some (.ref f)∧FunT K x st f fd c t∧Binds K fd ps []
theorem DefIn.fn {P:Program} {w:World} {K:PySem.W.Frag} {mg:Str→Option Value} {base:Heap} {k i:Nat} {F:Fs} {x:Str} {st:Stmt} {ps:List Str} (u:DefIn K mg x st ps) (h:∀ f fd c t,FunT K x st f fd c t→FnOk P w K mg base CX0 k f fd ps (SpD ps.length (F i))):FnAt P w K mg base k F i x ps:=by
 obtain ⟨f,fd,c,t,hm,U,hb⟩:=u
 exact ⟨f,fd,hm,U.kp,hb,h f fd c t U⟩
theorem len0 {us:List Value} (h:us.length=0):us=[]:=List.eq_nil_of_length_eq_zero h
theorem lenS {us:List Value} {n:Nat} (h:us.length=n+1):∃ a r,us=a::r∧r.length=n:=by
 cases us with
 | nil=>cases h
 | cons a r=>exact ⟨a,r,rfl,Nat.succ.inj h⟩
theorem len1 {us:List Value} (h:us.length=1):∃ a0,us=[a0]:=by
 obtain ⟨a,_,rfl,q⟩:=lenS h;cases len0 q;exact ⟨a,rfl⟩
theorem len2 {us:List Value} (h:us.length=2):∃ a0 a1,us=[a0,a1]:=by
 obtain ⟨a,r,rfl,q⟩:=lenS h;obtain ⟨b0,rfl⟩:=len1 q;exact ⟨a,b0,rfl⟩
theorem len3 {us:List Value} (h:us.length=3):∃ a0 a1 a2,us=[a0,a1,a2]:=by
 obtain ⟨a,r,rfl,q⟩:=lenS h;obtain ⟨b0,b1,rfl⟩:=len2 q;exact ⟨a,b0,b1,rfl⟩
theorem len4 {us:List Value} (h:us.length=4):∃ a0 a1 a2 a3,us=[a0,a1,a2,a3]:=by
 obtain ⟨a,r,rfl,q⟩:=lenS h;obtain ⟨b0,b1,b2,rfl⟩:=len3 q;exact ⟨a,b0,b1,b2,rfl⟩
theorem len5 {us:List Value} (h:us.length=5):∃ a0 a1 a2 a3 a4,us=[a0,a1,a2,a3,a4]:=by
 obtain ⟨a,r,rfl,q⟩:=lenS h;obtain ⟨b0,b1,b2,b3,rfl⟩:=len4 q;exact ⟨a,b0,b1,b2,b3,rfl⟩
noncomputable def tabIn (vs:Array Value) (c T':Addr):Bool:=match (vs.getD 11 Value.none:Value),(vs.getD 18 Value.none:Value),(vs.getD 7 Value.none:Value),(vs.getD 9 Value.none:Value),(vs.getD 10 Value.none:Value) with
  | .ref a,.str _ _,.int _ _,.bool _,.int _ _=>(a == T'&&c != T')&&sameName vs
  | _,_,_,_,_=>false
theorem qiQ {K:PySem.W.Frag} {c t:Addr} {d:Option Addr} {vs:Array Value} {sl:Array (Option Value)} (lc:K.lookup c=some ⟨.type "code",d,.fields vs,sl⟩) (h11:vs[11]?=some (.ref t)) (h:tabIn vs c t=true):codeTab K c t=true:=by
 unfold codeTab
 rw [lc]
 simp only [h11]
 unfold tabIn at h
 split at h
 ·rename_i a x1 x2 x3 x4 x5 x6 e1 e2 e3 e4 e5
  simp only [e1,e2,e3,e4,e5]
  simpa [and_comm] using h
 ·cases h
theorem qv {K:PySem.W.Frag} {h:Heap} {mg:Str→Option Value} (X:K.In h) (G:h.Ns mainGlobals mg) {x:Str} {st:Stmt} {ps:List Str} {f c t:Addr} {oc kV doc pm ct:Value} {od an:Option Addr} {osl:Array (Option Value)} {d2:Option Addr} {vs:Array Value} {sl2:Array (Option Value)}
  (a:PySem.W.nsIn K mainGlobals x=some (some (.ref f))) (l:K.lookup f=some ⟨oc,od,.func (PySem.W.fnOf x x (defArgs st) (defBody st) (defScope st) .none kV doc pm an (.ref c) ct),osl⟩) (cc:PySem.W.codeIn K (.ref c) x=true)
  (lc:K.lookup c=some ⟨.type "code",d2,.fields vs,sl2⟩) (h11:vs[11]?=some (.ref t)) (ht:tabIn vs c t=true) (kp:PySem.W.keepIn K (.ref f)=true)
  (hb:∀ (kV doc pm:Value) (an:Option Addr) (cdv ct:Value) (us:List Value),us.length=ps.length→bindArgs (PySem.W.fnOf x x (defArgs st) (defBody st) (defScope st) .none kV doc pm an cdv ct) ⟨us,[]⟩=pure (ps.zip us)):DefIn K mg x st ps :=
 ⟨f,_,c,t,PySem.W.mg_of X G a,⟨⟨oc,od,kV,doc,pm,an,ct,osl,rfl,l,cc⟩,qiQ lc h11 ht,kp⟩,.all (hb kV doc pm an (.ref c) ct)⟩
theorem jY {K:PySem.W.Frag} {h:Heap} {mg:Str→Option Value} (X:K.In h) (G:h.Ns mainGlobals mg) {x:Str} {i:Int} {t:Tok} {v:Value} (a:PySem.W.nsIn K mainGlobals x=some (some v)) (e:v=.int i t):∃ t:Tok,mg x=some (.int i t):=⟨t,by rw [PySem.W.mg_of X G a,e]⟩
end R
namespace R
open PySem PySem.Spec L2 SeqAt
open PyProof.Rows hiding St
section
variable {X:Cx} {F:Fs} {N:Nat} {pos:Pos}
theorem qka (i j:Nat) {x y:Str} {a b:Expr} {ca cb:CE} {px py pt:Pos} {kt k2 pt2} (ha:QA X [a,b] (TL (evs F (.cons ca (.cons cb .nil))))) (hc:X.calm=true:=by rfl) (hN:nodupB X.N=true:=by rfl) (hi:X.N[i]?=some x:=by rfl) (hj:X.N[j]?=some y:=by rfl) (hij:i≠j:=by decide) (hx:X.env.scope.names.lookup x=some .local:=by rfl) (hy:X.env.scope.names.lookup y=some .local:=by rfl) (hw:swappedStores [.Tuple [.Name x px,.Name y py] kt pt] (.Tuple [a,b] k2 pt2) X.env=pure (some [x,y]):=by rfl) (hs:swapsWithSole [.Tuple [.Name x px,.Name y py] kt pt] (.Tuple [a,b] k2 pt2) pos.line X.env=pure false:=by rfl) :
  QS X (.Assign [.Tuple [.Name x px,.Name y py] kt pt] (.Tuple [a,b] k2 pt2) pos) (TSm (ex F N (.set (.tup (.cons (.var i) (.cons (.var j) .nil))) (.tup (.cons ca (.cons cb .nil)))))):=by
 delta QS;delta QA at ha
 refine PSimp (qhX hc (zG hN) hi hj hij hx hy ha hw hs) λD0 σ H h=>?_
 obtain ⟨ι,S,ρ,er,st,p⟩:=h
 refine ⟨ι,S,ρ,er,st,?_⟩
 have hlen:∀ {l S'},evs F (.cons ca (.cons cb .nil)) ρ S=.ok l S'→l.length=2:=λz=>z9 z
 simp only [ex,ev] at p
 cases z:evs F (.cons ca (.cons cb .nil)) ρ S with
 | no=>rw [z] at p;exact p
 | err=>rw [z] at p;exact p
 | ok l S1 =>
  rw [z] at p
  have hl:=hlen z
  match l,hl with
  | [d1,d2],_ =>
   have hs:([d1,d2]:List D).length≤sizeLine:=by simp [sizeLine]
   simp only [Res.bind,hs,if_true,asg,asgs] at p
   intro vs ι1 H1 s1 st1 dv
   obtain ⟨v,r,rfl,dv1,w,r2,rfl,dv2,rfl⟩:=dv
   exact ⟨v,w,rfl,p ι1 H1 s1 st1 _ (((er.mono s1).set dv1).set dv2)⟩
end
end R
namespace R
open PySem PySem.Spec L2 SeqAt
open PyProof.Rows hiding St
open PySem.W (KasT kas_sort kas_cmp kas_item_eq kat_lt kat_kind KatTups KatLex kat_cons kat_yes kat_no kat_go kat_nil kat_one)
end R
namespace R
open PySem PySem.Spec L2 SeqAt
open PyProof.Rows hiding St
end R
namespace R
open PySem PySem.Spec L2 SeqAt
open PyProof.Rows hiding St
end R
namespace R
open PySem PySem.Spec L2 SeqAt
open PyProof.Rows hiding St
variable {X:Cx}
end R
namespace R
open PySem PySem.Spec L2 SeqAt
open PyProof.Rows hiding St
end R
namespace R
open PySem PySem.Spec L2 SeqAt
open PyProof.Rows hiding St
end R
namespace R
open PySem PySem.Spec L2
open PyProof.Rows hiding St
namespace EX
noncomputable abbrev fr1 (l:List Env):List Addr:=l.filterMap (·.frame)
structure Kpt (S:List Addr) (e:Addr) (T:Option Addr) (h h':Heap):Prop where
 size:h.objs.size≤h'.objs.size
 slot:∀ b o,b≠e→some b≠T→h.get? b=some o→∃ sl,h'.get? b=some { o with slots:=sl }
 keep:∀ b o,b≠e→some b≠T→b ∉ S→h.get? b=some o→h'.get? b=some o
noncomputable def Fl (h:Heap) (e:Addr) (c:Value) (T:Addr):Prop:=∃ oe vs oT ts,h.get? e=some oe∧oe.cls=c∧oe.data=.fields vs∧vs[1]?=some (.ref T)∧T≠e∧h.get? T=some oT∧oT.data=.fields ts∧ts[3]?=some .none
section
variable {M:Model} {A:Around} {E:Value→Shared→Prop} {s:Shared} {base:Heap}
theorem jm {env:Env} {outer:List Env} {L e:Addr} {oe:Obj} {vs:Array Value} {head:Value} {hadNext:Bool} {Q:Unit→Shared→Prop}
  (hfr:A.frames=some (env::outer)) (hl:s.heap.FunFrames base (env::outer)) (hf:env.frame=some L)
  (he:s.heap.get? e=some oe) (hd:oe.data=.fields vs) (hsz:1<vs.size)
  (h:∀ h' T,s.heap.objs.size≤T→Kpt (fr1 (env::outer)) e none s.heap h'→Fl h' e oe.cls T→Q () { s with heap:=h' }) :
  wpAny M A (do let a ← frameOf env;let pl ← entryPlaceOf L hadNext;let b ← EntryCells.newEntry head a .none (rawInt L) .none pl;setField (.ref e) 1 b) (λ_ s'=>wpAny M A (setFlight (.ref e) none) Q E s') E s:=by
 have hene:e ∉ (env::outer).filterMap (·.frame):=λhm=>by
  obtain ⟨_,o,ho,hnf⟩:=hl.mem hm
  rw [he] at ho;injection ho with ho;subst ho;exact hnf vs hd
 refine wA (wpAny_frameOf_fun hfr hl hf λh₁ hs₁=>?_)
 refine wA (wpAny_entryPlaceOf λpl hpl=>?_)
 unfold EntryCells.newEntry newFields
 refine wA (wT ?_ (hpl.sizeOk5 _ _ _ _ _))
 have he₁:h₁.get? e=some oe:=(hs₁.2.1 e hene).trans he
 have he₂:=wB (h:=h₁) { cls:=.type "traceback",dict:=none,data:=.fields ([head,.ref L,.none,rawInt L,.none]++(if pl.isEmpty then List.replicate 6 Value.none else pl)).toArray } he₁
 refine wpAny_setField he₂ hd hsz ?_
 have hTe:h₁.objs.size≠e:=vN (wE he₁)
 have hd₃:=vB hd (·.setIfInBounds 1 (Value.ref h₁.objs.size))
 have he₃:=wv (Obj.mapFields (·.setIfInBounds 1 (Value.ref h₁.objs.size))) he₂ (Obj.isFreed_of_fields hd₃)
 have hT₃:=(wS (h₁.push { cls:=.type "traceback",dict:=none,data:=.fields ([head,.ref L,.none,rawInt L,.none]++(if pl.isEmpty then List.replicate 6 Value.none else pl)).toArray })
  (Obj.mapFields (·.setIfInBounds 1 (Value.ref h₁.objs.size))) (Ne.symm hTe)).trans (wH h₁ rfl)
 unfold setFlight
 refine wA (wd he₃ hd₃ (x:=.ref h₁.objs.size) (by simp [hsz]) ?_)
 rw [wJ (show (Value.ref h₁.objs.size != Value.none)=true from by simp)]
 refine wpAny_setField hT₃ rfl (by simp only [wF,wc,w5,vD] <;> omega) (h _ h₁.objs.size (Nat.le_of_eq hs₁.1.symm) ⟨?_,λb o hbe _ hb=>?_,λb o hbe _ hbS hb=>?_⟩ ?_)
 ·rw [Heap.size_update,Heap.size_update,Heap.size_push,hs₁.1];exact Nat.le_succ _
 ·obtain ⟨sl,hs⟩:=hs₁.2.2 b o hb
  have hbT:h₁.objs.size≠b:=vN (wE hs)
  exact ⟨sl,by rw [wS _ _ hbT,wS _ _ (Ne.symm hbe)];exact wB _ hs⟩
 ·have hb1:h₁.get? b=some o:=(hs₁.2.1 b hbS).trans hb
  have hbT:h₁.objs.size≠b:=vN (wE hb1)
  rw [wS _ _ hbT,wS _ _ (Ne.symm hbe)];exact wB _ hb1
 ·refine ⟨_,_,_,_,?_,Obj.cls_mapFields _ _,hd₃,by simp [hsz],hTe,wv _ hT₃ (Obj.isFreed_of_fields (vB rfl _)),vB rfl _,by first | (simp;done) | (rcases hpl with rfl | ⟨_,_,_,_,_,_,_,rfl⟩ <;> simp)⟩
  rw [wS _ _ hTe];exact he₃
theorem leave1 {env:Env} {outer:List Env} {L e:Addr} {oe:Obj} {vs:Array Value} {Q:Unit→Shared→Prop}
  (hfr:A.frames=some (env::outer)) (hl:s.heap.FunFrames base (env::outer)) (hf:env.frame=some L)
  (he:s.heap.get? e=some oe) (hd:oe.data=.fields vs) (h1:vs[1]?=some .none)
  (h:∀ h' T,s.heap.objs.size≤T→Kpt (fr1 (env::outer)) e none s.heap h'→Fl h' e oe.cls T→Q () { s with heap:=h' }):wpAny M A (leaving env (.ref e)) Q E s:=by
 unfold leaving noteFrame
 simp only [hf]
 refine wA (wA (wd he hd h1 ?_))
 rw [wK (by decide)]
 exact jm hfr hl hf he hd (wx.mp h1).1 h
theorem leave2 {env:Env} {outer:List Env} {L e T0:Addr} {c:Value} {Q:Unit→Shared→Prop}
  (hfr:A.frames=some (env::outer)) (hl:s.heap.FunFrames base (env::outer)) (hf:env.frame=some L) (ht:Fl s.heap e c T0)
  (h:∀ h' T,s.heap.objs.size≤T→Kpt (fr1 (env::outer)) e (some T0) s.heap h'→Fl h' e c T→Q () { s with heap:=h' }):wpAny M A (leaving env (.ref e)) Q E s:=by
 obtain ⟨oe,vs,oT,ts,he,hcls,hd,h1,hTe,hT,hdT,h3⟩:=ht
 subst hcls
 unfold leaving noteFrame
 simp only [hf]
 refine wA (wA (wd he hd h1 ?_))
 rw [wJ (show (Value.ref T0 != Value.none)=true from by simp)]
 refine wA (wd hT hdT h3 ?_)
 rw [wK (show ¬ ((Value.none == rawInt L)=true) from by simp [rawInt])]
 refine wA (wpAny_setField hT hdT (wx.mp h3).1 ?_)
 have other:∀ b,b≠T0→(s.heap.update T0 (Obj.mapFields (·.setIfInBounds 3 Value.none))).get? b=s.heap.get? b:=λb hb=>wS _ _ (Ne.symm hb)
 have noRecord:∀ b o,s.heap.get? b=some o→(∀ vs,o.data≠.fields vs)→b≠T0:=λb o hb hnf q=>by
  rw [q,hT] at hb;injection hb with hb;subst hb;exact hnf ts hdT
 refine jm hfr (hl.of_keeps λb o hb hnf=>⟨o,(other b (noRecord b o hb hnf)).trans hb,rfl⟩) hf ((other e (Ne.symm hTe)).trans he) hd (wx.mp h1).1 λh' T hs k f=>h h' T ?_ ⟨?_,λb o hb hbT e=>?_,λb o hb hbT hbS e=>?_⟩ f
 ·rw [Heap.size_update] at hs;exact hs
 ·have:=k.size;rw [Heap.size_update] at this;exact this
 ·exact k.slot b o hb (by simp) ((other b λz=>hbT (by rw [z])).trans e)
 ·exact k.keep b o hb (by simp) hbS ((other b λz=>hbT (by rw [z])).trans e)
end
end EX
end R
namespace R
open PySem PySem.Spec L2
open PyProof.Rows hiding St
namespace EX
end EX
end R
namespace R
open PySem PySem.Spec L2
open PyProof.Rows hiding St
namespace EX
theorem qfi {P:Program} {w:World} {H:Hp} {h h':Heap} (x:HOk P w H h) (k:∀ b o,H b≠none→h.get? b=some o→h'.get? b=some o):HOk P w H h':=λa o e =>
 (x a o e).stay (λb u q z=>k b u (by rcases q with rfl | q <;> simp [*]) z) (λ_ q=>q) λ_ _ q=>q
theorem there {P:Program} {w:World} {H:Hp} {h:Heap} {a:Addr} {o:HO} (x:ObjOk P w H h a o):∃ u,h.get? a=some u:=by
 cases o with
 | lst xs=>obtain ⟨_,_,_,_,e⟩:=x;exact ⟨_,e⟩
 | tup xs=>obtain ⟨_,_,_,p,_⟩:=x;obtain ⟨_,e,_⟩:=p;exact ⟨_,e⟩
 | dK kvs=>obtain ⟨_,_,_,_,o,_,_,e,_⟩:=x;exact ⟨_,e⟩
 | dT kvs=>obtain ⟨_,_,_,_,o,_,_,e,_⟩:=x;exact ⟨_,e⟩
 | set S n=>obtain ⟨o,_,_,_,e,_⟩:=x;exact ⟨_,e⟩
 | ins C dx fs=>obtain ⟨_,_,_,e,_⟩:=x;exact ⟨_,e⟩
 | own y=>obtain ⟨_,e⟩:=x;exact ⟨_,e⟩
 | xd fs=>obtain ⟨_,⟨_,_,_,e,_⟩,_⟩:=x;exact ⟨_,e⟩
 | rng lo hi=>obtain ⟨_,_,_,e⟩:=x;exact ⟨_,e⟩
 | frz ob u=>obtain ⟨e,_⟩:=x;exact ⟨_,e⟩
 | tbl ps=>exact ⟨_,(show h.get? a=some _ from x.1)⟩
 | met f y=>exact ⟨_,(show h.get? a=some _ from x)⟩
 | ext φ=>obtain ⟨_,⟨_,e⟩,_⟩:=x;exact ⟨_,e⟩
theorem gone {P:Program} {w:World} {H:Hp} {h:Heap} {a:Addr} (x:HOk P w H h) (e:h.get? a=none):H a=none:=by
 cases q:H a with
 | none=>rfl
 | some o =>
  obtain ⟨u,z⟩:=there (x a o q)
  rw [e] at z;cases z
noncomputable def CXR (P:Program) (w:World):CXT:=λouter H s E e s'=>∃ a C T H',e=.ref a∧s'.os=s.os∧GK s.gens s'.gens∧Un (frs outer) [] H H' s.heap s'.heap∧HOk P w H' s'.heap ∧
 Fl s'.heap a (.ref C) T∧s.heap.get? a=none∧s.heap.get? T=none∧H' a=none∧H' T=none∧E (.ref a) (some C) H'
structure IsDef (X:Cx) (E:XK):Prop where
 xe:∀ e s',X.xe e s'=wpAny (model X.prog X.w) X.A (leaving X.env e) (λ_ s''=>CXR X.prog X.w X.outer X.H₀ X.s₀ E e s'') (λe' s''=>CXR X.prog X.w X.outer X.H₀ X.s₀ E e' s'') s'
 stk:X.stack=X.env::X.outer
 fr:X.env.frame=some X.env.locals
 ex:X.ex=[]
theorem isDef {P:Program} {w:World} {K:PySem.W.Frag} {mg:Str→Option Value} {base:Heap} {N:List Str} {qual:Str} {scope:Scope} {f:Addr} {cd:Value} {A:Around} {outer:List Env} {s:Shared} {H:Hp} {E:XK} :
  IsDef (cxOf (CXR P w) P w K mg base N qual scope f cd A outer s H E) E:=⟨λ_ _=>rfl,rfl,rfl,rfl⟩
section
variable {X:Cx} {E:XK} {pins:List (Addr × Obj)} {σ:St} {H:Hp} {s:Shared}
theorem qbM (D:IsDef X E) (I:Inv X pins σ H s) {a C T:Addr} {S0:Option Addr} {h1 h':Heap} (un:∀ b o,s.heap.get? b=some o→h1.get? b=some o)
  (k:Kpt (fr1 (X.env::X.outer)) a S0 h1 h') (f:Fl h' a (.ref C) T) (na:X.s₀.heap.get? a=none) (nS:∀ b,S0=some b→X.s₀.heap.get? b=none)
  (Ha:H a=none) (HS:∀ b,S0=some b→H b=none) (hT:h1.objs.size≤T) (e:E (.ref a) (some C) H) :
  CXR X.prog X.w X.outer X.H₀ X.s₀ E (.ref a) { s with heap:=h' }:=by
 have ni:∀ b o,X.s₀.heap.get? b=some o→b≠a∧some b≠S0:=λb o q=>⟨λz=>by subst z;exact absurd (na.symm.trans q) (by simp),λz=>absurd ((nS b z.symm).symm.trans q) (by simp)⟩
 have xi:∀ b,b ∉ X.ex:=λb z=>by rw [D.ex] at z;cases z
 have nf:∀ b o,X.s₀.heap.get? b=some o→b ∉ frs X.outer→b ∉ fr1 (X.env::X.outer):=λb o q n z=>by
  unfold fr1 at z
  rw [vM,D.fr] at z
  rcases wO.mp z with z | z
  ·subst z;exact absurd (wE q) (Nat.not_lt.mpr I.ok.above)
  ·exact n z
 have B:=I.base
 have gT:s.heap.get? T=none:=by
  cases q:s.heap.get? T with
  | none=>rfl
  | some o=>exact absurd (wE (un _ _ q)) (Nat.not_lt.mpr hT)
 refine ⟨a,C,T,H,rfl,I.os,I.bare,⟨?_,?_,?_,?_,B.tups,B.frzs,B.tbls⟩,?_,f,na,?_,Ha,gone I.hok gT,e⟩
 ·exact λb o q n nb _=>k.keep b o (ni b o q).1 (ni b o q).2 (nf b o q nb) (un _ _ (B.keep b o q n nb (xi b)))
 ·intro b o q n nb _
  obtain ⟨sl,z⟩:=B.slot b o q n nb (xi b)
  obtain ⟨sl',z'⟩:=k.slot b _ (ni b o q).1 (ni b o q).2 (un _ _ z)
  exact ⟨sl',z'⟩
 ·exact λb o q n _=>B.free b o q n (xi b)
 ·intro b o q _
  obtain ⟨o',z⟩:=B.there b o q (xi b)
  obtain ⟨sl',z'⟩:=k.slot b _ (ni b o q).1 (ni b o q).2 (un _ _ z)
  exact ⟨_,z'⟩
 ·refine qfi I.hok λb o n q=>k.keep b o (λz=>n (z ▸ Ha)) (λz=>n (HS b z.symm)) (λz=>n (I.stkFree b (by rw [D.stk];exact z))) (un _ _ q)
 ·cases q:X.s₀.heap.get? T with
  | none=>rfl
  | some o =>
   obtain ⟨o',z⟩:=B.there T o q (xi T)
   rw [gT] at z;cases z
theorem qfj (D:IsDef X E) (I:Inv X pins σ H s) {e C:Addr} {args:List Value} {h1:Heap} (hm:Heap.MadeExcOf s.heap h1 e (.ref C) args) (hE:E (.ref e) (some C) H) :
  X.xe (.ref e) { s with heap:=h1 }:=by
 rw [D.xe]
 obtain ⟨t,he,_,_⟩:=hm.there
 have hl:s.heap.FunFrames X.base (X.env::X.outer):=D.stk ▸ I.stack
 have hl1:h1.FunFrames X.base (X.env::X.outer):=hl.of_keeps λb o hb _=>⟨o,hm.keeps b o hb,rfl⟩
 have na:X.s₀.heap.get? e=none:=by
  cases q:X.s₀.heap.get? e with
  | none=>rfl
  | some o =>
   obtain ⟨o',z⟩:=I.base.there e o q (by rw [D.ex];simp)
   rw [hm.new] at z;cases z
 have Ha:H e=none:=gone I.hok hm.new
 exact leave1 (s:={ s with heap:=h1 }) (by rw [I.ok.frames,D.stk]) hl1 D.fr he rfl (by simp) λh' T hT k f =>
  qbM D I hm.keeps k f na (λ_ z=>by cases z) Ha (λ_ z=>by cases z) hT hE
theorem passR (D:IsDef X E) {E1:XK} (hE:∀ a C H',E1 a C H'→E a C H'):Passes (CXR X.prog X.w) X E1:=by
 intro pins σ H s e s' I hq
 obtain ⟨a,C,T0,H',rfl,os,gk,un,hok,fl,na,nT,Ha,HT,q⟩:=hq
 obtain ⟨hh,g,d,t,os'⟩:=s'
 obtain rfl:os'=s.os:=os
 have I':=I.call (h':=hh) (g':=g) (d':=d) (t':=t) (ch:=[]) un hok gk (λb z=>absurd z (by simp))
 rw [D.xe]
 have up:∀ b,s.heap.get? b=none→X.s₀.heap.get? b=none:=λb n=>by
  cases q:X.s₀.heap.get? b with
  | none=>rfl
  | some o =>
   obtain ⟨o',z⟩:=I.base.there b o q (by rw [D.ex];simp)
   rw [n] at z;cases z
 exact leave2 (by rw [I.ok.frames,D.stk]) (D.stk ▸ I'.stack) D.fr fl λh' T hT k f =>
  qbM D I' (λ_ _ z=>z) k f (up _ na) (λb z=>by cases z;exact up _ nT) Ha (λb z=>by cases z;exact HT) hT (hE _ _ _ q)
end
end EX
end R
namespace R
open PySem PySem.Spec L2
open PyProof.Rows hiding St
namespace EX
section
variable {X:Cx} {E:XK} {x:Str} {C:Addr} {e:Expr} {es:List Expr} {t:TA} {p cpos pos:Pos} {B Bn newId nid initId inN:String} {bm bmN:List Value}
noncomputable def tRaise (E:XK) (C:Addr) (t:TA):TS:=λ_ σ H=>t σ H λvs H1=>vs.length≤sizeLine∧∀ a,H1 a=none→E (.ref a) (some C) H1
theorem qfk (D:IsDef X E) (hc:X.calm=true) (hg:Gl X x) (O:OwnCls x C bm newId X.mg X.base) (Fn:ExcBaseFacts Bn newId inN bmN) (hBn:bm.contains (.type Bn)=true) (FB:ExcBaseFacts B nid initId bm)
  (ha:PA X (e::es) t) (hdb:(x == ("__debug__":Str))=false:=by decide) (he:starEach (e::es) X.env=(false,eval e X.env)::starEach es X.env:=by rfl) (hpl:(backTo cpos (starEach es X.env)).any (·.1)=false:=by rfl) :
  PS X (.Raise (some (.Call (.Name x p) (e::es) [] cpos)) none pos) (tRaise E C t):=by
 intro pins s σ H Q I h
 have O':OwnCls x C bm newId X.mg s.heap:=O.keeps λb o q=>(I.bs b o q).1
 obtain ⟨tl,N,nm,q,bs,hdct,sn,sub,ab,col,dd,k0,k1,k2,k3,k5,mN,hC,hN,hni,T⟩:=O.obj
 refine wpAny_Raise_call_subU (C:=C) (nm:=nm) (q:=q) (N:=N) (bs:=bs) (bm:=tl) (hdct:=hdct) (sn:=sn) (sub:=sub) (ab:=ab) (col:=col) (dd:=dd) (k0:=k0) (k1:=k1) (k2:=k2) (k3:=k3) (k5:=k5)
  Fn hBn FB (mN:=mN) (T.hasType FB.hasBase) (I.ok.hd hc) (by rw [he];show (false || (backTo cpos (starEach es X.env)).any (·.1))=false;rw [hpl];rfl) hni (yP I hg O.bound ⟨rfl,?_⟩ hdb)
 have h':=ha cpos pins s σ H _ I h
 rw [he] at h' ⊢
 refine Calls.evalArgs_plain (wg h' (λus s1 h1=>?_) λ_ _ y=>y)
 obtain ⟨vs,H1,I1,r,hl,hE⟩:=h1
 have kp:∀ b o,X.base.get? b=some o→s1.heap.get? b=some o:=λb o q=>(I1.bs b o q).1
 exact ⟨rfl,by have:=r.length;simp only [← this] at *;exact hl,kp _ _ hC,hN.keeps kp,T.keeps kp,λh2 a hm=>qfj D I1 hm (hE a (gone I1.hok hm.new))⟩
end
end EX
end R
namespace R
open PySem PySem.Spec L2
open PyProof.Rows hiding St
namespace EX
section
variable {M:Model} {A:Around} {E:Value→Shared→Prop} {s:Shared} {base:Heap}
theorem note2 {env:Env} {outer:List Env} {L e T0:Addr} {c:Value} {Q:Unit→Shared→Prop}
  (hfr:A.frames=some (env::outer)) (hl:s.heap.FunFrames base (env::outer)) (hf:env.frame=some L) (ht:Fl s.heap e c T0)
  (h:∀ h' T,s.heap.objs.size≤T→Kpt (fr1 (env::outer)) e (some T0) s.heap h'→Fl h' e c T→Q () { s with heap:=h' }) :
  wpAny M A (noteFrame (.ref e) env) (λ_ s'=>wpAny M A (setFlight (.ref e) none) Q E s') E s:=by
 obtain ⟨oe,vs,oT,ts,he,hcls,hd,h1,hTe,hT,hdT,h3⟩:=ht
 subst hcls
 unfold noteFrame
 simp only [hf]
 refine wA (wd he hd h1 ?_)
 rw [wJ (show (Value.ref T0 != Value.none)=true from by simp)]
 refine wA (wd hT hdT h3 ?_)
 rw [wK (show ¬ ((Value.none == rawInt L)=true) from by simp [rawInt])]
 refine wA (wpAny_setField hT hdT (wx.mp h3).1 ?_)
 have other:∀ b,b≠T0→(s.heap.update T0 (Obj.mapFields (·.setIfInBounds 3 Value.none))).get? b=s.heap.get? b:=λb hb=>wS _ _ (Ne.symm hb)
 have noRecord:∀ b o,s.heap.get? b=some o→(∀ vs,o.data≠.fields vs)→b≠T0:=λb o hb hnf q=>by
  rw [q,hT] at hb;injection hb with hb;subst hb;exact hnf ts hdT
 refine jm hfr (hl.of_keeps λb o hb hnf=>⟨o,(other b (noRecord b o hb hnf)).trans hb,rfl⟩) hf ((other e (Ne.symm hTe)).trans he) hd (wx.mp h1).1 λh' T hs k f=>h h' T ?_ ⟨?_,λb o hb hbT e=>?_,λb o hb hbT hbS e=>?_⟩ f
 ·rw [Heap.size_update] at hs;exact hs
 ·have:=k.size;rw [Heap.size_update] at this;exact this
 ·exact k.slot b o hb (by simp) ((other b λz=>hbT (by rw [z])).trans e)
 ·exact k.keep b o hb (by simp) hbS ((other b λz=>hbT (by rw [z])).trans e)
end
end EX
end R
namespace R
open PySem PySem.Calls PySem.Spec
open PyProof.Rows hiding St
namespace EX
section
variable {M:Model} {A:Around} {E:Value→Shared→Prop}
variable {nm q nm' q':Str} {C N C' N':Addr} {bs bm bs' bm':List Value} {hdct hdct':Bool} {sn sn':List Str} {sub sub':List Value} {ab ab':Bool} {col col':Option Bool} {dd dd':Option Addr} {k0 k1 k2 k3 k5 k0' k1' k2' k3' k5':Option Value} {newId newId':String}
theorem qbN {b:Bool} {h:Heap} {g:Array GenState} {d:Drawn} {t:Nat} {os:OsState} {e:Addr} {oe:Obj} {Q:Bool→Shared→Prop}
  (hC:h.get? C=some (excClassObj nm q C N bs bm hdct sn sub ab col dd k0 k1 k2 k3 k5 newId)) (hC':h.get? C'=some (excClassObj nm' q' C' N' bs' bm' hdct' sn' sub' ab' col' dd' k0' k1' k2' k3' k5' newId'))
  (he:h.get? e=some oe) (hcls:oe.cls=.ref C) (hbase:bm'.contains (.type "BaseException")=true) (hb:(Value.ref C::bm).contains (.ref C')=b)
  (hq:Q b ⟨h,g,d,t,os⟩):wpAny M A (excMatches (.ref e) (.ref C')) Q E ⟨h,g,d,t,os⟩:=by
 have hcB:(Value.ref C'::bm').contains (.type "BaseException")=true:=by rw [List.contains_cons,hbase,Bool.or_true]
 have f:=tc_notTuple
 unfold excMatches
 cases b <;> (repeat (first | (with_reducible refine wpAny_loadPart_at he ?_;rw [hcls]) | with_reducible refine wpAny_loadPart_at hC' ?_ | (with_reducible refine wpAny_isSubtype_exc hC' ?_;rw [hcB]) | (with_reducible refine wpAny_isSubtype_exc hC ?_;rw [hb]) | wp_step)) <;> exact hq
end
end EX
end R
namespace R
open PySem PySem.Calls PySem.Spec
open PyProof.Rows hiding St
namespace EX
noncomputable def IsExc (h:Heap) (C:Addr) (bm:List Value):Prop:=bm.contains (.type "BaseException")=true ∧
 ∃ N nm q bs hdct sn sub ab col dd k0 k1 k2 k3 k5 newId,h.get? C=some (excClassObj nm q C N bs bm hdct sn sub ab col dd k0 k1 k2 k3 k5 newId)
theorem IsExc.keeps {h h':Heap} {C:Addr} {bm:List Value} (x:IsExc h C bm) (k:∀ b o,h.get? b=some o→h'.get? b=some o):IsExc h' C bm:=by
 obtain ⟨a,N,nm,q,bs,hdct,sn,sub,ab,col,dd,k0,k1,k2,k3,k5,ni,e⟩:=x
 exact ⟨a,N,nm,q,bs,hdct,sn,sub,ab,col,dd,k0,k1,k2,k3,k5,ni,k _ _ e⟩
section
variable {prog:Program} {w:World} {A:Around} {E:Value→Shared→Prop} {s:Shared} {env:Env}
theorem qaU {e C C':Addr} {bm bm':List Value} {b:Bool} {t:Expr} {n:Str} {b₀:Stmt} {suite:List Stmt} {pos:Pos} {rest:List ExceptHandler} {Q:Flow→Shared→Prop}
  (hb:(Value.ref C::bm).contains (.ref C')=b)
  (h:wpAny (model prog w) (A.mark (some (.ref e))) (eval t env) (λc s₁=>c=.ref C'∧IsExc s₁.heap C bm∧IsExc s₁.heap C' bm'∧(∃ oe,s₁.heap.get? e=some oe∧oe.cls=.ref C) ∧
   if b then wpAny (model prog w) (A.mark (some (.ref e))) (setFlight (.ref e) none) (λ_ s₂ =>
     wpAny (model prog w) (A.mark (some (.ref e))) (storeName env n (.ref e)) (λ_ s₃ =>
      wpAny (model prog w) (A.mark (some (.ref e))) (execs (b₀::suite) env)
       (λf s₄=>wpAny (model prog w) A (do bindName env n .none;unbindBehindTheSuite env n pos) (λ_ s₅=>Q f s₅) E s₄)
       (AsSuiteRaised (model prog w) (A.mark (some (.ref e))) env n pos (notedBy (model prog w) (A.mark (some (.ref e))) env (cameBackBy (model prog w) A env E))) s₃) (notedBy (model prog w) (A.mark (some (.ref e))) env (cameBackBy (model prog w) A env E)) s₂) (notedBy (model prog w) (A.mark (some (.ref e))) env (cameBackBy (model prog w) A env E)) s₁
   else wpAny (model prog w) A (handleBy (.ref e) env rest) Q E s₁) (notedBy (model prog w) (A.mark (some (.ref e))) env (cameBackBy (model prog w) A env E)) s) :
  wpAny (model prog w) A (handleBy (.ref e) env (.ExceptHandler (some t) (some n) (b₀::suite) pos::rest)) Q E s:=by
 refine wpAny_handleBy_cons (codeAny_handlers_test (wg h (λc s₁ h₁=>?_) λ_ _ y=>y)) (by intro q;cases q)
 obtain ⟨rfl,⟨_,N,nm,q,bs,hdct,sn,sub,ab,col,dd,k0,k1,k2,k3,k5,ni,hC⟩,⟨hbase,N',nm',q',bs',hdct',sn',sub',ab',col',dd',k0',k1',k2',k3',k5',ni',hC'⟩,⟨oe,he,hcls⟩,hk⟩:=h₁
 obtain ⟨hh,g,d,tk,os⟩:=s₁
 refine qbN hC hC' he hcls hbase hb ?_
 cases b with
 | true=>exact codeAny_handlers_suite_as hk
 | false=>exact hk
end
end EX
end R
namespace R
open PySem PySem.Spec L2
open PyProof.Rows hiding St
namespace EX
section
variable {X:Cx} {pins:List (Addr × Obj)} {σ:St} {H0 H:Hp} {s0 s:Shared}
theorem qc5 (hs:X.stack=X.env::X.outer) (hx:X.ex=[]) (hf:X.env.frame=some X.env.locals) (I0:Inv X pins σ H0 s0) (I:Inv X pins σ H s) {a T0:Addr} {c:Value} {h':Heap} (fl:Fl s.heap a c T0)
  (na:s0.heap.get? a=none) (nT:s0.heap.get? T0=none) (Ha:H a=none) (HT:H T0=none) (k:Kpt (fr1 (X.env::X.outer)) a (some T0) s.heap h') :
  Inv X pins σ H { s with heap:=h' }:=by
 obtain ⟨oe,vs,oT,ts,he,_,hd,_,_,hT,hdT,_⟩:=fl
 have dat:∀ b o,s.heap.get? b=some o→(∀ vs,o.data≠.fields vs)→∃ sl,h'.get? b=some { o with slots:=sl }:=λb o q n =>
  k.slot b o (λz=>by subst z;rw [he] at q;cases q;exact n _ hd) (λz=>by cases z;rw [hT] at q;cases q;exact n _ hdT) q
 have cel:∀ b v,s.heap.IsCell b v→h'.IsCell b v:=λb v ⟨o,q,e⟩=>by
  obtain ⟨sl,z⟩:=dat b o q (λvs z=>by rw [e] at z;cases z)
  exact ⟨_,z,e⟩
 have up:∀ b o,X.s₀.heap.get? b=some o→b≠a∧some b≠some T0:=λb o q=>by
  obtain ⟨o',z⟩:=I0.base.there b o q (by rw [hx];simp)
  exact ⟨λy=>(by subst y;rw [na] at z;cases z),λy=>(by cases y;rw [nT] at z;cases z)⟩
 have nf:∀ b o,X.s₀.heap.get? b=some o→b ∉ frs X.outer→b ∉ fr1 (X.env::X.outer):=λb o q n z=>by
  unfold fr1 at z
  rw [vM,hf] at z
  rcases wO.mp z with z | z
  ·subst z;exact absurd (wE q) (Nat.not_lt.mpr I.ok.above)
  ·exact n z
 have xi:∀ b,b ∉ X.ex:=λb z=>by rw [hx] at z;cases z
 have B:=I.base
 refine ⟨I.ok,I.os,I.bare,⟨?_,?_,?_,?_,B.tups,B.frzs,B.tbls⟩,?_,?_,I.free,I.freeC,?_,?_,I.len⟩
 ·exact λb o q n nb nx=>k.keep b o (up b o q).1 (up b o q).2 (nf b o q nb) (B.keep b o q n nb nx)
 ·intro b o q n nb nx
  obtain ⟨sl,z⟩:=B.slot b o q n nb nx
  obtain ⟨sl',z'⟩:=k.slot b _ (up b o q).1 (up b o q).2 z
  exact ⟨sl',z'⟩
 ·exact B.free
 ·intro b o q nx
  obtain ⟨o',z⟩:=B.there b o q nx
  obtain ⟨sl',z'⟩:=k.slot b _ (up b o q).1 (up b o q).2 z
  exact ⟨_,z'⟩
 ·obtain ⟨m,⟨o,es,ep,q,hdd,r1,r2⟩,lk⟩:=I.loc
  obtain ⟨sl,z⟩:=dat _ o q (λvs z=>by rw [hdd] at z;cases z)
  refine ⟨m,⟨_,es,ep,z,hdd,r1,r2⟩,λi x v a1 a2 a3=>?_⟩
  obtain ⟨u,rv,lo⟩:=lk i x v a1 a2 a3
  refine ⟨u,rv,?_⟩
  rcases lo with y | ⟨y,cc,y1,y2⟩
  ·exact .inl y
  ·exact .inr ⟨y,cc,y1,cel _ _ y2⟩
 ·intro x cc q
  obtain ⟨v,z⟩:=I.cell x cc q
  exact ⟨v,cel _ _ z⟩
 ·intro p hp
  obtain ⟨q0,_⟩:=I0.pin p hp
  obtain ⟨q,n1,n2,n3,n4⟩:=I.pin p hp
  refine ⟨k.keep _ _ (λy=>?_) (λy=>?_) (λz=>?_) q,n1,n2,n3,n4⟩
  ·rw [y,na] at q0;cases q0
  ·rw [Option.some.inj y,nT] at q0;cases q0
  ·unfold fr1 at z
   rw [vM,hf] at z
   rcases wO.mp z with z | z
   ·exact n2 z
   ·exact n3 z
 ·exact qfi I.hok λb o n q=>k.keep b o (λz=>n (z ▸ Ha)) (λz=>n (by cases z;exact HT)) (λz=>n (I.stkFree b (by rw [hs];exact z))) q
theorem caught (hs:X.stack=X.env::X.outer) (hx:X.ex=[]) (hf:X.env.frame=some X.env.locals) {E1:XK} {e:Value} {s':Shared} {Q:Unit→Shared→Prop} {E:Value→Shared→Prop}
  (I:Inv X pins σ H s) (hq:CXR X.prog X.w X.stack H s E1 e s')
  (h:∀ a C T H' s'',e=.ref a→Inv X pins σ H' s''→Fl s''.heap a (.ref C) T→H' a=none→H' T=none→s.heap.get? a=none→s.heap.get? T=none→E1 (.ref a) (some C) H'→Q () s'') :
  wpAny (model X.prog X.w) X.A (noteFrame e X.env) (λ_ s2=>wpAny (model X.prog X.w) X.A (setFlight e none) Q E s2) E s':=by
 obtain ⟨a,C,T0,H',rfl,os,gk,un,hok,fl,na,nT,Ha,HT,q⟩:=hq
 obtain ⟨hh,g,d,t,os'⟩:=s'
 obtain rfl:os'=s.os:=os
 have I':=I.call (h':=hh) (g':=g) (d':=d) (t':=t) (ch:=[]) un hok gk (λb z=>absurd z (by simp))
 refine note2 (by rw [I.ok.frames,hs]) (hs ▸ I'.stack) hf fl λh' T hT k f=>?_
 have I2:=qc5 hs hx hf I I' fl na nT Ha HT k
 have gT:∀ x:Heap,(∀ b o,x.get? b=some o→∃ o',hh.get? b=some o')→x.get? T=none:=λx up=>by
  cases y:x.get? T with
  | none=>rfl
  | some o =>
   obtain ⟨o',z⟩:=up _ _ y
   exact absurd (wE z) (Nat.not_lt.mpr hT)
 exact h a C T H' _ rfl I2 f Ha (gone I'.hok (gT _ λb o y=>⟨o,y⟩)) na (gT _ λb o y=>un.there b o y (by simp)) q
end
end EX
end R
namespace R
open PySem PySem.Spec L2
open PyProof.Rows hiding St
namespace EX
section
variable {X:Cx} {pins:List (Addr × Obj)} {σ:St} {H:Hp} {s:Shared}
theorem goes {M:Model} {A:Around} {E:Value→Shared→Prop} {Q:Unit→Shared→Prop} {n:Str} {i:Nat} {pos:Pos} (I:Inv X pins σ H s) (hN:X.N.Nodup) (hi:X.N[i]?=some n) (hk:X.env.kindOf n=some .local)
  (h:∀ s',Inv X pins (σ.set i none) H s'→Heap.SameBut X.env.locals s.heap s'.heap→Q () s'):wpAny M A (do bindName X.env n .none;unbindBehindTheSuite X.env n pos) Q E s:=by
 obtain ⟨m,hn,hl⟩:=id I.loc
 have hcls:(X.env.scope.kind == .class || (X.env.scope.kind == .module&&X.env.locals != X.env.globals))=false:=by rw [I.ok.kind];rfl
 have hiσ:i<σ.length:=by rw [I.len];exact (wI.mp hi).1
 have cne:=I.cne
 have tracked:∀ {a:Addr} {h':Heap},(∃ o,s.heap.get? a=some o∧H a=none)→Heap.SameBut a s.heap h'→HOk X.prog X.w H h':=λ{a h'} ha hs b ob e=>by
  obtain ⟨_,_,hfree⟩:=ha
  refine (I.hok b ob e).stay (λc w' hc q=>(hs.2 c ?_).trans q) (λ_ q=>q) λ_ _ q=>q
  rintro rfl
  rcases hc with rfl | hc
  ·rw [hfree] at e;cases e
  ·rw [hfree] at hc;cases hc
 refine wpAny_nameGoes_keeps hk hn hcls λh' v hn' hs=>?_
 obtain ⟨oL,_,_,hoL,_⟩:=id hn
 refine h _ ⟨I.ok,I.os,I.bare,⟨λb o e n hb hx=>?_,λb o e n hb hx=>?_,I.base.free,λb o e hx=>?_,I.base.tups,I.base.frzs,I.base.tbls⟩,⟨_,hn',λj y v' e1 e2 e3=>?_⟩,λy c e=>?_,I.free,I.freeC,λp hp=>?_,tracked ⟨oL,hoL,I.free⟩ hs,by simpa using I.len⟩ hs
 ·exact (hs.2 b (wW (wQ (wE e) I.ok.above))).trans (I.base.keep b o e n hb hx)
 ·obtain ⟨sl,e1⟩:=I.base.slot b o e n hb hx
  exact ⟨sl,(hs.2 b (wW (wQ (wE e) I.ok.above))).trans e1⟩
 ·obtain ⟨o',e1⟩:=I.base.there b o e hx
  exact ⟨o',(hs.2 b (wW (wQ (wE e) I.ok.above))).trans e1⟩
 ·by_cases hj:j=i
  ·subst hj
   rw [vH hiσ] at e2
   cases e2
  ·rw [List.getElem?_set_ne (Ne.symm hj)] at e2
   obtain ⟨u',r',q⟩:=hl j y v' e1 e2 e3
   refine ⟨u',r',?_⟩
   rcases q with ⟨k,e⟩ | ⟨k,c,e,z⟩
   ·refine .inl ⟨k,?_⟩
    have:y≠n:=λe=>hj (jD hN e1 (e ▸ hi))
    simp [this,e]
   ·exact .inr ⟨k,c,e,z.sameBut hs (cne y c e)⟩
 ·obtain ⟨w',z⟩:=I.cell y c e
  exact ⟨w',z.sameBut hs (cne y c e)⟩
 ·obtain ⟨e,n,ne,nf,d⟩:=I.pin p hp
  exact ⟨(hs.2 p.1 ne).trans e,n,ne,nf,d⟩
end
end EX
end R
namespace R
open PySem PySem.Spec L2
open PyProof.Rows hiding St
namespace EX
noncomputable def XP (X:Cx) (pins:List (Addr × Obj)) (E:St→XK) (e:Value) (s':Shared):Prop:=∃ σ H s,Inv X pins σ H s∧CXR X.prog X.w X.stack H s (E σ) e s'
noncomputable abbrev TX:=Ends→(St→XK)→St→Hp→Prop
noncomputable def PX (X:Cx) (st:Stmt) (t:TX):Prop :=
 ∀ (pins:List (Addr × Obj)) (s:Shared) (σ:St) (H:Hp) (D:Ends) (E:St→XK),Inv X pins σ H s→t D E σ H→wpAny (model X.prog X.w) X.A (exec st X.env) (SP X pins D) (XP X pins E) s
noncomputable def PXs (X:Cx) (st:List Stmt) (t:TX):Prop :=
 ∀ (pins:List (Addr × Obj)) (s:Shared) (σ:St) (H:Hp) (D:Ends) (E:St→XK),Inv X pins σ H s→t D E σ H→wpAny (model X.prog X.w) X.A (execs st X.env) (SP X pins D) (XP X pins E) s
section
variable {X:Cx} {k:Nat} {f:Addr} {fd:FuncData} {ps:List Str} {sp:Sp} {dvs:List V} {ds:List Value} {x:Str} {p pos pos':Pos} {e:Expr} {es:List Expr} {t:TA}
theorem qkb {pins:List (Addr × Obj)} {σ:St} {H:Hp} {s:Shared} {Q:VK} {E:XK} {us:List Value} {vs:List V} (F:FnOk X.prog X.w X.K X.mg X.base (CXR X.prog X.w) k f fd ps sp) (hr:Room k X.A) (hb:Binds X.K fd ps ds) (hd:Vals dvs ds)
  (I:Inv X pins σ H s) (r:Vals vs us) (h:sp (vs++dvs) H Q E):wpAny (model X.prog X.w) X.A (call (.ref f) us) (EP X pins σ Q) (λe s'=>CXR X.prog X.w X.stack H s E e s') s:=by
 have r2:Vals (vs++dvs) (us++ds):=r.append hd
 have hl:(us++ds).length=ps.length:=by rw [← r2.length];exact F.len _ _ _ _ h
 refine wpAny_call (codeAny_mono (F.run X.A X.stack s H ⟨us,[]⟩ (us++ds) (vs++dvs) Q E hr I.env0 (hb s us I.kIn hl) r2 h) λr s' hq=>?_)
 cases r with
 | error e=>exact hq
 | ok fl =>
  cases fl with
  | ret u=>exact I.after hq
  | next=>exact False.elim hq
  | brk=>exact False.elim hq
  | cont=>exact False.elim hq
noncomputable def tCallX (sp:Sp) (dvs:List V) (t:TA):TX:=λD E σ H=>t σ H λvs H1=>sp (vs++dvs) H1 (λ_ H2=>D.nx σ H2) (E σ)
theorem qg0 (F:FnOk X.prog X.w X.K X.mg X.base (CXR X.prog X.w) k f fd ps sp) (hr:Room k X.A) (hg:Gl X x) (hm:X.mg x=some (.ref f)) (hk:PySem.W.keepIn X.K (.ref f)=true) (hb:Binds X.K fd ps ds) (hd:Vals dvs ds)
  (ha:PA X.nox (e::es) t) (hdb:(x == ("__debug__":Str))=false:=by decide) (he:starEach (e::es) X.env=(false,eval e X.env)::starEach es X.env:=by rfl) (hpl:(backTo pos (starEach es X.env)).any (·.1)=false:=by rfl)
  (hs:swapsWith (.Call (.Name x p) (e::es) [] pos) none pos'.line X.env=pure false:=by rfl) :
  PX X (.Expr (.Call (.Name x p) (e::es) [] pos) pos') (tCallX sp dvs t):=by
 intro pins s σ H D E I h
 refine wpAny_Expr_any (Q:=SP X pins D) ?_ I.quiet hs
 refine wg (Q:=EP X pins σ (λ_ H2=>D.nx σ H2)) ?_ (λv s1 ⟨x,H1,I1,r1,q1⟩=>⟨σ,H1,I1,q1⟩) (λ_ _ z=>z)
 refine wpAny_Call_Name_kw (yP I hg hm ?_ hdb)
 refine PySem.W.callWith_K (h₀:=X.base) I.ok.mod.kin hk (wg (ha pos pins s σ H _ (I.wish _) h) (λus s1 ⟨vs,H1,I1,r,q⟩=>⟨I1.unwish.kIn,?_⟩) λ_ _ z=>False.elim z) he hpl
 exact wg (qkb F hr hb hd I1.unwish r q) (λ_ _ z=>z) λe s' z=>⟨σ,H1,s1,I1.unwish,z⟩
theorem qg1 {st:Stmt} {t:TX} (h:PX X st t):PXs X [st] t:=by
 intro pins s σ H D E I hw
 refine wpAny_execs_cons (wg (h pins s σ H D E I hw) (λf s' q=>?_) λ_ _ z=>z)
 cases f with
 | next=>exact wpAny_execs_nil q
 | brk=>exact q
 | cont=>exact q
 | ret u=>exact q
end
end EX
end R
namespace R
open PySem PySem.Spec L2
open PyProof.Rows hiding St
namespace EX
section
variable {X:Cx} {pins:List (Addr × Obj)} {σ:St} {H H0:Hp} {s s0:Shared}
theorem track (I0:Inv X pins σ H0 s0) (hx:X.ex=[]) (I:Inv X pins σ H s) {a C T:Addr} (fl:Fl s.heap a (.ref C) T) (na:s0.heap.get? a=none) (Ha:H a=none):Inv X pins σ (upd H a (.ext (Errs a C))) s:=by
 obtain ⟨oe,vs,oT,ts,he,hcls,hd,_⟩:=fl
 have nd:∀ b o,s.heap.get? b=some o→(∀ vs,o.data≠.fields vs)→b≠a:=λb o q n z=>by subst z;rw [he] at q;cases q;exact n _ hd
 have up:∀ b,b≠a→upd H a (.ext (Errs a C)) b=H b:=λb n=>by simp [upd,n]
 have ni:∀ b o,X.s₀.heap.get? b=some o→b≠a:=λb o q z=>by
  subst z
  obtain ⟨o',y⟩:=I0.base.there b o q (by rw [hx];simp)
  rw [na] at y;cases y
 have B:=I.base
 have old:∀ b o,H b=some o→upd H a (.ext (Errs a C)) b=some o:=λb o q=>by rw [up b λz=>by subst z;rw [Ha] at q;cases q];exact q
 refine ⟨I.ok,I.os,I.bare,⟨B.keep,B.slot,?_,B.there,?_,?_,?_⟩,I.loc,I.cell,?_,?_,?_,?_,I.len⟩
 ·exact λb o q n nx=>by rw [up b (ni b o q)];exact B.free b o q n nx
 ·exact λb xs q=>old _ _ (B.tups b xs q)
 ·exact λb o u q=>old _ _ (B.frzs b o u q)
 ·exact λb ps q=>let ⟨m,z⟩:=B.tbls b ps q;⟨m,old _ _ z⟩
 ·obtain ⟨m,⟨o,es,ep,q,hdd,_⟩,_⟩:=I.loc
  rw [up _ (nd _ o q λvs z=>by rw [hdd] at z;cases z)];exact I.free
 ·intro x c q
  obtain ⟨v,o,z,e⟩:=I.cell x c q
  rw [up _ (nd _ o z λvs y=>by rw [e] at y;cases y)];exact I.freeC x c q
 ·intro p hp
  obtain ⟨q0,_⟩:=I0.pin p hp
  obtain ⟨q,n1,n2,n3,n4⟩:=I.pin p hp
  exact ⟨q,by rw [up _ λz=>by rw [z,na] at q0;cases q0];exact n1,n2,n3,n4⟩
 ·intro b o q
  by_cases hb:b=a
  ·subst hb
   have:o=.ext (Errs b C):=by simp [upd] at q;exact q.symm
   subst this
   exact ⟨⟨oe,vs,he,hcls,hd⟩,⟨oe,he⟩,λh1 h2 ⟨o,vs,e,r⟩ k=>⟨o,vs,k _ e,r⟩⟩
  ·rw [up b hb] at q
   exact (I.hok b o q).stay (λ_ _ _ z=>z) (λc z=>old _ _ z) λc xs z=>old _ _ z
theorem landed {M:Model} {A:Around} {E:Value→Shared→Prop} {Q:Unit→Shared→Prop} (hs:X.stack=X.env::X.outer) (hx:X.ex=[]) (hf:X.env.frame=some X.env.locals) (I0:Inv X pins σ H0 s0) (I:Inv X pins σ H s) {a C T:Addr} (fl:Fl s.heap a (.ref C) T)
  (na:s0.heap.get? a=none) (nT:s0.heap.get? T=none) (Ha:H a=none) (HT:H T=none) (h:∀ s',Inv X pins σ H s'→Fl s'.heap a (.ref C) T→Q () s'):wpAny M A (setFlight (.ref a) none) Q E s:=by
 obtain ⟨oe,vs,oT,ts,he,hcls,hd,h1,hTe,hT,hdT,h3⟩:=id fl
 unfold setFlight
 refine wA (wd he hd h1 ?_)
 rw [wJ (show (Value.ref T != Value.none)=true from by simp)]
 have hlt:=(wx.mp h3).1
 refine wpAny_setField hT hdT hlt ?_
 have other:∀ b,b≠T→(s.heap.update T (Obj.mapFields (·.setIfInBounds 3 Value.none))).get? b=s.heap.get? b:=λb hb=>wS _ _ (Ne.symm hb)
 have hT':=wv (Obj.mapFields (·.setIfInBounds 3 Value.none)) hT (Obj.isFreed_of_fields (vB hdT _))
 refine h _ (qc5 hs hx hf I0 I fl na nT Ha HT ⟨?_,λb o nb nT' q=>⟨o.slots,?_⟩,λb o nb nT' _ q=>?_⟩) ?_
 ·exact Nat.le_of_eq (Heap.size_update ..).symm
 ·exact (other b λz=>nT' (by rw [z])).trans q
 ·exact (other b λz=>nT' (by rw [z])).trans q
 ·exact ⟨oe,vs,_,_,(other a (Ne.symm hTe)).trans he,hcls,hd,h1,hTe,hT',vB hdT _,by simp [hlt]⟩
end
end EX
end R
namespace R
open PySem PySem.Spec L2
open PyProof.Rows hiding St
namespace EX
noncomputable abbrev inS (X:Cx) (A':Around) (xe':Value→Shared→Prop):Cx:={ X with A:=A',calm:=false,xe:=xe' }
section
variable {X:Cx} {pins:List (Addr × Obj)} {σ:St} {H:Hp} {s:Shared} {A':Around} {xe':Value→Shared→Prop}
theorem okS (ok:X.Ok) (hA:A'.frames=X.A.frames):(inS X A' xe').Ok :=
 ⟨ok.mod,ok.kind,ok.glob,ok.blt,ok.above,ok.inj,ok.has,ok.cab,nofun,hA.trans ok.frames,ok.stk,ok.exf,ok.bs,ok.bsz,ok.noex,ok.exfs,ok.funs,ok.frf,ok.tab⟩
theorem toS (I:Inv X pins σ H s) (hA:A'.frames=X.A.frames):Inv (inS X A' xe') pins σ H s:=⟨okS I.ok hA,I.os,I.bare,I.base,I.loc,I.cell,I.free,I.freeC,I.pin,I.hok,I.len⟩
theorem ofS (ok:X.Ok) (I:Inv (inS X A' xe') pins σ H s):Inv X pins σ H s:=⟨ok,I.os,I.bare,I.base,I.loc,I.cell,I.free,I.freeC,I.pin,I.hok,I.len⟩
end
section
variable {X:Cx} {C':Addr} {bm':List Value} {body suite:List Stmt} {b₀:Stmt} {n x:Str} {p hp pos:Pos} {i:Nat} {tb:TX} {ts:TS}
noncomputable def tTry (base:Heap) (C':Addr) (i:Nat) (tb:TX) (ts:TS):TS:=λD σ H=>tb D (λσ' e c H'=>∃ a C bm,e=.ref a∧c=some C∧IsExc base C bm∧(Value.ref C::bm).contains (.ref C')=true ∧
 ts { nx:=λσ2 H2=>D.nx (σ2.set i none) H2,rt:=λ_ _=>False } (σ'.set i (some (.ref a))) (upd H' a (.ext (Errs a C)))) σ H
theorem qiR (hs:X.stack=X.env::X.outer) (hx:X.ex=[]) (hf:X.env.frame=some X.env.locals) (hc:X.calm=true) (hN:X.N.Nodup) (hi:X.N[i]?=some n) (hk:X.env.kindOf n=some .local) (hl:X.env.scope.names.lookup n=some .local)
  (hg:Gl X x) (hm:X.mg x=some (.ref C')) (hC':IsExc X.base C' bm') (hb:PXs X body tb) (hsu:∀ A' xe',A'.frames=X.A.frames→PSs (inS X A' xe') (b₀::suite) ts) (hdb:(x == ("__debug__":Str))=false:=by decide) :
  PS X (.Try body [.ExceptHandler (some (.Name x p)) (some n) (b₀::suite) hp] [] [] pos) (tTry X.base C' i tb ts):=by
 intro pins s σ H D I h
 refine wpAny_Try_except (wg (hb pins s σ H D _ I h) (λf s1 q=>?_) λe s' q=>?_)
 ·cases f with
  | next=>exact wpAny_execs_nil q
  | brk=>exact q
  | cont=>exact q
  | ret u=>exact q
 ·obtain ⟨σ1,H1,s1,I1,q⟩:=q
  refine caught hs hx hf I1 q λa C T H2 s2 he I2 fl Ha HT na nT w=>?_
  subst he
  obtain ⟨a',C1,bm,e1,e2,hC,hbm,ht⟩:=w
  cases e1;cases e2
  have hA:(X.A.mark (some (.ref a))).frames=X.A.frames:=rfl
  refine qaU (C:=C) (C':=C') (bm:=bm) (bm':=bm') (b:=true) hbm ?_
  refine yP (X:=inS X (X.A.mark (some (.ref a))) X.xe) (toS I2 hA) hg hm ⟨rfl,hC.keeps I2.bk,hC'.keeps I2.bk,?_,?_⟩ hdb
  ·obtain ⟨oe,vs,oT,tz,z1,z2,_⟩:=fl
   exact ⟨oe,z1,z2⟩
  ·rw [wJ rfl]
   refine landed hs hx hf I1 I2 fl na nT Ha HT λs3 I3 fl3=>?_
   have I4:=track I1 hx I3 fl3 na Ha
   refine yh (v:=.ref a) I4 hN hi (.inl hl) rfl (λs5 I5=>?_) (.inr hl)
   refine wg (hsu (X.A.mark (some (.ref a))) _ hA pins s5 _ _ _ (toS I5 hA) ht) (λf s6 z=>?_) λ_ _ z=>z
   cases f with
   | next =>
    obtain ⟨σ6,H6,I6,q6⟩:=z
    exact goes (ofS I5.ok I6) hN hi hk λs7 I7 _=>⟨_,_,I7,q6⟩
   | brk=>obtain ⟨_,_,_,q⟩:=z;exact q.elim
   | cont=>obtain ⟨_,_,_,q⟩:=z;exact q.elim
   | ret u=>obtain ⟨_,_,_,_,_,q⟩:=z;exact q.elim
end
end EX
end R
namespace R
open PySem PySem.Spec L2
open PyProof.Rows hiding St
namespace EX
noncomputable def excRow (K:PySem.W.Frag) (C:Addr):Option (List Value):=match K.lookup C with
 | some ⟨.type "type",_,.cls cd,sl⟩=>(match cd.mro,sl.toList with
  | .ref C'::bm,[_,_,_,_,some (.builtin n),_]=>if C' == C&&!cd.hasDel&&bm.contains (.type "BaseException") then some bm else none
  | _,_=>none)
 | _=>none
theorem jZ {K:PySem.W.Frag} {h:Heap} (X:K.In h) {C:Addr} {bm:List Value} (q:excRow K C=some bm):IsExc h C bm:=by
 unfold excRow at q
 split at q
 ·rename_i dd cd sl ho
  split at q
  ·rename_i C' bm' k0 k1 k2 k3 n k5 hm hs
   split at q
   ·rename_i hc
    cases q
    simp only [wL,beq_iff_eq,Bool.not_eq_true'] at hc
    obtain ⟨⟨rfl,hdel⟩,hb⟩:=hc
    obtain ⟨nm,bs,mro,ns,qn,hd,sn,sub,ab,col,del⟩:=cd
    dsimp only at hm hdel
    subst hm hdel
    have hsl:sl=#[k0,k1,k2,k3,some (.builtin n),k5]:=by
     obtain ⟨l⟩:=sl
     simp only at hs
     rw [hs]
    subst hsl
    exact ⟨hb,_,_,_,_,_,_,_,_,_,_,_,_,_,_,_,_,X _ _ ho⟩
   ·cases q
  ·cases q
 ·cases q
end EX
end R
namespace R
open PySem PySem.Spec L2
open PyProof.Rows hiding St
namespace EX
section
variable {X:Cx} {st:Stmt} {rest a b:List Stmt} {c:Expr} {tc:TT} {t u:TX} {v:TS} {pos:Pos}
noncomputable def tIfX (c:TT) (t u:TX):TX:=λD E σ H=>c σ H λb H1=>if b=true then t D E σ H1 else u D E σ H1
theorem qkc (hc:PT X.nox c tc) (ha:PXs X a t) (hb:PXs X b u):PX X (.If c a b pos) (tIfX tc t u):=by
 intro pins s σ H D E I h
 refine wpAny_If (wg (hc pins s σ H _ (I.wish _) h) (λd s1 ⟨H1,I1,q1⟩=>?_) λ_ _ z=>False.elim z)
 cases d with
 | true=>exact ha pins s1 σ H1 D E I1.unwish q1
 | false=>exact hb pins s1 σ H1 D E I1.unwish q1
end
end EX
end R
namespace R
open PySem PySem.Spec L2
open PyProof.Rows hiding St
namespace EX
open PySem.W PySem.Calls PySem.Builtin PySem.Builtin.ObjectAttr PySem.Builtin.Getset_descriptor
section
variable {prog:Program} {w:World} {A:Around} {E:Value→Shared→Prop} {s:Shared} {K:Frag} {a C:Addr}
theorem zY {M:Model} {h:Heap} (I:Errs a C h):Looks M h (typeOf (.ref a)) (.ref C):=by
 obtain ⟨o,vs,h1,h2,_⟩:=I
 exact h2 ▸ (Looks.ld h1).andThen .now
theorem qfl {R:Result→Shared→Prop} {tp:Value} (X:K.In s.heap) (I:Errs a C s.heap) (hm:mroIn K C (.type "object")=some true)
  (h:R (.ok (.ret (.ref C))) s):codeAny (model prog w) A (.call (.builtin "getset_descriptor.__get__") ⟨[.builtin "object.__class__",.ref a,tp],[]⟩) R s:=by
 obtain ⟨hh,g,dr,t,os⟩:=s
 have L0:=zY (M:=model prog w) I
 have L1:=looks_mroIn (M:=model prog w) X hm
 refine codeAny_call_builtin KF.slot_gs.plain KF.entry_gs (KF.slot_gs.check _ _ _ _ _ _ _ _ KF.type_class (KF.args_gs _ _ _) ?_)
 unfold Builtin.«getset_descriptor.__get__» descrGet
 rw [dga_obj]
 refine wA (wC ?_)
 unfold descrGetter descrCheckInstance descrNameAndClass isInstance
 simp only [KF.owner_class]
 repeat lk
 refine ⟨Code.quiet_builtin _ (by decide +kernel),codeAny_builtin KF.entry_class ?_⟩
 unfold Builtin.«object.__class__» shownTypeOf
 repeat lk
 exact h
structure ErrK (K:Frag) (C:Addr):Prop where
 ga:findIn K (.ref C) "__getattribute__"=some (some (.builtin "BaseException.__getattribute__"))
 no:findIn K (.ref C) "__getattr__"=some none
 cls:findIn K (.ref C) "__class__"=some (some (.builtin "object.__class__"))
 get:specialIn K (.builtin "object.__class__") "__get__"=some (some (.builtin "getset_descriptor.__get__"))
 tk:takesIn K (.builtin "object.__class__")=some true
 obj:mroIn K C (.type "object")=some true
 be:mroIn K C (.type "BaseException")=some true
 ic:(clsIn K C).isSome=true
theorem qdV {M:Model} {h:Heap} (X:K.In h) (Z:ErrK K C):Looks M h (find (.ref a) (.ref C) "__class__") (.bind (.builtin "getset_descriptor.__get__") (.builtin "object.__class__")):=by
 refine (looks_findIn X Z.cls).andThen ((show Looks M h (getOf (some (.builtin "object.__class__"))) _ from looks_specialIn X Z.get).andThen ?_)
 exact (show Looks M h (dataDescriptor? (some (.builtin "object.__class__")) (some (.builtin "getset_descriptor.__get__"))) (some (.builtin "getset_descriptor.__get__",.builtin "object.__class__")) from (looks_takesIn X Z.tk).andThen .now).andThen (Looks.tag .now)
theorem qcp {tk:Tok} {Q:Fin→Shared→Prop} (X:K.In s.heap) (I:Errs a C s.heap) (Z:ErrK K C) (hq:Q (.done (.ret (.ref C))) s) :
  wpAny (model prog w) A (Builtin.«object.__getattribute__» ⟨[.ref a,.str "__class__" tk],[]⟩) Q E s:=by
 have L0:=zY (M:=model prog w) I
 have L1:=qdV (a:=a) (M:=model prog w) X Z
 obtain ⟨hh,g,dr,t,os⟩:=s
 unfold Builtin.«object.__getattribute__»
 refine wA (wC (wA (wC (wA (L0.at (wA (L1.at ?_)))))))
 show wpAny _ _ (holding [.builtin "object.__class__"] (call (.builtin "getset_descriptor.__get__") [.builtin "object.__class__",.ref a,.ref C]) >>= ret) _ _ _
 exact wA (wp (wpAny_call (qfl X I Z.obj (wC hq))))
theorem qcq {M:Model} {nameV:Value} {Q:Unit→Shared→Prop} (X:K.In s.heap) (I:Errs a C s.heap) (Z:ErrK K C) (hq:Q () s):wpAny M A (checkBuiltinCall "BaseException.__getattribute__" ⟨[.ref a,nameV],[]⟩) Q E s:=by
 have hk:builtinKind "BaseException.__getattribute__"=some .slot:=by decide +kernel
 have hsplit:splitId "BaseException.__getattribute__"=some ("BaseException","__getattribute__"):=by decide +kernel
 have ha:=F.args_bexc_ga (.ref a) nameV
 have L0:Looks M s.heap (isInstance (.ref a) (.type "BaseException")) true:=(zY I).andThen (looks_mroIn X Z.be)
 obtain ⟨hh,g,dr,t,os⟩:=s
 simp only [checkBuiltinCall,hk,hsplit]
 refine wA (L0.at ?_)
 repeat (any_goals (first | assumption | wp_step))
theorem qdW {tk:Tok} {R:Result→Shared→Prop} (X:K.In s.heap) (I:Errs a C s.heap) (Z:ErrK K C) (hq:R (.ok (.ret (.ref C))) s) :
  codeAny (model prog w) A (.call (.builtin "BaseException.__getattribute__") ⟨[.ref a,.str "__class__" tk],[]⟩) R s :=
 codeAny_call_builtin PySem.F.attr_ValueError.ga.plain F.entry_bexc_ga (qcq X I Z (qcp X I Z hq))
theorem qcr {Q:Option Value→Shared→Prop} (X:K.In s.heap) (I:Errs a C s.heap) (Z:ErrK K C) (hq:Q (some (.ref C)) { s with toks:=s.toks+1 }):wpAny (model prog w) A (getAttr? (.ref a) "__class__") Q E s:=by
 obtain ⟨hh,g,d,t,os⟩:=s
 have L0:=zY (M:=model prog w) I
 have L1:=looks_findIn (M:=model prog w) X Z.ga
 have L2:=looks_findIn (M:=model prog w) X Z.no
 have f3:=PySem.F.attr_ValueError.ga.bind (.ref a)
 unfold getAttr? getAttrBy? getAttrBy
 refine wA (wpAny_mkText (wA (wpAny_attempt (wp (wA (L0.at (wA (L1.at ?_))))))))
 have hx:(onTheHeap (Value.ref C)&&Value.builtin "BaseException.__getattribute__" == Value.builtin "object.__getattribute__")=false:=by
  have:(Value.builtin "BaseException.__getattribute__" == Value.builtin "object.__getattribute__")=false:=by decide +kernel
  rw [this];rfl
 show wpAny _ _ (if (onTheHeap (Value.ref C)&&Value.builtin "BaseException.__getattribute__" == Value.builtin "object.__getattribute__")=true then _ else _) _ _ _
 rw [hx]
 refine wA (show wpAny _ _ (typeLookup (.ref C) "__getattr__") _ _ _ from L2.at ?_)
 refine wA (wpAny_attempt (wp ?_))
 show wpAny _ _ (boundAndCalled _ _ _) _ _ _
 unfold boundAndCalled
 rw [f3]
 refine wA (wC (wpAny_call (qdW (s:=⟨hh,g,d,t+1,os⟩) X I Z ?_)))
 exact handed_on rfl (wC hq)
theorem qfm (Z:ErrK K C):KitX K (.ref a) (.ref C) (λh=>Errs a C h) where
 ty:=λM h _ I=>zY I
 it:=λ_ _ X _=>by
  have hcD:=Z.ic
  unfold clsIn at hcD
  split at hcD
  ·rename_i c' d' cd' sl' ho
   intro A' Q' E' s' k q
   unfold isType loadHead
   exact wA (wpAny_loadPart (k _ _ (X _ _ ho)) (wC q))
  ·cases hcD
 ne:=λh tp dd its n sl X htp=>by
  have hcD:=Z.ic
  refine Bool.eq_false_iff.mpr λq=>?_
  have e:C=tp:=Value.ref.inj (beq_iff_eq.mp q)
  subst e
  unfold clsIn at hcD
  split at hcD
  ·rename_i c' d' cd' sl' ho
   have z:=(X _ _ ho).symm.trans htp
   cases z
  ·cases hcD
 ca:=λX I k=>qcr X I Z k
end
end EX
end R
namespace R
open PySem PySem.Spec L2 SeqAt
open PyProof.Rows hiding St
namespace EX
noncomputable def PsX {α β:Type} (R:List Addr→Hp→α→β→Prop) (r:Res α) (ι:List Addr) (H:Hp) (Q:β→Hp→Prop) (E:XK):Prop:=match r with
 | .ok a S'=>∀ b ι' H',Stp ι H ι' H'→Sto ι' H' S'→R ι' H' a b→Q b H'
 | .err (.exc C) S'=>∀ a ι' H',Stp ι H ι' H'→Sto ι' H' S'→H' a=none→E (.ref a) (some C) H'
 | _=>False
theorem PsX.from {α β:Type} {R:List Addr→Hp→α→β→Prop} {r:Res α} {ι ι':List Addr} {H H':Hp} {Q:β→Hp→Prop} {E:XK} (h:PsX R r ι H Q E) (s:Stp ι H ι' H'):PsX R r ι' H' Q E:=by
 cases r with
 | ok a S=>exact λb ι2 H2 t st q=>h b ι2 H2 (s.trans t) st q
 | err x S =>
  cases x with
  | exc C=>exact λa ι2 H2 t st q=>h a ι2 H2 (s.trans t) st q
  | _=>exact h
 | no=>exact h
theorem PsX.bind {α β γ δ:Type} {R:List Addr→Hp→α→β→Prop} {R':List Addr→Hp→γ→δ→Prop} {r:Res α} {f:α→Sr→Res γ} {ι:List Addr} {H:Hp} {Q:δ→Hp→Prop} {K:β→Hp→Prop} {E:XK}
  (h:PsX R' (r.bind f) ι H Q E) (k:∀ a S' ι' H' b,Stp ι H ι' H'→Sto ι' H' S'→R ι' H' a b→PsX R' (f a S') ι' H' Q E→K b H'):PsX R r ι H K E:=by
 cases r with
 | ok a S=>exact λb ι2 H2 t st q=>k a S ι2 H2 b t st q (PsX.from h t)
 | err x S =>
  cases x with
  | exc C=>exact h
  | _=>exact h
 | no=>exact h
noncomputable def PsFX (r:Res _root_.R.Fl) (ι:List Addr) (H:Hp) (D:Ends) (E:XK):Prop:=match r with
 | .ok f S'=>PsF (.ok f S') ι H D
 | .err (.exc C) S'=>∀ a ι' H',Stp ι H ι' H'→Sto ι' H' S'→H' a=none→E (.ref a) (some C) H'
 | _=>False
theorem PsFX.from {r:Res _root_.R.Fl} {ι ι':List Addr} {H H':Hp} {D:Ends} {E:XK} (h:PsFX r ι H D E) (s:Stp ι H ι' H'):PsFX r ι' H' D E:=by
 cases r with
 | ok f S=>exact PsF.from (show PsF (.ok f S) ι H D from h) s
 | err x S =>
  cases x with
  | exc C=>exact λa ι2 H2 t st q=>h a ι2 H2 (s.trans t) st q
  | _=>exact h
 | no=>exact h
theorem PsFX.bind {α β:Type} {R:List Addr→Hp→α→β→Prop} {r:Res α} {f:α→Sr→Res _root_.R.Fl} {ι:List Addr} {H:Hp} {D:Ends} {K:β→Hp→Prop} {E:XK}
  (h:PsFX (r.bind f) ι H D E) (k:∀ a S' ι' H' b,Stp ι H ι' H'→Sto ι' H' S'→R ι' H' a b→PsFX (f a S') ι' H' D E→K b H'):PsX R r ι H K E:=by
 cases r with
 | ok a S=>exact λb ι2 H2 t st q=>k a S ι2 H2 b t st q (PsFX.from h t)
 | err x S =>
  cases x with
  | exc C=>exact h
  | _=>exact h
 | no=>exact h
theorem PsFX.ok {r:Res _root_.R.Fl} {ι:List Addr} {H:Hp} {D:Ends} {E:XK} (h:PsFX (noE r) ι H D E):PsF r ι H D:=by
 cases r with
 | ok f S=>exact h
 | err x S=>exact h.elim
 | no=>exact h.elim
noncomputable def TGX {α β:Type} (R:List Addr→Hp→α→β→Prop) (m:En→Sr→Res α) (E:XK):St→Hp→(β→Hp→Prop)→Prop:=λσ H Q=>∃ ι S ρ,EnR ι H ρ σ∧Sto ι H S∧PsX R (m ρ S) ι H Q E
theorem TGX.b1 {α β γ δ:Type} {R:List Addr→Hp→α→β→Prop} {R':List Addr→Hp→γ→δ→Prop} {m:En→Sr→Res α} {f:En→α→Sr→Res γ} {σ:St} {H:Hp} {Q:δ→Hp→Prop} {K:β→Hp→Prop} {E:XK}
  (h:TGX R' (λρ S=>(m ρ S).bind λa S1=>f ρ a S1) E σ H Q)
  (k:∀ ι S ρ a b H1,EnR ι H1 ρ σ→Sto ι H1 S→R ι H1 a b→PsX R' (f ρ a S) ι H1 Q E→K b H1):TGX R m E σ H K:=by
 obtain ⟨ι,S,ρ,er,st,h⟩:=h
 exact ⟨ι,S,ρ,er,st,PsX.bind h λa S' ι' H' b s st' ra p=>k ι' S' ρ a b H' (er.mono s) st' ra p⟩
noncomputable def TSX (m:En→Sr→Res _root_.R.Fl) (E:XK):TS:=λD σ H=>∃ ι S ρ,EnR ι H ρ σ∧Sto ι H S∧PsFX (m ρ S) ι H D E
noncomputable def SpX (np:Nat) (g:List D→Sr→Res D):Sp:=λvs H Q E=>vs.length=np∧∃ ι S ds,Sto ι H S∧Dens ι H ds vs∧PsX Den (g ds S) ι H Q E
noncomputable def FnAtX (P:Program) (w:World) (K:PySem.W.Frag) (mg:Str→Option Value) (base:Heap) (k:Nat) (F:Fs) (i:Nat) (x:Str) (ps:List Str):Prop :=
 ∃ f fd,mg x=some (.ref f)∧PySem.W.keepIn K (.ref f)=true∧Binds K fd ps []∧FnOk P w K mg base (CXR P w) k f fd ps (SpX ps.length (F i))
section
variable {X:Cx} {F:Fs} {N:Nat} {pos:Pos} {E:XK}
theorem PAnox {es:List Expr} {t:TA} (h:PA X.nox es t):PA X es t:=λpos pins s σ H Q I hw=>wg (h pos pins s σ H Q (I.wish _) hw) (λus s1 ⟨vs,H1,I1,r,q⟩=>⟨vs,H1,I1.unwish,r,q⟩) λ_ _ z=>False.elim z
theorem PSnox {st:Stmt} {t:TS} (h:PS X.nox st t):PS X st t:=λpins s σ H D I hw=>wg (h pins s σ H D (I.wish _) hw) (λ_ _ q=>q.unwish) λ_ _ z=>False.elim z
theorem zg:PSs X [] (TSX (exs F N .nil) E):=PSsimp qcA λD σ H hw=>by
 obtain ⟨ι,S,ρ,er,st,p⟩:=hw
 exact p ι H (Stp.refl _ _) st σ er
theorem qL {st:Stmt} {rest:List Stmt} {c:CS} {cs:CSs} (h1:PS X st (TSX (ex F N c) E)) (h2:PSs X rest (TSX (exs F N cs) E)):PSs X (st::rest) (TSX (exs F N (.cons c cs)) E):=PSsimp (qbe h1 h2) λD σ H hw=>by
 obtain ⟨ι,S,ρ,er,st,p⟩:=hw
 refine ⟨ι,S,ρ,er,st,?_⟩
 unfold exs at p
 cases z:ex F N c ρ S with
 | no=>rw [z] at p;exact p
 | err x S1 =>
  rw [z] at p
  cases x with
  | exc C=>exact p
  | _=>exact p
 | ok f S1 =>
  rw [z] at p
  intro ι1 H1 s1 st1
  cases f with
  | nx ρ1=>exact λσ1 er1=>⟨ι1,S1,ρ1,er1,st1,PsFX.from p s1⟩
  | bk ρ1=>exact λσ1 er1=>p ι1 H1 s1 st1 σ1 er1
  | ct ρ1=>exact λσ1 er1=>p ι1 H1 s1 st1 σ1 er1
  | rt d=>exact λv hv=>p ι1 H1 s1 st1 v hv
theorem qat {st:Stmt} {c:CS} (h:QS X.nox st (TSm (ex F N c))):PS X st (TSX (ex F N (.cal c)) E):=by
 delta QS at h
 refine PSnox (PSimp h λD σ H hw=>?_)
 obtain ⟨ι,S,ρ,er,st,p⟩:=hw
 unfold ex at p
 exact ⟨ι,S,ρ,er,st,PsFX.ok p⟩
theorem x_expr {e:Expr} {c:CE} (he:PE X e (TGX Den (ev F c) E)) (hs:swapsWith e none pos.line X.env=pure false:=by rfl):PS X (.Expr e pos) (TSX (ex F N (.expr c)) E):=PSimp (qcB he hs) λD σ H hw=>by
 obtain ⟨ι,S,ρ,er,st,p⟩:=hw
 unfold ex at p
 exact ⟨ι,S,ρ,er,st,PsFX.bind p λa S1 ι1 H1 b s1 st1 ra p1=>p1 ι1 H1 (Stp.refl _ _) st1 σ (er.mono s1)⟩
theorem x_ret {e:Expr} {c:CE} (he:PE X e (TGX Den (ev F c) E)):PS X (.Return (some e) pos) (TSX (ex F N (.ret c)) E):=PSimp (qeb he) λD σ H hw=>by
 obtain ⟨ι,S,ρ,er,st,p⟩:=hw
 unfold ex at p
 exact ⟨ι,S,ρ,er,st,PsFX.bind p λa S1 ι1 H1 b s1 st1 ra p1=>p1 ι1 H1 (Stp.refl _ _) st1 b ra⟩
theorem x_if {c:Expr} {a b:List Stmt} {cc:CB} {ca cb:CSs} (hc:PT X c (TGX EqR (tst F cc) E)) (ha:PSs X a (TSX (exs F N ca) E)) (hb:PSs X b (TSX (exs F N cb) E)):PS X (.If c a b pos) (TSX (ex F N (.ifs cc ca cb)) E):=PSimp (qhn hc ha hb) λD σ H hw=>by
 obtain ⟨ι,S,ρ,er,st,p⟩:=hw
 unfold ex at p
 refine ⟨ι,S,ρ,er,st,PsFX.bind p λa S1 ι1 H1 b s1 st1 ra p1=>?_⟩
 cases (show a=b from ra)
 cases a with
 | true=>rw [wJ rfl];exact ⟨ι1,S1,ρ,er.mono s1,st1,p1⟩
 | false=>rw [wK (by decide)];exact ⟨ι1,S1,ρ,er.mono s1,st1,p1⟩
theorem qfn {c:Expr} {cc:CB} (h:QT X.nox c (TB (tst F cc))):PT X c (TGX EqR (tst F (.cal cc)) E):=by
 delta QT at h
 refine (PTimp h λσ H Q hw=>?_).nox
 obtain ⟨ι,S,ρ,er,st,p⟩:=hw
 unfold tst at p
 refine ⟨ι,S,ρ,er,st,?_⟩
 cases z:tst F cc ρ S with
 | ok f S1=>rw [z] at p;exact p
 | err x S1=>rw [z] at p;exact p.elim
 | no=>rw [z] at p;exact p.elim
theorem qkd {e:Expr} {c:CE} (h:PE X e (TGX Den (ev F c) E)) (he:∀ whole,isTrue e X.env whole=(do let v ← whole;standAt e.pos;holding [v] (truthy v)):=by intro _;rfl):PT X e (TGX EqR (tst F (.val c)) E) :=
 PTimp (qbf h he) λσ H Q hw=>by
  have hw:TGX EqR (λρ S=>(ev F c ρ S).bind λx S1=>ofO (truD S1 x) S1) E σ H Q:=by
   obtain ⟨ι,S,ρ,er,st,p⟩:=hw
   unfold tst at p
   exact ⟨ι,S,ρ,er,st,p⟩
  refine TGX.b1 hw λι S ρ a b H1 er st ra p=>?_
  cases z:truD S a with
  | none=>rw [z] at p;exact p.elim
  | some k=>rw [z] at p;exact ⟨k,qcL st z ra,p k ι H1 (Stp.refl _ _) st rfl⟩
theorem qke {e:Expr} {c:CB} (h:PT X e (TGX EqR (tst F c) E)):PT X (.UnaryOp .Not e pos) (TGX EqR (tst F (.not c)) E) :=
 PTimp (qea h) λσ H Q hw=>by
  obtain ⟨ι,S,ρ,er,st,p⟩:=hw
  unfold tst at p
  refine ⟨ι,S,ρ,er,st,PsX.bind p λa S' ι' H' b s st' ra p1=>?_⟩
  cases (show a=b from ra)
  exact p1 _ ι' H' (Stp.refl _ _) st' rfl
theorem yO (D:IsDef X E) {k i:Nat} {x:Str} {ps:List Str} {e:Expr} {es:List Expr} {cs:CEs} {p:Pos} (h:FnAtX X.prog X.w X.K X.mg X.base k F i x ps) (hr:Room k X.A) (ha:QA X.nox (e::es) (TL (evs F cs))) (hne:∀ ρ S,noE (evs F cs ρ S)=evs F cs ρ S) (hg:Gl X x:=by rfl) (hl:cs.len=ps.length:=by rfl) (hdb:(x == ("__debug__":Str))=false:=by decide)
  (he:starEach (e::es) X.env=(false,eval e X.env)::starEach es X.env:=by rfl) (hpl:(backTo pos (starEach es X.env)).any (·.1)=false:=by rfl):PE X (.Call (.Name x p) (e::es) [] pos) (TGX Den (ev F (.call i cs)) E):=by
 delta QA at ha
 obtain ⟨f,fd,hm,hk,hb,hF⟩:=h
 refine PEimp (qaD hF hr hg hm hk hb (dvs:=[]) .nil (passR D λ_ _ _ z=>z) (PAnox ha) hdb he hpl) λσ H Q hw=>?_
 obtain ⟨ι,S,ρ,er,st,p⟩:=hw
 refine ⟨ι,S,ρ,er,st,?_⟩
 unfold ev at p
 cases z:evs F cs ρ S with
 | no=>rw [z] at p;exact p.elim
 | err x S1=>have:=hne ρ S;rw [z] at this;cases this
 | ok l S1 =>
  rw [z] at p
  intro xs ι1 H1 s1 st1 dl
  refine ⟨?_,ι1,S1,l,st1,by simpa using dl,PsX.from p s1⟩
  rw [List.append_nil,← dl.length]
  exact (z9 z).trans hl
theorem qaV (D:IsDef X E) {x:Str} {C:Addr} {e:Expr} {es:List Expr} {cs:CEs} {p cpos:Pos} {B Bn newId nid initId inN:String} {bm bmN:List Value} (O:OwnCls x C bm newId X.mg X.base) (Fn:ExcBaseFacts Bn newId inN bmN) (hBn:bm.contains (.type Bn)=true) (FB:ExcBaseFacts B nid initId bm)
  (ha:QA X.nox (e::es) (TL (evs F cs))) (hcs:∀ ρ S,∃ l,evs F cs ρ S=.ok l S) (hln:cs.len≤1000) (hc:X.calm=true:=by rfl) (hg:Gl X x:=by rfl) (hdb:(x == ("__debug__":Str))=false:=by decide) (he:starEach (e::es) X.env=(false,eval e X.env)::starEach es X.env:=by rfl) (hpl:(backTo cpos (starEach es X.env)).any (·.1)=false:=by rfl) :
  PS X (.Raise (some (.Call (.Name x p) (e::es) [] cpos)) none pos) (TSX (ex F N (.raise C)) E):=by
 delta QA at ha
 refine PSimp (qfk D hc hg O Fn hBn FB (PAnox ha) hdb he hpl) λD σ H hw=>?_
 obtain ⟨ι,S,ρ,er,st,p⟩:=hw
 unfold ex at p
 obtain ⟨l,el⟩:=hcs ρ S
 refine ⟨ι,S,ρ,er,st,?_⟩
 rw [el]
 intro xs ι1 H1 s1 st1 dl
 refine ⟨?_,λa ha=>p a ι1 H1 s1 st1 ha⟩
 rw [← dl.length,z9 el,vJ];lia
end
theorem qfo {c:CF} {ns ps:List Str} {vs:List V} {H:Hp} {ι:List Addr} {ds:List D} (hp:ps.length=c.np) (hn:ns.length=c.nn) (hl:vs.length=ps.length) (dl:Dens ι H ds vs):EnR ι H (ds.map some++List.replicate (c.nn-c.np) none) (start ns vs):=by
 have hdl:ds.length=c.np:=by rw [dl.length,hl,hp]
 unfold L2.start
 have e1:ns.length-vs.length=c.nn-c.np:=by rw [hn,hl,hp]
 rw [e1]
 refine ⟨by simp [dl.length],λi d e=>?_⟩
 by_cases hi:i<ds.length
 ·rw [wU (by simpa using hi),wY,wD hi] at e
  cases e
  obtain ⟨x,e2,e3⟩:=dl.get (wD hi)
  refine ⟨x,?_,e3⟩
  rw [wU (by rw [wP,← dl.length];exact hi),wY,e2];rfl
 ·rw [wZ (by simpa using hi),List.getElem?_replicate] at e
  split at e <;> cases e
theorem qc6 {keeps:Bool} {d:D} {S S1:Sr} {ι:List Addr} {H:Hp} {Q:VK} {E:XK} (st:Sto ι H S) (q:PsX Den (leave keeps S.length d S1) ι H Q E):∀ ι' H',Stp ι H ι' H'→Sto ι' H' S1→∀ v,Den ι' H' d v→Q v H':=by
 intro ι' H' s1 st1 v hv
 unfold leave at q
 split at q
 ·exact q v ι' H' s1 st1 hv
 ·split at q
  ·exact q v ι' H' s1 st1 hv
  ·split at q
   ·rename_i hr
    have e:=s1.take_eq
    have el:ι.length=S.length:=st.len
    refine q v (ι'.take S.length) H' (by rw [← el];exact s1.less) (st1.less _) (Den.less d hr hv)
   ·split at q
    ·rename_i d' hd
     have el:ι.length=S.length:=st.len
     exact q v (ι'.take S.length) H' (by rw [← el];exact s1.less) (st1.less _) (Den.frz st1 d hd hv)
    ·exact q.elim
theorem qfp {F:Fs} {N:Nat} {c:CF} {ns ps:List Str} {vs:List V} {H:Hp} {Q:VK} {E:XK} (hp:ps.length=c.np) (hn:ns.length=c.nn) (hle:c.np≤c.nn) (h:SpX ps.length (callC F N c) vs H Q E):TSX (exs F N c.body) E { nx:=λ_ H'=>Q .non H',rt:=Q } (start ns vs) H:=by
 obtain ⟨hl,ι,S,ds,st,dl,p⟩:=h
 have hdl:ds.length=c.np:=by rw [dl.length,hl,hp]
 unfold callC at p
 rw [wJ hdl] at p
 refine ⟨ι,S,_,qfo hp hn hl dl,st,?_⟩
 cases z:exs F N c.body (ds.map some++List.replicate (c.nn-c.np) none) S with
 | ok f S1 =>
  rw [z] at p
  cases f with
  | nx ρ1=>exact λι1 H1 s1 st1 σ1 er1=>qc6 st p ι1 H1 s1 st1 .non rfl
  | rt d=>exact λι1 H1 s1 st1 v hv=>qc6 st p ι1 H1 s1 st1 v hv
  | bk _=>exact p.elim
  | ct _=>exact p.elim
 | err x S1 =>
  rw [z] at p
  cases x with
  | exc C=>exact p
  | _=>exact p
 | no=>rw [z] at p;exact p.elim
theorem yt {P:Program} {w:World} {K:PySem.W.Frag} {mg:Str→Option Value} {base:Heap} {k N i:Nat} {F G:Fs} {x:Str} {st:Stmt} {f c T':Addr} {fd:FuncData} {cf:CF} {ns ps:List Str} (U:FunT K x st f fd c T') (S:FnScope ns ps (defScope st))
  (hp:ps.length=cf.np) (hn:ns.length=cf.nn) (hle:cf.np≤cf.nn) (hG:G i=callC F N cf)
  (body:∀ (A:Around) (outer:List Env) (s:Shared) (H:Hp) (E:XK),Room k (A.deeper (envOfC x (defScope st) s.heap.objs.size f (.ref c)))→PSs (cxOf (CXR P w) P w K mg base ns x (defScope st) f (.ref c) A outer s H E) (defBody st) (TSX (exs F N cf.body) E)) :
  FnOk P w K mg base (CXR P w) (k+1) f fd ps (SpX ps.length (G i)):=by
 obtain ⟨oc,od,kV,doc,pm,an,ct,osl,rfl,lk,hcd⟩:=U.ex
 refine qhp lk hcd S (λvs H Q E h=>h.1) λA outer s H vs Q E hr h=>⟨_,body A outer s H E hr,?_⟩
 rw [hG] at h
 exact qfp hp hn hle h
theorem yu {P:Program} {w:World} {K:PySem.W.Frag} {mg:Str→Option Value} {base:Heap} {i:Nat} {G:Fs} {f:Addr} {fd:FuncData} {ps:List Str} (hG:G i=λ_ _=>.no) {k:Nat} :
  FnOk P w K mg base (CXR P w) k f fd ps (SpX ps.length (G i)):=by
 refine ⟨λvs H Q E h=>h.1,λA outer s H args us vs Q E _ _ _ _ h=>?_⟩
 obtain ⟨_,ι,S,ds,_,_,p⟩:=h
 rw [hG] at p
 exact p.elim
theorem DefIn.fnX {P:Program} {w:World} {K:PySem.W.Frag} {mg:Str→Option Value} {base:Heap} {k i:Nat} {F:Fs} {x:Str} {st:Stmt} {ps:List Str} (u:DefIn K mg x st ps) (h:∀ f fd c t,FunT K x st f fd c t→FnOk P w K mg base (CXR P w) k f fd ps (SpX ps.length (F i))):FnAtX P w K mg base k F i x ps:=by
 obtain ⟨f,fd,c,t,hm,U,hb⟩:=u
 exact ⟨f,fd,hm,U.kp,hb,h f fd c t U⟩
end EX
end R
namespace R
open PySem PySem.Spec L2 SeqAt
open PyProof.Rows hiding St
namespace EX
noncomputable def TXm (m:En→Sr→Res _root_.R.Fl):TX:=λD E σ H=>∃ ι S ρ,EnR ι H ρ σ∧Sto ι H S∧PsFX (m ρ S) ι H D (E σ)
theorem EnR.un {ι:List Addr} {H:Hp} {ρ:En} {σ:St} (e:EnR ι H ρ σ) (i:Nat):EnR ι H (ρ.set i none) (σ.set i none):=by
 refine ⟨by simp [e.len],λj x q=>?_⟩
 by_cases z:i=j
 ·subst z
  by_cases hl:i<ρ.length
  ·rw [vH hl] at q;cases q
  ·rw [List.getElem?_eq_none (by simpa using hl)] at q;cases q
 ·rw [List.getElem?_set_ne z] at q ⊢
  exact e.get j x q
section
variable {X:Cx} {F:Fs} {N:Nat} {pos:Pos}
theorem qaW {k i:Nat} {x:Str} {ps:List Str} {e:Expr} {es:List Expr} {cs:CEs} {p pos':Pos} (h:FnAtX X.prog X.w X.K X.mg X.base k F i x ps) (hr:Room k X.A) (ha:QA X.nox (e::es) (TL (evs F cs))) (hne:∀ ρ S,noE (evs F cs ρ S)=evs F cs ρ S) (hg:Gl X x:=by rfl) (hl:cs.len=ps.length:=by rfl) (hdb:(x == ("__debug__":Str))=false:=by decide)
  (he:starEach (e::es) X.env=(false,eval e X.env)::starEach es X.env:=by rfl) (hpl:(backTo pos (starEach es X.env)).any (·.1)=false:=by rfl) (hs:swapsWith (.Call (.Name x p) (e::es) [] pos) none pos'.line X.env=pure false:=by rfl) :
  PX X (.Expr (.Call (.Name x p) (e::es) [] pos) pos') (TXm (ex F N (.expr (.call i cs)))):=by
 delta QA at ha
 obtain ⟨f,fd,hm,hk,hb,hF⟩:=h
 intro pins s σ H D E I hw
 refine qg0 hF hr hg hm hk hb (dvs:=[]) .nil ha hdb he hpl hs pins s σ H D E I ?_
 obtain ⟨ι,S,ρ,er,st,p⟩:=hw
 refine ⟨ι,S,ρ,er,st,?_⟩
 unfold ex ev at p
 cases z:evs F cs ρ S with
 | no=>rw [z] at p;exact p.elim
 | err x S1=>have:=hne ρ S;rw [z] at this;cases this
 | ok l S1 =>
  rw [z] at p
  intro xs ι1 H1 s1 st1 dl
  refine ⟨?_,ι1,S1,l,st1,by simpa using dl,?_⟩
  ·rw [List.append_nil,← dl.length]
   exact (z9 z).trans hl
  ·exact PsFX.bind (PsFX.from p s1) λa S2 ι2 H2 b s2 st2 ra p2=>p2 ι2 H2 (Stp.refl _ _) st2 σ (er.mono (s1.trans s2))
theorem j0 {st:Stmt} {c:CS} (h:PX X st (TXm (ex F N c))):PXs X [st] (TXm (exs F N (.cons c .nil))):=λpins s σ H D E I hw=>qg1 h pins s σ H D E I (by
 obtain ⟨ι,S,ρ,er,st,p⟩:=hw
 refine ⟨ι,S,ρ,er,st,?_⟩
 unfold exs at p
 cases z:ex F N c ρ S with
 | no=>rw [z] at p;exact p
 | err x S1=>rw [z] at p;cases x <;> exact p
 | ok f S1=>rw [z] at p;cases f <;> exact p)
theorem y_if {c:Expr} {a b:List Stmt} {cc:CB} {ca cb:CSs} (hc:QT X.nox c (TB (tst F cc))) (ha:PXs X a (TXm (exs F N ca))) (hb:PXs X b (TXm (exs F N cb))):PX X (.If c a b pos) (TXm (ex F N (.ifs (.cal cc) ca cb))):=by
 delta QT at hc
 refine λpins s σ H D E I hw=>qkc hc ha hb pins s σ H D E I ?_
 obtain ⟨ι,S,ρ,er,st,p⟩:=hw
 refine ⟨ι,S,ρ,er,st,?_⟩
 unfold ex tst at p
 cases z:tst F cc ρ S with
 | no=>rw [z] at p;exact p.elim
 | err x S1=>rw [z] at p;exact p.elim
 | ok f S1 =>
  rw [z] at p
  intro b ι1 H1 s1 st1 e
  cases (show f=b from e)
  cases f with
  | true=>rw [wJ rfl];exact ⟨ι1,S1,ρ,er.mono s1,st1,PsFX.from p s1⟩
  | false=>rw [wK (by decide)];exact ⟨ι1,S1,ρ,er.mono s1,st1,PsFX.from p s1⟩
theorem qkf {C':Addr} {bm':List Value} {body suite:List Stmt} {b₀:Stmt} {n x:Str} {p hp:Pos} {t:List (Addr × Bool)} {cb cs:CSs} (i:Nat) (hm:X.mg x=some (.ref C')) (hC':IsExc X.base C' bm')
  (ht:∀ C,lookA C t=some true→∃ bm,IsExc X.base C bm∧(Value.ref C::bm).contains (.ref C')=true)
  (hb:PXs X body (TXm (exs F N cb))) (hsu:∀ A' xe',A'.frames=X.A.frames→QSs (inS X A' xe') (b₀::suite) (TSm (exs F N cs)))
  (hs:X.stack=X.env::X.outer:=by rfl) (hx:X.ex=[]:=by rfl) (hf:X.env.frame=some X.env.locals:=by rfl) (hc:X.calm=true:=by rfl) (hN:nodupB X.N=true:=by rfl) (hi:X.N[i]?=some n:=by rfl) (hk:X.env.kindOf n=some .local:=by rfl) (hl:X.env.scope.names.lookup n=some .local:=by rfl)
  (hg:Gl X x:=by rfl) (hdb:(x == ("__debug__":Str))=false:=by decide) :
  QS X (.Try body [.ExceptHandler (some (.Name x p)) (some n) (b₀::suite) hp] [] [] pos) (TSm (ex F N (.tryX t i cb cs))):=by
 delta QS
 refine PSimp (qiR hs hx hf hc (zG hN) hi hk hl hg hm hC' hb (ts:=TSm (exs F N cs)) (λA' xe' h=>(hsu A' xe' h).un) hdb) λD σ H hw=>?_
 obtain ⟨ι,S,ρ,er,st,p⟩:=hw
 refine ⟨ι,S,ρ,er,st,?_⟩
 unfold ex at p
 cases z:exs F N cb ρ S with
 | no=>rw [z] at p;exact p.elim
 | ok f S1=>rw [z] at p;exact p
 | err y S1 =>
  rw [z] at p
  cases y with
  | exc C =>
   dsimp only at p
   cases q:lookA C t with
   | none=>rw [q] at p;exact p.elim
   | some b =>
    rw [q] at p
    cases b with
    | false=>exact p.elim
    | true =>
     dsimp only at p
     intro a ι1 H1 s1 st1 ha
     obtain ⟨bm,h1,h2⟩:=ht C q
     refine ⟨a,C,bm,rfl,rfl,h1,h2,?_⟩
     have na:a ∉ ι1:=st1.fresh ha
     have s2:Stp ι1 H1 ι1 (upd H1 a (.ext (Errs a C))):=Stp.laid ha _
     have st2:Sto ι1 (upd H1 a (.ext (Errs a C))) S1:=st1.laid ha _
     refine ⟨ι1,S1,ρ.set i (some (.exc C)),((er.mono s1).mono s2).set ⟨a,rfl,na,by simp [upd]⟩,st2,?_⟩
     have p2:=PsF.from p (s1.trans s2)
     cases z2:exs F N cs (ρ.set i (some (.exc C))) S1 with
     | no=>rw [z2] at p2;exact p2.elim
     | err=>rw [z2] at p2;exact p2.elim
     | ok f S2 =>
      rw [z2] at p2
      cases f with
      | nx ρ1=>exact λι3 H3 s3 st3 σ3 er3=>p2 ι3 H3 s3 st3 _ (EnR.un er3 i)
      | _=>exact p2.elim
  | _=>exact p.elim
end
end EX
end R
namespace R
open PySem PySem.Spec L2 SeqAt
open PyProof.Rows hiding St
namespace EX
section
variable {X:Cx} {F:Fs} {N:Nat} {pos:Pos}
theorem qfq {y:V} {c:Value} (rc:∀ u,RelV y u→u=c):CallR X (.builtin "isinstance") (λxs H Q=>∃ a C b,xs=[.ref a,y]∧H a=some (.ext (Errs a C))∧ErrK X.K C∧PySem.W.kitOne X.K (.ref C) c=some b∧Q (.bl b) H):=by
 intro pins s σ H xs us Q I r h
 obtain ⟨a,C,b,rfl,h1,h2,h3,q⟩:=h
 obtain ⟨u,w',rfl,r1,r2⟩:=vals2 r
 cases r1
 cases rc _ r2
 obtain ⟨he,_⟩:=(show ObjOk X.prog X.w H s.heap a (.ext (Errs a C)) from I.hok a _ h1)
 exact wy (qfm h2) I.kIn he h3 (λz=>nomatch z) λtk=>⟨.bl b,H,I.tok _,rfl,q⟩
theorem qhD {a:Expr} {p p':Pos} {c:CE} {t:List (Addr × Bool)} {y:V} {cv:Value} {nm:Str} (hg:Gl X "isinstance") (hm:X.mg "isinstance"=none) (hn:PE X (.Name nm p') (λ_ H Q=>Q y H)) (rc:∀ u,RelV y u→u=cv)
  (ht:∀ C b,lookA C t=some b→ErrK X.K C∧PySem.W.kitOne X.K (.ref C) cv=some b)
  (ha:PE X a (T (ev F c))) (he:starEach [a,.Name nm p'] X.env=(false,eval a X.env)::starEach [.Name nm p'] X.env)
  (he2:starEach [.Name nm p'] X.env=(false,eval (.Name nm p') X.env)::starEach [] X.env) (hpl:(backTo pos (starEach [.Name nm p'] X.env)).any (·.1)=false) :
  PE X (.Call (.Name "isinstance" p) [a,.Name nm p'] [] pos) (T (ev F (.isx t c))):=by
 refine PEimp (jF (qfq rc) hg hm qbq (zL ha (zL hn jc he2) he) (by decide) (by decide) he hpl) λσ H Q hw=>?_
 have hw:T (λρ S=>(ev F c ρ S).bind λx S1=>ofO ((isxD t x).map .bl) S1) σ H Q:=by
  obtain ⟨ι,S,ρ,er,st,p⟩:=hw
  unfold ev at p
  exact ⟨ι,S,ρ,er,st,p⟩
 refine TG.b1 hw λι S ρ a b H1 er st ra p=>?_
 obtain ⟨d,e,q⟩:=Pst.ofO p st
 cases a with
 | exc C =>
  obtain ⟨b',z,rfl⟩:=Option.map_eq_some_iff.mp e
  obtain ⟨a0,rfl,_,ha0⟩:=ra
  obtain ⟨h1,h2⟩:=ht C b' z
  exact ⟨a0,C,b',rfl,ha0,h1,h2,q _ ι H1 (Stp.refl _ _) st rfl⟩
 | _=>cases e
theorem yg (t:List (Addr × Bool)) {a:Expr} {ca:CE} {p p':Pos} {nm:Str} {C':Addr} (gb:Gb X.mg) (hm:X.mg nm=some (.ref C')) (ht:∀ C b,lookA C t=some b→ErrK X.K C∧PySem.W.kitOne X.K (.ref C) (.ref C')=some b) (ha:QE X a (T (ev F ca))) (hg:Gl X "isinstance":=by rfl) (hgn:Gl X nm:=by rfl) (hd:(nm == ("__debug__":Str))=false:=by decide) (he:starEach [a,.Name nm p'] X.env=(false,eval a X.env)::starEach [.Name nm p'] X.env:=by rfl) (he2:starEach [.Name nm p'] X.env=(false,eval (.Name nm p') X.env)::starEach [] X.env:=by rfl) (hpl:(backTo pos (starEach [.Name nm p'] X.env)).any (·.1)=false:=by rfl) :
  QE X (.Call (.Name "isinstance" p) [a,.Name nm p'] [] pos) (T (ev F (.isx t ca))):=by
 delta QE;delta QE at ha
 exact qhD hg gb.isinstance (qcy (v:=.ref C') hgn hm rfl hd) (λu r=>by cases r;rfl) ht ha he he2 hpl
theorem qiS (t:List (Addr × Bool)) {a:Expr} {ca:CE} {p p':Pos} {nm:Str} {ty:String} (gb:Gb X.mg) (hm:X.mg nm=none) (hv:bootBuiltins nm=some (.type ty)) (ht:∀ C b,lookA C t=some b→ErrK X.K C∧PySem.W.kitOne X.K (.ref C) (.type ty)=some b) (ha:QE X a (T (ev F ca))) (hg:Gl X "isinstance":=by rfl) (hgn:Gl X nm:=by rfl) (hn:nm≠"__name__":=by decide) (hd:(nm == ("__debug__":Str))=false:=by decide) (he:starEach [a,.Name nm p'] X.env=(false,eval a X.env)::starEach [.Name nm p'] X.env:=by rfl) (he2:starEach [.Name nm p'] X.env=(false,eval (.Name nm p') X.env)::starEach [] X.env:=by rfl) (hpl:(backTo pos (starEach [.Name nm p'] X.env)).any (·.1)=false:=by rfl) :
  QE X (.Call (.Name "isinstance" p) [a,.Name nm p'] [] pos) (T (ev F (.isx t ca))):=by
 delta QE;delta QE at ha
 exact qhD hg gb.isinstance (qcz (v:=.ty ty) hgn hm hv rfl hn hd) (λu r=>by cases r;rfl) ht ha he he2 hpl
theorem qiT (hc:X.calm=true):CallR X (.builtin "sum") (Gn (one bSumB)):=by
 intro pins s σ H xs us Q I r h
 obtain ⟨ι,S,ds,st,hd,p⟩:=h
 obtain ⟨d,rfl,p⟩:=qaI p
 obtain ⟨x,rfl,hx⟩:=dens1 hd
 obtain ⟨u,rfl,ru⟩:=vals1 r
 obtain ⟨r0,e,q⟩:=Pst.ofO p st
 cases z:lstOf S d with
 | none=>rw [z] at e;cases e
 | some l =>
  rw [z] at e
  cases z2:boolsOf l with
  | none=>rw [wX,z2] at e;cases e
  | some bs =>
   rw [wX,z2] at e;cases e
   obtain ⟨a,xs,rfl,hs,dl⟩:=qF st z hx
   cases ru
   obtain ⟨its,rv,w⟩:=qbr (A:=X.A.in1) I (I.ok.hd hc) (.inl hs)
   have eb:=jg z2 dl rv
   subst eb
   have key:∀ (bs:List Bool) n,n≤bs.length→preSum (λi=>if (bs[i]?).getD false=true then 1 else 0) n=((bs.take n).count true:Int):=by
    intro bs n hn
    induction n with
    | zero=>simp [preSum]
    | succ n ih =>
     rw [preSum,ih (by lia),List.take_succ,List.count_append,wD (show n<bs.length by lia)]
     cases bs[n] <;> simp
   refine call_sum_walkAnyB (w _ _ λIt fp wr St' s₂ W h0 hf hI=>⟨It,fp,wr,_,_,_,_,λi=>if (bs[i]?).getD false=true then 1 else 0,rfl,W.toS,h0,hf,λi v hv=>?_,λs' t' hk=>?_⟩)
   ·rw [wY] at hv
    cases z3:bs[i]? with
    | none=>rw [z3] at hv;cases hv
    | some b =>
     rw [z3] at hv;cases hv
     exact .inr ⟨b,rfl,by simp [z3]⟩
   ·rw [wP,key bs _ (wG _),List.take_length]
    obtain ⟨k1,k2,k3,k4,k5⟩:=hk
    obtain ⟨h',g',d',tk,o'⟩:=s'
    dsimp only at k2 k3 k4 k1
    subst k2 k3 k4
    exact ⟨.int (bs.count true:Nat),H,hI h' tk k1,⟨_,rfl⟩,q _ ι H (Stp.refl _ _) st rfl⟩
noncomputable def eqT:Value→Bool
 | .bool b=>b == true
 | _=>false
noncomputable def rIndexT:V→List V→Hp→VK→Prop:=λx vs H Q=>∃ (a:Addr) (bs:List Bool),x=.ref a∧vs=[.bl true]∧Rd H a (.lst (bs.map V.bl))∧true∈bs∧bs.length<4000∧Q (.int (bs.idxOf true:Nat)) H
theorem bls_are:∀ {bs:List Bool} {vs:List Value},Vals (bs.map V.bl) vs→vs=bs.map Value.bool
 | [],_,r=>by cases r;rfl
 | b::bs,_,r=>by cases r with | cons r1 r2=>cases r1;rw [bls_are r2];rfl
theorem qdX:MtM X "list.index" rIndexT:=by
 intro pins s σ H x vs v us Q I rx rv h
 obtain ⟨a,bs,rfl,rfl,hH,hb,hlen,q⟩:=h
 cases rx
 obtain ⟨u,rfl,ru⟩:=rv.one
 cases ru
 obtain ⟨its,r,hl,_⟩:=jK I hH
 cases bls_are r
 obtain ⟨⟨cls,dd,data,sl⟩,ho,hc,n,hd⟩:=id hl
 simp only at hc hd
 subst hc hd
 have hj:bs.idxOf true<bs.length:=List.idxOf_lt_length_iff.mpr hb
 refine call_meets PySem.F.slot_list_index ⟨_,ho,rfl⟩ PySem.F.entry_list_index (PySem.F.args_list_index_2 _ _)
  (list_indexAt a (bs.map Value.bool).toArray n dd sl (.bool true) eqT (bs.idxOf true) (by simpa using hj) (by lia) ?_ ?_) ⟨ho,λy hy=>?_,?_⟩
 ·rw [List.getElem_toArray,List.getElem_map,List.getElem_idxOf];rfl
 ·intro j hjs hlt
  rw [List.getElem_toArray,List.getElem_map]
  show (bs[j] == true)=false
  exact List.not_of_lt_findIdx (xs:=bs) (p:=(· == true)) hlt
 ·rw [List.mem_toArray,wn] at hy
  obtain ⟨b,_,rfl⟩:=hy
  exact EqAt.bool_bool _ _
 ·exact ⟨.int (bs.idxOf true:Nat),H,I.tok _,⟨_,rfl⟩,q⟩
theorem bools_dens {ι:List Addr} {H:Hp}:∀ {l:List D} {bs:List Bool} {xs:List V},boolsOf l=some bs→Dens ι H l xs→xs=bs.map V.bl
 | [],bs,xs,h,hd=>by cases h;exact hd
 | .bl c::l,bs,xs,h,hd=>by
  obtain ⟨x,t,rfl,h1,h2⟩:=hd
  cases (show x=_ from h1)
  simp only [boolsOf] at h
  cases z:boolsOf l with
  | none=>rw [z] at h;cases h
  | some b2=>rw [z] at h;cases h;rw [bools_dens z h2];rfl
 | .non::_,_,_,h,_=>by cases h
 | .int _::_,_,_,h,_=>by cases h
 | .str _::_,_,_,h,_=>by cases h
 | .tup _::_,_,_,h,_=>by cases h
 | .lst _::_,_,_,h,_=>by cases h
 | .emp::_,_,_,h,_=>by cases h
 | .ref _::_,_,_,h,_=>by cases h
 | .exc _::_,_,_,h,_=>by cases h
theorem qkg {o:Expr} {co:CE} {apos p':Pos} {j} (ho:QE X o (T (ev F co))) (hst:starEach [.Constant (.bool true) j p'] X.env=(false,eval (.Constant (.bool true) j p') X.env)::starEach [] X.env:=by rfl) (hbase:attributeBase o "index" X.env (eval o X.env)=eval o X.env:=by rfl) (hline:(apos.endLine == pos.line)=true:=by rfl)
  (hfew:((backTo pos (starEach [.Constant (.bool true) j p'] X.env)).all (λx=>!x.1)&&(backToKw pos (keywordEach [] X.env)).all (λx=>x.1.isSome)&&decide ([Expr.Constant (.bool true) j p'].length+([]:List Keyword).length+(if ([]:List Keyword).isEmpty then 0 else 1)<30))=true:=by rfl) (hplain:(backTo pos (starEach [] X.env)).any (·.1)=false:=by rfl) :
  QE X (.Call (.Attribute o "index" apos) [.Constant (.bool true) j p'] [] pos) (T (ev F (.ixT co))):=by
 delta QE;delta QE at ho
 refine PEimp (qhq PySem.F.plainAttrs_list PySem.F.slot_list_index PySem.F.type_list_index qdX ho (zL qhm jc hst) hbase hfew hline hst hplain) λσ H Q hw=>?_
 have hw:T (λρ S=>(ev F co ρ S).bind λx S1=>ofO (ixtD S1 x) S1) σ H Q:=by
  obtain ⟨ι,S,ρ,er,st,p⟩:=hw
  unfold ev at p
  exact ⟨ι,S,ρ,er,st,p⟩
 refine TG.b1 hw λι S ρ x v H1 er st rx p=>?_
 obtain ⟨d,e,q⟩:=Pst.ofO p st
 unfold ixtD at e
 cases z:lstOf S x with
 | none=>rw [z] at e;cases e
 | some l =>
  rw [z,wX] at e
  cases z2:boolsOf l with
  | none=>rw [z2] at e;cases e
  | some bs =>
   rw [z2,wX] at e
   by_cases hb:true∈bs∧bs.length<4000
   ·rw [wJ hb] at e
    cases e
    obtain ⟨a,xs,rfl,hs,dl⟩:=qF st z rx
    cases bools_dens z2 dl
    exact ⟨.inl ⟨rfl,_,.inl hs⟩,⟨a,bs,rfl,rfl,hs,hb.1,hb.2,q _ ι H1 (Stp.refl _ _) st rfl⟩⟩
   ·rw [wK hb] at e;cases e
end
end EX
end R
namespace R
open PySem PySem.Spec L2 SeqAt
open PyProof.Rows hiding St
open PySem.W (Frag excIn tailIn nsOkIn nsIn)
open EX
section
variable {X:Cx} {F:Fs} {N:Nat} {pos:Pos}
theorem qaX {st:Stmt} {C:Addr}:QS X st (TSm (ex F N (.raise C))):=by
 delta QS
 exact PSimp qec λD σ H hw=>let ⟨_,_,_,_,_,p⟩:=hw;p
theorem qau {st:Stmt} {c:CS} (h:QS X st (TSm (ex F N c))):QS X st (TSm (ex F N (.cal c))):=by
 delta QS;delta QS at h
 refine PSimp h λD σ H hw=>?_
 obtain ⟨ι,S,ρ,er,st,p⟩:=hw
 unfold ex at p
 refine ⟨ι,S,ρ,er,st,?_⟩
 cases z:ex F N c ρ S with
 | ok f S1=>rw [z] at p;exact p
 | err x S1=>rw [z] at p;exact p.elim
 | no=>rw [z] at p;exact p.elim
theorem qhE {e:Expr} {c:CB} (h:QT X e (TB (tst F c))):QT X e (TB (tst F (.cal c))):=by
 delta QT;delta QT at h
 refine PTimp h λσ H Q hw=>?_
 obtain ⟨ι,S,ρ,er,st,p⟩:=hw
 unfold tst at p
 refine ⟨ι,S,ρ,er,st,?_⟩
 cases z:tst F c ρ S with
 | ok f S1=>rw [z] at p;exact p
 | err x S1=>rw [z] at p;exact p.elim
 | no=>rw [z] at p;exact p.elim
theorem zJ:∀ (ρ:En) (S:Sr),noE (evs F .nil ρ S)=evs F .nil ρ S:=λ_ _=>rfl
theorem qJ {i:Nat} {cs:CEs} (h:∀ ρ S,noE (evs F cs ρ S)=evs F cs ρ S):∀ ρ S,noE (evs F (.cons (.var i) cs) ρ S)=evs F (.cons (.var i) cs) ρ S:=by
 intro ρ S
 unfold evs ev varE
 have:=h ρ S
 split
 ·rw [Res.bind_ok]
  cases z:evs F cs ρ S with
  | ok l S1=>rfl
  | err x S1=>rw [z] at this;cases this
  | no=>rfl
 ·rfl
variable {p:Pos} {e:Expr} {es:List Expr} {cs:CEs}
theorem qiU (gb:Gb X.mg) (ha:QA X (e::es) (TL (evs F cs))) (hc:X.calm=true:=by rfl) (hg:Gl X "sum":=by rfl) (he:starEach (e::es) X.env=(false,eval e X.env)::starEach es X.env:=by rfl) (hpl:(backTo pos (starEach es X.env)).any (·.1)=false:=by rfl):QE X (.Call (.Name "sum" p) (e::es) [] pos) (T (ev F (.blt .sumB cs))):=by
 delta QE;delta QA at ha;exact (jt .sumB (qiT hc) gb.sum qiP ha hg (by decide) (by decide) he hpl)
end
theorem zh {Q:Addr→Bool→Prop}:∀ C b,lookA C []=some b→Q C b:=λ_ _ h=>by cases h
theorem qo {Q:Addr→Bool→Prop} {c:Addr} {b:Bool} {r:List (Addr × Bool)} (h:Q c b) (hr:∀ C b,lookA C r=some b→Q C b):∀ C b',lookA C ((c,b)::r)=some b'→Q C b':=λC b' q=>by
 unfold lookA at q
 split at q
 ·rename_i z;cases q;subst z;exact h
 ·exact hr C b' q
theorem qkh {Q:Addr→Prop} {r:List (Addr × Bool)} (h:∀ C b,lookA C r=some b→b=true→Q C):∀ C,lookA C r=some true→Q C:=λC q=>h C true q rfl
theorem zv {K:Frag} {h:Heap} {mg:Str→Option Value} (X:K.In h) (G:h.Ns mainGlobals mg) {x:Str} {v u:Value} (a:nsIn K mainGlobals x=some (some v)) (e:v=u):mg x=some u:=e ▸ PySem.W.mg_of X G a
theorem qcs {K:Frag} {h:Heap} {mg:Str→Option Value} {x:Str} {C:Addr} {bmB:List Value} {newId:String} (X:K.In h) (hm:mg x=some (.ref C)) (q:excIn K C bmB newId=true):OwnCls x C bmB newId mg h:=⟨hm,by
 revert q;unfold excIn
 intro q
 split at q
 ·rename_i ld cd sl lk
  split at q
  ·rename_i D bm u0 u1 u2 u3 nn u5 em es
   cases cd with | mk nm bs mro ns qn hd sn sub ab col del=>?_
   simp only [wL,beq_iff_eq,Bool.not_eq_true'] at q
   have e2:sl=#[u0,u1,u2,u3,some (.builtin nn),u5]:=by cases sl;exact congrArg _ es
   have q1:=q.1.1.1.1.1;have q2:=q.1.1.1.1.2;have q3:=q.1.1.1.2;have q4:=q.1.1.2;have q5:=q.1.2;have q6:=q.2
   dsimp only at em q3 q5 q6
   subst q1 q2 q3 em e2
   exact ⟨_,_,_,_,_,_,_,_,_,_,_,_,_,_,_,_,_,X _ _ lk,.of_isNs (PySem.W.isNs_of_in X q5),PySem.W.nsMap_none_of_in X q5 q6,PySem.W.tail_of_in X q4⟩
  ·cases q
 ·cases q⟩
end R
namespace R
open PySem PySem.Spec L2 SeqAt
open PyProof.Rows hiding St
namespace EX
section
variable {X:Cx} {F:Fs} {N:Nat} {pos:Pos} {E:XK}
theorem qiV:PA X [] (TGX Dens (evs F .nil) E):=λpos pins s σ H Q I hw=>jc pos pins s σ H Q I (by
 obtain ⟨ι,S,ρ,er,st,p⟩:=hw
 exact p [] ι H (Stp.refl _ _) st rfl)
theorem qc7 {e:Expr} {es:List Expr} {c:CE} {cs:CEs} (h1:PE X e (TGX Den (ev F c) E)) (h2:PA X es (TGX Dens (evs F cs) E)) (hs:starEach (e::es) X.env=(false,eval e X.env)::starEach es X.env:=by rfl):PA X (e::es) (TGX Dens (evs F (.cons c cs)) E):=λpos pins s σ H Q I hw=>zL h1 h2 hs pos pins s σ H Q I (by
 obtain ⟨ι,S,ρ,er,st,p⟩:=hw
 unfold evs at p
 refine ⟨ι,S,ρ,er,st,PsX.bind p λa S1 ι1 H1 b s1 st1 ra p1=>?_⟩
 refine ⟨ι1,S1,ρ,er.mono s1,st1,PsX.bind p1 λl S2 ι2 H2 bs s2 st2 rl p2=>?_⟩
 exact p2 _ ι2 H2 (Stp.refl _ _) st2 ⟨b,bs,rfl,Den.mono s2 a ra,rl⟩)
theorem qg2 (D:IsDef X E) {k i:Nat} {x:Str} {ps:List Str} {e:Expr} {es:List Expr} {cs:CEs} {p:Pos} (h:FnAtX X.prog X.w X.K X.mg X.base k F i x ps) (hr:Room k X.A) (ha:PA X (e::es) (TGX Dens (evs F cs) E)) (hg:Gl X x:=by rfl) (hl:cs.len=ps.length:=by rfl) (hdb:(x == ("__debug__":Str))=false:=by decide)
  (he:starEach (e::es) X.env=(false,eval e X.env)::starEach es X.env:=by rfl) (hpl:(backTo pos (starEach es X.env)).any (·.1)=false:=by rfl):PE X (.Call (.Name x p) (e::es) [] pos) (TGX Den (ev F (.call i cs)) E):=by
 obtain ⟨f,fd,hm,hk,hb,hF⟩:=h
 refine PEimp (qaD hF hr hg hm hk hb (dvs:=[]) .nil (passR D λ_ _ _ z=>z) ha hdb he hpl) λσ H Q hw=>?_
 obtain ⟨ι,S,ρ,er,st,p⟩:=hw
 refine ⟨ι,S,ρ,er,st,?_⟩
 unfold ev at p
 cases z:evs F cs ρ S with
 | no=>rw [z] at p;exact p.elim
 | err x S1 =>
  rw [z] at p
  cases x with
  | exc C=>exact p
  | _=>exact p.elim
 | ok l S1 =>
  rw [z] at p
  intro xs ι1 H1 s1 st1 dl
  refine ⟨?_,ι1,S1,l,st1,by simpa using dl,PsX.from p s1⟩
  rw [List.append_nil,← dl.length]
  exact (z9 z).trans hl
end
end EX
end R
namespace RP
open R
def c_0:CF:=⟨1,1,false,.cons (.ret (.and (.isi .int (.var 0)) (.not (.isi .bool (.var 0))))) .nil⟩
def c_1:CF:=⟨3,3,false,.cons (.ret (.and (.call 0 (.cons (.var 0) .nil)) (.chain .le .le (.var 1) (.var 0) (.var 2)))) .nil⟩
def c_2:CF:=⟨2,2,false,.cons (.whileS (.val (.var 1)) (.cons (.set (.tup (.cons (.var 0) (.cons (.var 1) .nil))) (.tup (.cons (.var 1) (.cons (.bin .mod (.var 0) (.var 1)) .nil)))) .nil)) (.cons (.ret (.var 0)) .nil)⟩
def c_3:CF:=⟨2,3,false,.cons (.cal (.set (.var 2) (.call 2 (.cons (.blt .abs (.cons (.var 0) .nil)) (.cons (.var 1) .nil))))) (.cons (.cal (.ret (.tup (.cons (.bin .fdiv (.var 0) (.var 2)) (.cons (.bin .fdiv (.var 1) (.var 2)) .nil))))) .nil)⟩
def c_4:CF:=⟨1,3,false,.cons (.ifs (.or (.not (.val (.isi .tuple (.var 0)))) (.val (.cmp .ne (.blt .len (.cons (.var 0) .nil)) (.cst (.int 2))))) (.cons (.ret (.cst (.bl false))) .nil) .nil) (.cons (.set (.tup (.cons (.var 1) (.cons (.var 2) .nil))) (.var 0)) (.cons (.ret (.and (.call 5 (.cons (.var 1) .nil)) (.call 6 (.cons (.var 2) (.cons (.blt .len (.cons (.var 1) .nil)) .nil))))) .nil))⟩
def c_5:CF:=⟨1,1,false,.cons (.ifs (.or (.not (.val (.isi .tuple (.var 0)))) (.not (.val (.chain .le .le (.cst (.int 1)) (.blt .len (.cons (.var 0) .nil)) (.cst (.int 12)))))) (.cons (.ret (.cst (.bl false))) .nil) .nil) (.cons (.ret (.gen .all [] 1 (.call 1 (.cons (.var 0) (.cons (.cst (.int 1)) (.cons (.cst (.int 100)) .nil)))) (.var 0) (.seq (.var 0)) .nil)) .nil)⟩
def c_6:CF:=⟨2,2,false,.cons (.ifs (.or (.not (.val (.isi .tuple (.var 0)))) (.val (.cmp .gt (.blt .len (.cons (.var 0) .nil)) (.cst (.int 30))))) (.cons (.ret (.cst (.bl false))) .nil) .nil) (.cons (.ifs (.not (.val (.gen .all [1] 1 (.call 7 (.cons (.var 1) (.cons (.var 0) .nil))) (.var 1) (.seq (.var 0)) .nil))) (.cons (.ret (.cst (.bl false))) .nil) .nil) (.cons (.ret (.call 10 (.cons (.lc false [] 2 (.var 0) (.tup (.cons (.var 0) (.cons (.var 1) .nil))) (.seq (.var 0)) .nil) .nil))) .nil))⟩
def c_7:CF:=⟨2,4,false,.cons (.ifs (.or (.not (.val (.isi .tuple (.var 0)))) (.val (.cmp .ne (.blt .len (.cons (.var 0) .nil)) (.cst (.int 2))))) (.cons (.ret (.cst (.bl false))) .nil) .nil) (.cons (.set (.tup (.cons (.var 2) (.cons (.var 3) .nil))) (.var 0)) (.cons (.ret (.and (.call 8 (.cons (.var 2) (.cons (.var 1) .nil))) (.call 1 (.cons (.var 3) (.cons (.cst (.int 1)) (.cons (.cst (.int 1000000)) .nil)))))) .nil))⟩
def c_8:CF:=⟨2,2,false,.cons (.ret (.and (.call 9 (.cons (.var 0) (.cons (.var 1) .nil))) (.cmp .le (.blt .len (.cons (.var 0) .nil)) (.cst (.int 4))))) .nil⟩
def c_9:CF:=⟨2,2,false,.cons (.ifs (.or (.not (.val (.isi .tuple (.var 0)))) (.not (.val (.var 0)))) (.cons (.ret (.cst (.bl false))) .nil) .nil) (.cons (.ret (.and (.gen .all [1] 1 (.call 1 (.cons (.var 1) (.cons (.cst (.int 0)) (.cons (.bin .sub (.var 0) (.cst (.int 1))) .nil)))) (.var 1) (.seq (.var 0)) .nil) (.call 10 (.cons (.var 0) .nil)))) .nil)⟩
def c_10:CF:=⟨1,1,false,.cons (.ret (.gen .all [] 2 (.cmp .lt (.var 0) (.var 1)) (.tup (.cons (.var 0) (.cons (.var 1) .nil))) (.zip (.var 0) (.slc (.var 0) (.some (.cst (.int 1))) .none)) .nil)) .nil⟩
def c_11:CF:=⟨1,1,false,.cons (.ifs (.cal (.not (.val (.call 4 (.cons (.var 0) .nil))))) (.cons (.raise 37) .nil) .nil) .nil⟩
def c_12:CF:=⟨2,2,false,.cons (.expr (.call 11 (.cons (.var 0) .nil))) (.cons (.cal (.ret (.call 9 (.cons (.var 1) (.cons (.blt .len (.cons (.idx (.var 0) (.cst (.int 0))) .nil)) .nil))))) .nil)⟩
def c_13:CF:=⟨2,2,false,.cons (.ifs (.not (.val (.call 12 (.cons (.var 0) (.cons (.var 1) .nil))))) (.cons (.raise 49) .nil) .nil) .nil⟩
def c_14:CF:=⟨2,2,false,.cons (.ret (.lc false [1] 1 (.var 1) (.var 1) (.seq (.idx (.var 0) (.cst (.int 1)))) (.cons (.val (.gen .all [0] 1 (.cmp .inn (.var 1) (.var 0)) (.var 1) (.seq (.idx (.var 1) (.cst (.int 0)))) .nil)) .nil))) .nil⟩
def c_15:CF:=⟨2,2,false,.cons (.expr (.call 13 (.cons (.var 0) (.cons (.var 1) .nil)))) (.cons (.cal (.ret (.gen .sum [] 2 (.var 1) (.tup (.cons (.var 0) (.cons (.var 1) .nil))) (.seq (.call 14 (.cons (.var 0) (.cons (.var 1) .nil)))) .nil))) .nil)⟩
def c_16:CF:=⟨2,2,false,.cons (.expr (.call 13 (.cons (.var 0) (.cons (.var 1) .nil)))) (.cons (.cal (.ret (.gen .sum [0] 1 (.idx (.idx (.var 0) (.cst (.int 0))) (.var 1)) (.var 1) (.seq (.var 1)) .nil))) .nil)⟩
def c_17:CF:=⟨2,2,false,.cons (.ret (.call 3 (.cons (.call 15 (.cons (.var 0) (.cons (.var 1) .nil))) (.cons (.call 16 (.cons (.var 0) (.cons (.var 1) .nil))) .nil)))) .nil⟩
def c_18:CF:=⟨3,3,false,.cons (.expr (.call 13 (.cons (.var 0) (.cons (.var 1) .nil)))) (.cons (.ifs (.cal (.or (.not (.val (.call 0 (.cons (.var 2) .nil)))) (.val (.cmp .nin (.var 2) (.var 1))))) (.cons (.raise 49) .nil) .nil) (.cons (.cal (.ret (.gen .sum [2] 2 (.var 2) (.tup (.cons (.var 1) (.cons (.var 2) .nil))) (.seq (.call 14 (.cons (.var 0) (.cons (.var 1) .nil)))) (.cons (.val (.cmp .inn (.var 0) (.var 1))) .nil)))) .nil))⟩
def c_19:CF:=⟨1,1,false,.cons (.ret (.bin .mod (.bin .mul (.bin .mod (.var 0) (.bin .pow (.cst (.int 10)) (.cst (.int 60)))) (.cst (.int 845098040014256830712216258592636193483572396323965406503637))) (.bin .pow (.cst (.int 10)) (.cst (.int 60))))) .nil⟩
def c_20:CF:=⟨2,5,true,.cons (.set (.var 2) (.cst (.int 0))) (.cons (.forS (.var 3) (.seq (.lst false (.cons (.bin .add (.var 1) (.cst (.int 1))) (.cons (.var 1) .nil)))) (.cons (.set (.var 4) (.idx (.bin .add (.slc (.var 0) (.some (.var 3)) (.some (.bin .add (.var 3) (.cst (.int 1))))) (.lst false (.cons (.bin .add (.bin .add (.bin .mul (.cst (.int 5701)) (.var 3)) (.cst (.int 43))) (.bin .mul (.cst (.int 7)) (.idx (.bin .add (.var 0) (.lst false (.cons (.cst (.int 0)) .nil))) (.cst (.int 0))))) .nil))) (.cst (.int 0)))) (.cons (.set (.var 2) (.bin .add (.bin .mul (.var 2) (.bin .pow (.cst (.int 10)) (.cst (.int 60)))) (.call 19 (.cons (.var 4) .nil)))) .nil))) (.cons (.ret (.lst true (.cons (.var 2) .nil))) .nil))⟩
def c_21:CF:=⟨2,3,false,.cons (.set (.tup (.cons (.sub (.var 0) (.cst (.int 0))) (.cons (.var 2) .nil))) (.blt .divmod (.cons (.idx (.var 0) (.cst (.int 0))) (.cons (.var 1) .nil)))) (.cons (.ret (.var 2)) .nil)⟩
def c_22:CF:=⟨2,5,false,.cons (.set (.var 2) (.idx (.lst false (.cons (.cst (.int 2)) (.cons (.cst (.int 2)) (.cons (.cst (.int 2)) (.cons (.cst (.int 3)) (.cons (.cst (.int 3)) (.cons (.cst (.int 1)) (.cons (.cst (.int 4)) (.cons (.cst (.int 2)) .nil))))))))) (.call 21 (.cons (.var 0) (.cons (.cst (.int 8)) .nil))))) (.cons (.set (.var 3) (.rng (some true) (.cons (.var 1) .nil))) (.cons (.set (.var 4) (.lc false [3,0] 1 (.popAt (.var 0) (.call 21 (.cons (.var 1) (.cons (.blt .len (.cons (.var 0) .nil)) .nil)))) (.var 2) (.rng (.cons (.blt .min2 (.cons (.var 2) (.cons (.var 1) .nil))) .nil)) .nil)) (.cons (.ret (.blt .tuple (.cons (.blt (.sorted false) (.cons (.var 4) .nil)) .nil))) .nil)))⟩
def c_23:CF:=⟨3,8,false,.cons (.set (.var 3) (.bin .add (.cst (.int 1)) (.call 21 (.cons (.var 0) (.cons (.var 1) .nil))))) (.cons (.set (.var 4) (.bin .mul (.lst false (.cons (.cst (.int 1)) .nil)) (.var 3))) (.cons (.ifs (.val (.cmp .eq (.call 21 (.cons (.var 0) (.cons (.cst (.int 3)) .nil))) (.cst (.int 0)))) (.cons (.set (.var 4) (.lc false [0] 1 (.bin .add (.cst (.int 1)) (.call 21 (.cons (.var 0) (.cons (.cst (.int 5)) .nil)))) (.var 1) (.rng (.cons (.var 3) .nil)) .nil)) .nil) .nil) (.cons (.set (.var 5) (.dic true)) (.cons (.forS (.var 6) (.rng (.cons (.call 21 (.cons (.var 0) (.cons (.bin .add (.var 2) (.cst (.int 1))) .nil))) .nil)) (.cons (.set (.var 7) (.call 22 (.cons (.var 0) (.cons (.var 3) .nil)))) (.cons (.set (.sub (.var 5) (.var 7)) (.bin .add (.cst (.int 1)) (.call 21 (.cons (.var 0) (.cons (.cst (.int 9)) .nil))))) .nil))) (.cons (.ret (.tup (.cons (.blt .tuple (.cons (.var 4) .nil)) (.cons (.blt .tuple (.cons (.lc false [5] 1 (.tup (.cons (.var 1) (.cons (.idx (.var 0) (.var 1)) .nil))) (.var 1) (.seq (.blt (.sorted false) (.cons (.var 5) .nil))) .nil) .nil)) .nil)))) .nil)))))⟩
def c_24:CF:=⟨2,3,false,.cons (.set (.var 2) (.bin .add (.cst (.int 1)) (.call 21 (.cons (.var 0) (.cons (.bin .sub (.bin .shl (.cst (.int 1)) (.var 1)) (.cst (.int 1))) .nil))))) (.cons (.ret (.blt .tuple (.cons (.lc false [2] 1 (.var 1) (.var 1) (.rng (.cons (.var 1) .nil)) (.cons (.val (.cmp .eq (.bin .band (.bin .shr (.var 0) (.var 1)) (.cst (.int 1))) (.cst (.int 1)))) .nil)) .nil))) .nil)⟩
def c_25:CF:=⟨1,2,false,.cons (.set (.var 1) (.lst false (.cons (.isx [(49,false),(37,false)] (.var 0)) (.cons (.isx [(49,false),(37,true)] (.var 0)) (.cons (.isx [(49,true),(37,false)] (.var 0)) (.cons (.isx [(49,false),(37,false)] (.var 0)) .nil)))))) (.cons (.set (.var 1) (.bin .add (.var 1) (.lst false (.cons (.isx [(49,false),(37,false)] (.var 0)) (.cons (.isx [(49,false),(37,false)] (.var 0)) (.cons (.isx [(49,false),(37,false)] (.var 0)) .nil)))))) (.cons (.set (.var 1) (.bin .add (.var 1) (.lst false (.cons (.isx [(49,false),(37,false)] (.var 0)) .nil)))) (.cons (.set (.var 1) (.bin .add (.var 1) (.lst false (.cons (.isx [(49,false),(37,false)] (.var 0)) (.cons (.isx [(49,false),(37,false)] (.var 0)) (.cons (.isx [(49,false),(37,false)] (.var 0)) (.cons (.isx [(49,false),(37,false)] (.var 0)) .nil))))))) (.cons (.ifs (.or (.not (.val (.isx [(49,true),(37,true)] (.var 0)))) (.val (.cmp .ne (.blt .sumB (.cons (.var 1) .nil)) (.cst (.int 1))))) (.cons (.ret (.cst .non)) .nil) .nil) (.cons (.ret (.ixT (.var 1))) .nil)))))⟩
def c_26:CF:=⟨5,7,false,.cons (.set (.var 5) (.cst .non)) (.cons (.tryX [(49,true),(37,true)] 6 (.cons (.ifs (.cal (.val (.cmp .eq (.var 0) (.cst (.int 0))))) (.cons (.expr (.call 15 (.cons (.var 1) (.cons (.var 2) .nil)))) .nil) (.cons (.ifs (.cal (.val (.cmp .eq (.var 0) (.cst (.int 1))))) (.cons (.expr (.call 16 (.cons (.var 1) (.cons (.var 2) .nil)))) .nil) (.cons (.ifs (.cal (.val (.cmp .eq (.var 0) (.cst (.int 2))))) (.cons (.expr (.call 17 (.cons (.var 1) (.cons (.var 2) .nil)))) .nil) (.cons (.expr (.call 18 (.cons (.var 1) (.cons (.var 2) (.cons (.var 3) .nil))))) .nil)) .nil)) .nil)) .nil) (.cons (.set (.var 5) (.var 6)) .nil)) (.cons (.ret (.and (.cmp .isn (.var 5) (.cst .non)) (.cmp .eq (.call 25 (.cons (.var 5) .nil)) (.var 4)))) .nil))⟩
def c_27:CF:=⟨2,9,false,.cons (.set (.tup (.cons (.var 2) (.cons (.var 3) .nil))) (.var 1)) (.cons (.set (.var 4) (.call 21 (.cons (.var 0) (.cons (.blt .len (.cons (.var 2) .nil)) .nil)))) (.cons (.set (.var 5) (.lst true (.cons (.cst .non) (.cons (.cst (.int 7)) (.cons (.cst (.bl true)) (.cons (.cst (.str (PySem.Str.ofString ""))) (.cons (.tup .nil) (.cons (.lst false .nil) (.cons (.dic false) (.cons (.var 2) (.cons (.var 3) (.cons (.tup (.cons (.var 2) .nil)) (.cons (.blt (.list false) (.cons (.var 1) .nil)) (.cons (.tup (.cons (.var 2) (.cons (.var 3) (.cons (.tup .nil) .nil)))) .nil)))))))))))))) (.cons (.set (.var 5) (.binM .add (.var 5) (.lst false (.cons (.tup (.cons (.blt (.list false) (.cons (.var 2) .nil)) (.cons (.var 3) .nil))) (.cons (.tup (.cons (.var 2) (.cons (.blt (.list false) (.cons (.var 3) .nil)) .nil))) .nil))))) (.cons (.forS (.var 6) (.seq (.lst false (.cons (.cst (.int 0)) (.cons (.neg (.cst (.int 1))) (.cons (.cst (.int 101)) (.cons (.cst (.bl true)) (.cons (.cst .non) (.cons (.cst (.str (PySem.Str.ofString "1"))) (.cons (.tup (.cons (.cst (.int 1)) .nil)) .nil))))))))) (.cons (.expr (.app (.var 5) (.tup (.cons (.bin .add (.bin .add (.slc (.var 2) .none (.some (.var 4))) (.tup (.cons (.var 6) .nil))) (.slc (.var 2) (.some (.bin .add (.var 4) (.cst (.int 1)))) .none)) (.cons (.var 3) .nil))))) .nil)) (.cons (.set (.var 7) (.blt .len (.cons (.var 2) .nil))) (.cons (.set (.var 3) (.lst false (.cons (.tup (.cons (.tup (.cons (.var 7) .nil)) (.cons (.cst (.int 1)) .nil))) (.cons (.tup (.cons (.tup (.cons (.cst (.int 0)) .nil)) (.cons (.cst (.int 0)) .nil))) (.cons (.tup (.cons (.tup (.cons (.cst (.int 0)) .nil)) (.cons (.bin .add (.bin .pow (.cst (.int 10)) (.cst (.int 6))) (.cst (.int 1))) .nil))) (.cons (.tup (.cons (.tup (.cons (.cst (.int 0)) (.cons (.cst (.int 0)) .nil))) (.cons (.cst (.int 1)) .nil))) (.cons (.tup (.cons (.tup .nil) (.cons (.cst (.int 1)) .nil))) (.cons (.tup (.cons (.lst false (.cons (.cst (.int 0)) .nil)) (.cons (.cst (.int 1)) .nil))) (.cons (.tup (.cons (.tup (.cons (.cst (.int 0)) .nil)) (.cons (.cst (.bl true)) .nil))) .nil))))))))) (.cons (.set (.var 3) (.bin .add (.var 3) (.lst false (.cons (.tup (.cons (.tup (.cons (.cst (.int 0)) .nil)) .nil)) (.cons (.tup (.cons (.tup (.cons (.neg (.cst (.int 1))) .nil)) (.cons (.cst (.int 1)) .nil))) (.cons (.cst .non) .nil)))))) (.cons (.forS (.var 8) (.seq (.var 3)) (.cons (.expr (.app (.var 5) (.tup (.cons (.var 2) (.cons (.tup (.cons (.var 8) .nil)) .nil))))) .nil)) (.cons (.ret (.bin .add (.var 5) (.lst false (.cons (.tup (.cons (.var 2) (.cons (.tup (.cons (.tup (.cons (.tup (.cons (.cst (.int 0)) .nil)) (.cons (.cst (.int 2)) .nil))) (.cons (.tup (.cons (.tup (.cons (.cst (.int 0)) .nil)) (.cons (.cst (.int 3)) .nil))) .nil))) .nil))) (.cons (.tup (.cons (.bin .mul (.var 2) (.cst (.int 13))) (.cons (.tup .nil) .nil))) .nil))))) .nil)))))))))⟩
def c_28:CF:=⟨3,6,false,.cons (.set (.var 3) (.call 21 (.cons (.var 0) (.cons (.blt .len (.cons (.var 1) .nil)) .nil)))) (.cons (.set (.var 4) (.lst true (.cons (.tup .nil) (.cons (.cst .non) (.cons (.lst false .nil) (.cons (.blt (.list false) (.cons (.var 1) .nil)) (.cons (.cst (.int 7)) (.cons (.cst (.bl true)) (.cons (.cst (.str (PySem.Str.ofString "0"))) (.cons (.dic false) (.cons (.tup (.cons (.var 1) .nil)) (.cons (.bin .add (.var 1) (.slc (.var 1) (.some (.neg (.cst (.int 1)))) .none)) (.cons (.rng none (.cons (.bin .add (.var 2) (.cst (.int 1))) .nil)) .nil))))))))))))) (.cons (.forS (.var 5) (.seq (.lst false (.cons (.var 2) (.cons (.neg (.cst (.int 1))) (.cons (.cst (.bl true)) (.cons (.cst .non) (.cons (.cst (.str (PySem.Str.ofString "0"))) (.cons (.tup (.cons (.cst (.int 0)) .nil)) (.cons (.lst false (.cons (.cst (.int 0)) .nil)) .nil))))))))) (.cons (.expr (.app (.var 4) (.bin .add (.bin .add (.slc (.var 1) .none (.some (.var 3))) (.tup (.cons (.var 5) .nil))) (.slc (.var 1) (.some (.bin .add (.var 3) (.cst (.int 1)))) .none)))) .nil)) (.cons (.ifs (.val (.cmp .gt (.blt .len (.cons (.var 1) .nil)) (.cst (.int 1)))) (.cons (.expr (.app (.var 4) (.rev (.var 1)))) .nil) .nil) (.cons (.ret (.var 4)) .nil))))⟩
def c_29:CF:=⟨3,9,false,.cons (.set (.var 3) (.blt .len (.cons (.idx (.var 1) (.cst (.int 0))) .nil))) (.cons (.set (.var 4) (.call 28 (.cons (.var 0) (.cons (.var 2) (.cons (.var 3) .nil))))) (.cons (.forS (.var 5) (.seq (.call 27 (.cons (.var 0) (.cons (.var 1) .nil)))) (.cons (.forS (.var 6) (.rng (.cons (.cst (.int 4)) .nil)) (.cons (.set (.var 7) (.idx (.var 4) (.call 21 (.cons (.var 0) (.cons (.cst (.int 17)) .nil))))) (.cons (.ifs (.or (.not (.val (.call 26 (.cons (.var 6) (.cons (.var 5) (.cons (.var 2) (.cons (.idx (.var 2) (.cst (.int 0))) (.cons (.cst (.int 1)) .nil)))))))) (.not (.val (.call 26 (.cons (.var 6) (.cons (.var 5) (.cons (.var 7) (.cons (.cst .non) (.cons (.cst (.int 1)) .nil))))))))) (.cons (.ret (.cst (.bl false))) .nil) .nil) .nil))) .nil)) (.cons (.forS (.var 5) (.seq (.var 4)) (.cons (.ifs (.not (.val (.blt .all (.cons (.lc false [1,5] 1 (.call 26 (.cons (.var 2) (.cons (.var 0) (.cons (.var 1) (.cons (.cst (.int 0)) (.cons (.cst (.int 2)) .nil)))))) (.var 2) (.rng (.cons (.cst (.int 4)) .nil)) .nil) .nil)))) (.cons (.ret (.cst (.bl false))) .nil) .nil) .nil)) (.cons (.set (.var 8) (.lc false [2] 1 (.var 1) (.var 1) (.rng (.cons (.bin .add (.var 3) (.cst (.int 1))) .nil)) (.cons (.val (.cmp .nin (.var 1) (.var 0))) .nil))) (.cons (.forS (.var 5) (.seq (.bin .add (.var 8) (.lst false (.cons (.neg (.cst (.int 1))) (.cons (.cst (.int 100)) (.cons (.cst .non) (.cons (.cst (.str (PySem.Str.ofString "0"))) (.cons (.tup (.cons (.idx (.var 2) (.cst (.int 0))) .nil)) (.cons (.lst false (.cons (.idx (.var 2) (.cst (.int 0))) .nil)) (.cons (.dic false) (.cons (.cst (.bl true)) (.cons (.cst (.bl false)) (.cons (.tup .nil) .nil))))))))))))) (.cons (.ifs (.not (.val (.call 26 (.cons (.cst (.int 3)) (.cons (.var 1) (.cons (.var 2) (.cons (.var 5) (.cons (.cst (.int 2)) .nil)))))))) (.cons (.ret (.cst (.bl false))) .nil) .nil) .nil)) (.cons (.ret (.cst (.bl true))) .nil))))))⟩
def qbO:CF:=⟨1,6,false,.cons (.forS (.var 1) (.rng (.cons (.cst (.int 0)) (.cons (.blt .max2 (.cons (.cst (.int 1)) (.cons (.blt .min2 (.cons (.blt .len (.cons (.var 0) .nil)) (.cons (.cst (.int 12)) .nil))) .nil))) (.cons (.cst (.int 2)) .nil)))) (.cons (.set (.var 2) (.call 20 (.cons (.var 0) (.cons (.var 1) .nil)))) (.cons (.set (.var 3) (.call 23 (.cons (.var 2) (.cons (.cst (.int 8)) (.cons (.cst (.int 10)) .nil))))) (.cons (.set (.var 4) (.call 24 (.cons (.var 2) (.cons (.blt .len (.cons (.idx (.var 3) (.cst (.int 0))) .nil)) .nil)))) (.cons (.set (.var 5) (.lst false (.cons (.call 15 (.cons (.var 3) (.cons (.var 4) .nil))) (.cons (.call 16 (.cons (.var 3) (.cons (.var 4) .nil))) (.cons (.call 17 (.cons (.var 3) (.cons (.var 4) .nil))) (.cons (.call 18 (.cons (.var 3) (.cons (.var 4) (.cons (.idx (.var 4) (.cst (.int 0))) .nil)))) .nil)))))) (.cons (.ifs (.not (.val (.call 29 (.cons (.call 20 (.cons (.var 0) (.cons (.bin .add (.var 1) (.cst (.int 3))) .nil))) (.cons (.var 3) (.cons (.var 4) .nil)))))) (.cons (.ret (.cst (.bl false))) .nil) .nil) (.cons (.ifs (.val (.cmp .ne (.lst false (.cons (.call 15 (.cons (.var 3) (.cons (.var 4) .nil))) (.cons (.call 16 (.cons (.var 3) (.cons (.var 4) .nil))) (.cons (.call 17 (.cons (.var 3) (.cons (.var 4) .nil))) (.cons (.call 18 (.cons (.var 3) (.cons (.var 4) (.cons (.idx (.var 4) (.cst (.int 0))) .nil)))) .nil))))) (.var 5))) (.cons (.ret (.cst (.bl false))) .nil) .nil) .nil))))))) (.cons (.ret (.cst (.bl true))) .nil)⟩
noncomputable def prg:List CF:=[c_0,c_1,c_2,c_3,c_4,c_5,c_6,c_7,c_8,c_9,c_10,c_11,c_12,c_13,c_14,c_15,c_16,c_17,c_18,c_19,c_20,c_21,c_22,c_23,c_24,c_25,c_26,c_27,c_28,c_29,qbO]
end RP
namespace RP
open PySem PySem.Spec L2 SeqAt R R.EX
open PyProof.Rows hiding St
noncomputable def top (i:Nat):Stmt:=PySem.Challenge.pw_weblayers_k05_webs_and_parts_refused.main.body.getD i (.Pass ⟨0,0,0,0⟩)
structure Pre (K:PySem.W.Frag) (mg:Str→Option Value):Prop where
 gb:Gb mg
 g_MOST_COST:∃ t:Tok,mg "MOST_COST"=some (.int 100 t)
 g_MOST_PLACES:∃ t:Tok,mg "MOST_PLACES"=some (.int 12 t)
 g_MOST_PLACES_OF_TIE:∃ t:Tok,mg "MOST_PLACES_OF_TIE"=some (.int 4 t)
 g_MOST_TIES:∃ t:Tok,mg "MOST_TIES"=some (.int 30 t)
 g_MOST_WEIGHT:∃ t:Tok,mg "MOST_WEIGHT"=some (.int 1000000 t)
 x_NoArrows:mg "NoArrows"=some (.ref 117)
 x_NoCall:mg "NoCall"=some (.ref 181)
 x_NoKept:mg "NoKept"=some (.ref 201)
 x_NoLaying:mg "NoLaying"=some (.ref 61)
 x_NoMeasure:mg "NoMeasure"=some (.ref 73)
 x_NoNumber:mg "NoNumber"=some (.ref 141)
 x_NoPart:mg "NoPart"=some (.ref 49)
 x_NoRoad:mg "NoRoad"=some (.ref 93)
 x_NoSize:mg "NoSize"=some (.ref 105)
 x_NoText:mg "NoText"=some (.ref 161)
 x_NoThread:mg "NoThread"=some (.ref 129)
 x_NoWeb:mg "NoWeb"=some (.ref 37)
 x_WebError:mg "WebError"=some (.ref 24)
 x_ValueError:mg "ValueError"=none
 er_NoPart:R.EX.excRow K 49=some [.ref 24,.type "ValueError",.type "Exception",.type "BaseException",.type "object"]
 er_NoWeb:R.EX.excRow K 37=some [.ref 24,.type "ValueError",.type "Exception",.type "BaseException",.type "object"]
 er_WebError:R.EX.excRow K 24=some [.type "ValueError",.type "Exception",.type "BaseException",.type "object"]
 ei_NoPart:PySem.W.excIn K 49 [.type "ValueError",.type "Exception",.type "BaseException",.type "object"] "ValueError.__new__"=true
 ek_NoPart:R.EX.ErrK K 49
 ki_NoPart_NoArrows:PySem.W.kitOne K (.ref 49) (.ref 117)=some false
 ki_NoPart_NoCall:PySem.W.kitOne K (.ref 49) (.ref 181)=some false
 ki_NoPart_NoKept:PySem.W.kitOne K (.ref 49) (.ref 201)=some false
 ki_NoPart_NoLaying:PySem.W.kitOne K (.ref 49) (.ref 61)=some false
 ki_NoPart_NoMeasure:PySem.W.kitOne K (.ref 49) (.ref 73)=some false
 ki_NoPart_NoNumber:PySem.W.kitOne K (.ref 49) (.ref 141)=some false
 ki_NoPart_NoPart:PySem.W.kitOne K (.ref 49) (.ref 49)=some true
 ki_NoPart_NoRoad:PySem.W.kitOne K (.ref 49) (.ref 93)=some false
 ki_NoPart_NoSize:PySem.W.kitOne K (.ref 49) (.ref 105)=some false
 ki_NoPart_NoText:PySem.W.kitOne K (.ref 49) (.ref 161)=some false
 ki_NoPart_NoThread:PySem.W.kitOne K (.ref 49) (.ref 129)=some false
 ki_NoPart_NoWeb:PySem.W.kitOne K (.ref 49) (.ref 37)=some false
 ki_NoPart_ValueError:PySem.W.kitOne K (.ref 49) (.type "ValueError")=some true
 ei_NoWeb:PySem.W.excIn K 37 [.type "ValueError",.type "Exception",.type "BaseException",.type "object"] "ValueError.__new__"=true
 ek_NoWeb:R.EX.ErrK K 37
 ki_NoWeb_NoArrows:PySem.W.kitOne K (.ref 37) (.ref 117)=some false
 ki_NoWeb_NoCall:PySem.W.kitOne K (.ref 37) (.ref 181)=some false
 ki_NoWeb_NoKept:PySem.W.kitOne K (.ref 37) (.ref 201)=some false
 ki_NoWeb_NoLaying:PySem.W.kitOne K (.ref 37) (.ref 61)=some false
 ki_NoWeb_NoMeasure:PySem.W.kitOne K (.ref 37) (.ref 73)=some false
 ki_NoWeb_NoNumber:PySem.W.kitOne K (.ref 37) (.ref 141)=some false
 ki_NoWeb_NoPart:PySem.W.kitOne K (.ref 37) (.ref 49)=some false
 ki_NoWeb_NoRoad:PySem.W.kitOne K (.ref 37) (.ref 93)=some false
 ki_NoWeb_NoSize:PySem.W.kitOne K (.ref 37) (.ref 105)=some false
 ki_NoWeb_NoText:PySem.W.kitOne K (.ref 37) (.ref 161)=some false
 ki_NoWeb_NoThread:PySem.W.kitOne K (.ref 37) (.ref 129)=some false
 ki_NoWeb_NoWeb:PySem.W.kitOne K (.ref 37) (.ref 37)=some true
 ki_NoWeb_ValueError:PySem.W.kitOne K (.ref 37) (.type "ValueError")=some true
 u_0:DefIn K mg "is_whole" (top 15) ["thing"]
 u_1:DefIn K mg "is_whole_within" (top 16) ["thing","least","most"]
 u_2:DefIn K mg "common_divisor" (top 17) ["one","other"]
 u_3:DefIn K mg "lowest" (top 18) ["top","bottom"]
 u_4:DefIn K mg "is_web" (top 25) ["thing"]
 u_5:DefIn K mg "are_costs" (top 26) ["thing"]
 u_6:DefIn K mg "are_ties" (top 27) ["thing","many"]
 u_7:DefIn K mg "is_tie" (top 28) ["thing","many"]
 u_8:DefIn K mg "are_tied_places" (top 29) ["thing","many"]
 u_9:DefIn K mg "are_places" (top 30) ["thing","many"]
 u_10:DefIn K mg "is_rising" (top 31) ["things"]
 u_11:DefIn K mg "need_web" (top 32) ["thing"]
 u_12:DefIn K mg "is_part" (top 33) ["web","thing"]
 u_13:DefIn K mg "need_part" (top 34) ["web","thing"]
 u_14:DefIn K mg "ties_within" (top 35) ["web","part"]
 u_15:DefIn K mg "weight" (top 36) ["web","part"]
 u_16:DefIn K mg "cost" (top 37) ["web","part"]
 u_17:DefIn K mg "share" (top 38) ["web","part"]
 u_18:DefIn K mg "degree" (top 39) ["web","part","place"]
 u_19:DefIn K mg "_law_mixed" (top 41) ["_law_cell"]
 u_20:DefIn K mg "_law_pack" (top 42) ["_law_script","_law_k"]
 u_21:DefIn K mg "_law_take" (top 43) ["_law_pack_here","_law_size"]
 u_22:DefIn K mg "_law_places" (top 44) ["_law_pack_here","_law_many"]
 u_23:DefIn K mg "_law_web" (top 45) ["_law_pack_here","_law_most","_law_ties"]
 u_24:DefIn K mg "_law_part" (top 46) ["_law_pack_here","_law_many"]
 u_25:DefIn K mg "_law_sort" (top 47) ["_law_e"]
 u_26:DefIn K mg "_law_refused" (top 48) ["_law_ask","_law_web_here","_law_part_here","_law_place","_law_sort_here"]
 u_27:DefIn K mg "_law_no_webs" (top 49) ["_law_pack_here","_law_web_here"]
 u_28:DefIn K mg "_law_no_parts" (top 50) ["_law_pack_here","_law_part_here","_law_many"]
 u_29:DefIn K mg "_law_right" (top 51) ["_law_pack_here","_law_web_here","_law_part_here"]
 u_30:DefIn K mg "law" (top 52) ["_law_script"]
structure All (P:Program) (w:World) (K:PySem.W.Frag) (mg:Str→Option Value) (base:Heap) (k:Nat) (F:Fs):Prop where
 h_0:FnAt P w K mg base k F 0 "is_whole" ["thing"]
 h_1:FnAt P w K mg base k F 1 "is_whole_within" ["thing","least","most"]
 h_2:FnAt P w K mg base k F 2 "common_divisor" ["one","other"]
 h_3:FnAt P w K mg base k F 3 "lowest" ["top","bottom"]
 h_4:FnAt P w K mg base k F 4 "is_web" ["thing"]
 h_5:FnAt P w K mg base k F 5 "are_costs" ["thing"]
 h_6:FnAt P w K mg base k F 6 "are_ties" ["thing","many"]
 h_7:FnAt P w K mg base k F 7 "is_tie" ["thing","many"]
 h_8:FnAt P w K mg base k F 8 "are_tied_places" ["thing","many"]
 h_9:FnAt P w K mg base k F 9 "are_places" ["thing","many"]
 h_10:FnAt P w K mg base k F 10 "is_rising" ["things"]
 h_11:FnAt P w K mg base k F 11 "need_web" ["thing"]
 h_12:FnAt P w K mg base k F 12 "is_part" ["web","thing"]
 h_13:FnAt P w K mg base k F 13 "need_part" ["web","thing"]
 h_14:FnAt P w K mg base k F 14 "ties_within" ["web","part"]
 h_15:FnAt P w K mg base k F 15 "weight" ["web","part"]
 h_16:FnAt P w K mg base k F 16 "cost" ["web","part"]
 h_17:FnAt P w K mg base k F 17 "share" ["web","part"]
 h_18:FnAt P w K mg base k F 18 "degree" ["web","part","place"]
 h_19:FnAt P w K mg base k F 19 "_law_mixed" ["_law_cell"]
 h_20:FnAt P w K mg base k F 20 "_law_pack" ["_law_script","_law_k"]
 h_21:FnAt P w K mg base k F 21 "_law_take" ["_law_pack_here","_law_size"]
 h_22:FnAt P w K mg base k F 22 "_law_places" ["_law_pack_here","_law_many"]
 h_23:FnAt P w K mg base k F 23 "_law_web" ["_law_pack_here","_law_most","_law_ties"]
 h_24:FnAt P w K mg base k F 24 "_law_part" ["_law_pack_here","_law_many"]
 h_25:FnAt P w K mg base k F 25 "_law_sort" ["_law_e"]
 h_26:FnAt P w K mg base k F 26 "_law_refused" ["_law_ask","_law_web_here","_law_part_here","_law_place","_law_sort_here"]
 h_27:FnAt P w K mg base k F 27 "_law_no_webs" ["_law_pack_here","_law_web_here"]
 h_28:FnAt P w K mg base k F 28 "_law_no_parts" ["_law_pack_here","_law_part_here","_law_many"]
 h_29:FnAt P w K mg base k F 29 "_law_right" ["_law_pack_here","_law_web_here","_law_part_here"]
 h_30:FnAt P w K mg base k F 30 "law" ["_law_script"]
 x_3:FnAtX P w K mg base k F 3 "lowest" ["top","bottom"]
 x_11:FnAtX P w K mg base k F 11 "need_web" ["thing"]
 x_12:FnAtX P w K mg base k F 12 "is_part" ["web","thing"]
 x_13:FnAtX P w K mg base k F 13 "need_part" ["web","thing"]
 x_15:FnAtX P w K mg base k F 15 "weight" ["web","part"]
 x_16:FnAtX P w K mg base k F 16 "cost" ["web","part"]
 x_17:FnAtX P w K mg base k F 17 "share" ["web","part"]
 x_18:FnAtX P w K mg base k F 18 "degree" ["web","part","place"]
theorem sc_0:FnScope ["thing"] ["thing"] (defScope (top 15)):=⟨rfl,rfl,rfl,by decide +kernel,rfl,by decide +kernel,by decide +kernel⟩
theorem sc_1:FnScope ["thing","least","most"] ["thing","least","most"] (defScope (top 16)):=⟨rfl,rfl,rfl,by decide +kernel,rfl,by decide +kernel,by decide +kernel⟩
theorem sc_2:FnScope ["one","other"] ["one","other"] (defScope (top 17)):=⟨rfl,rfl,rfl,by decide +kernel,rfl,by decide +kernel,by decide +kernel⟩
theorem sc_3:FnScope ["top","bottom","divisor"] ["top","bottom"] (defScope (top 18)):=⟨rfl,rfl,rfl,by decide +kernel,rfl,by decide +kernel,by decide +kernel⟩
theorem sc_4:FnScope ["thing","costs","ties"] ["thing"] (defScope (top 25)):=⟨rfl,rfl,rfl,by decide +kernel,rfl,by decide +kernel,by decide +kernel⟩
theorem sc_5:FnScope ["thing"] ["thing"] (defScope (top 26)):=⟨rfl,rfl,rfl,by decide +kernel,rfl,by decide +kernel,by decide +kernel⟩
theorem sc_6:FnScope ["thing","many"] ["thing","many"] (defScope (top 27)):=⟨rfl,rfl,rfl,by decide +kernel,rfl,by decide +kernel,by decide +kernel⟩
theorem sc_7:FnScope ["thing","many","places","heavy"] ["thing","many"] (defScope (top 28)):=⟨rfl,rfl,rfl,by decide +kernel,rfl,by decide +kernel,by decide +kernel⟩
theorem sc_8:FnScope ["thing","many"] ["thing","many"] (defScope (top 29)):=⟨rfl,rfl,rfl,by decide +kernel,rfl,by decide +kernel,by decide +kernel⟩
theorem sc_9:FnScope ["thing","many"] ["thing","many"] (defScope (top 30)):=⟨rfl,rfl,rfl,by decide +kernel,rfl,by decide +kernel,by decide +kernel⟩
theorem sc_10:FnScope ["things"] ["things"] (defScope (top 31)):=⟨rfl,rfl,rfl,by decide +kernel,rfl,by decide +kernel,by decide +kernel⟩
theorem sc_11:FnScope ["thing"] ["thing"] (defScope (top 32)):=⟨rfl,rfl,rfl,by decide +kernel,rfl,by decide +kernel,by decide +kernel⟩
theorem sc_12:FnScope ["web","thing"] ["web","thing"] (defScope (top 33)):=⟨rfl,rfl,rfl,by decide +kernel,rfl,by decide +kernel,by decide +kernel⟩
theorem sc_13:FnScope ["web","thing"] ["web","thing"] (defScope (top 34)):=⟨rfl,rfl,rfl,by decide +kernel,rfl,by decide +kernel,by decide +kernel⟩
theorem sc_14:FnScope ["web","part"] ["web","part"] (defScope (top 35)):=⟨rfl,rfl,rfl,by decide +kernel,rfl,by decide +kernel,by decide +kernel⟩
theorem sc_15:FnScope ["web","part"] ["web","part"] (defScope (top 36)):=⟨rfl,rfl,rfl,by decide +kernel,rfl,by decide +kernel,by decide +kernel⟩
theorem sc_16:FnScope ["web","part"] ["web","part"] (defScope (top 37)):=⟨rfl,rfl,rfl,by decide +kernel,rfl,by decide +kernel,by decide +kernel⟩
theorem sc_17:FnScope ["web","part"] ["web","part"] (defScope (top 38)):=⟨rfl,rfl,rfl,by decide +kernel,rfl,by decide +kernel,by decide +kernel⟩
theorem sc_18:FnScope ["web","part","place"] ["web","part","place"] (defScope (top 39)):=⟨rfl,rfl,rfl,by decide +kernel,rfl,by decide +kernel,by decide +kernel⟩
theorem sc_19:FnScope ["_law_cell"] ["_law_cell"] (defScope (top 41)):=⟨rfl,rfl,rfl,by decide +kernel,rfl,by decide +kernel,by decide +kernel⟩
theorem sc_20:FnScope ["_law_script","_law_k","_law_found","_law_at","_law_cell"] ["_law_script","_law_k"] (defScope (top 42)):=⟨rfl,rfl,rfl,by decide +kernel,rfl,by decide +kernel,by decide +kernel⟩
theorem sc_21:FnScope ["_law_pack_here","_law_size","_law_digit"] ["_law_pack_here","_law_size"] (defScope (top 43)):=⟨rfl,rfl,rfl,by decide +kernel,rfl,by decide +kernel,by decide +kernel⟩
theorem sc_22:FnScope ["_law_pack_here","_law_many","_law_size","_law_left","_law_found"] ["_law_pack_here","_law_many"] (defScope (top 44)):=⟨rfl,rfl,rfl,by decide +kernel,rfl,by decide +kernel,by decide +kernel⟩
theorem sc_23:FnScope ["_law_pack_here","_law_most","_law_ties","_law_many","_law_costs","_law_known","_law_turn","_law_some"] ["_law_pack_here","_law_most","_law_ties"] (defScope (top 45)):=⟨rfl,rfl,rfl,by decide +kernel,rfl,by decide +kernel,by decide +kernel⟩
theorem sc_24:FnScope ["_law_pack_here","_law_many","_law_number"] ["_law_pack_here","_law_many"] (defScope (top 46)):=⟨rfl,rfl,rfl,by decide +kernel,rfl,by decide +kernel,by decide +kernel⟩
theorem sc_25:FnScope ["_law_e","_law_sorts"] ["_law_e"] (defScope (top 47)):=⟨rfl,rfl,rfl,by decide +kernel,rfl,by decide +kernel,by decide +kernel⟩
theorem sc_26:FnScope ["_law_ask","_law_web_here","_law_part_here","_law_place","_law_sort_here","_law_caught","_law_e"] ["_law_ask","_law_web_here","_law_part_here","_law_place","_law_sort_here"] (defScope (top 48)):=⟨rfl,rfl,rfl,by decide +kernel,rfl,by decide +kernel,by decide +kernel⟩
theorem sc_27:FnScope ["_law_pack_here","_law_web_here","_law_costs","_law_ties","_law_at","_law_found","_law_odd","_law_more","_law_tie"] ["_law_pack_here","_law_web_here"] (defScope (top 49)):=⟨rfl,rfl,rfl,by decide +kernel,rfl,by decide +kernel,by decide +kernel⟩
theorem sc_28:FnScope ["_law_pack_here","_law_part_here","_law_many","_law_at","_law_found","_law_odd"] ["_law_pack_here","_law_part_here","_law_many"] (defScope (top 50)):=⟨rfl,rfl,rfl,by decide +kernel,rfl,by decide +kernel,by decide +kernel⟩
theorem sc_29:FnScope ["_law_pack_here","_law_web_here","_law_part_here","_law_many","_law_odd_parts","_law_odd","_law_ask","_law_both","_law_out"] ["_law_pack_here","_law_web_here","_law_part_here"] (defScope (top 51)):=⟨rfl,rfl,rfl,by decide +kernel,rfl,by decide +kernel,by decide +kernel⟩
theorem sc_30:FnScope ["_law_script","_law_k","_law_pack_here","_law_web_here","_law_part_here","_law_ahead"] ["_law_script"] (defScope (top 52)):=⟨rfl,rfl,rfl,by decide +kernel,rfl,by decide +kernel,by decide +kernel⟩
section
variable {P:Program} {w:World} {K:PySem.W.Frag} {mg:Str→Option Value} {base:Heap} {k n:Nat} {F:Fs} {f c t:Addr} {A:Around} {outer:List Env} {s:Shared} {H:Hp} {E:XK}
noncomputable abbrev Bdy (P:Program) (w:World) (K:PySem.W.Frag) (mg:Str→Option Value) (base:Heap) (n:Nat) (F:Fs) (f c:Addr) (A:Around) (outer:List Env) (s:Shared) (H:Hp) (E:XK) (N:List Str) (x:Str) (i:Nat) (b:CSs):Prop:=QSs (cxOf CX0 P w K mg base N x (defScope (top i)) f (.ref c) A outer s H E).nox (defBody (top i)) (TSm (exs F n b))
noncomputable abbrev Rm (k:Nat) (A:Around) (s:Shared) (f c:Addr) (x:Str) (i:Nat):Prop:=Room (k+2) (A.deeper (envOfC x (defScope (top i)) s.heap.objs.size f (.ref c)))
noncomputable abbrev BdyX (P:Program) (w:World) (K:PySem.W.Frag) (mg:Str→Option Value) (base:Heap) (n:Nat) (F:Fs) (f c:Addr) (A:Around) (outer:List Env) (s:Shared) (H:Hp) (E:XK) (N:List Str) (x:Str) (i:Nat) (b:CSs):Prop:=PSs (cxOf (CXR P w) P w K mg base N x (defScope (top i)) f (.ref c) A outer s H E) (defBody (top i)) (TSX (exs F n b) E)
variable (p:Pre K mg) (kb:K.In base) (a:All P w K mg base k F) (tab:codeTab K c t=true)
include p kb a tab
theorem b_0 (hr:Rm k A s f c "is_whole" 15):Bdy P w K mg base n F f c A outer s H E ["thing"] "is_whole" 15 c_0.body :=
 qf (qr (jS (jT .int p.gb (qc 0)) (yN (qj4 (jT .bool p.gb (qc 0)))))) qj
theorem b_1 (hr:Rm k A s f c "is_whole_within" 16):Bdy P w K mg base n F f c A outer s H E ["thing","least","most"] "is_whole_within" 16 c_1.body :=
 qf (qr (jS (qi a.h_0 (m2 hr) (qb (qc 0) qd)) (yN (qgU .le .le hr (qc 1) (qc 0) (qc 2))))) qj
theorem b_2 (hr:Rm k A s f c "common_divisor" 17):Bdy P w K mg base n F f c A outer s H E ["one","other"] "common_divisor" 17 c_2.body :=
 qf (qgW (q8 (qc 1)) (qf (qka 0 1 (qb (qc 1) (qb (qm .mod (qc 0) (qc 1)) qd))) qj)) (qf (qr (qc 0)) qj)
theorem b_3 (hr:Rm k A s f c "lowest" 18):Bdy P w K mg base n F f c A outer s H E ["top","bottom","divisor"] "lowest" 18 c_3.body :=
 qf (qau (qE 2 (qi a.h_2 (m2 hr) (qb (qhC p.gb (qb (qc 0) qd)) (qb (qc 1) qd))))) (qf (qau (qr (qp (qb (qm .fdiv (qc 0) (qc 2)) (qb (qm .fdiv (qc 1) (qc 2)) qd))))) qj)
theorem bx_3 (hr:Rm k A s f c "lowest" 18):BdyX P w K mg base n F f c A outer s H E ["top","bottom","divisor"] "lowest" 18 c_3.body :=
 qL (qat (qE 2 (qi a.h_2 (m2 hr) (qb (qhC p.gb (qb (qc 0) qd)) (qb (qc 1) qd))))) (qL (qat (qr (qp (qb (qm .fdiv (qc 0) (qc 2)) (qb (qm .fdiv (qc 1) (qc 2)) qd))))) (zg))
theorem b_4 (hr:Rm k A s f c "is_web" 25):Bdy P w K mg base n F f c A outer s H E ["thing","costs","ties"] "is_web" 25 c_4.body :=
 qf (z_if (Qpt (w_or (ze (q8 (jT .tuple p.gb (qc 0)))) (yX (zx .ne hr (zy p.gb (qb (qc 0) qd)) qg)))) (qf (qr qN) qj) qj) (qf (qbK (qc 0) (yE (qO (qu 1) (qO (qu 2) yD)))) (qf (qr (jS (qi a.h_5 (m2 hr) (qb (qc 1) qd)) (yN (qi a.h_6 (m2 hr) (qb (qc 2) (qb (zy p.gb (qb (qc 1) qd)) qd)))))) qj))
theorem b_5 (hr:Rm k A s f c "are_costs" 26):Bdy P w K mg base n F f c A outer s H E ["thing"] "are_costs" 26 c_5.body :=
 qf (z_if (Qpt (w_or (ze (q8 (jT .tuple p.gb (qc 0)))) (yX (ze (qgV .le .le hr qg (zy p.gb (qb (qc 0) qd)) (jR (p.g_MOST_PLACES).choose_spec)))))) (qf (qr qN) qj) qj) (qf (qr (jW [] [] ["one"] hr p.gb rfl tab (q9 (qc 0)) (λ_ _ _ _ _ _ _ _=>qu 0) (λ_ _ _ _ _ _ _ _=>zf) (λ_ _ _ _ _ _ _ _=>qi a.h_1 (m1 (qV hr)) (qb (qc 0) (qb qg (qb (jR (p.g_MOST_COST).choose_spec) qd)))))) qj)
theorem b_6 (hr:Rm k A s f c "are_ties" 27):Bdy P w K mg base n F f c A outer s H E ["thing","many"] "are_ties" 27 c_6.body :=
 qf (z_if (Qpt (w_or (ze (q8 (jT .tuple p.gb (qc 0)))) (yX (zx .gt hr (zy p.gb (qb (qc 0) qd)) (jR (p.g_MOST_TIES).choose_spec))))) (qf (qr qN) qj) qj) (qf (z_if (ze (q8 (jW [1] ["many"] ["one"] hr p.gb rfl tab (q9 (qc 0)) (λ_ _ _ _ _ _ _ _=>qu 1) (λ_ _ _ _ _ _ _ _=>zf) (λ_ _ _ _ _ _ _ _=>qi a.h_7 (m1 (qV hr)) (qb (qc 1) (qb (qc 0) qd)))))) (qf (qr qN) qj) qj) (qf (qr (qi a.h_10 (m2 hr) (qb (k_lc false [] [] ["places","heavy"] (q9 (qc 0)) (λ_ _ _ _ _=>yE (qO (qu 0) (qO (qu 1) yD))) (λ_ _ _ _ _=>zf) (λ_ _ _ _ _=>qc 0)) qd))) qj))
theorem b_7 (hr:Rm k A s f c "is_tie" 28):Bdy P w K mg base n F f c A outer s H E ["thing","many","places","heavy"] "is_tie" 28 c_7.body :=
 qf (z_if (Qpt (w_or (ze (q8 (jT .tuple p.gb (qc 0)))) (yX (zx .ne hr (zy p.gb (qb (qc 0) qd)) qg)))) (qf (qr qN) qj) qj) (qf (qbK (qc 0) (yE (qO (qu 2) (qO (qu 3) yD)))) (qf (qr (jS (qi a.h_8 (m2 hr) (qb (qc 2) (qb (qc 1) qd))) (yN (qi a.h_1 (m2 hr) (qb (qc 3) (qb qg (qb (jR (p.g_MOST_WEIGHT).choose_spec) qd))))))) qj))
theorem b_8 (hr:Rm k A s f c "are_tied_places" 29):Bdy P w K mg base n F f c A outer s H E ["thing","many"] "are_tied_places" 29 c_8.body :=
 qf (qr (jS (qi a.h_9 (m2 hr) (qb (qc 0) (qb (qc 1) qd))) (yN (qbJ .le hr (zy p.gb (qb (qc 0) qd)) (jR (p.g_MOST_PLACES_OF_TIE).choose_spec))))) qj
theorem b_9 (hr:Rm k A s f c "are_places" 30):Bdy P w K mg base n F f c A outer s H E ["thing","many"] "are_places" 30 c_9.body :=
 qf (z_if (Qpt (w_or (ze (q8 (jT .tuple p.gb (qc 0)))) (yX (ze (q8 (qc 0)))))) (qf (qr qN) qj) qj) (qf (qr (jS (jW [1] ["many"] ["one"] hr p.gb rfl tab (q9 (qc 0)) (λ_ _ _ _ _ _ _ _=>qu 1) (λ_ _ _ _ _ _ _ _=>zf) (λ_ _ _ _ _ _ _ _=>qi a.h_1 (m1 (qV hr)) (qb (qc 1) (qb qg (qb (qm .sub (qc 0) qg) qd))))) (yN (qi a.h_10 (m2 hr) (qb (qc 0) qd))))) qj)
theorem b_10 (hr:Rm k A s f c "is_rising" 31):Bdy P w K mg base n F f c A outer s H E ["things"] "is_rising" 31 c_10.body :=
 qf (qr (jW [] [] ["one","other"] hr p.gb rfl tab (qj7 p.gb (qc 0) (jU (qc 0) (k_os qg) (k_on))) (λ_ _ _ _ _ _ _ _=>yE (qO (qu 0) (qO (qu 1) yD))) (λ_ _ _ _ _ _ _ _=>zf) (λ_ _ _ _ _ _ _ _=>qbJ .lt (qV hr) (qc 0) (qc 1)))) qj
theorem b_11 (hr:Rm k A s f c "need_web" 32):Bdy P w K mg base n F f c A outer s H E ["thing"] "need_web" 32 c_11.body :=
 qf (z_if (qhE (ze (q8 (qi a.h_4 (m2 hr) (qb (qc 0) qd))))) (qf (qaX) qj) qj) qj
theorem qki (hr:Rm k A s f c "need_web" 32):BdyX P w K mg base n F f c A outer s H E ["thing"] "need_web" 32 c_11.body :=
 qL (x_if (qfn (ze (q8 (qi a.h_4 (m2 hr) (qb (qc 0) qd))))) (qL (qaV isDef (qcs kb p.x_NoWeb p.ei_NoWeb) vG rfl vG (qb js qd) (λ_ _=>⟨_,rfl⟩) (by decide)) (zg)) (zg)) (zg)
theorem b_12 (hr:Rm k A s f c "is_part" 33):Bdy P w K mg base n F f c A outer s H E ["web","thing"] "is_part" 33 c_12.body :=
 qf (yr (qi a.h_11 (m2 hr) (qb (qc 0) qd))) (qf (qau (qr (qi a.h_9 (m2 hr) (qb (qc 1) (qb (zy p.gb (qb (qX hr (qc 0) qg) qd)) qd))))) qj)
theorem qkj (hr:Rm k A s f c "is_part" 33):BdyX P w K mg base n F f c A outer s H E ["web","thing"] "is_part" 33 c_12.body :=
 qL (x_expr (yO isDef a.x_11 (m2 hr) (qb (qc 0) qd) (qJ (zJ)))) (qL (qat (qr (qi a.h_9 (m2 hr) (qb (qc 1) (qb (zy p.gb (qb (qX hr (qc 0) qg) qd)) qd))))) (zg))
theorem b_13 (hr:Rm k A s f c "need_part" 34):Bdy P w K mg base n F f c A outer s H E ["web","thing"] "need_part" 34 c_13.body :=
 qf (z_if (ze (q8 (qi a.h_12 (m2 hr) (qb (qc 0) (qb (qc 1) qd))))) (qf (qaX) qj) qj) qj
theorem qkk (hr:Rm k A s f c "need_part" 34):BdyX P w K mg base n F f c A outer s H E ["web","thing"] "need_part" 34 c_13.body :=
 qL (x_if (qke (qkd (yO isDef a.x_12 (m2 hr) (qb (qc 0) (qb (qc 1) qd)) (qJ (qJ (zJ)))))) (qL (qaV isDef (qcs kb p.x_NoPart p.ei_NoPart) vG rfl vG (qb js qd) (λ_ _=>⟨_,rfl⟩) (by decide)) (zg)) (zg)) (zg)
theorem b_14 (hr:Rm k A s f c "ties_within" 35):Bdy P w K mg base n F f c A outer s H E ["web","part"] "ties_within" 35 c_14.body :=
 qf (qr (k_lc false [1] ["part"] ["tie"] (q9 (qX hr (qc 0) qg)) (λ_ _ _ _ _=>qu 1) (λ_ _ _ _ _=>jV (q8 (jW [0] ["part"] ["place"] hr p.gb rfl tab (q9 (qX hr (qc 1) qg)) (λ_ _ _ _ _ _ _ _=>qu 1) (λ_ _ _ _ _ _ _ _=>zf) (λ_ _ _ _ _ _ _ _=>qbJ .inn (qV hr) (qc 1) (qc 0)))) zf) (λ_ _ _ _ _=>qc 1))) qj
theorem b_15 (hr:Rm k A s f c "weight" 36):Bdy P w K mg base n F f c A outer s H E ["web","part"] "weight" 36 c_15.body :=
 qf (yr (qi a.h_13 (m2 hr) (qb (qc 0) (qb (qc 1) qd)))) (qf (qau (qr (jl [] [] ["places","heavy"] hr p.gb rfl tab (q9 (qi a.h_14 (m2 hr) (qb (qc 0) (qb (qc 1) qd)))) (λ_ _ _ _ _ _ _ _=>yE (qO (qu 0) (qO (qu 1) yD))) (λ_ _ _ _ _ _ _ _=>zf) (λ_ _ _ _ _ _ _ _=>qc 1)))) qj)
theorem qkl (hr:Rm k A s f c "weight" 36):BdyX P w K mg base n F f c A outer s H E ["web","part"] "weight" 36 c_15.body :=
 qL (x_expr (yO isDef a.x_13 (m2 hr) (qb (qc 0) (qb (qc 1) qd)) (qJ (qJ (zJ))))) (qL (qat (qr (jl [] [] ["places","heavy"] hr p.gb rfl tab (q9 (qi a.h_14 (m2 hr) (qb (qc 0) (qb (qc 1) qd)))) (λ_ _ _ _ _ _ _ _=>yE (qO (qu 0) (qO (qu 1) yD))) (λ_ _ _ _ _ _ _ _=>zf) (λ_ _ _ _ _ _ _ _=>qc 1)))) (zg))
theorem b_16 (hr:Rm k A s f c "cost" 37):Bdy P w K mg base n F f c A outer s H E ["web","part"] "cost" 37 c_16.body :=
 qf (yr (qi a.h_13 (m2 hr) (qb (qc 0) (qb (qc 1) qd)))) (qf (qau (qr (jl [0] ["web"] ["place"] hr p.gb rfl tab (q9 (qc 1)) (λ_ _ _ _ _ _ _ _=>qu 1) (λ_ _ _ _ _ _ _ _=>zf) (λ_ _ _ _ _ _ _ _=>qX (qV hr) (qX (qV hr) (qc 0) qg) (qc 1))))) qj)
theorem qkm (hr:Rm k A s f c "cost" 37):BdyX P w K mg base n F f c A outer s H E ["web","part"] "cost" 37 c_16.body :=
 qL (x_expr (yO isDef a.x_13 (m2 hr) (qb (qc 0) (qb (qc 1) qd)) (qJ (qJ (zJ))))) (qL (qat (qr (jl [0] ["web"] ["place"] hr p.gb rfl tab (q9 (qc 1)) (λ_ _ _ _ _ _ _ _=>qu 1) (λ_ _ _ _ _ _ _ _=>zf) (λ_ _ _ _ _ _ _ _=>qX (qV hr) (qX (qV hr) (qc 0) qg) (qc 1))))) (zg))
theorem b_17 (hr:Rm k A s f c "share" 38):Bdy P w K mg base n F f c A outer s H E ["web","part"] "share" 38 c_17.body :=
 qf (qr (qi a.h_3 (m2 hr) (qb (qi a.h_15 (m2 hr) (qb (qc 0) (qb (qc 1) qd))) (qb (qi a.h_16 (m2 hr) (qb (qc 0) (qb (qc 1) qd))) qd)))) qj
theorem qkn (hr:Rm k A s f c "share" 38):BdyX P w K mg base n F f c A outer s H E ["web","part"] "share" 38 c_17.body :=
 qL (x_ret (qg2 isDef a.x_3 (m2 hr) (qc7 (yO isDef a.x_15 (m2 hr) (qb (qc 0) (qb (qc 1) qd)) (qJ (qJ (zJ)))) (qc7 (yO isDef a.x_16 (m2 hr) (qb (qc 0) (qb (qc 1) qd)) (qJ (qJ (zJ)))) (qiV))))) (zg)
theorem b_18 (hr:Rm k A s f c "degree" 39):Bdy P w K mg base n F f c A outer s H E ["web","part","place"] "degree" 39 c_18.body :=
 qf (yr (qi a.h_13 (m2 hr) (qb (qc 0) (qb (qc 1) qd)))) (qf (z_if (qhE (Qpt (w_or (ze (q8 (qi a.h_0 (m2 hr) (qb (qc 2) qd)))) (yX (zx .nin hr (qc 2) (qc 1)))))) (qf (qaX) qj) qj) (qf (qau (qr (jl [2] ["place"] ["places","heavy"] hr p.gb rfl tab (q9 (qi a.h_14 (m2 hr) (qb (qc 0) (qb (qc 1) qd)))) (λ_ _ _ _ _ _ _ _=>yE (qO (qu 1) (qO (qu 2) yD))) (λ_ _ _ _ _ _ _ _=>jV (zx .inn (qV hr) (qc 0) (qc 1)) zf) (λ_ _ _ _ _ _ _ _=>qc 2)))) qj))
theorem qko (hr:Rm k A s f c "degree" 39):BdyX P w K mg base n F f c A outer s H E ["web","part","place"] "degree" 39 c_18.body :=
 qL (x_expr (yO isDef a.x_13 (m2 hr) (qb (qc 0) (qb (qc 1) qd)) (qJ (qJ (zJ))))) (qL (x_if (qfn (Qpt (w_or (ze (q8 (qi a.h_0 (m2 hr) (qb (qc 2) qd)))) (yX (zx .nin hr (qc 2) (qc 1)))))) (qL (qaV isDef (qcs kb p.x_NoPart p.ei_NoPart) vG rfl vG (qb js qd) (λ_ _=>⟨_,rfl⟩) (by decide)) (zg)) (zg)) (qL (qat (qr (jl [2] ["place"] ["places","heavy"] hr p.gb rfl tab (q9 (qi a.h_14 (m2 hr) (qb (qc 0) (qb (qc 1) qd)))) (λ_ _ _ _ _ _ _ _=>yE (qO (qu 1) (qO (qu 2) yD))) (λ_ _ _ _ _ _ _ _=>jV (zx .inn (qV hr) (qc 0) (qc 1)) zf) (λ_ _ _ _ _ _ _ _=>qc 2)))) (zg)))
theorem b_19 (hr:Rm k A s f c "_law_mixed" 41):Bdy P w K mg base n F f c A outer s H E ["_law_cell"] "_law_mixed" 41 c_19.body :=
 qf (qr (qm .mod (qm .mul (qm .mod (qc 0) (qm .pow qg qg)) qg) (qm .pow qg qg))) qj
theorem b_20 (hr:Rm k A s f c "_law_pack" 42):Bdy P w K mg base n F f c A outer s H E ["_law_script","_law_k","_law_found","_law_at","_law_cell"] "_law_pack" 42 c_20.body :=
 qf (qE 2 qg) (qf (yF (q9 (qP false (qb (qm .add (qc 1) qg) (qb (qc 1) qd)))) (qu 3) (qf (qE 4 (qX hr (qm .add (jU (qc 0) (k_os (qc 3)) (k_os (qm .add (qc 3) qg))) (qP false (qb (qm .add (qm .add (qm .mul qg (qc 3)) qg) (qm .mul qg (qX hr (qm .add (qc 0) (qP false (qb qg qd))) qg))) qd))) qg)) (qf (qE 2 (qm .add (qm .mul (qc 2) (qm .pow qg qg)) (qi a.h_19 (m2 hr) (qb (qc 4) qd)))) qj))) (qf (qr (qP true (qb (qc 2) qd))) qj))
theorem b_21 (hr:Rm k A s f c "_law_take" 43):Bdy P w K mg base n F f c A outer s H E ["_law_pack_here","_law_size","_law_digit"] "_law_take" 43 c_21.body :=
 qf (qbK (qfh p.gb (qb (qX hr (qc 0) qg) (qb (qc 1) qd))) (yE (qO (qhz hr (qc 0) qg) (qO (qu 2) yD)))) (qf (qr (qc 2)) qj)
theorem b_22 (hr:Rm k A s f c "_law_places" 44):Bdy P w K mg base n F f c A outer s H E ["_law_pack_here","_law_many","_law_size","_law_left","_law_found"] "_law_places" 44 c_22.body :=
 qf (qE 2 (qX hr (qP false (qb qg (qb qg (qb qg (qb qg (qb qg (qb qg (qb qg (qb qg qd))))))))) (qi a.h_21 (m2 hr) (qb (qc 0) (qb qg qd))))) (qf (qE 3 (qiH true p.gb (qb (qc 1) qd))) (qf (qaS 4 false [3,0] ["_law_left","_law_pack_here"] ["_law_turn"] (ju p.gb (qb (qhB p.gb (qb (qc 2) (qb (qc 1) qd))) qd)) (λ_ _ _ _ _=>qu 2) (λ_ _ _ _ _=>zf) (λ_ _ _ _ _=>qj5 (qc 0) (qi a.h_21 (m2 hr) (qb (qc 1) (qb (zy p.gb (qb (qc 0) qd)) qd))))) (qf (qr (jB p.gb (qb (qbL false p.gb (qb (qc 4) qd)) qd))) qj)))
theorem b_23 (hr:Rm k A s f c "_law_web" 45):Bdy P w K mg base n F f c A outer s H E ["_law_pack_here","_law_most","_law_ties","_law_many","_law_costs","_law_known","_law_turn","_law_some"] "_law_web" 45 c_23.body :=
 qf (qE 3 (qm .add qg (qi a.h_21 (m2 hr) (qb (qc 0) (qb (qc 1) qd))))) (qf (qE 4 (qm .mul (qP false (qb qg qd)) (qc 3))) (qf (z_if (zx .eq hr (qi a.h_21 (m2 hr) (qb (qc 0) (qb qg qd))) qg) (qf (qaS 4 false [0] ["_law_pack_here"] ["_law_place"] (ju p.gb (qb (qc 3) qd)) (λ_ _ _ _ _=>qu 1) (λ_ _ _ _ _=>zf) (λ_ _ _ _ _=>qm .add qg (qi a.h_21 (m2 hr) (qb (qc 0) (qb qg qd))))) qj) qj) (qf (qE 5 (qc3 true)) (qf (yF (ju p.gb (qb (qi a.h_21 (m2 hr) (qb (qc 0) (qb (qm .add (qc 2) qg) qd))) qd)) (qu 6) (qf (qE 7 (qi a.h_22 (m2 hr) (qb (qc 0) (qb (qc 3) qd)))) (qf (qbK (qm .add qg (qi a.h_21 (m2 hr) (qb (qc 0) (qb qg qd)))) (qhz hr (qc 5) (qc 7))) qj))) (qf (qr (qp (qb (jB p.gb (qb (qc 4) qd)) (qb (jB p.gb (qb (k_lc false [5] ["_law_known"] ["_law_some"] (q9 (qbL false p.gb (qb (qc 5) qd))) (λ_ _ _ _ _=>qu 1) (λ_ _ _ _ _=>zf) (λ_ _ _ _ _=>qp (qb (qc 1) (qb (qX hr (qc 0) (qc 1)) qd)))) qd)) qd)))) qj)))))
theorem b_24 (hr:Rm k A s f c "_law_part" 46):Bdy P w K mg base n F f c A outer s H E ["_law_pack_here","_law_many","_law_number"] "_law_part" 46 c_24.body :=
 qf (qE 2 (qm .add qg (qi a.h_21 (m2 hr) (qb (qc 0) (qb (qm .sub (qm .shl qg (qc 1)) qg) qd))))) (qf (qr (jB p.gb (qb (k_lc false [2] ["_law_number"] ["_law_place"] (ju p.gb (qb (qc 1) qd)) (λ_ _ _ _ _=>qu 1) (λ_ _ _ _ _=>jV (zx .eq hr (qm .band (qm .shr (qc 0) (qc 1)) qg) qg) zf) (λ_ _ _ _ _=>qc 1)) qd))) qj)
theorem b_25 (hr:Rm k A s f c "_law_sort" 47):Bdy P w K mg base n F f c A outer s H E ["_law_e","_law_sorts"] "_law_sort" 47 c_25.body :=
 qf (qE 1 (qP false (qb (yg [(49,false),(37,false)] p.gb p.x_NoText (qo ⟨p.ek_NoPart,p.ki_NoPart_NoText⟩ (qo ⟨p.ek_NoWeb,p.ki_NoWeb_NoText⟩ (zh))) (qc 0)) (qb (yg [(49,false),(37,true)] p.gb p.x_NoWeb (qo ⟨p.ek_NoPart,p.ki_NoPart_NoWeb⟩ (qo ⟨p.ek_NoWeb,p.ki_NoWeb_NoWeb⟩ (zh))) (qc 0)) (qb (yg [(49,true),(37,false)] p.gb p.x_NoPart (qo ⟨p.ek_NoPart,p.ki_NoPart_NoPart⟩ (qo ⟨p.ek_NoWeb,p.ki_NoWeb_NoPart⟩ (zh))) (qc 0)) (qb (yg [(49,false),(37,false)] p.gb p.x_NoSize (qo ⟨p.ek_NoPart,p.ki_NoPart_NoSize⟩ (qo ⟨p.ek_NoWeb,p.ki_NoWeb_NoSize⟩ (zh))) (qc 0)) qd)))))) (qf (qE 1 (qm .add (qc 1) (qP false (qb (yg [(49,false),(37,false)] p.gb p.x_NoLaying (qo ⟨p.ek_NoPart,p.ki_NoPart_NoLaying⟩ (qo ⟨p.ek_NoWeb,p.ki_NoWeb_NoLaying⟩ (zh))) (qc 0)) (qb (yg [(49,false),(37,false)] p.gb p.x_NoMeasure (qo ⟨p.ek_NoPart,p.ki_NoPart_NoMeasure⟩ (qo ⟨p.ek_NoWeb,p.ki_NoWeb_NoMeasure⟩ (zh))) (qc 0)) (qb (yg [(49,false),(37,false)] p.gb p.x_NoRoad (qo ⟨p.ek_NoPart,p.ki_NoPart_NoRoad⟩ (qo ⟨p.ek_NoWeb,p.ki_NoWeb_NoRoad⟩ (zh))) (qc 0)) qd)))))) (qf (qE 1 (qm .add (qc 1) (qP false (qb (yg [(49,false),(37,false)] p.gb p.x_NoArrows (qo ⟨p.ek_NoPart,p.ki_NoPart_NoArrows⟩ (qo ⟨p.ek_NoWeb,p.ki_NoWeb_NoArrows⟩ (zh))) (qc 0)) qd)))) (qf (qE 1 (qm .add (qc 1) (qP false (qb (yg [(49,false),(37,false)] p.gb p.x_NoThread (qo ⟨p.ek_NoPart,p.ki_NoPart_NoThread⟩ (qo ⟨p.ek_NoWeb,p.ki_NoWeb_NoThread⟩ (zh))) (qc 0)) (qb (yg [(49,false),(37,false)] p.gb p.x_NoNumber (qo ⟨p.ek_NoPart,p.ki_NoPart_NoNumber⟩ (qo ⟨p.ek_NoWeb,p.ki_NoWeb_NoNumber⟩ (zh))) (qc 0)) (qb (yg [(49,false),(37,false)] p.gb p.x_NoCall (qo ⟨p.ek_NoPart,p.ki_NoPart_NoCall⟩ (qo ⟨p.ek_NoWeb,p.ki_NoWeb_NoCall⟩ (zh))) (qc 0)) (qb (yg [(49,false),(37,false)] p.gb p.x_NoKept (qo ⟨p.ek_NoPart,p.ki_NoPart_NoKept⟩ (qo ⟨p.ek_NoWeb,p.ki_NoWeb_NoKept⟩ (zh))) (qc 0)) qd))))))) (qf (z_if (Qpt (w_or (ze (q8 (qiS [(49,true),(37,true)] p.gb p.x_ValueError (by decide +kernel) (qo ⟨p.ek_NoPart,p.ki_NoPart_ValueError⟩ (qo ⟨p.ek_NoWeb,p.ki_NoWeb_ValueError⟩ (zh))) (qc 0)))) (yX (zx .ne hr (qiU p.gb (qb (qc 1) qd)) qg)))) (qf (qr zQ) qj) qj) (qf (qr (qkg (qc 1))) qj)))))
theorem b_26 (hr:Rm k A s f c "_law_refused" 48):Bdy P w K mg base n F f c A outer s H E ["_law_ask","_law_web_here","_law_part_here","_law_place","_law_sort_here","_law_caught","_law_e"] "_law_refused" 48 c_26.body :=
 qf (qE 5 zQ) (qf (qkf (t:=[(49,true),(37,true)]) 6 p.x_WebError (jZ kb p.er_WebError) (qkh (qo (λ_=>⟨_,jZ kb p.er_NoPart,by decide +kernel⟩) (qo (λ_=>⟨_,jZ kb p.er_NoWeb,by decide +kernel⟩) (zh)))) (j0 (y_if (zx .eq hr (qc 0) qg) (j0 (qaW a.x_15 (m2 hr) (qb (qc 1) (qb (qc 2) qd)) (qJ (qJ (zJ))))) (j0 (y_if (zx .eq hr (qc 0) qg) (j0 (qaW a.x_16 (m2 hr) (qb (qc 1) (qb (qc 2) qd)) (qJ (qJ (zJ))))) (j0 (y_if (zx .eq hr (qc 0) qg) (j0 (qaW a.x_17 (m2 hr) (qb (qc 1) (qb (qc 2) qd)) (qJ (qJ (zJ))))) (j0 (qaW a.x_18 (m2 hr) (qb (qc 1) (qb (qc 2) (qb (qc 3) qd))) (qJ (qJ (qJ (zJ)))))))))))) (λ_ _ _=>qf (qE 5 (qc 6)) qj)) (qf (qr (jS (qbJ .isn hr (qc 5) zQ) (yN (qbJ .eq hr (qi a.h_25 (m2 hr) (qb (qc 5) qd)) (qc 4))))) qj))
theorem b_27 (hr:Rm k A s f c "_law_no_webs" 49):Bdy P w K mg base n F f c A outer s H E ["_law_pack_here","_law_web_here","_law_costs","_law_ties","_law_at","_law_found","_law_odd","_law_more","_law_tie"] "_law_no_webs" 49 c_27.body :=
 qf (qbK (qc 1) (yE (qO (qu 2) (qO (qu 3) yD)))) (qf (qE 4 (qi a.h_21 (m2 hr) (qb (qc 0) (qb (zy p.gb (qb (qc 2) qd)) qd)))) (qf (qE 5 (qP true (qb zQ (qb qg (qb qN (qb js (qb (qp qd) (qb (qP false qd) (qb (qc3 false) (qb (qc 2) (qb (qc 3) (qb (qp (qb (qc 2) qd)) (qb (qaT false p.gb (qb (qc 1) qd)) (qb (qp (qb (qc 2) (qb (qc 3) (qb (qp qd) qd)))) qd)))))))))))))) (qf (qE 5 (qiG .add (qc 5) (qP false (qb (qp (qb (qaT false p.gb (qb (qc 2) qd)) (qb (qc 3) qd))) (qb (qp (qb (qc 2) (qb (qaT false p.gb (qb (qc 3) qd)) qd))) qd))))) (qf (yF (q9 (qP false (qb qg (qb (qbI qg) (qb qg (qb qN (qb zQ (qb js (qb (qp (qb qg qd)) qd))))))))) (qu 6) (qf (yr (qc4 (qc 5) (qp (qb (qm .add (qm .add (jU (qc 2) (k_on) (k_os (qc 4))) (qp (qb (qc 6) qd))) (jU (qc 2) (k_os (qm .add (qc 4) qg)) (k_on))) (qb (qc 3) qd))))) qj)) (qf (qE 7 (zy p.gb (qb (qc 2) qd))) (qf (qE 3 (qP false (qb (qp (qb (qp (qb (qc 7) qd)) (qb qg qd))) (qb (qp (qb (qp (qb qg qd)) (qb qg qd))) (qb (qp (qb (qp (qb qg qd)) (qb (qm .add (qm .pow qg qg) qg) qd))) (qb (qp (qb (qp (qb qg (qb qg qd))) (qb qg qd))) (qb (qp (qb (qp qd) (qb qg qd))) (qb (qp (qb (qP false (qb qg qd)) (qb qg qd))) (qb (qp (qb (qp (qb qg qd)) (qb qN qd))) qd))))))))) (qf (qE 3 (qm .add (qc 3) (qP false (qb (qp (qb (qp (qb qg qd)) qd)) (qb (qp (qb (qp (qb (qbI qg) qd)) (qb qg qd))) (qb zQ qd)))))) (qf (yF (q9 (qc 3)) (qu 8) (qf (yr (qc4 (qc 5) (qp (qb (qc 2) (qb (qp (qb (qc 8) qd)) qd))))) qj)) (qf (qr (qm .add (qc 5) (qP false (qb (qp (qb (qc 2) (qb (qp (qb (qp (qb (qp (qb qg qd)) (qb qg qd))) (qb (qp (qb (qp (qb qg qd)) (qb qg qd))) qd))) qd))) (qb (qp (qb (qm .mul (qc 2) qg) (qb (qp qd) qd))) qd))))) qj)))))))))
theorem b_28 (hr:Rm k A s f c "_law_no_parts" 50):Bdy P w K mg base n F f c A outer s H E ["_law_pack_here","_law_part_here","_law_many","_law_at","_law_found","_law_odd"] "_law_no_parts" 50 c_28.body :=
 qf (qE 3 (qi a.h_21 (m2 hr) (qb (qc 0) (qb (zy p.gb (qb (qc 1) qd)) qd)))) (qf (qE 4 (qP true (qb (qp qd) (qb zQ (qb (qP false qd) (qb (qaT false p.gb (qb (qc 1) qd)) (qb qg (qb qN (qb js (qb (qc3 false) (qb (qp (qb (qc 1) qd)) (qb (qm .add (qc 1) (jU (qc 1) (k_os (qbI qg)) (k_on))) (qb (qiI p.gb (qb (qm .add (qc 2) qg) qd)) qd))))))))))))) (qf (yF (q9 (qP false (qb (qc 2) (qb (qbI qg) (qb qN (qb zQ (qb js (qb (qp (qb qg qd)) (qb (qP false (qb qg qd)) qd))))))))) (qu 5) (qf (yr (qc4 (qc 4) (qm .add (qm .add (jU (qc 1) (k_on) (k_os (qc 3))) (qp (qb (qc 5) qd))) (jU (qc 1) (k_os (qm .add (qc 3) qg)) (k_on))))) qj)) (qf (z_if (zx .gt hr (zy p.gb (qb (qc 1) qd)) qg) (qf (yr (qc4 (qc 4) (qj6 (qc 1)))) qj) qj) (qf (qr (qc 4)) qj))))
theorem b_29 (hr:Rm k A s f c "_law_right" 51):Bdy P w K mg base n F f c A outer s H E ["_law_pack_here","_law_web_here","_law_part_here","_law_many","_law_odd_parts","_law_odd","_law_ask","_law_both","_law_out"] "_law_right" 51 c_29.body :=
 qf (qE 3 (zy p.gb (qb (qX hr (qc 1) qg) qd))) (qf (qE 4 (qi a.h_28 (m2 hr) (qb (qc 0) (qb (qc 2) (qb (qc 3) qd))))) (qf (yF (q9 (qi a.h_27 (m2 hr) (qb (qc 0) (qb (qc 1) qd)))) (qu 5) (qf (yF (ju p.gb (qb qg qd)) (qu 6) (qf (qE 7 (qX hr (qc 4) (qi a.h_21 (m2 hr) (qb (qc 0) (qb qg qd))))) (qf (z_if (Qpt (w_or (ze (q8 (qi a.h_26 (m2 hr) (qb (qc 6) (qb (qc 5) (qb (qc 2) (qb (qX hr (qc 2) qg) (qb qg qd)))))))) (yX (ze (q8 (qi a.h_26 (m2 hr) (qb (qc 6) (qb (qc 5) (qb (qc 7) (qb zQ (qb qg qd))))))))))) (qf (qr qN) qj) qj) qj))) qj)) (qf (yF (q9 (qc 4)) (qu 5) (qf (z_if (ze (q8 (qj9 p.gb (qb (k_lc false [1,5] ["_law_web_here","_law_odd"] ["_law_ask"] (ju p.gb (qb qg qd)) (λ_ _ _ _ _=>qu 2) (λ_ _ _ _ _=>zf) (λ_ _ _ _ _=>qi a.h_26 (m2 hr) (qb (qc 2) (qb (qc 0) (qb (qc 1) (qb qg (qb qg qd))))))) qd)))) (qf (qr qN) qj) qj) qj)) (qf (qaS 8 false [2] ["_law_part_here"] ["_law_place"] (ju p.gb (qb (qm .add (qc 3) qg) qd)) (λ_ _ _ _ _=>qu 1) (λ_ _ _ _ _=>jV (zx .nin hr (qc 1) (qc 0)) zf) (λ_ _ _ _ _=>qc 1)) (qf (yF (q9 (qm .add (qc 8) (qP false (qb (qbI qg) (qb qg (qb zQ (qb js (qb (qp (qb (qX hr (qc 2) qg) qd)) (qb (qP false (qb (qX hr (qc 2) qg) qd)) (qb (qc3 false) (qb qN (qb qN (qb (qp qd) qd))))))))))))) (qu 5) (qf (z_if (ze (q8 (qi a.h_26 (m2 hr) (qb qg (qb (qc 1) (qb (qc 2) (qb (qc 5) (qb qg qd)))))))) (qf (qr qN) qj) qj) qj)) (qf (qr qN) qj))))))
theorem b_30 (hr:Rm k A s f c "law" 52):Bdy P w K mg base n F f c A outer s H E ["_law_script","_law_k","_law_pack_here","_law_web_here","_law_part_here","_law_ahead"] "law" 52 qbO.body :=
 qf (yF (ju p.gb (qb qg (qb (qj8 p.gb (qb qg (qb (qhB p.gb (qb (zy p.gb (qb (qc 0) qd)) (qb qg qd))) qd))) (qb qg qd)))) (qu 1) (qf (qE 2 (qi a.h_20 (m2 hr) (qb (qc 0) (qb (qc 1) qd)))) (qf (qE 3 (qi a.h_23 (m2 hr) (qb (qc 2) (qb qg (qb qg qd))))) (qf (qE 4 (qi a.h_24 (m2 hr) (qb (qc 2) (qb (zy p.gb (qb (qX hr (qc 3) qg) qd)) qd)))) (qf (qE 5 (qP false (qb (qi a.h_15 (m2 hr) (qb (qc 3) (qb (qc 4) qd))) (qb (qi a.h_16 (m2 hr) (qb (qc 3) (qb (qc 4) qd))) (qb (qi a.h_17 (m2 hr) (qb (qc 3) (qb (qc 4) qd))) (qb (qi a.h_18 (m2 hr) (qb (qc 3) (qb (qc 4) (qb (qX hr (qc 4) qg) qd)))) qd)))))) (qf (z_if (ze (q8 (qi a.h_29 (m2 hr) (qb (qi a.h_20 (m2 hr) (qb (qc 0) (qb (qm .add (qc 1) qg) qd))) (qb (qc 3) (qb (qc 4) qd)))))) (qf (qr qN) qj) qj) (qf (z_if (zx .ne hr (qP false (qb (qi a.h_15 (m2 hr) (qb (qc 3) (qb (qc 4) qd))) (qb (qi a.h_16 (m2 hr) (qb (qc 3) (qb (qc 4) qd))) (qb (qi a.h_17 (m2 hr) (qb (qc 3) (qb (qc 4) qd))) (qb (qi a.h_18 (m2 hr) (qb (qc 3) (qb (qc 4) (qb (qX hr (qc 4) qg) qd)))) qd))))) (qc 5)) (qf (qr qN) qj) qj) qj))))))) (qf (qr qN) qj)
end
section
variable {P:Program} {w:World} {K:PySem.W.Frag} {mg:Str→Option Value} {base:Heap} {k N d:Nat} (p:Pre K mg) (kb:K.In base) (a:All P w K mg base k (run prg N d)) {f:Addr} {fd:FuncData} {c t:Addr}
include p kb a
theorem o_0 (U:FunT K "is_whole" (top 15) f fd c t):FnOk P w K mg base CX0 (k+3) f fd ["thing"] (SpD 1 (run prg N (d+1) 0)):=qH (G:=run prg N (d+1)) (i:=0) U sc_0 rfl rfl (by decide) rfl λA outer s H E hr=>b_0 p kb a U.tab hr
theorem o_1 (U:FunT K "is_whole_within" (top 16) f fd c t):FnOk P w K mg base CX0 (k+3) f fd ["thing","least","most"] (SpD 3 (run prg N (d+1) 1)):=qH (G:=run prg N (d+1)) (i:=1) U sc_1 rfl rfl (by decide) rfl λA outer s H E hr=>b_1 p kb a U.tab hr
theorem o_2 (U:FunT K "common_divisor" (top 17) f fd c t):FnOk P w K mg base CX0 (k+3) f fd ["one","other"] (SpD 2 (run prg N (d+1) 2)):=qH (G:=run prg N (d+1)) (i:=2) U sc_2 rfl rfl (by decide) rfl λA outer s H E hr=>b_2 p kb a U.tab hr
theorem o_3 (U:FunT K "lowest" (top 18) f fd c t):FnOk P w K mg base CX0 (k+3) f fd ["top","bottom"] (SpD 2 (run prg N (d+1) 3)):=qH (G:=run prg N (d+1)) (i:=3) U sc_3 rfl rfl (by decide) rfl λA outer s H E hr=>b_3 p kb a U.tab hr
theorem ox_3 (U:FunT K "lowest" (top 18) f fd c t):FnOk P w K mg base (CXR P w) (k+3) f fd ["top","bottom"] (SpX 2 (run prg N (d+1) 3)):=yt (G:=run prg N (d+1)) (i:=3) U sc_3 rfl rfl (by decide) rfl λA outer s H E hr=>bx_3 p kb a U.tab hr
theorem o_4 (U:FunT K "is_web" (top 25) f fd c t):FnOk P w K mg base CX0 (k+3) f fd ["thing"] (SpD 1 (run prg N (d+1) 4)):=qH (G:=run prg N (d+1)) (i:=4) U sc_4 rfl rfl (by decide) rfl λA outer s H E hr=>b_4 p kb a U.tab hr
theorem o_5 (U:FunT K "are_costs" (top 26) f fd c t):FnOk P w K mg base CX0 (k+3) f fd ["thing"] (SpD 1 (run prg N (d+1) 5)):=qH (G:=run prg N (d+1)) (i:=5) U sc_5 rfl rfl (by decide) rfl λA outer s H E hr=>b_5 p kb a U.tab hr
theorem o_6 (U:FunT K "are_ties" (top 27) f fd c t):FnOk P w K mg base CX0 (k+3) f fd ["thing","many"] (SpD 2 (run prg N (d+1) 6)):=qH (G:=run prg N (d+1)) (i:=6) U sc_6 rfl rfl (by decide) rfl λA outer s H E hr=>b_6 p kb a U.tab hr
theorem o_7 (U:FunT K "is_tie" (top 28) f fd c t):FnOk P w K mg base CX0 (k+3) f fd ["thing","many"] (SpD 2 (run prg N (d+1) 7)):=qH (G:=run prg N (d+1)) (i:=7) U sc_7 rfl rfl (by decide) rfl λA outer s H E hr=>b_7 p kb a U.tab hr
theorem o_8 (U:FunT K "are_tied_places" (top 29) f fd c t):FnOk P w K mg base CX0 (k+3) f fd ["thing","many"] (SpD 2 (run prg N (d+1) 8)):=qH (G:=run prg N (d+1)) (i:=8) U sc_8 rfl rfl (by decide) rfl λA outer s H E hr=>b_8 p kb a U.tab hr
theorem o_9 (U:FunT K "are_places" (top 30) f fd c t):FnOk P w K mg base CX0 (k+3) f fd ["thing","many"] (SpD 2 (run prg N (d+1) 9)):=qH (G:=run prg N (d+1)) (i:=9) U sc_9 rfl rfl (by decide) rfl λA outer s H E hr=>b_9 p kb a U.tab hr
theorem o_10 (U:FunT K "is_rising" (top 31) f fd c t):FnOk P w K mg base CX0 (k+3) f fd ["things"] (SpD 1 (run prg N (d+1) 10)):=qH (G:=run prg N (d+1)) (i:=10) U sc_10 rfl rfl (by decide) rfl λA outer s H E hr=>b_10 p kb a U.tab hr
theorem o_11 (U:FunT K "need_web" (top 32) f fd c t):FnOk P w K mg base CX0 (k+3) f fd ["thing"] (SpD 1 (run prg N (d+1) 11)):=qH (G:=run prg N (d+1)) (i:=11) U sc_11 rfl rfl (by decide) rfl λA outer s H E hr=>b_11 p kb a U.tab hr
theorem qkp (U:FunT K "need_web" (top 32) f fd c t):FnOk P w K mg base (CXR P w) (k+3) f fd ["thing"] (SpX 1 (run prg N (d+1) 11)):=yt (G:=run prg N (d+1)) (i:=11) U sc_11 rfl rfl (by decide) rfl λA outer s H E hr=>qki p kb a U.tab hr
theorem o_12 (U:FunT K "is_part" (top 33) f fd c t):FnOk P w K mg base CX0 (k+3) f fd ["web","thing"] (SpD 2 (run prg N (d+1) 12)):=qH (G:=run prg N (d+1)) (i:=12) U sc_12 rfl rfl (by decide) rfl λA outer s H E hr=>b_12 p kb a U.tab hr
theorem qkq (U:FunT K "is_part" (top 33) f fd c t):FnOk P w K mg base (CXR P w) (k+3) f fd ["web","thing"] (SpX 2 (run prg N (d+1) 12)):=yt (G:=run prg N (d+1)) (i:=12) U sc_12 rfl rfl (by decide) rfl λA outer s H E hr=>qkj p kb a U.tab hr
theorem o_13 (U:FunT K "need_part" (top 34) f fd c t):FnOk P w K mg base CX0 (k+3) f fd ["web","thing"] (SpD 2 (run prg N (d+1) 13)):=qH (G:=run prg N (d+1)) (i:=13) U sc_13 rfl rfl (by decide) rfl λA outer s H E hr=>b_13 p kb a U.tab hr
theorem qkr (U:FunT K "need_part" (top 34) f fd c t):FnOk P w K mg base (CXR P w) (k+3) f fd ["web","thing"] (SpX 2 (run prg N (d+1) 13)):=yt (G:=run prg N (d+1)) (i:=13) U sc_13 rfl rfl (by decide) rfl λA outer s H E hr=>qkk p kb a U.tab hr
theorem o_14 (U:FunT K "ties_within" (top 35) f fd c t):FnOk P w K mg base CX0 (k+3) f fd ["web","part"] (SpD 2 (run prg N (d+1) 14)):=qH (G:=run prg N (d+1)) (i:=14) U sc_14 rfl rfl (by decide) rfl λA outer s H E hr=>b_14 p kb a U.tab hr
theorem o_15 (U:FunT K "weight" (top 36) f fd c t):FnOk P w K mg base CX0 (k+3) f fd ["web","part"] (SpD 2 (run prg N (d+1) 15)):=qH (G:=run prg N (d+1)) (i:=15) U sc_15 rfl rfl (by decide) rfl λA outer s H E hr=>b_15 p kb a U.tab hr
theorem qks (U:FunT K "weight" (top 36) f fd c t):FnOk P w K mg base (CXR P w) (k+3) f fd ["web","part"] (SpX 2 (run prg N (d+1) 15)):=yt (G:=run prg N (d+1)) (i:=15) U sc_15 rfl rfl (by decide) rfl λA outer s H E hr=>qkl p kb a U.tab hr
theorem o_16 (U:FunT K "cost" (top 37) f fd c t):FnOk P w K mg base CX0 (k+3) f fd ["web","part"] (SpD 2 (run prg N (d+1) 16)):=qH (G:=run prg N (d+1)) (i:=16) U sc_16 rfl rfl (by decide) rfl λA outer s H E hr=>b_16 p kb a U.tab hr
theorem qkt (U:FunT K "cost" (top 37) f fd c t):FnOk P w K mg base (CXR P w) (k+3) f fd ["web","part"] (SpX 2 (run prg N (d+1) 16)):=yt (G:=run prg N (d+1)) (i:=16) U sc_16 rfl rfl (by decide) rfl λA outer s H E hr=>qkm p kb a U.tab hr
theorem o_17 (U:FunT K "share" (top 38) f fd c t):FnOk P w K mg base CX0 (k+3) f fd ["web","part"] (SpD 2 (run prg N (d+1) 17)):=qH (G:=run prg N (d+1)) (i:=17) U sc_17 rfl rfl (by decide) rfl λA outer s H E hr=>b_17 p kb a U.tab hr
theorem qku (U:FunT K "share" (top 38) f fd c t):FnOk P w K mg base (CXR P w) (k+3) f fd ["web","part"] (SpX 2 (run prg N (d+1) 17)):=yt (G:=run prg N (d+1)) (i:=17) U sc_17 rfl rfl (by decide) rfl λA outer s H E hr=>qkn p kb a U.tab hr
theorem o_18 (U:FunT K "degree" (top 39) f fd c t):FnOk P w K mg base CX0 (k+3) f fd ["web","part","place"] (SpD 3 (run prg N (d+1) 18)):=qH (G:=run prg N (d+1)) (i:=18) U sc_18 rfl rfl (by decide) rfl λA outer s H E hr=>b_18 p kb a U.tab hr
theorem qkv (U:FunT K "degree" (top 39) f fd c t):FnOk P w K mg base (CXR P w) (k+3) f fd ["web","part","place"] (SpX 3 (run prg N (d+1) 18)):=yt (G:=run prg N (d+1)) (i:=18) U sc_18 rfl rfl (by decide) rfl λA outer s H E hr=>qko p kb a U.tab hr
theorem o_19 (U:FunT K "_law_mixed" (top 41) f fd c t):FnOk P w K mg base CX0 (k+3) f fd ["_law_cell"] (SpD 1 (run prg N (d+1) 19)):=qH (G:=run prg N (d+1)) (i:=19) U sc_19 rfl rfl (by decide) rfl λA outer s H E hr=>b_19 p kb a U.tab hr
theorem o_20 (U:FunT K "_law_pack" (top 42) f fd c t):FnOk P w K mg base CX0 (k+3) f fd ["_law_script","_law_k"] (SpD 2 (run prg N (d+1) 20)):=qH (G:=run prg N (d+1)) (i:=20) U sc_20 rfl rfl (by decide) rfl λA outer s H E hr=>b_20 p kb a U.tab hr
theorem o_21 (U:FunT K "_law_take" (top 43) f fd c t):FnOk P w K mg base CX0 (k+3) f fd ["_law_pack_here","_law_size"] (SpD 2 (run prg N (d+1) 21)):=qH (G:=run prg N (d+1)) (i:=21) U sc_21 rfl rfl (by decide) rfl λA outer s H E hr=>b_21 p kb a U.tab hr
theorem o_22 (U:FunT K "_law_places" (top 44) f fd c t):FnOk P w K mg base CX0 (k+3) f fd ["_law_pack_here","_law_many"] (SpD 2 (run prg N (d+1) 22)):=qH (G:=run prg N (d+1)) (i:=22) U sc_22 rfl rfl (by decide) rfl λA outer s H E hr=>b_22 p kb a U.tab hr
theorem o_23 (U:FunT K "_law_web" (top 45) f fd c t):FnOk P w K mg base CX0 (k+3) f fd ["_law_pack_here","_law_most","_law_ties"] (SpD 3 (run prg N (d+1) 23)):=qH (G:=run prg N (d+1)) (i:=23) U sc_23 rfl rfl (by decide) rfl λA outer s H E hr=>b_23 p kb a U.tab hr
theorem o_24 (U:FunT K "_law_part" (top 46) f fd c t):FnOk P w K mg base CX0 (k+3) f fd ["_law_pack_here","_law_many"] (SpD 2 (run prg N (d+1) 24)):=qH (G:=run prg N (d+1)) (i:=24) U sc_24 rfl rfl (by decide) rfl λA outer s H E hr=>b_24 p kb a U.tab hr
theorem o_25 (U:FunT K "_law_sort" (top 47) f fd c t):FnOk P w K mg base CX0 (k+3) f fd ["_law_e"] (SpD 1 (run prg N (d+1) 25)):=qH (G:=run prg N (d+1)) (i:=25) U sc_25 rfl rfl (by decide) rfl λA outer s H E hr=>b_25 p kb a U.tab hr
theorem o_26 (U:FunT K "_law_refused" (top 48) f fd c t):FnOk P w K mg base CX0 (k+3) f fd ["_law_ask","_law_web_here","_law_part_here","_law_place","_law_sort_here"] (SpD 5 (run prg N (d+1) 26)):=qH (G:=run prg N (d+1)) (i:=26) U sc_26 rfl rfl (by decide) rfl λA outer s H E hr=>b_26 p kb a U.tab hr
theorem o_27 (U:FunT K "_law_no_webs" (top 49) f fd c t):FnOk P w K mg base CX0 (k+3) f fd ["_law_pack_here","_law_web_here"] (SpD 2 (run prg N (d+1) 27)):=qH (G:=run prg N (d+1)) (i:=27) U sc_27 rfl rfl (by decide) rfl λA outer s H E hr=>b_27 p kb a U.tab hr
theorem o_28 (U:FunT K "_law_no_parts" (top 50) f fd c t):FnOk P w K mg base CX0 (k+3) f fd ["_law_pack_here","_law_part_here","_law_many"] (SpD 3 (run prg N (d+1) 28)):=qH (G:=run prg N (d+1)) (i:=28) U sc_28 rfl rfl (by decide) rfl λA outer s H E hr=>b_28 p kb a U.tab hr
theorem o_29 (U:FunT K "_law_right" (top 51) f fd c t):FnOk P w K mg base CX0 (k+3) f fd ["_law_pack_here","_law_web_here","_law_part_here"] (SpD 3 (run prg N (d+1) 29)):=qH (G:=run prg N (d+1)) (i:=29) U sc_29 rfl rfl (by decide) rfl λA outer s H E hr=>b_29 p kb a U.tab hr
theorem o_30 (U:FunT K "law" (top 52) f fd c t):FnOk P w K mg base CX0 (k+3) f fd ["_law_script"] (SpD 1 (run prg N (d+1) 30)):=qH (G:=run prg N (d+1)) (i:=30) U sc_30 rfl rfl (by decide) rfl λA outer s H E hr=>b_30 p kb a U.tab hr
theorem qfr:All P w K mg base (k+3) (run prg N (d+1)) where
 h_0:=p.u_0.fn λ_ _ _ _ U=>o_0 p kb a U
 h_1:=p.u_1.fn λ_ _ _ _ U=>o_1 p kb a U
 h_2:=p.u_2.fn λ_ _ _ _ U=>o_2 p kb a U
 h_3:=p.u_3.fn λ_ _ _ _ U=>o_3 p kb a U
 h_4:=p.u_4.fn λ_ _ _ _ U=>o_4 p kb a U
 h_5:=p.u_5.fn λ_ _ _ _ U=>o_5 p kb a U
 h_6:=p.u_6.fn λ_ _ _ _ U=>o_6 p kb a U
 h_7:=p.u_7.fn λ_ _ _ _ U=>o_7 p kb a U
 h_8:=p.u_8.fn λ_ _ _ _ U=>o_8 p kb a U
 h_9:=p.u_9.fn λ_ _ _ _ U=>o_9 p kb a U
 h_10:=p.u_10.fn λ_ _ _ _ U=>o_10 p kb a U
 h_11:=p.u_11.fn λ_ _ _ _ U=>o_11 p kb a U
 h_12:=p.u_12.fn λ_ _ _ _ U=>o_12 p kb a U
 h_13:=p.u_13.fn λ_ _ _ _ U=>o_13 p kb a U
 h_14:=p.u_14.fn λ_ _ _ _ U=>o_14 p kb a U
 h_15:=p.u_15.fn λ_ _ _ _ U=>o_15 p kb a U
 h_16:=p.u_16.fn λ_ _ _ _ U=>o_16 p kb a U
 h_17:=p.u_17.fn λ_ _ _ _ U=>o_17 p kb a U
 h_18:=p.u_18.fn λ_ _ _ _ U=>o_18 p kb a U
 h_19:=p.u_19.fn λ_ _ _ _ U=>o_19 p kb a U
 h_20:=p.u_20.fn λ_ _ _ _ U=>o_20 p kb a U
 h_21:=p.u_21.fn λ_ _ _ _ U=>o_21 p kb a U
 h_22:=p.u_22.fn λ_ _ _ _ U=>o_22 p kb a U
 h_23:=p.u_23.fn λ_ _ _ _ U=>o_23 p kb a U
 h_24:=p.u_24.fn λ_ _ _ _ U=>o_24 p kb a U
 h_25:=p.u_25.fn λ_ _ _ _ U=>o_25 p kb a U
 h_26:=p.u_26.fn λ_ _ _ _ U=>o_26 p kb a U
 h_27:=p.u_27.fn λ_ _ _ _ U=>o_27 p kb a U
 h_28:=p.u_28.fn λ_ _ _ _ U=>o_28 p kb a U
 h_29:=p.u_29.fn λ_ _ _ _ U=>o_29 p kb a U
 h_30:=p.u_30.fn λ_ _ _ _ U=>o_30 p kb a U
 x_3:=R.EX.DefIn.fnX p.u_3 λ_ _ _ _ U=>ox_3 p kb a U
 x_11:=R.EX.DefIn.fnX p.u_11 λ_ _ _ _ U=>qkp p kb a U
 x_12:=R.EX.DefIn.fnX p.u_12 λ_ _ _ _ U=>qkq p kb a U
 x_13:=R.EX.DefIn.fnX p.u_13 λ_ _ _ _ U=>qkr p kb a U
 x_15:=R.EX.DefIn.fnX p.u_15 λ_ _ _ _ U=>qks p kb a U
 x_16:=R.EX.DefIn.fnX p.u_16 λ_ _ _ _ U=>qkt p kb a U
 x_17:=R.EX.DefIn.fnX p.u_17 λ_ _ _ _ U=>qku p kb a U
 x_18:=R.EX.DefIn.fnX p.u_18 λ_ _ _ _ U=>qkv p kb a U
omit kb a
theorem qfs:All P w K mg base 0 (run prg N 0) where
 h_0:=p.u_0.fn λ_ _ _ _ _=>qI (i:=0) rfl
 h_1:=p.u_1.fn λ_ _ _ _ _=>qI (i:=1) rfl
 h_2:=p.u_2.fn λ_ _ _ _ _=>qI (i:=2) rfl
 h_3:=p.u_3.fn λ_ _ _ _ _=>qI (i:=3) rfl
 h_4:=p.u_4.fn λ_ _ _ _ _=>qI (i:=4) rfl
 h_5:=p.u_5.fn λ_ _ _ _ _=>qI (i:=5) rfl
 h_6:=p.u_6.fn λ_ _ _ _ _=>qI (i:=6) rfl
 h_7:=p.u_7.fn λ_ _ _ _ _=>qI (i:=7) rfl
 h_8:=p.u_8.fn λ_ _ _ _ _=>qI (i:=8) rfl
 h_9:=p.u_9.fn λ_ _ _ _ _=>qI (i:=9) rfl
 h_10:=p.u_10.fn λ_ _ _ _ _=>qI (i:=10) rfl
 h_11:=p.u_11.fn λ_ _ _ _ _=>qI (i:=11) rfl
 h_12:=p.u_12.fn λ_ _ _ _ _=>qI (i:=12) rfl
 h_13:=p.u_13.fn λ_ _ _ _ _=>qI (i:=13) rfl
 h_14:=p.u_14.fn λ_ _ _ _ _=>qI (i:=14) rfl
 h_15:=p.u_15.fn λ_ _ _ _ _=>qI (i:=15) rfl
 h_16:=p.u_16.fn λ_ _ _ _ _=>qI (i:=16) rfl
 h_17:=p.u_17.fn λ_ _ _ _ _=>qI (i:=17) rfl
 h_18:=p.u_18.fn λ_ _ _ _ _=>qI (i:=18) rfl
 h_19:=p.u_19.fn λ_ _ _ _ _=>qI (i:=19) rfl
 h_20:=p.u_20.fn λ_ _ _ _ _=>qI (i:=20) rfl
 h_21:=p.u_21.fn λ_ _ _ _ _=>qI (i:=21) rfl
 h_22:=p.u_22.fn λ_ _ _ _ _=>qI (i:=22) rfl
 h_23:=p.u_23.fn λ_ _ _ _ _=>qI (i:=23) rfl
 h_24:=p.u_24.fn λ_ _ _ _ _=>qI (i:=24) rfl
 h_25:=p.u_25.fn λ_ _ _ _ _=>qI (i:=25) rfl
 h_26:=p.u_26.fn λ_ _ _ _ _=>qI (i:=26) rfl
 h_27:=p.u_27.fn λ_ _ _ _ _=>qI (i:=27) rfl
 h_28:=p.u_28.fn λ_ _ _ _ _=>qI (i:=28) rfl
 h_29:=p.u_29.fn λ_ _ _ _ _=>qI (i:=29) rfl
 h_30:=p.u_30.fn λ_ _ _ _ _=>qI (i:=30) rfl
 x_3:=R.EX.DefIn.fnX p.u_3 λ_ _ _ _ _=>yu (i:=3) rfl
 x_11:=R.EX.DefIn.fnX p.u_11 λ_ _ _ _ _=>yu (i:=11) rfl
 x_12:=R.EX.DefIn.fnX p.u_12 λ_ _ _ _ _=>yu (i:=12) rfl
 x_13:=R.EX.DefIn.fnX p.u_13 λ_ _ _ _ _=>yu (i:=13) rfl
 x_15:=R.EX.DefIn.fnX p.u_15 λ_ _ _ _ _=>yu (i:=15) rfl
 x_16:=R.EX.DefIn.fnX p.u_16 λ_ _ _ _ _=>yu (i:=16) rfl
 x_17:=R.EX.DefIn.fnX p.u_17 λ_ _ _ _ _=>yu (i:=17) rfl
 x_18:=R.EX.DefIn.fnX p.u_18 λ_ _ _ _ _=>yu (i:=18) rfl
omit p
theorem qft (p:Pre K mg) (kb:K.In base):∀ d:Nat,All P w K mg base (3*d) (run prg N d)
 | 0=>qfs p
 | d+1=>qfr p kb (qft p kb d)
end
end RP
namespace RP
open R
section
variable {α:Type} {g:α→D}
theorem qaY {n:Nat} {bind:D→En→Sr→Res En} {test:En→Sr→Res Bool} {elt:En→Sr→Res D} {b:α→Bool} {v:α→D} (R:En→Prop) {S:Sr} (hn:S.length=n):∀ (ds:List α) (made:List D) (ρ:En),made.length+ds.length≤PySem.sizeLine→R ρ →
  (∀ d∈ds,∀ (ρ:En) (m:List D),R ρ→∃ ρ1,bind (g d) ρ (S++[.lst m])=.ok ρ1 (S++[.lst m])∧R ρ1∧test ρ1 (S++[.lst m])=.ok (b d) (S++[.lst m])∧(b d=true→elt ρ1 (S++[.lst m])=.ok (v d) (S++[.lst m])∧refsLt 0 (v d)=true)) →
  ∃ ρ',lcLoop n bind test elt (ds.map g) ρ (S++[.lst made])=.ok ρ' (S++[.lst (made++(ds.filter b).map v)])
 | [],made,ρ,_,_,_=>⟨ρ,by simp [lcLoop]⟩
 | d::ds,made,ρ,hl,hR,H=>by
  obtain ⟨ρ1,e1,hR1,e2,e3⟩:=H d wN ρ made hR
  simp only [w5] at hl
  rw [wa]
  unfold lcLoop
  rw [e1,Res.bind_ok,e2,Res.bind_ok]
  cases z:b d with
  | true =>
   obtain ⟨e4,e5⟩:=e3 z
   have ea:appD (S++[.lst made]) (.ref n) (v d)=.ok .non (S++[.lst (made++[v d])]):=by
    subst hn
    have hl':made.length<PySem.sizeLine:=by lia
    simp [appD,e5,hl']
   rw [wJ rfl,e4,Res.bind_ok,ea,Res.bind_ok]
   obtain ⟨ρ',e⟩:=qaY R hn ds (made++[v d]) ρ1 (by simp;lia) hR1 λd' hd=>H d' (wM _ hd)
   exact ⟨ρ',by rw [e];simp [z]⟩
  | false =>
   rw [wK (by simp)]
   obtain ⟨ρ',e⟩:=qaY R hn ds made ρ1 (by lia) hR1 λd' hd=>H d' (wM _ hd)
   exact ⟨ρ',by rw [e];simp [z]⟩
theorem j3 {F:Fs} {fr:List Nat} {nt:Nat} {elt:CE} {tg:CT} {it:CI} {ifs:CBs} {ρ:En} {S S1:Sr} {ds:List D} (xs:List α) (b:α→Bool) (v:α→D) (R:En→Prop) (hI:evI F it ρ S=.ok ds S1) (hd:ds=xs.map g) (h0:R (frE ρ fr nt)) (hl:xs.length≤PySem.sizeLine)
  (H:∀ d∈xs,∀ (ρ:En) (m:List D),R ρ→∃ ρ1,asg F tg (g d) ρ (S1++[.lst m])=.ok ρ1 (S1++[.lst m])∧R ρ1∧tsts F ifs ρ1 (S1++[.lst m])=.ok (b d) (S1++[.lst m])∧(b d=true→ev F elt ρ1 (S1++[.lst m])=.ok (v d) (S1++[.lst m])∧refsLt 0 (v d)=true)) :
  ev F (.lc false fr nt elt tg it ifs) ρ S=.ok (.lst ((xs.filter b).map v)) S1:=by
 obtain ⟨ρ',e⟩:=qaY (n:=S1.length) (bind:=λd ρ S=>asg F tg d ρ S) (test:=λρ S=>tsts F ifs ρ S) (elt:=λρ S=>ev F elt ρ S) R rfl xs [] _ (by simpa using hl) h0 H
 simp only [ev,hI,Res.bind,hd,e,lcEnd]
 simp
theorem qc8 {bind:D→En→Sr→Res En} {test:En→Sr→Res Bool} {elt:En→Sr→Res D} {p:α→Bool} (R:En→Prop) {S:Sr}:∀ (ds:List α) (ρ:En),R ρ →
  (∀ d∈ds,∀ ρ:En,R ρ→∃ ρ1,bind (g d) ρ S=.ok ρ1 S∧R ρ1∧test ρ1 S=.ok true S∧elt ρ1 S=.ok (.bl (p d)) S) →
  genLoop bind test elt (stepG .all) (finG .all) (ds.map g) ρ .non S=.ok (.bl (ds.all p)) S
 | [],ρ,_,_=>by simp [genLoop,finG]
 | d::ds,ρ,hR,H=>by
  obtain ⟨ρ1,e1,hR1,e2,e3⟩:=H d wN ρ hR
  rw [wa]
  unfold genLoop
  rw [e1,Res.bind_ok,e2,Res.bind_ok,wJ rfl,e3,Res.bind_ok]
  cases z:p d with
  | true=>simp only [stepG];rw [qc8 R ds ρ1 hR1 λd' hd=>H d' (wM _ hd)];simp [z]
  | false=>simp [stepG,z]
theorem zB {F:Fs} {fr:List Nat} {nt:Nat} {elt:CE} {tg:CT} {it:CI} {ρ:En} {S S1:Sr} {ds:List D} (xs:List α) (p:α→Bool) (R:En→Prop) (hI:evI F it ρ S=.ok ds S1) (hd:ds=xs.map g) (h0:R (frE ρ fr nt))
  (H:∀ d∈xs,∀ ρ:En,R ρ→∃ ρ1,asg F tg (g d) ρ S1=.ok ρ1 S1∧R ρ1∧ev F elt ρ1 S1=.ok (.bl (p d)) S1) :
  ev F (.gen .all fr nt elt tg it .nil) ρ S=.ok (.bl (xs.all p)) S1:=by
 simp only [ev,hI,Res.bind,hd,startG]
 exact qc8 R xs _ h0 λd hd ρ hR=>let ⟨ρ1,a,b,c⟩:=H d hd ρ hR;⟨ρ1,a,b,rfl,c⟩
theorem qaZ {bind:D→En→Sr→Res En} {test:En→Sr→Res Bool} {elt:En→Sr→Res D} {b:α→Bool} {v:α→Int} (R:En→Prop) {S:Sr}:∀ (ds:List α) (ρ:En) (acc:Int),R ρ →
  (∀ d∈ds,∀ ρ:En,R ρ→∃ ρ1,bind (g d) ρ S=.ok ρ1 S∧R ρ1∧test ρ1 S=.ok (b d) S∧(b d=true→elt ρ1 S=.ok (.int (v d)) S)) →
  genLoop bind test elt (stepG .sum) (finG .sum) (ds.map g) ρ (.int acc) S=.ok (.int (acc+((ds.filter b).map v).sum)) S
 | [],ρ,acc,_,_=>by simp [genLoop,finG]
 | d::ds,ρ,acc,hR,H=>by
  obtain ⟨ρ1,e1,hR1,e2,e3⟩:=H d wN ρ hR
  rw [wa]
  unfold genLoop
  rw [e1,Res.bind_ok,e2,Res.bind_ok]
  cases z:b d with
  | true =>
   rw [wJ rfl,e3 z,Res.bind_ok]
   simp only [stepG]
   rw [qaZ R ds ρ1 _ hR1 λd' hd=>H d' (wM _ hd)]
   simp [z,Int.add_assoc]
  | false =>
   rw [wK (by simp),qaZ R ds ρ1 _ hR1 λd' hd=>H d' (wM _ hd)]
   simp [z]
theorem qa0 {F:Fs} {fr:List Nat} {nt:Nat} {elt:CE} {tg:CT} {it:CI} {ifs:CBs} {ρ:En} {S S1:Sr} {ds:List D} (xs:List α) (b:α→Bool) (v:α→Int) (R:En→Prop) (hI:evI F it ρ S=.ok ds S1) (hd:ds=xs.map g) (h0:R (frE ρ fr nt))
  (H:∀ d∈xs,∀ ρ:En,R ρ→∃ ρ1,asg F tg (g d) ρ S1=.ok ρ1 S1∧R ρ1∧tsts F ifs ρ1 S1=.ok (b d) S1∧(b d=true→ev F elt ρ1 S1=.ok (.int (v d)) S1)) :
  ev F (.gen .sum fr nt elt tg it ifs) ρ S=.ok (.int ((xs.filter b).map v).sum) S1:=by
 simp only [ev,hI,Res.bind,hd,startG]
 rw [qaZ R xs _ 0 h0 H];simp
end
noncomputable abbrev Tie:=List Int × Int
noncomputable def tieD (t:Tie):D:=.tup [tupI t.1,.int t.2]
structure Wb where
 costs:List Int
 ties:List Tie
noncomputable def webD (w:Wb):D:=.tup [tupI w.costs,.tup (w.ties.map tieD)]
structure PlOk (n:Nat) (p:List Int):Prop where
 ne:p≠[]
 rng:∀ x∈p,0≤x∧x<n
 up:p.Pairwise (· < ·)
structure WbOk (w:Wb):Prop where
 c1:1≤w.costs.length
 c2:w.costs.length≤12
 c3:∀ c∈w.costs,1≤c∧c≤100
 t1:w.ties.length≤30
 t2:∀ t∈w.ties,PlOk w.costs.length t.1∧t.1.length≤4∧1≤t.2∧t.2≤1000000
 t3:(w.ties.map (·.1)).Pairwise λa b=>HT.lexLt a b=true
theorem qQ:∀ l:List Int,intsOf (l.map .int)=some l
 | []=>rfl
 | a::r=>by simp [intsOf,qQ r]
theorem qfu:∀ {l:List Int},l.Pairwise (· < ·)→(l.zip (l.drop 1)).all (λp=>decide (p.1<p.2))=true
 | [],_=>rfl
 | [a],_=>rfl
 | a::b::r,h=>by
  have h1:=w8.mp h
  have:=qfu h1.2
  simp only [List.drop_succ_cons,List.drop_zero,List.zip_cons_cons,List.all_cons,wL,we] at this ⊢
  exact ⟨h1.1 b wN,this⟩
theorem qc9:∀ {l:List (List Int)},l.Pairwise (λa b=>HT.lexLt a b=true)→(l.zip (l.drop 1)).all (λp=>HT.lexLt p.1 p.2)=true
 | [],_=>rfl
 | [a],_=>rfl
 | a::b::r,h=>by
  have h1:=w8.mp h
  have:=qc9 h1.2
  simp only [List.drop_succ_cons,List.drop_zero,List.zip_cons_cons,List.all_cons,wL] at this ⊢
  exact ⟨h1.1 b wN,this⟩
theorem cut1 (l:List D):cutD l (some 1) none=l.drop 1:=by
 unfold cutD HT.sIx
 cases l with
 | nil=>rfl
 | cons a r =>
  have:min (1:Int).toNat (a::r).length=1:=by simp
  simp only [this]
  rw [wK (by lia)]
  simp
end RP
namespace RP
open R
section
variable {F:Fs} {N:Nat} {ρ ρ1:En} {S S1 S2:Sr} {r a b:CSs} {e e1 e2:CE} {t:CT} {c:CB} {X:Res Fl} {d d1 d2:D}
theorem x_ret (h:ev F e ρ S=.ok d S1):exs F N (.cons (.ret e) r) ρ S=.ok (.rt d) S1:=by simp [exs,ex,h,Res.bind]
theorem jv:exs F N .nil ρ S=.ok (.nx ρ) S:=by simp [exs]
theorem qR (h:ev F e ρ S=.ok d S1) (h2:asg F t d ρ S1=.ok ρ1 S2) (h3:exs F N r ρ1 S2=X):exs F N (.cons (.set t e) r) ρ S=X:=by simp [exs,ex,h,h2,h3,Res.bind]
theorem x_expr (h:ev F e ρ S=.ok d S1) (h3:exs F N r ρ S1=X):exs F N (.cons (.expr e) r) ρ S=X:=by simp [exs,ex,h,h3,Res.bind]
theorem x_no (h:tst F c ρ S=.ok false S1) (h3:exs F N r ρ S1=X):exs F N (.cons (.ifs c a .nil) r) ρ S=X:=by simp [exs,ex,h,h3,Res.bind]
theorem yv (h:tst F c ρ S=.ok true S1) (h2:exs F N a ρ S1=.ok (.rt d) S2):exs F N (.cons (.ifs c a b) r) ρ S=.ok (.rt d) S2:=by simp [exs,ex,h,h2,Res.bind]
theorem qiW (h:tst F c ρ S=.ok true S1) (h2:exs F N a ρ S1=.ok (.nx ρ1) S2) (h3:exs F N r ρ1 S2=X):exs F N (.cons (.ifs c a b) r) ρ S=X:=by simp [exs,ex,h,h2,h3,Res.bind]
theorem qfv {it:CI} {ds:List D} (h:evI F it ρ S=.ok ds S1) (h2:forLoop (λd ρ S=>(asg F t d ρ S).bind λρ1 S1=>exs F N a ρ1 S1) ds ρ S1=.ok (.nx ρ1) S2) (h3:exs F N r ρ1 S2=X):exs F N (.cons (.forS t it a) r) ρ S=X:=by
 simp only [exs,ex,h,Res.bind] at h2 ⊢
 rw [h2]
 exact h3
theorem ql {f:CF} {l:List D} (hl:l.length=f.np) (h:exs F N f.body (l.map some++List.replicate (f.nn-f.np) none) S=.ok (.rt d) S):callC F N f l S=.ok d S:=by
 simp only [callC,hl,wJ,h,Res.bind,leave]
 cases f.keeps <;> simp
theorem qda {f:CF} {l:List D} (hl:l.length=f.np) (h:exs F N f.body (l.map some++List.replicate (f.nn-f.np) none) S=.ok (.nx ρ) S):callC F N f l S=.ok .non S:=by
 simp only [callC,hl,wJ,h,Res.bind,leave]
 cases f.keeps <;> simp
theorem qdb {f:CF} {l:List D} (hl:l.length=f.np) (hk:f.keeps=false) (h:exs F N f.body (l.map some++List.replicate (f.nn-f.np) none) S=.ok (.rt d) (S1++S2)) (hs:S1.length=S.length) (hr:refsLt S.length d=true):callC F N f l S=.ok d S1:=by
 simp only [callC,hl,wJ,h,Res.bind,leave,hk]
 rw [wK (by simp)]
 split
 ·rename_i z
  have:S2=[]:=by
   rw [wc,hs] at z
   exact List.length_eq_zero_iff.mp (by lia)
  rw [this,List.append_nil]
 ·rw [← hs];simp
theorem qiX {f:CF} {l:List D} (hl:l.length=f.np) (hk:f.keeps=true) (h:exs F N f.body (l.map some++List.replicate (f.nn-f.np) none) S=.ok (.rt d) S1):callC F N f l S=.ok d S1:=by
 simp only [callC,hl,wJ,h,Res.bind,leave,hk]
theorem yY {x y:Bool} (h:ev F e1 ρ S=.ok (.bl x) S) (h2:ev F e2 ρ S=.ok (.bl y) S):ev F (.and e1 e2) ρ S=.ok (.bl (x&&y)) S:=by
 cases x <;> simp [ev,h,h2,Res.bind]
theorem qh {i:Nat} {es:CEs} {l:List D} (h:evs F es ρ S=.ok l S1) (h2:F i l S1=.ok d S2):ev F (.call i es) ρ S=.ok d S2:=by simp [ev,h,h2,Res.bind]
theorem qD {i:Blt} {es:CEs} {l:List D} (h:evs F es ρ S=.ok l S1) (h2:bltD i l S1=.ok d S2):ev F (.blt i es) ρ S=.ok d S2:=by simp [ev,h,h2,Res.bind]
theorem qe {es:CEs} {l:List D} (h:ev F e ρ S=.ok d S1) (h2:evs F es ρ S1=.ok l S2):evs F (.cons e es) ρ S=.ok (d::l) S2:=by simp [evs,h,h2,Res.bind]
theorem qB {o:BOp} (h:ev F e1 ρ S=.ok d1 S1) (h2:ev F e2 ρ S1=.ok d2 S2) (h3:binD o d1 d2 S2=some d):ev F (.bin o e1 e2) ρ S=.ok d S2:=by simp [ev,h,h2,h3,Res.bind]
theorem zb {o:COp} {x:Bool} (h:ev F e1 ρ S=.ok d1 S1) (h2:ev F e2 ρ S1=.ok d2 S2) (h3:cmpD o d1 d2 S2=some x):ev F (.cmp o e1 e2) ρ S=.ok (.bl x) S2:=by simp [ev,h,h2,h3,Res.bind]
theorem zN (h:ev F e1 ρ S=.ok d1 S1) (h2:ev F e2 ρ S1=.ok d2 S2) (h3:idxD S2 d1 d2=some d):ev F (.idx e1 e2) ρ S=.ok d S2:=by simp [ev,h,h2,h3,Res.bind]
theorem qY {es:CEs} {l:List D} (h:evs F es ρ S=.ok l S1) (hl:l.length≤PySem.sizeLine):ev F (.tup es) ρ S=.ok (.tup l) S1:=by simp [ev,h,hl,Res.bind]
theorem t_of {x:Bool} (h:ev F e ρ S=.ok (.bl x) S1):tst F (.val e) ρ S=.ok x S1:=by simp [tst,h,Res.bind,truD]
theorem t_no {x:Bool} (h:tst F c ρ S=.ok x S1):tst F (.not c) ρ S=.ok (!x) S1:=by simp [tst,h,Res.bind]
theorem t_or {c2:CB} {x y:Bool} (h:tst F c ρ S=.ok x S) (h2:tst F c2 ρ S=.ok y S):tst F (.or c c2) ρ S=.ok (x || y) S:=by
 cases x <;> simp [tst,h,h2,Res.bind]
theorem qa1 {x:Bool} (h:tst F c ρ S=.ok x S):tsts F (.cons c .nil) ρ S=.ok x S:=by
 cases x <;> simp [tsts,h,Res.bind]
end
theorem j4 {α:Type} {g:α→D} {F:Fs} {fr:List Nat} {nt:Nat} {elt:CE} {tg:CT} {it:CI} {ρ:En} {S S1:Sr} {ds:List D} (xs:List α) (R:En→Prop) (hI:evI F it ρ S=.ok ds S1) (hd:ds=xs.map g) (h0:R (frE ρ fr nt))
  (H:∀ d∈xs,∀ ρ:En,R ρ→∃ ρ1,asg F tg (g d) ρ S1=.ok ρ1 S1∧R ρ1∧ev F elt ρ1 S1=.ok (.bl true) S1) :
  ev F (.gen .all fr nt elt tg it .nil) ρ S=.ok (.bl true) S1:=by
 have:=zB xs (λ_=>true) R hI hd h0 H
 rw [List.all_eq_true.mpr (λ_ _=>rfl)] at this
 exact this
theorem zH {α:Type} (l:List α):l.filter (λ_=>true)=l:=List.filter_eq_self.mpr λ_ _=>rfl
theorem qbP {α:Type} (f:α→D) (p:List α):((p.map f).zip ((p.drop 1).map f)).map (λq=>D.tup [q.1,q.2])=(p.zip (p.drop 1)).map λq=>.tup [f q.1,f q.2]:=by
 rw [List.zip_map,wu];rfl
theorem refsI (k:Nat):∀ l:List Int,refsLts k (l.map .int)=true
 | []=>rfl
 | a::r=>by rw [wa,refsLts,refsI k r];rfl
theorem qw (k:Nat) (l:List Int):refsLt k (tupI l)=true:=refsI k l
theorem yw (k:Nat) (t:Tie):refsLt k (tieD t)=true:=by
 show (refsLt k (tupI t.1)&&(refsLt k (.int t.2)&&true))=true
 rw [qw];rfl
theorem qav (k:Nat):∀ l:List Tie,refsLts k (l.map tieD)=true
 | []=>rfl
 | a::r=>by rw [wa,refsLts,qav k r,yw];rfl
theorem qfw (k:Nat) (w:Wb):refsLt k (webD w)=true:=by
 show (refsLt k (tupI w.costs)&&(refsLts k (w.ties.map tieD)&&true))=true
 rw [qw,qav];rfl
theorem zw (l:List Int) (S:Sr):bltD .len [tupI l] S=.ok (.int l.length) S:=by simp [bltD,one,bLen,lenD,tupI]
noncomputable def subB (a p:List Int):Bool:=a.all λx=>p.contains x
noncomputable def tin (w:Wb) (p:List Int):List Tie:=w.ties.filter λt=>subB t.1 p
end RP
namespace RP
open R
theorem jC {a:Int} {n:Nat} (h:a.natAbs<2^n):PySem.Builtin.Int.intBits a≤n:=by
 unfold PySem.Builtin.Int.intBits
 split
 ·lia
 ·rename_i z
  have hz:a.natAbs≠0:=by
   intro e;apply z;simp;lia
  have:=(Nat.log2_lt hz).mpr h
  lia
theorem qdc {a b:Int} (h:a.natAbs<2^64):mulOk a b=true:=by
 have:=jC h
 unfold mulOk PySem.shortFactorBits
 have e:decide (PySem.Builtin.Int.intBits a>64)=false:=by simp;lia
 rw [e];rfl
theorem qdd {a b:Int} (h:a.natAbs<2^250) (h2:b.natAbs<2^250):mulOk a b=true:=by
 have h1:=jC h
 have h2:=jC h2
 unfold mulOk PySem.Builtin.Int.intTooBig PySem.bitsLine
 have e:decide (((PySem.Builtin.Int.intBits a:Int)+(PySem.Builtin.Int.intBits b:Int))>((2^27:Nat):Int))=false:=by
  rw [decide_eq_false_iff_not];norm_cast;lia
 rw [e,Bool.and_false];rfl
theorem qde {a b:Int} (h0:0<b) (h:b.natAbs<2^64):divOk a b=true:=by
 have hb:=jC h
 unfold divOk PySem.Builtin.divisionGoesByPylong
 unfold PySem.Builtin.Int.intBits at hb
 have e0:(b == 0)=false:=by rw [wz];lia
 rw [e0] at hb
 simp only [e0,Bool.false_eq_true,if_false] at hb ⊢
 have e:decide (b.natAbs.log2 / 30+1>300)=false:=by rw [decide_eq_false_iff_not];lia
 simp only [e,Bool.false_and];rfl
theorem bmul {a b:Int} {S:Sr} (h:mulOk a b=true):binD .mul (.int a) (.int b) S=some (.int (a*b)):=by
 simp only [binD,binI];rw [wJ h];rfl
theorem badd {a b:Int} {S:Sr}:binD .add (.int a) (.int b) S=some (.int (a+b)):=rfl
noncomputable def pk (S:Sr) (n:Nat) (v:Int):Sr:=S.set n (.lst [.int v])
theorem qz (S:Sr) (n:Nat) (v:Int):(pk S n v).length=S.length:=by simp [pk]
theorem qkw {S:Sr} {n:Nat} (h:n<S.length) (v:Int):(pk S n v)[n]?=some (.lst [.int v]):=by simp [pk,h]
theorem zR {S T:Sr} {n:Nat} (h:n<S.length) (v:Int):pk S n v++T=pk (S++T) n v:=by simp [pk,List.set_append_left _ _ h]
theorem qdf {S:Sr} {n:Nat} {v:Int} (h:S[n]?=some (.lst [.int v])):pk S n v=S:=by
 unfold pk
 apply List.ext_getElem?
 intro i
 rw [List.getElem?_set]
 split
 ·rename_i e;subst e
  obtain ⟨hl,_⟩:=wI.mp h
  rw [wJ hl,h]
 ·rfl
theorem zz {F:Fs} {ρ:En} {S S1:Sr} {es:CEs} {l:List D} (h:evs F es ρ S=.ok l S1) (hl:l.length≤1000):ev F (.lst false es) ρ S=.ok (.lst l) S1:=by
 have:l.length≤PySem.sizeLine:=by unfold PySem.sizeLine;lia
 simp [ev,h,this,Res.bind,newL]
theorem qct {F:Fs} {ρ:En} {S S1:Sr} {es:CEs} {l:List D} (h:evs F es ρ S=.ok l S1) (hl:l.length≤1000) (hr:refsLts 0 l=true):ev F (.lst true es) ρ S=.ok (.ref S1.length) (S1++[.lst l]):=by
 have:l.length≤PySem.sizeLine:=by unfold PySem.sizeLine;lia
 simp [ev,h,this,Res.bind,newL,hr]
theorem j5 {body:D→En→Sr→Res Fl} {d:D} {r:List D} {ρ ρ1:En} {S S1:Sr} (h:body d ρ S=.ok (.nx ρ1) S1):forLoop body (d::r) ρ S=forLoop body r ρ1 S1:=by
 simp only [forLoop,h,Res.bind]
theorem qdg {α:Type} {g:α→D} {body:D→En→Sr→Res Fl} (P:List α→En→Sr→Prop) (xs:List α) {ρ:En} {S:Sr} (h0:P [] ρ S)
  (H:∀ (pre:List α) (x:α) (suf:List α) (ρ:En) (S:Sr),xs=pre++x::suf→P pre ρ S→∃ ρ1 S1,body (g x) ρ S=.ok (.nx ρ1) S1∧P (pre++[x]) ρ1 S1) :
  ∃ ρ' S',forLoop body (xs.map g) ρ S=.ok (.nx ρ') S'∧P xs ρ' S':=by
 have key:∀ (suf pre:List α) (ρ:En) (S:Sr),xs=pre++suf→P pre ρ S→∃ ρ' S',forLoop body (suf.map g) ρ S=.ok (.nx ρ') S'∧P xs ρ' S':=by
  intro suf
  induction suf with
  | nil=>intro pre ρ S e h;rw [List.append_nil] at e;subst e;exact ⟨ρ,S,rfl,h⟩
  | cons x r ih =>
   intro pre ρ S e h
   obtain ⟨ρ1,S1,e1,h1⟩:=H pre x r ρ S e h
   obtain ⟨ρ',S',e2,h2⟩:=ih (pre++[x]) ρ1 S1 (by rw [e];simp) h1
   exact ⟨ρ',S',by rw [wa,j5 e1,e2],h2⟩
 exact key xs [] ρ S rfl h0
theorem qfx {α:Type} {g:α→D} {n:Nat} {bind:D→En→Sr→Res En} {test:En→Sr→Res Bool} {elt:En→Sr→Res D} (R:En→Prop) (I:List D→Sr→Prop) (htest:∀ ρ S,test ρ S=.ok true S):∀ (ds:List α) (made:List D) (ρ:En) (S:Sr),made.length+ds.length≤1000→R ρ→I made S→S.length=n →
  (∀ d∈ds,∀ (ρ:En) (m:List D) (S:Sr),R ρ→I m S→S.length=n→m.length<made.length+ds.length→∃ ρ1 v S',bind (g d) ρ (S++[.lst m])=.ok ρ1 (S++[.lst m])∧R ρ1∧elt ρ1 (S++[.lst m])=.ok v (S'++[.lst m])∧S'.length=n∧refsLt 0 v=true∧I (m++[v]) S') →
  ∃ ρ' made' S',lcLoop n bind test elt (ds.map g) ρ (S++[.lst made])=.ok ρ' (S'++[.lst made'])∧I made' S'∧S'.length=n∧made'.length=made.length+ds.length
 | [],made,ρ,S,_,_,hI,hn,_=>⟨ρ,made,S,by simp [lcLoop],hI,hn,by simp⟩
 | d::ds,made,ρ,S,hl,hR,hI,hn,H=>by
  obtain ⟨ρ1,v,S',e1,hR1,e3,hn',hv,hI'⟩:=H d wN ρ made S hR hI hn (by simp)
  simp only [w5] at hl
  rw [wa]
  unfold lcLoop
  have ea:appD (S'++[.lst made]) (.ref n) v=.ok .non (S'++[.lst (made++[v])]):=by
   subst hn'
   have hl':made.length<PySem.sizeLine:=by unfold PySem.sizeLine;lia
   simp [appD,hv,hl']
  rw [e1,Res.bind_ok,htest,Res.bind_ok,wJ rfl,e3,Res.bind_ok,ea,Res.bind_ok]
  obtain ⟨ρ',made',S2,e,hI2,hn2,hl2⟩:=qfx R I htest ds (made++[v]) ρ1 S' (by simp;lia) hR1 hI' hn' λd' hd ρ m S a b c hlt=>H d' (wM _ hd) ρ m S a b c (by simp at hlt ⊢;lia)
  exact ⟨ρ',made',S2,e,hI2,hn2,by rw [hl2];simp;lia⟩
theorem qfy {α:Type} {g:α→D} {F:Fs} {fr:List Nat} {nt:Nat} {elt:CE} {tg:CT} {it:CI} {ρ:En} {S S1:Sr} {ds:List D} (xs:List α) (R:En→Prop) (I:List D→Sr→Prop) (hI:evI F it ρ S=.ok ds S1) (hd:ds=xs.map g) (h0:R (frE ρ fr nt)) (hl:xs.length≤1000) (hi:I [] S1)
  (H:∀ d∈xs,∀ (ρ:En) (m:List D) (S:Sr),R ρ→I m S→S.length=S1.length→m.length<xs.length→∃ ρ1 v S',asg F tg (g d) ρ (S++[.lst m])=.ok ρ1 (S++[.lst m])∧R ρ1∧ev F elt ρ1 (S++[.lst m])=.ok v (S'++[.lst m])∧S'.length=S1.length∧refsLt 0 v=true∧I (m++[v]) S') :
  ∃ made S',ev F (.lc false fr nt elt tg it .nil) ρ S=.ok (.lst made) S'∧I made S'∧S'.length=S1.length∧made.length=xs.length:=by
 obtain ⟨ρ',made',S',e,h1,h2,h3⟩:=qfx (n:=S1.length) (bind:=λd ρ S=>asg F tg d ρ S) (test:=λρ S=>tsts F .nil ρ S) (elt:=λρ S=>ev F elt ρ S) R I (λ_ _=>by simp [tsts]) xs [] _ S1 (by simpa using hl) h0 hi rfl (by simpa using H)
 refine ⟨made',S',?_,h1,h2,by simpa using h3⟩
 simp only [ev,hI,Res.bind,hd,e,lcEnd]
 rw [← h2]
 simp
end RP
namespace RP
open R
noncomputable def rI (n:Nat):List Int:=(List.range n).map λ(k:Nat)=>(k:Int)
theorem zk (n:Nat):(rI n).length=n:=by simp [rI]
theorem ye {n:Nat} {x:Int}:x∈rI n ↔ 0≤x∧x<n:=by
 unfold rI
 rw [wn]
 constructor
 ·rintro ⟨k,hk,rfl⟩;have:=List.mem_range.mp hk;lia
 ·rintro ⟨h0,h1⟩;exact ⟨x.toNat,List.mem_range.mpr (by lia),by lia⟩
theorem qbQ (n:Nat):(rI n).Nodup:=by
 unfold rI
 exact List.Pairwise.map _ (λa b h e=>h (by lia)) List.nodup_range
theorem qkx (n:Nat):(rI n).Pairwise (· < ·):=by
 unfold rI
 exact List.Pairwise.map _ (λa b h=>by lia) List.pairwise_lt_range
theorem qg3 (n:Nat):rngL 0 n 1=(rI n).map .int:=by
 unfold rngL rI
 have:(((n:Int)-0+1-1) / 1).toNat=n:=by lia
 rw [this,wu]
 apply List.map_congr_left
 intro k _
 simp
theorem qcu {n:Nat} (h:n≤1000):rngD [.int n]=some ((rI n).map .int):=by
 have h1:-(2^62)≤(n:Int):=by lia
 have h2:(n:Int)<2^62:=by lia
 simp only [rngD,h1,h2,and_self,if_true,qg3]
theorem qhF {n:Nat} (h:n≤1000):((rI n).map D.int).length≤1000000:=by
 rw [wP,zk];exact vA h (by decide)
theorem qfz {α β:Type} (f:α→β):∀ (l:List α) (i:Nat),(l.map f).eraseIdx i=(l.eraseIdx i).map f
 | [],_=>by simp
 | a::r,0=>by simp
 | a::r,i+1=>by simp [qfz f r i]
theorem qdh {α:Type}:∀ {l:List α} {i:Nat} {x:α},l[i]?=some x→(x::l.eraseIdx i).Perm l
 | [],i,x,h=>by simp at h
 | a::r,0,x,h=>by simp at h;subst h;simp
 | a::r,i+1,x,h=>by
  simp at h
  have:=qdh h
  simp only [List.eraseIdx_cons_succ]
  exact (List.Perm.swap a x _).trans (this.cons a)
theorem qfA {l:List Int} (h:l.Nodup):(sortI l).Pairwise (· < ·):=by
 have h1:=jQ l
 have h2:(sortI l).Nodup:=(zu l).nodup_iff.mpr h
 exact (h1.and h2).imp λ⟨a,b⟩=>by lia
theorem qdY {l:List Int} (h:l.length<64):sortL (l.map .int)=some ((sortI l).map .int):=by
 unfold sortL
 rw [wJ (by simpa using h),qQ]
theorem fm {v m:Int} (h:0<m):0≤v.fmod m∧v.fmod m<m:=⟨wt v h,Int.fmod_lt_of_pos v h⟩
theorem qfB {F:Fs} {ρ:En} {S S1:Sr} {es:CEs} {l:List D} {k:Option Bool} (h:evs F es ρ S=.ok l S1) {ds:List D} (h2:rngD l=some ds) (h3:ds.length≤1000000):ev F (.rng k es) ρ S=match k with | some m=>newL m ds S1 | none=>.ok (.tup ds) S1:=by
 cases k <;> simp only [ev,h,Res.bind,h2,h3,if_true]
theorem qiY {F:Fs} {ρ:En} {S S1:Sr} {es:CEs} {n:Nat} (h:evs F es ρ S=.ok [.int n] S1) (hn:n≤1000):ev F (.rng (some true) es) ρ S=.ok (.ref S1.length) (S1++[.lst ((rI n).map .int)]):=by
 rw [qfB h (qcu hn) (qhF hn)]
 simp only [newL,refsI,if_true]
theorem qiZ {F:Fs} {ρ:En} {S S1:Sr} {es:CEs} {n:Nat} (h:evs F es ρ S=.ok [.int n] S1) (hn:n≤1000):ev F (.rng none es) ρ S=.ok (tupI (rI n)) S1:=by
 rw [qfB h (qcu hn) (qhF hn)]
 rfl
theorem i_rng {F:Fs} {ρ:En} {S S1:Sr} {es:CEs} {n:Nat} (h:evs F es ρ S=.ok [.int n] S1) (hn:n≤1000):evI F (.rng es) ρ S=.ok ((rI n).map .int) S1:=by
 simp only [evI,h,Res.bind,qcu hn];rfl
theorem qky {F:Fs} {ρ:En} {S S1 S2 S3:Sr} {o i:CE} {x y d:D} (h:ev F o ρ S=.ok x S1) (hi:isLst S1 x=true) (h2:ev F i ρ S1=.ok y S2) (h3:popD S2 x y=.ok d S3):ev F (.popAt o i) ρ S=.ok d S3:=by
 simp only [ev,h,Res.bind,hi,if_true,h2,h3]
theorem qkz {F:Fs} {ρ:En} {S S1 S2 S3:Sr} {o i:CE} {x y d:D} (h:ev F o ρ S=.ok x S1) (hi:isLst S1 x=true) (h2:ev F i ρ S1=.ok y S2) (h3:appD S2 x y=.ok d S3):ev F (.app o i) ρ S=.ok d S3:=by
 simp only [ev,h,Res.bind,hi,if_true,h2,h3]
end RP
namespace RP
open R
noncomputable def ent (t:Tie):List Int × D:=(t.1,.int t.2)
noncomputable def dicD (ts:List Tie):SO:=.dic (ts.map ent)
structure KnOk (many:Nat) (ts:List Tie):Prop where
 nd:(ts.map (·.1)).Nodup
 ok:∀ t∈ts,PlOk many t.1∧t.1.length≤4∧1≤t.2∧t.2≤1000000
noncomputable def putTie (k:List Int) (w:Int) (ts:List Tie):List Tie :=
 if ts.any (λt=>decide (t.1=k)) then ts.map (λt=>if t.1=k then (t.1,w) else t) else ts++[(k,w)]
theorem qfC (k:List Int) (w:Int) (ts:List Tie):putT k (.int w) (ts.map ent)=(putTie k w ts).map ent:=by
 unfold putT putTie
 have e:(ts.map ent).any (λp=>decide (p.1=k))=ts.any (λt=>decide (t.1=k)):=by rw [List.any_map];rfl
 rw [e]
 split
 ·rw [wu,wu]
  apply List.map_congr_left
  intro t _
  show (if t.1=k then (t.1,D.int w) else ent t)=ent (if t.1=k then (t.1,w) else t)
  split <;> rfl
 ·simp [ent]
theorem KnOk.put {many:Nat} {ts:List Tie} (h:KnOk many ts) {k:List Int} {w:Int} (hk:PlOk many k) (hl:k.length≤4) (h1:1≤w) (h2:w≤1000000):KnOk many (putTie k w ts)∧(putTie k w ts).length≤ts.length+1:=by
 unfold putTie
 split
 ·refine ⟨⟨?_,?_⟩,by simp⟩
  ·rw [wu]
   have:ts.map ((·.1)∘λt=>if t.1=k then (t.1,w) else t)=ts.map (·.1):=by
    apply List.map_congr_left
    intro t _
    show (if t.1=k then (t.1,w) else t).1=t.1
    split <;> rfl
   rw [this];exact h.nd
  ·intro t ht
   obtain ⟨s,hs,rfl⟩:=wn.mp ht
   split
   ·rename_i e;exact ⟨(h.ok s hs).1,(h.ok s hs).2.1,h1,h2⟩
   ·exact h.ok s hs
 ·rename_i hn
  refine ⟨⟨?_,?_⟩,by simp⟩
  ·rw [List.map_append,List.nodup_append]
   refine ⟨h.nd,by simp,λa ha b hb e=>?_⟩
   simp at hb
   obtain ⟨s,hs,rfl⟩:=wn.mp ha
   apply hn
   rw [List.any_eq_true]
   exact ⟨s,hs,by rw [we,e,hb]⟩
  ·intro t ht
   rcases vC.mp ht with z | z
   ·exact h.ok t z
   ·simp at z;subst z;exact ⟨hk,hl,h1,h2⟩
noncomputable def look (ts:List Tie) (k:List Int):Int:=match ts with
 | []=>0
 | t::r=>if t.1=k then t.2 else look r k
theorem qa2:∀ {ts:List Tie} {k:List Int},k∈ts.map (·.1)→lookT k (ts.map ent)=some (.int (look ts k))∧∃ t∈ts,t.1=k∧t.2=look ts k
 | [],k,h=>by simp at h
 | t::r,k,h=>by
  rw [wa]
  show (if t.1=k then some (D.int t.2) else lookT k (r.map ent))=some (.int (if t.1=k then t.2 else look r k))∧∃ s∈t::r,s.1=k∧s.2=(if t.1=k then t.2 else look r k)
  by_cases e:t.1=k
  ·rw [wJ e,wJ e];exact ⟨rfl,t,wN,e,rfl⟩
  ·rw [wK e,wK e]
   have h':k∈r.map (·.1):=by
    rw [wa] at h
    rcases wO.mp h with z | z
    ·exact absurd z.symm e
    ·exact z
   obtain ⟨a,s,hs,b⟩:=qa2 h'
   exact ⟨a,s,wM _ hs,b⟩
noncomputable def srt (ts:List Tie):List Tie:=(sortT (ts.map (·.1))).map λk=>(k,look ts k)
theorem qfD (ts:List Tie):(srt ts).map (·.1)=sortT (ts.map (·.1)):=by
 unfold srt;rw [wu]
 have:((λt:Tie=>t.1)∘λk=>(k,look ts k))=id:=rfl
 rw [this,List.map_id]
theorem qg4 (ts:List Tie):(srt ts).length=ts.length:=by
 unfold srt;rw [wP,(qU _).length_eq,wP]
theorem qi0 {many:Nat} {ts:List Tie} (h:KnOk many ts):(∀ t∈srt ts,PlOk many t.1∧t.1.length≤4∧1≤t.2∧t.2≤1000000)∧((srt ts).map (·.1)).Pairwise λa b=>HT.lexLt a b=true:=by
 refine ⟨λt ht=>?_,by rw [qfD];exact jj h.nd⟩
 unfold srt at ht
 obtain ⟨k,hk,rfl⟩:=wn.mp ht
 obtain ⟨_,s,hs,e1,e2⟩:=qa2 ((qU _).mem_iff.mp hk)
 have:=h.ok s hs
 rw [e1,e2] at this
 exact this
theorem j6:∀ l:List (List Int),tupsOf (l.map tupI)=some l
 | []=>rfl
 | a::r=>by simp [tupsOf,tupI,qQ];exact j6 r
theorem qdZ {l:List (List Int)} (h:l.length<64) (nd:l.Nodup) (ne:∀ t∈l,t≠[]):sortL (l.map tupI)=some ((sortT l).map tupI):=by
 unfold sortL
 rw [wJ (by simpa using h)]
 cases l with
 | nil=>rfl
 | cons a r =>
  have:intsOf ((a::r).map tupI)=none:=rfl
  rw [this]
  show (tupsOf ((a::r).map tupI)).bind _=_
  rw [j6,wX,wJ ⟨nd,ne⟩]
theorem qi1 {F:Fs} {ρ:En} {T:Sr} {kx j many:Nat} {ts:List Tie} (hρ:ρ[kx]?=some (some (.ref j))) (hT:T[j]?=some (dicD ts)) (h:KnOk many ts) (hl:ts.length<64) :
  ev F (.blt .tuple (.cons (.lc false [kx] 1 (.tup (.cons (.var 1) (.cons (.idx (.var 0) (.var 1)) .nil))) (.var 1) (.seq (.blt (.sorted false) (.cons (.var kx) .nil))) .nil) .nil)) ρ T=.ok (.tup ((srt ts).map tieD)) T:=by
 have hv:ev F (.var kx) ρ T=.ok (.ref j) T:=by simp only [ev,varE,hρ]
 have hw:walkD T (.ref j)=some ((ts.map (·.1)).map tupI):=by
  simp only [walkD,hT,dicD,wu];rfl
 have hs:bltD (.sorted false) [.ref j] T=.ok (.lst ((sortT (ts.map (·.1))).map tupI)) T:=by
  simp only [bltD,one,bSorted,hw,wX]
  rw [qdZ (by simpa using hl) h.nd (λt ht=>by obtain ⟨s,hs,rfl⟩:=wn.mp ht;exact (h.ok s hs).1.ne)]
  rfl
 have hsd:ev F (.blt (.sorted false) (.cons (.var kx) .nil)) ρ T=.ok (.lst ((sortT (ts.map (·.1))).map tupI)) T:=qD (qe hv rfl) hs
 have e:=j3 (g:=tupI) (F:=F) (fr:=[kx]) (nt:=1) (elt:=.tup (.cons (.var 1) (.cons (.idx (.var 0) (.var 1)) .nil))) (tg:=.var 1) (it:=.seq (.blt (.sorted false) (.cons (.var kx) .nil))) (ifs:=.nil) (ρ:=ρ) (S:=T) (S1:=T) (ds:=(sortT (ts.map (·.1))).map tupI) (sortT (ts.map (·.1))) (λ_=>true) (λk=>tieD (k,look ts k)) (λρ=>∃ x,ρ=[some (.ref j),x])
  (by simp only [evI,hsd,Res.bind]) rfl ⟨none,by simp [frE,hρ]⟩ (by rw [(qU _).length_eq,wP];unfold PySem.sizeLine;lia) (by
   rintro k hk ρ m ⟨x,rfl⟩
   refine ⟨_,rfl,⟨_,rfl⟩,rfl,λ_=>⟨qY (l:=[tupI k,.int (look ts k)]) (qe rfl (qe (zN (d1:=.ref j) (d2:=tupI k) rfl rfl ?_) rfl)) (by simp [PySem.sizeLine]),yw _ _⟩⟩
   have hj:j<T.length:=(wI.mp hT).1
   have:(T++[SO.lst m])[j]?=some (dicD ts):=by rw [wU hj,hT]
   simp only [idxD,tupI,this,dicD,qQ,wX]
   exact (qa2 ((qU _).mem_iff.mp hk)).1)
 rw [zH] at e
 refine qD (qe e rfl) ?_
 simp only [bltD,one,bTuple,seqOf,lstOf,wk,ofO]
 unfold srt
 rw [wu];rfl
end RP
namespace RP
open R
theorem qg5 {p t:List Int} (hp:p.Nodup) (ht:t.Nodup) (h:∀ x∈t,x∈p):(p.filter λx=>t.contains x).length=t.length:=by
 apply List.Perm.length_eq
 refine (List.perm_ext_iff_of_nodup (hp.filter _) ht).mpr λx=>?_
 rw [List.mem_filter]
 constructor
 ·rintro ⟨_,b⟩;simpa using b
 ·intro hx;exact ⟨h x hx,by simpa using hx⟩
theorem qfE {p:List Int} (h:p.Pairwise (· < ·)):p.Nodup:=h.imp λa=>by lia
end RP
namespace RP
open R
noncomputable def eu:Nat→Int→Int→Int
 | 0,a,_=>a
 | n+1,a,b=>if b=0 then a else eu n b (a.fmod b)
theorem qfF:∀ (n:Nat) {a b:Int},0<a→0≤b→0<eu n a b
 | 0,a,b,ha,_=>ha
 | n+1,a,b,ha,hb=>by
  unfold eu
  split
  ·exact ha
  ·exact qfF n (by omega) (wt a (by omega))
theorem qhG:∀ (n:Nat) {a b m:Int},0≤b→a≤m→b≤m→eu n a b≤m
 | 0,a,b,m,_,ha,_=>ha
 | n+1,a,b,m,hb0,ha,hb=>by
  unfold eu
  split
  ·exact ha
  ·have:=Int.fmod_lt_of_pos a (show 0<b by omega)
   exact qhG n (wt a (by omega)) hb (by omega)
theorem qfG {n:Nat} {a b:Int} (ha:0≤a) (hb:0<b):0<eu (n+1) a b∧eu (n+1) a b≤b:=by
 unfold eu
 rw [wK (by omega)]
 have h1:=wt a hb
 have h2:=Int.fmod_lt_of_pos a hb
 exact ⟨qfF n hb h1,qhG n h1 (by omega) (by omega)⟩
theorem half {a b:Int} (h:0<b) (hr:0<a.fmod b):2*b.fmod (a.fmod b)<b:=by
 have h1:=Int.fmod_lt_of_pos a h
 have h2:=Int.fmod_lt_of_pos b hr
 have h3:=wt b hr
 have h4:=Int.mul_fdiv_add_fmod b (a.fmod b)
 have h5:0<b.fdiv (a.fmod b):=by
  rcases Int.lt_or_le 0 (b.fdiv (a.fmod b)) with z | z
  ·exact z
  ·exfalso
   have:a.fmod b*b.fdiv (a.fmod b)≤0:=by
    have:=Int.mul_le_mul_of_nonneg_left z (Int.le_of_lt hr)
    simpa using this
   omega
 have h6:a.fmod b≤a.fmod b*b.fdiv (a.fmod b):=by
  have:=Int.mul_le_mul_of_nonneg_left (show (1:Int)≤b.fdiv (a.fmod b) by omega) (Int.le_of_lt hr)
  simpa using this
 omega
theorem wl {test:En→Sr→Res Bool} {body:En→Sr→Res Fl} {E:Int→Int→En} {S:Sr} (ht:∀ a b,test (E a b) S=.ok (!(b == 0)) S) (hb:∀ a b,0<b→body (E a b) S=.ok (.nx (E b (a.fmod b))) S):∀ (k n:Nat) (a b:Int),0≤a→0≤b→b<2^k→2*k+1≤n→whileLoop test body n (E a b) S=.ok (.nx (E (eu n a b) 0)) S:=by
 have stop:∀ (n:Nat) (a:Int),0<n→whileLoop test body n (E a 0) S=.ok (.nx (E (eu n a 0) 0)) S:=by
  intro n a h
  cases n with
  | zero=>omega
  | succ n =>
   unfold whileLoop eu
   rw [ht,wJ rfl];rfl
 have go:∀ (n:Nat) (a b:Int),0<b→whileLoop test body (n+1) (E a b) S=whileLoop test body n (E b (a.fmod b)) S:=by
  intro n a b h
  rw [whileLoop,ht,Res.bind_ok]
  have:(!(b == 0))=true:=by simp;omega
  rw [wJ this,hb a b h,Res.bind_ok]
 have eug:∀ (n:Nat) (a b:Int),0<b→eu (n+1) a b=eu n b (a.fmod b):=λn a b h=>by rw [eu,wK (by omega)]
 intro k
 induction k with
 | zero =>
  intro n a b ha hb0 hb1 hn
  have:b=0:=by simp at hb1;omega
  subst this
  exact stop n a (by omega)
 | succ k ih =>
  intro n a b ha hb0 hb1 hn
  by_cases z:b=0
  ·subst z;exact stop n a (by omega)
  ·have hbp:0<b:=by omega
   obtain ⟨m,rfl⟩:∃ m,n=m+2:=⟨n-2,by omega⟩
   have h1:=wt a hbp
   rw [go _ _ _ hbp,eug _ _ _ hbp]
   by_cases z2:a.fmod b=0
   ·rw [z2];exact stop _ _ (by omega)
   ·have hr:0<a.fmod b:=by omega
    rw [go _ _ _ hr,eug _ _ _ hr]
    have h2:=half hbp hr
    have e:(2:Int)^(k+1)=2*2^k:=by rw [Int.pow_succ];omega
    exact ih m _ _ h1 (wt b hr) (by omega) (by omega)
theorem qg6 {F:Fs} {N:Nat} {ρ ρ1:En} {S S1:Sr} {r a:CSs} {c:CB} {X:Res Fl} (h:whileLoop (λρ S=>tst F c ρ S) (λρ S=>exs F N a ρ S) N ρ S=.ok (.nx ρ1) S1) (h3:exs F N r ρ1 S1=X):exs F N (.cons (.whileS c a) r) ρ S=X:=by
 simp only [exs,ex,h,Res.bind]
 exact h3
theorem bmod {a b:Int} {S:Sr} (h:b≠0):binD .mod (.int a) (.int b) S=some (.int (a.fmod b)):=by
 simp only [binD,binI];rw [wK h];rfl
theorem bdiv {a b:Int} {S:Sr} (h:0<b) (h2:b.natAbs<2^64):binD .fdiv (.int a) (.int b) S=some (.int (a.fdiv b)):=by
 simp only [binD,binI];rw [wJ (qde h h2)];rfl
theorem qkA {a:Int} {S:Sr} (h:0≤a):bltD .abs [.int a] S=.ok (.int a) S:=by
 simp only [bltD,one,bAbs];rw [wK (by omega)]
noncomputable def cstI (w:Wb) (x:Int):Int:=w.costs.getD x.toNat 0
noncomputable def price (w:Wb) (p:List Int):Int:=(p.map (cstI w)).sum
theorem qfH {w:Wb} {x:Int} {S:Sr} (h:0≤x) (h2:x<w.costs.length):idxD S (tupI w.costs) (.int x)=some (.int (cstI w x)):=by
 have hx:x.toNat<w.costs.length:=by omega
 have:L2.ixN (w.costs.map D.int).length x=some x.toNat:=by
  unfold L2.ixN;rw [wJ h,wP,wJ h2]
 show (L2.ixN (w.costs.map D.int).length x).bind (λj=>(w.costs.map D.int)[j]?)=_
 rw [this]
 simp only [wX,wY,cstI,wo,wD hx,wk,Option.getD_some]
theorem qi2 {w:Wb} (h:WbOk w) {x:Int} (h0:0≤x) (h1:x<w.costs.length):1≤cstI w x∧cstI w x≤100:=by
 have hx:x.toNat<w.costs.length:=by omega
 unfold cstI
 rw [wo,wD hx]
 exact h.c3 _ (List.getElem_mem hx)
theorem qfI {f:Int→Int}:∀ {l:List Int},(∀ x∈l,1≤f x∧f x≤100)→(l.length:Int)≤(l.map f).sum∧(l.map f).sum≤100*l.length
 | [],_=>by simp
 | a::r,h=>by
  have h1:=qfI (f:=f) (l:=r) λx hx=>h x (wM _ hx)
  have h2:=h a wN
  simp only [wa,List.sum_cons,w5]
  omega
theorem qfJ {w:Wb} {p:List Int} (h:WbOk w) (hp:PlOk w.costs.length p):1≤p.length∧p.length≤12:=by
 have h1:=qg5 (p:=rI w.costs.length) (t:=p) (qbQ _) (qfE hp.up) (λx hx=>ye.mpr (hp.rng x hx))
 have h2:=List.length_filter_le (λx=>p.contains x) (rI w.costs.length)
 rw [zk] at h2
 have:=h.c2
 refine ⟨?_,by omega⟩
 cases hz:p with
 | nil=>exact absurd hz hp.ne
 | cons a r=>simp
theorem qfK {w:Wb} {p:List Int} (h:WbOk w) (hp:PlOk w.costs.length p):1≤price w p∧price w p≤1200:=by
 have h1:=qfJ h hp
 have h2:=qfI (f:=cstI w) (l:=p) λx hx=>qi2 h (hp.rng x hx).1 (hp.rng x hx).2
 unfold price;omega
noncomputable def mass (w:Wb) (p:List Int):Int:=((tin w p).map (·.2)).sum
theorem qfL:∀ {l:List Int},(∀ x∈l,0≤x)→0≤l.sum
 | [],_=>by simp
 | a::r,h=>by
  have:=qfL (l:=r) λx hx=>h x (wM _ hx)
  have:=h a wN
  simp only [List.sum_cons];omega
theorem qg7 {w:Wb} (h:WbOk w) (p:List Int):0≤mass w p:=by
 unfold mass
 apply qfL
 intro x hx
 obtain ⟨t,ht,rfl⟩:=wn.mp hx
 have:=(h.t2 t (List.mem_filter.mp ht).1).2.2.1
 omega
noncomputable def low (n:Nat) (t b:Int):D:=.tup [.int (t.fdiv (eu n t b)),.int (b.fdiv (eu n t b))]
end RP
namespace RP
open R
noncomputable def isIntB:D→Bool
 | .int _=>true
 | _=>false
noncomputable def wholeB (a b:Int):D→Bool
 | .int i=>decide (a≤i)&&decide (i≤b)
 | _=>false
noncomputable def upB (ns:List Int):Bool:=(ns.zip (ns.drop 1)).all λp=>decide (p.1<p.2)
noncomputable def upT (ks:List (List Int)):Bool:=(ks.zip (ks.drop 1)).all λp=>HT.lexLt p.1 p.2
noncomputable def placesB (many:Int):D→Bool
 | .tup l=>match intsOf l with
  | some ns=>!ns.isEmpty&&ns.all (λi=>decide (0≤i)&&decide (i≤many-1))&&upB ns
  | none=>false
 | _=>false
noncomputable def lenT:D→Nat
 | .tup l=>l.length
 | _=>0
noncomputable def tieB (many:Int):D→Bool
 | .tup [p,h]=>placesB many p&&decide (lenT p≤4)&&wholeB 1 1000000 h
 | _=>false
noncomputable def keyT:D→List Int
 | .tup [.tup l,_]=>(intsOf l).getD []
 | _=>[]
noncomputable def costsB:D→Bool
 | .tup l=>decide (1≤l.length)&&decide (l.length≤12)&&l.all (wholeB 1 100)
 | _=>false
noncomputable def tiesB (many:Int):D→Bool
 | .tup l=>decide (l.length≤30)&&l.all (tieB many)&&upT (l.map keyT)
 | _=>false
noncomputable def isWebB:D→Bool
 | .tup [c,t]=>costsB c&&tiesB (lenT c) t
 | _=>false
theorem qaw (a b:Int):∀ l:List D,l.all (wholeB a b)=match intsOf l with
  | some ns=>ns.all (λi=>decide (a≤i)&&decide (i≤b))
  | none=>false
 | []=>rfl
 | x::r=>by
  have ih:=qaw a b r
  cases x with
  | int i =>
   simp only [List.all_cons,wholeB,intsOf]
   cases z:intsOf r with
   | none=>rw [z] at ih;simp only [Option.map_none];rw [ih];simp
   | some ns=>rw [z] at ih;simp only [wk,List.all_cons];rw [ih]
  | _=>simp [wholeB,intsOf]
theorem qa3 {l:List D} {ns:List Int} (h:intsOf l=some ns):l=ns.map .int:=intsOf_eq h
theorem qi3 {many:Int} {x:D} (h:tieB many x=true):∃ t:Tie,x=tieD t∧t.1≠[]∧keyT x=t.1:=by
 unfold tieB at h
 split at h
 ·rename_i p w
  simp only [wL] at h
  obtain ⟨⟨h1,h2⟩,h3⟩:=h
  clear h2
  unfold placesB at h1
  split at h1
  ·rename_i l
   cases z:intsOf l with
   | none=>rw [z] at h1;cases h1
   | some ns =>
    rw [z] at h1
    simp only [wL] at h1
    cases w with
    | int i =>
     refine ⟨(ns,i),?_,?_,?_⟩
     ·rw [qa3 z];rfl
     ·intro e;rw [show (ns,i).1=ns from rfl] at e;rw [e] at h1;simp at h1
     ·simp only [keyT,z,Option.getD_some]
    | _=>simp [wholeB] at h3
  ·cases h1
 ·cases h
theorem qdi {many:Int}:∀ {l:List D},l.all (tieB many)=true→∃ ts:List Tie,l=ts.map tieD∧l.map keyT=ts.map (·.1)
 | [],_=>⟨[],rfl,rfl⟩
 | x::r,h=>by
  simp only [List.all_cons,wL] at h
  obtain ⟨t,e1,_,e2⟩:=qi3 h.1
  obtain ⟨ts,e3,e4⟩:=qdi h.2
  exact ⟨t::ts,by rw [e1,e3];rfl,by rw [wa,wa,e2,e4]⟩
section
variable {F:Fs} {N:Nat} {ρ ρ1:En} {S S1 S2:Sr} {e1 e2:CE} {c c2:CB}
theorem qax (h:tst F c ρ S=.ok true S1):tst F (.or c c2) ρ S=.ok true S1:=by simp [tst,h,Res.bind]
theorem yx {y:Bool} (h:tst F c ρ S=.ok false S) (h2:tst F c2 ρ S=.ok y S):tst F (.or c c2) ρ S=.ok y S:=by simp [tst,h,h2,Res.bind]
theorem qa4 (h:ev F e1 ρ S=.ok (.bl false) S1):ev F (.and e1 e2) ρ S=.ok (.bl false) S1:=by simp [ev,h,Res.bind]
end
theorem zC (l:List D) (S:Sr):bltD .len [.tup l] S=.ok (.int l.length) S:=rfl
theorem pow6 (F:Fs) (ρ:En) (T:Sr):ev F (.bin .pow (.cst (.int 10)) (.cst (.int 6))) ρ T=.ok (.int 1000000) T:=by
 simp [ev,Res.bind,binD,binI]
end RP
namespace RP
open R
mutual
noncomputable def gd:D→Bool
 | .ref _=>false
 | .tup l=>decide (l.length≤900)&&gds l
 | .lst l=>gds l
 | .non=>true
 | .bl _=>true
 | .int _=>true
 | .str _=>true
 | .emp=>true
 | .exc _=>false
noncomputable def gds:List D→Bool
 | []=>true
 | x::r=>gd x&&gds r
end
mutual
noncomputable def tr:D→Bool
 | .int i=>decide (i.natAbs≤10000000)
 | .tup l=>decide (l.length≤60)&&trs l
 | _=>false
noncomputable def trs:List D→Bool
 | []=>true
 | x::r=>tr x&&trs r
end
theorem qa5 (l:List D) (a b:Option Int):(∀ x∈cutD l a b,x∈l)∧(cutD l a b).length≤l.length:=by
 unfold cutD
 exact ⟨λx hx=>List.mem_of_mem_drop (List.mem_of_mem_take hx),by simp;lia⟩
theorem bcatT {a b:List D} {S:Sr} (h:a.length+b.length≤1000):binD .add (.tup a) (.tup b) S=some (.tup (a++b)):=by
 have:catOk a b=true:=by unfold catOk PySem.sizeLine;rw [we];lia
 simp [binD,this]
theorem qbR {F:Fs} {ρ:En} {S:Sr} {e:CE} {lo hi:CO} {l:List D} {a b:Option Int} (h:ev F e ρ S=.ok (.tup l) S) (h1:evO F lo ρ S=.ok a S) (h2:evO F hi ρ S=.ok b S):ev F (.slc e lo hi) ρ S=.ok (.tup (cutD l a b)) S:=by
 simp only [ev,h,h1,h2,Res.bind,slcD,ofO]
noncomputable def tl:CSs→CSs
 | .cons _ r=>r
 | .nil=>.nil
end RP
namespace RP
open R
@[irreducible] noncomputable def Ok {α:Type} (r:Res α) (Q:α→Sr→Prop):Prop:=∃ a S,r=.ok a S∧Q a S
theorem Ok.ex {α:Type} {r:Res α} {Q:α→Sr→Prop} (h:Ok r Q):∃ a S,r=.ok a S∧Q a S:=by unfold Ok at h;exact h
theorem Ok.mk {α:Type} {r:Res α} {Q:α→Sr→Prop} (h:∃ a S,r=.ok a S∧Q a S):Ok r Q:=by unfold Ok;exact h
theorem Ok.mono {α:Type} {r:Res α} {Q Q':α→Sr→Prop} (h:Ok r Q) (k:∀ a S,Q a S→Q' a S):Ok r Q':=by
 obtain ⟨a,S,e,q⟩:=h.ex
 exact .mk ⟨a,S,e,k a S q⟩
theorem qay {α:Type} {a:α} {S:Sr} {Q:α→Sr→Prop} (h:Q a S):Ok (.ok a S) Q:=.mk ⟨a,S,rfl,h⟩
theorem Ok.of {α:Type} {r:Res α} {a:α} {S:Sr} {Q:α→Sr→Prop} (e:r=.ok a S) (h:Q a S):Ok r Q:=.mk ⟨a,S,e,h⟩
section
variable {F:Fs} {N:Nat} {ρ:En} {S:Sr} {r a b:CSs} {e e1 e2:CE} {t:CT} {c:CB} {Q:Fl→Sr→Prop} {s:CS}
theorem yZ (h:Q (.nx ρ) S):Ok (exs F N .nil ρ S) Q:=by rw [jv];exact qay h
theorem qdj (h:Ok (ev F e ρ S) λd S1=>Q (.rt d) S1):Ok (exs F N (.cons (.ret e) r) ρ S) Q:=by
 obtain ⟨d,S1,e1,h1⟩:=h.ex
 rw [x_ret e1];exact qay h1
theorem zA (h:Ok (ev F e ρ S) λd S1=>Ok (asg F t d ρ S1) λρ1 S2=>Ok (exs F N r ρ1 S2) Q):Ok (exs F N (.cons (.set t e) r) ρ S) Q:=by
 obtain ⟨d,S1,e1,h1⟩:=h.ex
 obtain ⟨ρ1,S2,e2,h2⟩:=h1.ex
 rw [qR e1 e2 rfl];exact h2
theorem qa6 (h:Ok (ev F e ρ S) λ_ S1=>Ok (exs F N r ρ S1) Q):Ok (exs F N (.cons (.expr e) r) ρ S) Q:=by
 obtain ⟨d,S1,e1,h1⟩:=h.ex
 rw [x_expr e1 rfl];exact h1
theorem o_if (h:Ok (tst F c ρ S) λx S1=>Ok (exs F N (if x then a else b) ρ S1) λf S2=>match f with | .nx ρ1=>Ok (exs F N r ρ1 S2) Q | f=>Q f S2):Ok (exs F N (.cons (.ifs c a b) r) ρ S) Q:=by
 obtain ⟨x,S1,e1,h1⟩:=h.ex
 obtain ⟨f,S2,e2,h2⟩:=h1.ex
 have:exs F N (.cons (.ifs c a b) r) ρ S=(exs F N (if x then a else b) ρ S1).bind λf S1=>match f with | .nx ρ1=>exs F N r ρ1 S1 | f=>.ok f S1:=by
  cases x <;> simp only [exs,ex,e1,Res.bind] <;> rfl
 rw [this,e2,Res.bind_ok]
 cases f <;> first | exact h2 | exact qay h2
theorem o_no (h:Ok (tst F c ρ S) λx S1=>x=false∧Ok (exs F N r ρ S1) Q):Ok (exs F N (.cons (.ifs c a .nil) r) ρ S) Q:=by
 obtain ⟨x,S1,e1,rfl,h1⟩:=h.ex
 rw [x_no e1 rfl];exact h1
theorem jw {α:Type} {g:α→D} {it:CI} (P:List α→En→Sr→Prop) (xs:List α) (h:Ok (evI F it ρ S) λds S1=>ds=xs.map g∧P [] ρ S1)
  (H:∀ (pre:List α) (x:α) (suf:List α) (ρ:En) (S:Sr),xs=pre++x::suf→P pre ρ S→Ok (asg F t (g x) ρ S) λρ1 S1=>Ok (exs F N a ρ1 S1) λf S2=>match f with | .nx ρ2=>P (pre++[x]) ρ2 S2 | _=>False)
  (K:∀ ρ' S',P xs ρ' S'→Ok (exs F N r ρ' S') Q):Ok (exs F N (.cons (.forS t it a) r) ρ S) Q:=by
 obtain ⟨ds,S1,e1,rfl,h0⟩:=h.ex
 obtain ⟨ρ',S',e2,h2⟩:=qdg (g:=g) (body:=λd ρ S=>(asg F t d ρ S).bind λρ1 S1=>exs F N a ρ1 S1) P xs h0 (by
  intro pre x suf ρ S hp h1
  obtain ⟨ρ1,S2,e3,h3⟩:=(H pre x suf ρ S hp h1).ex
  obtain ⟨f,S3,e4,h4⟩:=h3.ex
  cases f with
  | nx ρ2=>exact ⟨ρ2,S3,by rw [e3,Res.bind_ok,e4],h4⟩
  | _=>exact h4.elim)
 rw [qfv e1 e2 rfl]
 exact K ρ' S' h2
theorem qa7 {f:CF} {l:List D} {Q:D→Sr→Prop} (hl:l.length=f.np) (hk:f.keeps=false) (h:Ok (exs F N f.body (l.map some++List.replicate (f.nn-f.np) none) S) λx S1=>match x with
  | .rt d=>S.length≤S1.length∧refsLt S.length d=true∧Q d (S1.take S.length)
  | _=>False):Ok (callC F N f l S) Q:=by
 obtain ⟨x,S1,e1,h1⟩:=h.ex
 cases x with
 | rt d =>
  obtain ⟨h2,h3,h4⟩:=h1
  have:callC F N f l S=.ok d (S1.take S.length):=by
   simp only [callC,hl,wJ,e1,Res.bind,leave,hk]
   rw [wK (by simp)]
   split
   ·rename_i z;rw [← z,List.take_length]
   ·first | rfl | rw [wJ h3]
  rw [this];exact qay h4
 | _=>exact h1.elim
theorem qdk {e e2:CE} {Q:D→Sr→Prop} (h:Ok (ev F e ρ S) λx S1=>∃ n l,x=.ref n∧S1[n]?=some (.lst l)∧Ok (ev F e2 ρ S1) λy S2=>S2[n]?=some (.lst l)∧l.length≤1000∧refsLt 0 y=true∧Q .non (S2.set n (.lst (l++[y])))):Ok (ev F (.app e e2) ρ S) Q:=by
 obtain ⟨x,S1,e1,n,l,rfl,h1,h2⟩:=h.ex
 obtain ⟨y,S2,e2,h3,h4,h5,h6⟩:=h2.ex
 have ha:appD S2 (.ref n) y=.ok .non (S2.set n (.lst (l++[y]))):=by
  have:l.length<PySem.sizeLine:=by unfold PySem.sizeLine;lia
  simp [appD,h3,h5,this]
 rw [qkz e1 (by simp [isLst,h1]) e2 ha];exact qay h6
theorem jn {S1:Sr} {l:List D} (h:ev F e ρ S=.ok (.lst l) S1):evI F (.seq e) ρ S=.ok l S1:=by
 simp only [evI,h,Res.bind]
end
end RP
namespace RP
open R
end RP
namespace RP
open R
noncomputable def nth (o:List Int) (x:Int):Int:=o.getD x.toNat 0
section
variable {many:Nat} {o:List Int} (hp:o.Perm (rI many))
include hp
end
noncomputable def cal (o p:List Int):List Int:=sortI (p.map (nth o))
section
variable {many:Nat} {o:List Int} (hp:o.Perm (rI many))
include hp
end
section
variable {w:Wb} (hw:WbOk w) {o:List Int} (hp:o.Perm (rI w.costs.length))
include hw hp
end
theorem qkB {F:Fs} {ρ:En} {S:Sr} {ns:List Int} {c:Int} (h:ρ[0]?=some (some (.lst (ns.map .int)))) (hc1:1≤c) (hc2:c≤1000):∃ n:Nat,(2*n:Int)≤c+1∧evI F (.rng (.cons (.cst (.int 0)) (.cons (.blt .max2 (.cons (.cst (.int 1)) (.cons (.blt .min2 (.cons (.blt .len (.cons (.var 0) .nil)) (.cons (.cst (.int c)) .nil))) .nil))) (.cons (.cst (.int 2)) .nil)))) ρ S=.ok ((List.range n).map λ(k:Nat)=>D.int (0+2*k)) S:=by
 obtain ⟨b,hb⟩:∃ b:Int,b=(if (if c<(ns.length:Int) then c else (ns.length:Int))>1 then (if c<(ns.length:Int) then c else (ns.length:Int)) else 1):=⟨_,rfl⟩
 have hb1:1≤b∧b≤c:=by rw [hb];split <;> split <;> lia
 refine ⟨((b-0+2-1) / 2).toNat,by lia,?_⟩
 have a0:ev F (.var 0) ρ S=.ok (.lst (ns.map .int)) S:=by simp only [ev,varE,h]
 have a1:ev F (.blt .len (.cons (.var 0) .nil)) ρ S=.ok (.int ns.length) S:=qD (qe a0 rfl) (by simp [bltD,one,bLen,lenD])
 have a2:ev F (.blt .min2 (.cons (.blt .len (.cons (.var 0) .nil)) (.cons (.cst (.int c)) .nil))) ρ S=.ok (.int (if c<(ns.length:Int) then c else (ns.length:Int))) S:=qD (qe a1 (qe rfl rfl)) rfl
 have a3:ev F (.blt .max2 (.cons (.cst (.int 1)) (.cons (.blt .min2 (.cons (.blt .len (.cons (.var 0) .nil)) (.cons (.cst (.int c)) .nil))) .nil))) ρ S=.ok (.int b) S:=qD (qe rfl (qe a2 rfl)) (by rw [hb];rfl)
 have a4:evs F (.cons (.cst (.int 0)) (.cons (.blt .max2 (.cons (.cst (.int 1)) (.cons (.blt .min2 (.cons (.blt .len (.cons (.var 0) .nil)) (.cons (.cst (.int c)) .nil))) .nil))) (.cons (.cst (.int 2)) .nil))) ρ S=.ok [.int 0,.int b,.int 2] S:=qe rfl (qe a3 rfl)
 simp only [evI,a4,Res.bind,rngD]
 have hc:-(2^62)≤(0:Int)∧(0:Int)<2^62∧-(2^62)≤b∧b<2^62∧(0:Int)<2∧(2:Int)<2^62:=⟨by decide,by decide,by lia,by lia,by decide,by decide⟩
 rw [wJ hc];rfl
end RP
namespace RP
open R PySem
noncomputable def tx (p:Int × Int):Str:=if p.2=1 then Str.ofString (toString p.1) else Str.ofString (toString p.1)++Str.ofString "/"++Str.ofString (toString p.2)
end RP
namespace RP
open R
noncomputable abbrev NW:Nat:=60
@[irreducible] noncomputable def G (d:Nat):Fs:=run prg NW d
theorem qfM (d:Nat):G d=run prg NW d:=by unfold G;rfl
theorem G_at {d i:Nat} {c:CF} (h:prg[i]?=some c) (l:List D) (S:Sr):G (d+1) i l S=callC (G d) NW c l S:=by
 rw [qfM,qfM]
 show (match prg[i]? with | some c=>callC (run prg NW d) NW c l S | none=>.no)=_
 rw [h]
theorem j7 {d:Nat} {i:Int} {S:Sr}:G (d+1) 0 [.int i] S=.ok (.bl true) S:=by
 rw [G_at (c:=c_0) rfl]
 simp [callC,c_0,Res.bind,exs,ex,ev,varE,isiD,leave]
theorem qS {d:Nat} {i a b:Int} {S:Sr}:G (d+2) 1 [.int i,.int a,.int b] S=.ok (.bl (decide (a≤i)&&decide (i≤b))) S:=by
 rw [G_at (c:=c_1) rfl]
 by_cases h:a≤i <;> simp [callC,c_1,exs,ex,ev,evs,varE,Res.bind,j7,cmpD,h,leave]
theorem qbS {d:Nat} {p:List Int} {S:Sr} (hne:p≠[]) (h:p.Pairwise (· < ·)):G (d+1) 10 [tupI p] S=.ok (.bl true) S:=by
 rw [G_at (c:=c_10) rfl]
 have e:evI (G d) (.zip (.var 0) (.slc (.var 0) (.some (.cst (.int 1))) .none)) [some (tupI p)] S=.ok ((p.zip (p.drop 1)).map λq=>.tup [.int q.1,.int q.2]) S:=by
  have:slcD S (tupI p) (some 1) none=some (tupI (p.drop 1)):=by
   unfold slcD tupI
   simp only [cut1];simp
  simp [Res.bind,callC,exs,ex,ev,evs,evO,evI,asg,asgs,tst,tsts,varE,frE,bltD,one,two,leave,ofO,truD,this]
  simp only [tupI,walkF,List.zip_map',List.zip_map,wu]
  simp
 refine ql rfl (x_ret ?_)
 rw [← qfu h]
 exact zB (p.zip (p.drop 1)) (λq=>decide (q.1<q.2)) (λρ=>∃ x y,ρ=[x,y]) e rfl ⟨_,_,rfl⟩ (by
  rintro q _ ρ ⟨x,y,rfl⟩
  exact ⟨_,rfl,⟨_,_,rfl⟩,by simp [Res.bind,callC,exs,ex,ev,evs,evO,evI,asg,asgs,tst,tsts,varE,frE,bltD,one,two,leave,ofO,truD,cmpD]⟩)
theorem qa8 {d:Nat} {p:List (List Int)} {S:Sr} (h:p.Pairwise λa b=>HT.lexLt a b=true):G (d+1) 10 [.lst (p.map tupI)] S=.ok (.bl true) S:=by
 rw [G_at (c:=c_10) rfl]
 have e:evI (G d) (.zip (.var 0) (.slc (.var 0) (.some (.cst (.int 1))) .none)) [some (.lst (p.map tupI))] S=.ok ((p.zip (p.drop 1)).map λq=>.tup [tupI q.1,tupI q.2]) S:=by
  have:slcD S (.lst (p.map tupI)) (some 1) none=some (.lst ((p.drop 1).map tupI)):=by
   unfold slcD lstOf
   simp [cut1]
  rw [← qbP]
  simp only [evI,ev,evO,varE,Res.bind,List.getElem?_cons_zero,this,ofO,walkF]
 refine ql rfl (x_ret ?_)
 rw [← qc9 h]
 exact zB (p.zip (p.drop 1)) (λq=>HT.lexLt q.1 q.2) (λρ=>∃ x y,ρ=[x,y]) e rfl ⟨_,_,rfl⟩ (by
  rintro q _ ρ ⟨x,y,rfl⟩
  exact ⟨_,rfl,⟨_,_,rfl⟩,by simp [Res.bind,callC,exs,ex,ev,evs,evO,evI,asg,asgs,tst,tsts,varE,frE,bltD,one,two,leave,ofO,truD,cmpD,tupI,qQ]⟩)
theorem y0 {d n:Nat} {p:List Int} {S:Sr} (h:PlOk n p):G (d+3) 9 [tupI p,.int n] S=.ok (.bl true) S:=by
 rw [G_at (c:=c_9) rfl]
 have hn:(List.map D.int p).isEmpty=false:=by
  cases p with
  | nil=>exact absurd rfl h.ne
  | cons a r=>rfl
 refine ql rfl (x_no (S1:=S) ?_ (x_ret (yY (x:=true) (y:=true) ?_ ?_)))
 ·simp [Res.bind,callC,exs,ex,ev,evs,evO,evI,asg,asgs,tst,tsts,varE,frE,bltD,one,two,leave,ofO,truD,tupI,isiD,hn]
 ·exact j4 (g:=.int) p (λρ=>∃ x,ρ=[some (.int n),x]) rfl rfl ⟨_,rfl⟩ (by
   rintro q hq ρ ⟨x,rfl⟩
   have h1:=(h.rng q hq).1
   have h2:q≤(n:Int)-1:=by have:=(h.rng q hq).2;omega
   exact ⟨_,rfl,⟨_,rfl⟩,by simp [Res.bind,callC,exs,ex,ev,evs,evO,evI,asg,asgs,tst,tsts,varE,frE,bltD,one,two,leave,ofO,truD,binD,binI,qS,h1,h2]⟩)
 ·exact qh rfl (qbS h.ne h.up)
theorem y7 {d n:Nat} {p:List Int} {S:Sr} (h:PlOk n p) (h2:p.length≤4):G (d+4) 8 [tupI p,.int n] S=.ok (.bl true) S:=by
 rw [G_at (c:=c_8) rfl]
 exact ql rfl (x_ret (yY (x:=true) (y:=true) (qh rfl (y0 h)) (zb (qD rfl (zw _ _)) rfl (by simp [cmpD];omega))))
theorem qfN {d n:Nat} {t:Tie} {S:Sr} (h:PlOk n t.1) (h2:t.1.length≤4) (h3:1≤t.2∧t.2≤1000000):G (d+5) 7 [tieD t,.int n] S=.ok (.bl true) S:=by
 rw [G_at (c:=c_7) rfl]
 refine ql rfl (x_no (S1:=S) ?_ (qR (d:=tieD t) (S1:=S) rfl (ρ1:=[some (tieD t),some (.int n),some (tupI t.1),some (.int t.2)]) rfl (x_ret (yY (x:=true) (y:=true) (qh rfl (y7 h h2)) ?_))))
 ·simp [Res.bind,callC,exs,ex,ev,evs,evO,evI,asg,asgs,tst,tsts,varE,frE,bltD,one,two,leave,ofO,truD,tieD,isiD,bLen,lenD,cmpD,eqD]
 ·simp [Res.bind,callC,exs,ex,ev,evs,evO,evI,asg,asgs,tst,tsts,varE,frE,bltD,one,two,leave,ofO,truD,qS,h3.1,h3.2]
theorem qcv {d:Nat} {w:Wb} {S:Sr} (h:WbOk w):G (d+6) 6 [.tup (w.ties.map tieD),.int w.costs.length] S=.ok (.bl true) S:=by
 rw [G_at (c:=c_6) rfl]
 refine ql rfl (x_no (S1:=S) ?_ (x_no (S1:=S) (t_no (x:=true) (t_of ?_)) (x_ret (qh (l:=[.lst ((w.ties.map (·.1)).map tupI)]) (qe ?_ rfl) (qa8 h.t3)))))
 ·simp [Res.bind,callC,exs,ex,ev,evs,evO,evI,asg,asgs,tst,tsts,varE,frE,bltD,one,two,leave,ofO,truD,isiD,bLen,lenD,cmpD];have:=h.t1;omega
 ·exact j4 (g:=tieD) w.ties (λρ=>∃ x,ρ=[some (.int w.costs.length),x]) rfl rfl ⟨_,rfl⟩ (by
   rintro t ht ρ ⟨x,rfl⟩
   obtain ⟨a,b,c⟩:=h.t2 t ht
   exact ⟨_,rfl,⟨_,rfl⟩,qh rfl (qfN a b c)⟩)
 ·have:=j3 (g:=tieD) (F:=G (d+5)) (fr:=[]) (nt:=2) (elt:=.var 0) (tg:=.tup (.cons (.var 0) (.cons (.var 1) .nil))) (it:=.seq (.var 0)) (ifs:=.nil) (ρ:=[some (.tup (w.ties.map tieD)),some (.int w.costs.length)]) (S:=S) (S1:=S) w.ties (λ_=>true) (λt=>tupI t.1) (λρ=>∃ x y,ρ=[x,y]) rfl rfl ⟨_,_,rfl⟩ (by have:=h.t1;unfold PySem.sizeLine;omega) (by
   rintro t ht ρ m ⟨x,y,rfl⟩
   exact ⟨_,rfl,⟨_,_,rfl⟩,rfl,λ_=>⟨rfl,qw _ t.1⟩⟩)
  rw [zH] at this
  rw [wu]
  exact this
theorem qbT {d:Nat} {w:Wb} {S:Sr} (h:WbOk w):G (d+4) 5 [tupI w.costs] S=.ok (.bl true) S:=by
 rw [G_at (c:=c_5) rfl]
 refine ql rfl (x_no (S1:=S) ?_ (x_ret ?_))
 ·have h1:(1:Int)≤w.costs.length:=by have:=h.c1;omega
  have h2:(w.costs.length:Int)≤12:=by have:=h.c2;omega
  simp [Res.bind,callC,exs,ex,ev,evs,evO,evI,asg,asgs,tst,tsts,varE,frE,bltD,one,two,leave,ofO,truD,tupI,isiD,bLen,lenD,cmpD,h1,h2]
 ·exact j4 (g:=.int) w.costs (λρ=>∃ x,ρ=[x]) rfl rfl ⟨_,rfl⟩ (by
   rintro q hq ρ ⟨x,rfl⟩
   exact ⟨_,rfl,⟨_,rfl⟩,by simp [Res.bind,callC,exs,ex,ev,evs,evO,evI,asg,asgs,tst,tsts,varE,frE,bltD,one,two,leave,ofO,truD,qS,(h.c3 q hq).1,(h.c3 q hq).2]⟩)
theorem qfO {d:Nat} {w:Wb} {S:Sr} (h:WbOk w):G (d+7) 4 [webD w] S=.ok (.bl true) S:=by
 rw [G_at (c:=c_4) rfl]
 refine ql rfl (x_no (S1:=S) ?_ (qR (d:=webD w) (S1:=S) rfl rfl (x_ret (yY (x:=true) (y:=true) (qh rfl (qbT h)) (qh (l:=[.tup (w.ties.map tieD),.int w.costs.length]) (qe rfl (qe (qD rfl (zw _ _)) rfl)) (qcv h))))))
 simp [Res.bind,callC,exs,ex,ev,evs,evO,evI,asg,asgs,tst,tsts,varE,frE,bltD,one,two,leave,ofO,truD,webD,isiD,bLen,lenD,cmpD,eqD]
theorem y9 (x:Int) (p:List Int):inD (.int x) (p.map .int)=some (p.contains x):=by
 have h1:(p.map D.int).all flatD=true:=by simp [flatD]
 unfold inD
 rw [h1]
 simp only [flatD,Bool.and_self,if_true,List.any_map]
 congr 1
 rw [← List.any_beq']
 rfl
theorem yG {d:Nat} {w:Wb} {p:List Int} {S:Sr} (h:WbOk w):G (d+2) 14 [webD w,tupI p] S=.ok (.lst ((tin w p).map tieD)) S:=by
 rw [G_at (c:=c_14) rfl]
 refine ql rfl (x_ret ?_)
 exact j3 (g:=tieD) (S1:=S) w.ties (λt=>subB t.1 p) tieD (λρ=>∃ x,ρ=[some (tupI p),x]) rfl rfl ⟨_,rfl⟩ (by have:=h.t1;unfold PySem.sizeLine;omega) (by
   rintro t ht ρ m ⟨x,rfl⟩
   refine ⟨_,rfl,⟨_,rfl⟩,qa1 (t_of ?_),λ_=>⟨rfl,yw _ t⟩⟩
   exact zB (g:=.int) t.1 (λx=>p.contains x) (λρ=>∃ x,ρ=[some (tupI p),x]) rfl rfl ⟨_,rfl⟩ (by
    rintro q hq ρ ⟨x,rfl⟩
    exact ⟨_,rfl,⟨_,rfl⟩,zb rfl rfl (y9 q p)⟩))
theorem jx {d:Nat} {x:D} {S:Sr} (hx:refsLt 0 x=true):G (d+1) 0 [x] S=.ok (.bl (isIntB x)) S:=by
 rw [G_at (c:=c_0) rfl]
 cases x with
 | ref n=>simp [refsLt] at hx
 | exc n=>simp [refsLt] at hx
 | _=>exact ql rfl (x_ret rfl)
theorem jo {d:Nat} {x:D} {a b:Int} {S:Sr} (hx:refsLt 0 x=true):G (d+2) 1 [x,.int a,.int b] S=.ok (.bl (wholeB a b x)) S:=by
 cases x with
 | int i=>exact qS
 | ref n=>simp [refsLt] at hx
 | exc n=>simp [refsLt] at hx
 | _ =>
  rw [G_at (c:=c_1) rfl]
  exact ql rfl (x_ret (qa4 (qh rfl (jx hx))))
theorem qa9 {d:Nat} {p:List Int} {S:Sr}:G (d+1) 10 [tupI p] S=.ok (.bl (upB p)) S:=by
 rw [G_at (c:=c_10) rfl]
 have e:evI (G d) (.zip (.var 0) (.slc (.var 0) (.some (.cst (.int 1))) .none)) [some (tupI p)] S=.ok ((p.zip (p.drop 1)).map λq=>.tup [.int q.1,.int q.2]) S:=by
  have:slcD S (tupI p) (some 1) none=some (tupI (p.drop 1)):=by
   unfold slcD tupI
   simp only [cut1];simp
  simp [Res.bind,callC,exs,ex,ev,evs,evO,evI,asg,asgs,tst,tsts,varE,frE,bltD,one,two,leave,ofO,truD,this]
  simp only [tupI,walkF,List.zip_map',List.zip_map,wu]
  simp
 exact ql rfl (x_ret (zB (p.zip (p.drop 1)) (λq=>decide (q.1<q.2)) (λρ=>∃ x y,ρ=[x,y]) e rfl ⟨_,_,rfl⟩ (by
  rintro q _ ρ ⟨x,y,rfl⟩
  exact ⟨_,rfl,⟨_,_,rfl⟩,by simp [Res.bind,callC,exs,ex,ev,evs,evO,evI,asg,asgs,tst,tsts,varE,frE,bltD,one,two,leave,ofO,truD,cmpD]⟩)))
theorem qag {d:Nat} {p:List (List Int)} {S:Sr}:G (d+1) 10 [.lst (p.map tupI)] S=.ok (.bl (upT p)) S:=by
 rw [G_at (c:=c_10) rfl]
 have e:evI (G d) (.zip (.var 0) (.slc (.var 0) (.some (.cst (.int 1))) .none)) [some (.lst (p.map tupI))] S=.ok ((p.zip (p.drop 1)).map λq=>.tup [tupI q.1,tupI q.2]) S:=by
  have:slcD S (.lst (p.map tupI)) (some 1) none=some (.lst ((p.drop 1).map tupI)):=by
   unfold slcD lstOf
   simp [cut1]
  rw [← qbP]
  simp only [evI,ev,evO,varE,Res.bind,List.getElem?_cons_zero,this,ofO,walkF]
 exact ql rfl (x_ret (zB (p.zip (p.drop 1)) (λq=>HT.lexLt q.1 q.2) (λρ=>∃ x y,ρ=[x,y]) e rfl ⟨_,_,rfl⟩ (by
  rintro q _ ρ ⟨x,y,rfl⟩
  exact ⟨_,rfl,⟨_,_,rfl⟩,by simp [Res.bind,callC,exs,ex,ev,evs,evO,evI,asg,asgs,tst,tsts,varE,frE,bltD,one,two,leave,ofO,truD,cmpD,tupI,qQ]⟩)))
theorem zS {d:Nat} {many:Int} {x:D} {S:Sr} (hx:refsLt 0 x=true):G (d+3) 9 [x,.int many] S=.ok (.bl (placesB many x)) S:=by
 rw [G_at (c:=c_9) rfl]
 cases x with
 | ref n=>simp [refsLt] at hx
 | exc n=>simp [refsLt] at hx
 | tup l =>
  cases l with
  | nil=>exact ql rfl (yv (S1:=S) (yx (t_no (x:=true) (t_of rfl)) rfl) (x_ret rfl))
  | cons a r =>
   refine ql rfl (x_no (S1:=S) (yx (t_no (x:=true) (t_of rfl)) rfl) (x_ret ?_))
   have e:=zB (g:=λy:D=>y) (F:=G (d+2)) (fr:=[1]) (nt:=1) (elt:=.call 1 (.cons (.var 1) (.cons (.cst (.int 0)) (.cons (.bin .sub (.var 0) (.cst (.int 1))) .nil)))) (tg:=.var 1) (it:=.seq (.var 0)) (ρ:=[some (.tup (a::r)),some (.int many)]) (S:=S) (S1:=S) (ds:=a::r) (a::r) (wholeB 0 (many-1)) (λρ=>∃ y,ρ=[some (.int many),y]) rfl (by simp) ⟨_,rfl⟩ (by
    rintro q hq ρ ⟨y,rfl⟩
    exact ⟨_,rfl,⟨_,rfl⟩,qh rfl (jo (qA hx hq))⟩)
   have hw:=qaw 0 (many-1) (a::r)
   cases z:intsOf (a::r) with
   | none =>
    rw [z] at hw
    rw [hw] at e
    simp only [placesB,z]
    exact qa4 e
   | some ns =>
    rw [z] at hw
    rw [hw] at e
    have hl:=qa3 z
    have hne:ns.isEmpty=false:=by
     cases ns with
     | nil=>simp at hl
     | cons b t=>rfl
    simp only [placesB,z,hne,Bool.not_false,Bool.true_and]
    rw [hl] at e ⊢
    exact yY e (qh rfl qa9)
 | _=>exact ql rfl (yv (S1:=S) (qax rfl) (x_ret rfl))
theorem ne2 (n:Nat) (S:Sr):cmpD .ne (.int n) (.int 2) S=some (!decide (n=2)):=by
 show some (!((n:Int) == 2))=_
 congr 2
 rw [Bool.eq_iff_iff];simp;omega
theorem gtN (n:Nat) (k:Int) (S:Sr):cmpD .gt (.int n) (.int k) S=some (decide (k<n)):=rfl
theorem leN (n:Nat) (k:Int) (S:Sr):cmpD .le (.int n) (.int k) S=some (decide ((n:Int)≤k)):=rfl
theorem qbU {d:Nat} {many:Int} {x:D} {S:Sr} (hx:refsLt 0 x=true):G (d+4) 8 [x,.int many] S=.ok (.bl (placesB many x&&decide (lenT x≤4))) S:=by
 rw [G_at (c:=c_8) rfl]
 have ep:=zS (d:=d) (many:=many) (S:=S) hx
 cases zp:placesB many x with
 | false =>
  rw [zp] at ep
  exact ql rfl (x_ret (qa4 (qh rfl ep)))
 | true =>
  rw [zp] at ep
  cases x with
  | tup q =>
   refine ql rfl (x_ret (yY (x:=true) (qh rfl ep) (zb (qD rfl (zC _ _)) rfl ?_)))
   rw [leN]
   congr 1
   rw [decide_eq_decide]
   show _ ↔ q.length≤4
   omega
  | _=>simp [placesB] at zp
theorem qd0 {d:Nat} {many:Int} {x:D} {S:Sr} (hx:refsLt 0 x=true):G (d+5) 7 [x,.int many] S=.ok (.bl (tieB many x)) S:=by
 rw [G_at (c:=c_7) rfl]
 cases x with
 | ref n=>simp [refsLt] at hx
 | exc n=>simp [refsLt] at hx
 | tup l =>
  by_cases h2:l.length=2
  ·match l,h2 with
   | [p,h],_ =>
    have hp:refsLt 0 p=true:=qA hx (by simp)
    have hh:refsLt 0 h=true:=qA hx (by simp)
    have ep:=qbU (d:=d) (many:=many) (S:=S) hp
    have ew:=jo (d:=d+2) (a:=1) (b:=1000000) (S:=S) hh
    refine ql rfl (x_no (S1:=S) (yx (t_no (x:=true) (t_of rfl)) (t_of (zb (qD rfl (zC _ _)) rfl (ne2 _ _)))) (qR (d:=.tup [p,h]) (S1:=S) rfl (ρ1:=[some (.tup [p,h]),some (.int many),some p,some h]) rfl (x_ret ?_)))
    exact yY (qh rfl ep) (qh rfl ew)
  ·have:tieB many (.tup l)=false:=by
    unfold tieB
    split
    ·rename_i e;cases e;simp at h2
    ·rfl
   rw [this]
   have e:cmpD .ne (.int l.length) (.int 2) S=some true:=by rw [ne2,w6 h2];rfl
   exact ql rfl (yv (S1:=S) (yx (t_no (x:=true) (t_of rfl)) (t_of (zb (qD rfl (zC _ _)) rfl e))) (x_ret rfl))
 | _=>exact ql rfl (yv (S1:=S) (qax rfl) (x_ret rfl))
theorem qbV {d:Nat} {many:Int} {x:D} {S:Sr} (hx:refsLt 0 x=true):G (d+6) 6 [x,.int many] S=.ok (.bl (tiesB many x)) S:=by
 rw [G_at (c:=c_6) rfl]
 cases x with
 | ref n=>simp [refsLt] at hx
 | exc n=>simp [refsLt] at hx
 | tup l =>
  have e2:tst (G (d+5)) (.val (.cmp .gt (.blt .len (.cons (.var 0) .nil)) (.cst (.int 30)))) [some (.tup l),some (.int many)] S=.ok (decide ((30:Int)<l.length)) S:=t_of (zb (qD rfl (zC _ _)) rfl (gtN _ _ _))
  by_cases h30:l.length≤30
  ·rw [w6 (by omega)] at e2
   have e:=zB (g:=λy:D=>y) (F:=G (d+5)) (fr:=[1]) (nt:=1) (elt:=.call 7 (.cons (.var 1) (.cons (.var 0) .nil))) (tg:=.var 1) (it:=.seq (.var 0)) (ρ:=[some (.tup l),some (.int many)]) (S:=S) (S1:=S) (ds:=l) l (tieB many) (λρ=>∃ y,ρ=[some (.int many),y]) rfl (by simp) ⟨_,rfl⟩ (by
    rintro q hq ρ ⟨y,rfl⟩
    exact ⟨_,rfl,⟨_,rfl⟩,qh rfl (qd0 (qA hx hq))⟩)
   refine ql rfl (x_no (S1:=S) (yx (t_no (x:=true) (t_of rfl)) e2) ?_)
   cases za:l.all (tieB many) with
   | false =>
    rw [za] at e
    have:tiesB many (.tup l)=false:=by simp only [tiesB,za,Bool.and_false,Bool.false_and]
    rw [this]
    exact yv (t_no (x:=false) (t_of e)) (x_ret rfl)
   | true =>
    rw [za] at e
    obtain ⟨ts,el,ek⟩:=qdi za
    have:tiesB many (.tup l)=upT (ts.map (·.1)):=by simp only [tiesB,za,wm h30,Bool.true_and,ek]
    rw [this]
    have e4:=j3 (g:=tieD) (F:=G (d+5)) (fr:=[]) (nt:=2) (elt:=.var 0) (tg:=.tup (.cons (.var 0) (.cons (.var 1) .nil))) (it:=.seq (.var 0)) (ifs:=.nil) (ρ:=[some (.tup l),some (.int many)]) (S:=S) (S1:=S) (ds:=l) ts (λ_=>true) (λt=>tupI t.1) (λρ=>∃ x y,ρ=[x,y]) rfl el ⟨_,_,rfl⟩ (by have:=congrArg List.length el;rw [wP] at this;unfold PySem.sizeLine;omega) (by
     rintro t ht ρ m ⟨x,y,rfl⟩
     exact ⟨_,rfl,⟨_,_,rfl⟩,rfl,λ_=>⟨rfl,qw _ t.1⟩⟩)
    rw [zH] at e4
    have e5:=qag (d:=d+4) (p:=ts.map (·.1)) (S:=S)
    rw [wu] at e5
    exact x_no (t_no (x:=true) (t_of e)) (x_ret (qh (qe e4 rfl) e5))
  ·have:tiesB many (.tup l)=false:=by simp only [tiesB,w6 h30,Bool.false_and]
   rw [this]
   rw [wm (by omega)] at e2
   exact ql rfl (yv (S1:=S) (yx (t_no (x:=true) (t_of rfl)) e2) (x_ret rfl))
 | _=>exact ql rfl (yv (S1:=S) (qax rfl) (x_ret rfl))
theorem chainN (a b:Int) (n:Nat) {F:Fs} {ρ:En} {S:Sr} {e:CE} (h:ev F e ρ S=.ok (.int n) S):ev F (.chain .le .le (.cst (.int a)) e (.cst (.int b))) ρ S=.ok (.bl (decide (a≤n)&&decide ((n:Int)≤b))) S:=by
 by_cases z:a≤(n:Int) <;> simp [ev,h,Res.bind,cmpD,z]
theorem qba {d:Nat} {x:D} {S:Sr} (hx:refsLt 0 x=true):G (d+3) 5 [x] S=.ok (.bl (costsB x)) S:=by
 rw [G_at (c:=c_5) rfl]
 cases x with
 | ref n=>simp [refsLt] at hx
 | exc n=>simp [refsLt] at hx
 | tup l =>
  have e2:tst (G (d+2)) (.not (.val (.chain .le .le (.cst (.int 1)) (.blt .len (.cons (.var 0) .nil)) (.cst (.int 12))))) [some (.tup l)] S=.ok (!(decide ((1:Int)≤l.length)&&decide ((l.length:Int)≤12))) S:=t_no (t_of (chainN _ _ _ (qD rfl (zC _ _))))
  by_cases hl:1≤l.length∧l.length≤12
  ·have e:=zB (g:=λy:D=>y) (F:=G (d+2)) (fr:=[]) (nt:=1) (elt:=.call 1 (.cons (.var 0) (.cons (.cst (.int 1)) (.cons (.cst (.int 100)) .nil)))) (tg:=.var 0) (it:=.seq (.var 0)) (ρ:=[some (.tup l)]) (S:=S) (S1:=S) (ds:=l) l (wholeB 1 100) (λρ=>∃ y,ρ=[y]) rfl (by simp) ⟨_,rfl⟩ (by
    rintro q hq ρ ⟨y,rfl⟩
    exact ⟨_,rfl,⟨_,rfl⟩,qh rfl (jo (qA hx hq))⟩)
   have:costsB (.tup l)=l.all (wholeB 1 100):=by simp only [costsB,wm hl.1,wm hl.2,Bool.true_and]
   rw [this]
   rw [wm (show (1:Int)≤l.length by omega),wm (show (l.length:Int)≤12 by omega)] at e2
   exact ql rfl (x_no (S1:=S) (yx (t_no (x:=true) (t_of rfl)) e2) (x_ret e))
  ·have hd:(decide ((1:Int)≤l.length)&&decide ((l.length:Int)≤12))=false:=by
    rw [Bool.and_eq_false_iff,decide_eq_false_iff_not,decide_eq_false_iff_not];omega
   have:costsB (.tup l)=false:=by
    have:(decide (1≤l.length)&&decide (l.length≤12))=false:=by
     rw [Bool.and_eq_false_iff,decide_eq_false_iff_not,decide_eq_false_iff_not];omega
    simp only [costsB,this,Bool.false_and]
   rw [this]
   rw [hd] at e2
   exact ql rfl (yv (S1:=S) (yx (t_no (x:=true) (t_of rfl)) e2) (x_ret rfl))
 | _=>exact ql rfl (yv (S1:=S) (qax rfl) (x_ret rfl))
theorem qaz {d:Nat} {x:D} {S:Sr} (hx:refsLt 0 x=true):G (d+7) 4 [x] S=.ok (.bl (isWebB x)) S:=by
 rw [G_at (c:=c_4) rfl]
 cases x with
 | ref n=>simp [refsLt] at hx
 | exc n=>simp [refsLt] at hx
 | tup l =>
  by_cases h2:l.length=2
  ·match l,h2 with
   | [c,t],_ =>
    have hc:refsLt 0 c=true:=qA hx (by simp)
    have ht:refsLt 0 t=true:=qA hx (by simp)
    have ec:=qba (d:=d+3) (S:=S) hc
    refine ql rfl (x_no (S1:=S) (yx (t_no (x:=true) (t_of rfl)) (t_of (zb (qD rfl (zC _ _)) rfl (ne2 _ _)))) (qR (d:=.tup [c,t]) (S1:=S) rfl (ρ1:=[some (.tup [c,t]),some c,some t]) rfl (x_ret ?_)))
    cases zc:costsB c with
    | false =>
     rw [zc] at ec
     have:isWebB (.tup [c,t])=false:=by simp only [isWebB,zc,Bool.false_and]
     rw [this]
     exact qa4 (qh rfl ec)
    | true =>
     rw [zc] at ec
     cases c with
     | tup q =>
      have et:=qbV (d:=d) (many:=(q.length:Int)) (S:=S) ht
      have:isWebB (.tup [.tup q,t])=(true&&tiesB (q.length:Int) t):=by simp only [isWebB,zc,lenT]
      rw [this]
      exact yY (qh rfl ec) (qh (qe rfl (qe (qD rfl (zC _ _)) rfl)) et)
     | _=>simp [costsB] at zc
  ·have:isWebB (.tup l)=false:=by
    unfold isWebB
    split
    ·rename_i e;cases e;simp at h2
    ·rfl
   rw [this]
   have e:cmpD .ne (.int l.length) (.int 2) S=some true:=by rw [ne2,w6 h2];rfl
   exact ql rfl (yv (S1:=S) (yx (t_no (x:=true) (t_of rfl)) (t_of (zb (qD rfl (zC _ _)) rfl e))) (x_ret rfl))
 | _=>exact ql rfl (yv (S1:=S) (qax rfl) (x_ret rfl))
section
variable {F:Fs} {N:Nat} {ρ:En} {S S1 S2:Sr} {e:CE} {s:CS} {r a b:CSs} {c:CB} {y:D}
theorem tc {x:Bool} (h:tst F c ρ S=.ok x S1):tst F (.cal c) ρ S=.ok x S1:=by simp [tst,h]
theorem qfP {X:Res Fl} (h:exs F N (.cons s r) ρ S=X) (h2:noE (ex F N s ρ S)=ex F N s ρ S):exs F N (.cons (.cal s) r) ρ S=X:=by
 rw [← h];simp only [exs,ex,h2]
theorem j8 {d:D} (h:ev F e ρ S=.ok d S1):exs F N (.cons (.cal (.ret e)) r) ρ S=.ok (.rt d) S1:=qfP (x_ret h) (by simp [ex,h,Res.bind])
theorem qM (h:ex F N s ρ S=.err y S1):exs F N (.cons s r) ρ S=.err y S1:=by simp [exs,h,Res.bind]
theorem jp (h:tst F c ρ S=.ok true S1) (h2:exs F N a ρ S1=.err y S2):ex F N (.ifs c a b) ρ S=.err y S2:=by simp [ex,h,h2,Res.bind]
theorem qg8 (h:tst F c ρ S=.err y S1):ex F N (.ifs c a b) ρ S=.err y S1:=by simp [ex,h,Res.bind]
theorem qkC (h:ev F e ρ S=.err y S1):tst F (.val e) ρ S=.err y S1:=by simp [tst,h,Res.bind]
theorem qi4 (h:tst F c ρ S=.err y S1):tst F (.not c) ρ S=.err y S1:=by simp [tst,h,Res.bind]
theorem yf (h:ev F e ρ S=.err y S1):ex F N (.expr e) ρ S=.err y S1:=by simp [ex,h,Res.bind]
theorem zn {i:Nat} {es:CEs} {l:List D} (h:evs F es ρ S=.ok l S1) (h2:F i l S1=.err y S2):ev F (.call i es) ρ S=.err y S2:=by simp [ev,h,h2,Res.bind]
theorem ja {f:CF} {l:List D} (hl:l.length=f.np) (h:exs F N f.body (l.map some++List.replicate (f.nn-f.np) none) S=.err y S1):callC F N f l S=.err y S1:=by simp [callC,hl,h,Res.bind]
end
noncomputable def wlen:D→Nat
 | .tup (c::_)=>lenT c
 | _=>0
theorem qd1 {x:D} (h:isWebB x=true):∃ q ts,x=.tup [.tup q,ts]:=by
 unfold isWebB at h
 split at h
 ·rename_i c t
  cases c with
  | tup q=>exact ⟨q,t,rfl⟩
  | _=>simp [costsB] at h
 ·cases h
theorem qbW {d:Nat} {x:D} {S:Sr} (hx:refsLt 0 x=true):G (d+8) 11 [x] S=if isWebB x=true then .ok .non S else .err (.exc 37) S:=by
 rw [G_at (c:=c_11) rfl]
 have e:=qaz (d:=d) (S:=S) hx
 cases z:isWebB x with
 | true=>rw [z] at e;rw [wJ rfl];exact qda rfl (x_no (S1:=S) (tc (t_no (x:=true) (t_of (qh rfl e)))) jv)
 | false=>rw [z] at e;rw [wK (by decide)];exact ja rfl (qM (jp (S1:=S) (tc (t_no (x:=false) (t_of (qh rfl e)))) (qM rfl)))
theorem qcw {d:Nat} {x t:D} {S:Sr} (hx:refsLt 0 x=true) (ht:refsLt 0 t=true):G (d+9) 12 [x,t] S=if isWebB x=true then .ok (.bl (placesB (wlen x) t)) S else .err (.exc 37) S:=by
 rw [G_at (c:=c_12) rfl]
 have e:=qbW (d:=d) (S:=S) hx
 cases z:isWebB x with
 | true =>
  rw [z,wJ rfl] at e
  obtain ⟨q,ts,rfl⟩:=qd1 z
  rw [wJ rfl]
  exact ql rfl (x_expr (S1:=S) (qh rfl e) (j8 (qh (l:=[t,.int q.length]) (qe rfl (qe (qD (qe (zN rfl rfl rfl) rfl) (zC _ _)) rfl)) (zS (d:=d+5) ht))))
 | false =>
  rw [z,wK (by decide)] at e
  rw [wK (by decide)]
  exact ja rfl (qM (yf (zn rfl e)))
end RP
namespace RP
open R
theorem qg9 {d:Nat} {c:Int} {S:Sr}:∃ m:Int,0≤m∧m<10^60∧G (d+1) 19 [.int c] S=.ok (.int m) S:=by
 have p0:(0:Int)<10^60:=by decide
 have h1:=wt c p0
 have h2:=Int.fmod_lt_of_pos c p0
 refine ⟨(c.fmod (10^60)*845098040014256830712216258592636193483572396323965406503637).fmod (10^60),wt _ p0,Int.fmod_lt_of_pos _ p0,?_⟩
 rw [G_at (c:=c_19) rfl]
 refine ql rfl (x_ret (qB (d1:=.int (c.fmod (10^60)*845098040014256830712216258592636193483572396323965406503637)) (d2:=.int (10^60)) (S1:=S) (qB (d1:=.int (c.fmod (10^60))) (S1:=S) (qB (d1:=.int c) (d2:=.int (10^60)) (S1:=S) rfl rfl rfl) rfl ?_) rfl rfl))
 exact bmul (qdd (by
  have e:(10:Int)^60<2^250:=by decide
  have:(((2:Nat)^250:Nat):Int)=(2:Int)^250:=by norm_cast
  lia) (by decide))
theorem zK {d n:Nat} {v m:Int} {S:Sr} (hn:n<S.length) (h0:0<m) (hm:m.natAbs<2^64):G (d+1) 21 [.ref n,.int m] (pk S n v)=.ok (.int (v.fmod m)) (pk S n (v.fdiv m)):=by
 rw [G_at (c:=c_21) rfl]
 have e:=qkw hn v
 have hx:exs (G d) NW c_21.body [some (.ref n),some (.int m),none] (pk S n v)=.ok (.rt (.int (v.fmod m))) (pk S n (v.fdiv m)):=by
  refine qR (d:=.tup [.int (v.fdiv m),.int (v.fmod m)]) (S1:=pk S n v) (qD (qe (zN (d:=.int v) rfl rfl ?_) (qe rfl rfl)) ?_) (ρ1:=[some (.ref n),some (.int m),some (.int (v.fmod m))]) (S2:=pk S n (v.fdiv m)) ?_ (x_ret rfl)
  ·simp [idxD,seqOf,lstOf,e,L2.atI,L2.ixN]
  ·simp [bltD,two,bDivmod,qde h0 hm]
  ·have:putE (pk S n v) (.ref n) (.int 0) (.int (v.fdiv m))=some (pk S n (v.fdiv m)):=by
    simp [putE,putN,e,L2.ixN,refsLt]
    unfold pk;simp
   simp only [asg,asgs,ev,varE,Res.bind,List.getElem?_cons_zero,this]
   rfl
 exact qdb (S2:=[]) rfl rfl (by rw [List.append_nil];exact hx) (by simp [qz]) rfl
theorem qbX (l:List Int) (x:Int) (S:Sr):∃ c:Int,idxD S (.lst (l.map .int++[.int x])) (.int 0)=some (.int c):=by
 cases l with
 | nil=>exact ⟨x,rfl⟩
 | cons a r=>exact ⟨a,by simp [idxD,seqOf,lstOf,L2.atI,L2.ixN]⟩
theorem qha (l:List Int) (a b:Option Int):∃ m:List Int,cutD (l.map .int) a b=m.map .int∧m.length≤l.length:=by
 unfold cutD
 rw [wP,← List.map_drop,← List.map_take]
 exact ⟨_,rfl,by simp;lia⟩
theorem bcat {a b:List D} {S:Sr} (h:a.length+b.length≤1000):binD .add (.lst a) (.lst b) S=some (.lst (a++b)):=by
 have:catOk a b=true:=by unfold catOk PySem.sizeLine;rw [we];lia
 simp [binD,lstOf,this]
theorem qaA {d:Nat} {ns:List Int} (h63:ns.length≤63) {k f a:Int} {x y:Option D} {S:Sr} (hf0:0≤f) (hf:f<10^60) (ha:0≤a) (ha2:a<100):∃ m c:Int,0≤m∧m<10^60 ∧
  (asg (G (d+1)) (.var 3) (.int a) [some (.lst (ns.map .int)),some (.int k),some (.int f),x,y] S).bind (λρ1 S1=>exs (G (d+1)) NW (.cons (.set (.var 4) (.idx (.bin .add (.slc (.var 0) (.some (.var 3)) (.some (.bin .add (.var 3) (.cst (.int 1))))) (.lst false (.cons (.bin .add (.bin .add (.bin .mul (.cst (.int 5701)) (.var 3)) (.cst (.int 43))) (.bin .mul (.cst (.int 7)) (.idx (.bin .add (.var 0) (.lst false (.cons (.cst (.int 0)) .nil))) (.cst (.int 0))))) .nil))) (.cst (.int 0)))) (.cons (.set (.var 2) (.bin .add (.bin .mul (.var 2) (.bin .pow (.cst (.int 10)) (.cst (.int 60)))) (.call 19 (.cons (.var 4) .nil)))) .nil)) ρ1 S1)
   = .ok (.nx [some (.lst (ns.map .int)),some (.int k),some (.int (f*10^60+m)),some (.int a),some (.int c)]) S:=by
 obtain ⟨x0,hx0⟩:=qbX ns 0 S
 obtain ⟨ms,hms,hl⟩:=qha ns (some a) (some (a+1))
 obtain ⟨c,hc⟩:=qbX ms (5701*a+43+7*x0) S
 obtain ⟨m,hm0,hm1,hm⟩:=qg9 (d:=d) (c:=c) (S:=S)
 refine ⟨m,c,hm0,hm1,?_⟩
 rw [show asg (G (d+1)) (.var 3) (.int a) [some (.lst (ns.map .int)),some (.int k),some (.int f),x,y] S=.ok [some (.lst (ns.map .int)),some (.int k),some (.int f),some (.int a),y] S from rfl,Res.bind_ok]
 refine qR (d:=.int c) (S1:=S) (zN (d1:=.lst (ms.map .int++[.int (5701*a+43+7*x0)])) (S1:=S) (qB (d1:=.lst (ms.map .int)) (d2:=.lst [.int (5701*a+43+7*x0)]) (S1:=S) ?_ ?_ (bcat (by simp;lia))) rfl hc) rfl (qR (d:=.int (f*10^60+m)) (S1:=S) (qB (d1:=.int (f*10^60)) (S1:=S) (qB (d2:=.int (10^60)) (S1:=S) rfl rfl (bmul (qdd ?_ (by decide)))) (qh rfl hm) badd) rfl jv)
 ·simp only [ev,evO,varE,Res.bind,List.getElem?_cons_zero,List.getElem?_cons_succ,badd,ofO,slcD,lstOf]
  simp only [wk,hms]
 ·have e1:ev (G (d+1)) (.bin .mul (.cst (.int 7)) (.idx (.bin .add (.var 0) (.lst false (.cons (.cst (.int 0)) .nil))) (.cst (.int 0)))) [some (.lst (ns.map .int)),some (.int k),some (.int f),some (.int a),y] S=.ok (.int (7*x0)) S :=
   qB (S1:=S) rfl (zN (d1:=.lst (ns.map .int++[.int 0])) (S1:=S) (qB (d2:=.lst [.int 0]) (S1:=S) rfl rfl (bcat (by simp;lia))) rfl hx0) (bmul (qdc (by decide)))
  have e2:=qB (F:=G (d+1)) (o:=.add) (S:=S) (S1:=S) (e1:=.bin .add (.bin .mul (.cst (.int 5701)) (.var 3)) (.cst (.int 43))) (d1:=.int (5701*a+43)) (qB (S1:=S) (qB (S1:=S) rfl rfl (bmul (qdc (by decide)))) rfl badd) e1 badd
  exact zz (qe e2 rfl) (by simp)
 ·have e:(10:Int)^60<2^250:=by decide
  have:(((2:Nat)^250:Nat):Int)=(2:Int)^250:=by norm_cast
  lia
theorem qfQ {d:Nat} {ns:List Int} (h63:ns.length≤63) {k:Int} {S:Sr} (hk:0≤k) (hk2:k<90):∃ v:Int,0≤v∧G (d+2) 20 [.lst (ns.map .int),.int k] S=.ok (.ref S.length) (S++[.lst [.int v]]):=by
 obtain ⟨m,c,hm0,hm1,e1⟩:=qaA (d:=d) h63 (k:=k) (f:=0) (a:=k+1) (x:=none) (y:=none) (S:=S) (Int.le_refl 0) (by decide) (by lia) (by lia)
 obtain ⟨m2,c2,hm20,hm21,e2⟩:=qaA (d:=d) h63 (k:=k) (f:=0*10^60+m) (a:=k) (x:=some (.int (k+1))) (y:=some (.int c)) (S:=S) (by lia) (by lia) (by lia) (by lia)
 refine ⟨(0*10^60+m)*10^60+m2,by lia,?_⟩
 rw [G_at (c:=c_20) rfl]
 refine qiX rfl rfl (qR (d:=.int 0) (S1:=S) rfl (ρ1:=[some (.lst (ns.map .int)),some (.int k),some (.int 0),none,none]) rfl (qfv (ds:=[.int (k+1),.int k]) (S1:=S) ?_ (ρ1:=[some (.lst (ns.map .int)),some (.int k),some (.int ((0*10^60+m)*10^60+m2)),some (.int k),some (.int c2)]) (S2:=S) ?_ (x_ret (qct rfl (by simp) rfl))))
 ·have:ev (G (d+1)) (.lst false (.cons (.bin .add (.var 1) (.cst (.int 1))) (.cons (.var 1) .nil))) [some (.lst (ns.map .int)),some (.int k),some (.int 0),none,none] S=.ok (.lst [.int (k+1),.int k]) S:=zz (qe (qB (S1:=S) rfl rfl badd) (qe rfl rfl)) (by simp)
  simp only [evI,this,Res.bind]
 ·rw [j5 e1,j5 e2];rfl
end RP
namespace RP
open R
theorem qhb {r:Int} (h:0≤r∧r<8) (S:Sr):∃ s:Nat,1≤s∧s≤4∧idxD S (.lst [.int 2,.int 2,.int 2,.int 3,.int 3,.int 1,.int 4,.int 2]) (.int r)=some (.int s):=by
 have:r=0∨r=1∨r=2∨r=3∨r=4∨r=5∨r=6∨r=7:=by lia
 rcases this with rfl | rfl | rfl | rfl | rfl | rfl | rfl | rfl
 ·exact ⟨2,by decide,by decide,rfl⟩
 ·exact ⟨2,by decide,by decide,rfl⟩
 ·exact ⟨2,by decide,by decide,rfl⟩
 ·exact ⟨3,by decide,by decide,rfl⟩
 ·exact ⟨3,by decide,by decide,rfl⟩
 ·exact ⟨1,by decide,by decide,rfl⟩
 ·exact ⟨4,by decide,by decide,rfl⟩
 ·exact ⟨2,by decide,by decide,rfl⟩
theorem qfR {d n many:Nat} {v:Int} {S:Sr} (hn:n<S.length) (hv:0≤v) (h1:1≤many) (h2:many≤60):∃ (p:List Int) (u:Int),PlOk many p∧p.length≤4∧0≤u∧G (d+2) 22 [.ref n,.int many] (pk S n v)=.ok (tupI p) (pk S n u):=by
 obtain ⟨s,hs1,hs4,hs⟩:=qhb (fm (v:=v) (m:=8) (by decide)) (pk S n (v.fdiv 8))
 have hu0:0≤v.fdiv 8:=vE hv (by decide)
 have hL:(pk S n (v.fdiv 8)).length=S.length:=qz ..
 have hcnt:(if (many:Int)<(s:Int) then (many:Int) else (s:Int))=((min s many:Nat):Int):=by split <;> lia
 obtain ⟨made,S',e,⟨ms,ls,u,rfl,rfl,hu,hp⟩,hlen,hml⟩:=qfy (g:=.int) (F:=G (d+1)) (fr:=[3,0]) (nt:=1) (elt:=.popAt (.var 0) (.call 21 (.cons (.var 1) (.cons (.blt .len (.cons (.var 0) .nil)) .nil)))) (tg:=.var 2) (it:=.rng (.cons (.blt .min2 (.cons (.var 2) (.cons (.var 1) .nil))) .nil))
  (ρ:=[some (.ref n),some (.int many),some (.int s),some (.ref S.length),none]) (S:=pk S n (v.fdiv 8)++[.lst ((rI many).map .int)]) (S1:=pk S n (v.fdiv 8)++[.lst ((rI many).map .int)]) (rI (min s many)) (λρ=>∃ x,ρ=[some (.ref S.length),some (.ref n),x])
  (λmade T=>∃ ms ls u,made=ms.map .int∧T=pk S n u++[.lst (ls.map .int)]∧0≤u∧(ms++ls).Perm (rI many))
  (i_rng (n:=min s many) (qe (qD (qe rfl (qe rfl rfl)) (by simp only [bltD,two,bMin,hcnt])) rfl) (by lia)) rfl ⟨_,rfl⟩ (by rw [zk];lia) ⟨[],rI many,_,rfl,rfl,hu0,.refl _⟩ (by
   rintro q hq ρ m T ⟨x,rfl⟩ ⟨ms,ls,u,rfl,rfl,hu,hp⟩ hT hm
   have hpl:=hp.length_eq
   rw [wc,zk] at hpl
   rw [wP,zk] at hm
   have hls:0<ls.length:=by lia
   have f:=fm (v:=u) (m:=(ls.length:Int)) (by lia)
   have et:=zK (d:=d) (n:=n) (v:=u) (m:=ls.length) (S:=(S++[.lst (ls.map .int)])++[.lst (ms.map .int)]) (by simp;lia) (by lia) (by lia)
   rw [← zR (by simp;lia),← zR hn,← zR (by simp;lia),← zR hn] at et
   obtain ⟨y,hy⟩:∃ y,ls[(u.fmod ls.length).toNat]?=some y:=⟨_,wD (by lia)⟩
   refine ⟨[some (.ref S.length),some (.ref n),some (.int q)],.int y,pk S n (u.fdiv ls.length)++[.lst ((ls.eraseIdx (u.fmod ls.length).toNat).map .int)],rfl,⟨_,rfl⟩,?_,by simp [qz],rfl,ms++[y],ls.eraseIdx (u.fmod ls.length).toNat,u.fdiv ls.length,by simp,rfl,vE hu (by lia),?_⟩
   ·have at1:∀ u,(pk S n u++[.lst (ls.map .int)]++[.lst (ms.map .int)])[S.length]?=some (.lst (ls.map .int)):=by
     intro u
     rw [List.append_assoc,wZ (by rw [qz];lia),qz];simp
    have hl:bltD .len [.ref S.length] (pk S n u++[.lst (ls.map .int)]++[.lst (ms.map .int)])=.ok (.int ls.length) (pk S n u++[.lst (ls.map .int)]++[.lst (ms.map .int)]):=by
     simp only [bltD,one,bLen,lenD,at1,wk,wP,ofO];rfl
    have hc:ev (G (d+1)) (.call 21 (.cons (.var 1) (.cons (.blt .len (.cons (.var 0) .nil)) .nil))) [some (.ref S.length),some (.ref n),some (.int q)] (pk S n u++[.lst (ls.map .int)]++[.lst (ms.map .int)])=.ok (.int (u.fmod ls.length)) (pk S n (u.fdiv ls.length)++[.lst (ls.map .int)]++[.lst (ms.map .int)]) :=
     qh (qe rfl (qe (qD rfl hl) rfl)) et
    have hpop:popD (pk S n (u.fdiv ls.length)++[.lst (ls.map .int)]++[.lst (ms.map .int)]) (.ref S.length) (.int (u.fmod ls.length))=.ok (.int y) (pk S n (u.fdiv ls.length)++[.lst ((ls.eraseIdx (u.fmod ls.length).toNat).map .int)]++[.lst (ms.map .int)]):=by
     unfold popD
     simp only [at1]
     rw [wJ ⟨f.1,by lia⟩,wY,hy]
     simp only [wk]
     rw [qfz,List.append_assoc,List.set_append_right _ _ (by rw [qz];lia),qz]
     simp
    have hi:isLst (pk S n u++[.lst (ls.map .int)]++[.lst (ms.map .int)]) (.ref S.length)=true:=by simp only [isLst,at1]
    exact qky rfl hi hc hpop
   ·rw [List.append_assoc]
    exact ((qdh hy).append_left ms).trans hp)
 have hnd:ms.Nodup:=(List.nodup_append.mp (hp.nodup_iff.mpr (qbQ many))).1
 have hmem:∀ x∈ms,0≤x∧x<many:=λx hx=>ye.mp (hp.mem_iff.mp (List.mem_append_left _ hx))
 rw [wP,zk] at hml
 refine ⟨sortI ms,u,⟨?_,?_,qfA hnd⟩,?_,hu,?_⟩
 ·intro e0
  have:=(zu ms).length_eq
  rw [e0] at this;simp at this;lia
 ·exact λx hx=>hmem x ((zu ms).mem_iff.mp hx)
 ·rw [(zu ms).length_eq];lia
 ·rw [G_at (c:=c_22) rfl]
  refine qdb (S2:=[.lst (ls.map .int)]) rfl rfl (qR (d:=.int s) (S1:=pk S n (v.fdiv 8)) (zN (S1:=pk S n v) (d2:=.int (v.fmod 8)) rfl (qh rfl (zK hn (by decide) (by decide))) hs) (ρ1:=[some (.ref n),some (.int many),some (.int s),none,none]) rfl (qR (qiY (n:=many) rfl (by lia)) (ρ1:=[some (.ref n),some (.int many),some (.int s),some (.ref S.length),none]) (by rw [hL];rfl) (qR e rfl (x_ret (qD (qe (qD (d:=.lst ((sortI ms).map .int)) (S2:=pk S n u++[.lst (ls.map .int)]) rfl ?_) rfl) ?_))))) (by rw [qz,qz]) (qw _ _)
  ·simp only [bltD,one,bSorted,walkD,wX]
   rw [qdY (by lia)];rfl
  ·rfl
end RP
namespace RP
open R
theorem eq0 (r:Int) (S:Sr):cmpD .eq (.int r) (.int 0) S=some (r == 0):=rfl
theorem qi5 {S:Sr} {j:Nat} {ts:List Tie} {k:List Int} {w:Int} (h:S[j]?=some (dicD ts)) (hl:ts.length<1000):putE S (.ref j) (tupI k) (.int w)=some (S.set j (dicD (putTie k w ts))):=by
 unfold putE
 rw [wJ (show refsLt 0 (D.int w)=true from rfl)]
 simp only [putN,h,dicD,tupI,qQ,wX,wP,hl,if_true,qfC]
theorem qkD {F:Fs} {ρ:En} {S S1 S2 S3:Sr} {o i:CE} {x y v:D} (h:ev F o ρ S=.ok x S1) (h2:ev F i ρ S1=.ok y S2) (h3:putE S2 x y v=some S3):asg F (.sub o i) v ρ S=.ok ρ S3:=by
 simp only [asg,h,h2,h3,Res.bind]
theorem qbY {d n many:Nat} {v tn:Int} {S:Sr} {cs:List Int} {x0:Option D} (hn:n<S.length) (hv:0≤v) (h1:1≤many) (h2:many≤12) (ht0:0≤tn) (ht:tn≤30) (hc1:cs.length=many) (hc2:∀ c∈cs,1≤c∧c≤100):∃ (w:Wb) (u:Int) (T:Sr),WbOk w∧w.costs.length=many∧0≤u ∧
  exs (G (d+2)) NW (tl (tl (tl c_23.body))) [some (.ref n),x0,some (.int tn),some (.int many),some (.lst (cs.map .int)),none,none,none] (pk S n v)=.ok (.rt (webD w)) (pk S n u++T):=by
 have hm:0<tn+1:=by omega
 have fr:=fm (v:=v) hm
 obtain ⟨c,hc⟩:∃ c:Nat,v.fmod (tn+1)=c:=⟨(v.fmod (tn+1)).toNat,by omega⟩
 have et:=zK (d:=d+1) (n:=n) (v:=v) (m:=tn+1) (S:=S++[dicD []]) (by simp;omega) hm (by omega)
 rw [← zR hn,← zR hn,hc] at et
 obtain ⟨ρ',S',ef,x,y,ts,u,rfl,rfl,hu,hk,hkl⟩:=qdg (g:=.int) (body:=λdd ρ S=>(asg (G (d+2)) (.var 6) dd ρ S).bind λρ1 S1=>exs (G (d+2)) NW (.cons (.set (.var 7) (.call 22 (.cons (.var 0) (.cons (.var 3) .nil)))) (.cons (.set (.sub (.var 5) (.var 7)) (.bin .add (.cst (.int 1)) (.call 21 (.cons (.var 0) (.cons (.cst (.int 9)) .nil))))) .nil)) ρ1 S1)
  (λ(pre:List Int) ρ T=>∃ x y ts u,ρ=[some (.ref n),x0,some (.int tn),some (.int many),some (.lst (cs.map .int)),some (.ref S.length),x,y]∧T=pk S n u++[dicD ts]∧0≤u∧KnOk many ts∧ts.length≤pre.length) (rI c)
  (ρ:=[some (.ref n),x0,some (.int tn),some (.int many),some (.lst (cs.map .int)),some (.ref S.length),none,none]) (S:=pk S n (v.fdiv (tn+1))++[dicD []])
  ⟨_,_,[],_,rfl,rfl,vE hv (by omega),⟨List.nodup_nil,λt h=>by simp at h⟩,by simp⟩ (by
   rintro pre q suf ρ T hpre ⟨x,y,ts,u,rfl,rfl,hu,hk,hkl⟩
   have hlen:=congrArg List.length hpre
   rw [zk,wc,w5] at hlen
   obtain ⟨p,u1,hp,hp4,hu1,ep⟩:=qfR (d:=d) (n:=n) (many:=many) (v:=u) (S:=S++[dicD ts]) (by simp;omega) hu h1 (by omega)
   have ek:=zK (d:=d+1) (n:=n) (v:=u1) (m:=9) (S:=S++[dicD ts]) (by simp;omega) (by decide) (by decide)
   rw [← zR hn,← zR hn] at ep ek
   have f9:=fm (v:=u1) (m:=9) (by decide)
   have hat:(pk S n (u1.fdiv 9)++[dicD ts])[S.length]?=some (dicD ts):=by
    rw [wZ (by rw [qz];omega),qz];simp
   obtain ⟨hk2,hl2⟩:=hk.put (k:=p) (w:=1+u1.fmod 9) hp hp4 (by omega) (by omega)
   refine ⟨[some (.ref n),x0,some (.int tn),some (.int many),some (.lst (cs.map .int)),some (.ref S.length),some (.int q),some (tupI p)],pk S n (u1.fdiv 9)++[dicD (putTie p (1+u1.fmod 9) ts)],?_,_,_,_,_,rfl,rfl,vE hu1 (by decide),hk2,by simp;omega⟩
   rw [show asg (G (d+2)) (.var 6) (.int q) [some (.ref n),x0,some (.int tn),some (.int many),some (.lst (cs.map .int)),some (.ref S.length),x,y] (pk S n u++[dicD ts])=.ok [some (.ref n),x0,some (.int tn),some (.int many),some (.lst (cs.map .int)),some (.ref S.length),some (.int q),y] (pk S n u++[dicD ts]) from rfl,Res.bind_ok]
   refine qR (qh rfl ep) (ρ1:=[some (.ref n),x0,some (.int tn),some (.int many),some (.lst (cs.map .int)),some (.ref S.length),some (.int q),some (tupI p)]) rfl (qR (qB rfl (qh rfl ek) badd) (qkD rfl rfl (qi5 hat (by omega))) ?_)
   rw [List.set_append_right _ _ (by rw [qz];omega),qz]
   simp [exs])
 obtain ⟨hs1,hs2⟩:=qi0 hk
 rw [zk] at hkl
 refine ⟨⟨cs,srt ts⟩,u,[dicD ts],⟨by show 1≤cs.length;omega,by show cs.length≤12;omega,hc2,by show (srt ts).length≤30;rw [qg4];omega,by show ∀ t∈srt ts,PlOk cs.length t.1∧_;rw [hc1];exact hs1,hs2⟩,hc1,hu,?_⟩
 have hat:(pk S n u++[dicD ts])[S.length]?=some (dicD ts):=by
  rw [wZ (by rw [qz];omega),qz];simp
 refine qR (d:=.ref S.length) (S1:=pk S n v++[dicD []]) ?_ (ρ1:=[some (.ref n),x0,some (.int tn),some (.int many),some (.lst (cs.map .int)),some (.ref S.length),none,none]) rfl (qfv (i_rng (n:=c) (qe (qh (qe rfl (qe (qB rfl rfl badd) rfl)) et) rfl) (by omega)) ef (x_ret (qY (qe (qD (d:=tupI cs) (S2:=pk S n u++[dicD ts]) rfl rfl) (qe (qi1 (kx:=5) (j:=S.length) rfl hat hk (by omega)) rfl)) (by simp [PySem.sizeLine]))))
 have:(pk S n v).length=S.length:=qz ..
 simp only [ev,if_true,this];rfl
theorem rep1 (m:Nat):rep [D.int 1] (m:Int)=(List.replicate m (1:Int)).map .int:=by
 unfold rep
 have:((m:Int)).toNat=m:=by omega
 rw [this,List.map_replicate]
 induction m with
 | zero=>rfl
 | succ k ih =>
  rw [vL,List.flatten_cons,ih (by omega),vL];rfl
theorem qkE {d n:Nat} {v mo tn:Int} {S:Sr} (hn:n<S.length) (hv:0≤v) (hm1:1≤mo) (hm2:mo≤12) (ht0:0≤tn) (ht:tn≤30):∃ (w:Wb) (u:Int),WbOk w∧(w.costs.length:Int)≤mo∧0≤u∧G (d+3) 23 [.ref n,.int mo,.int tn] (pk S n v)=.ok (webD w) (pk S n u):=by
 have f:=fm (v:=v) (m:=mo) (by omega)
 obtain ⟨many,hmany⟩:∃ c:Nat,1+v.fmod mo=c:=⟨(1+v.fmod mo).toNat,by omega⟩
 have hv1:0≤v.fdiv mo:=vE hv (by omega)
 have hv2:0≤(v.fdiv mo).fdiv 3:=vE hv1 (by decide)
 have head:∀ {w:Wb} {u:Int} {T:Sr} {cs:List Int} {v3:Int},exs (G (d+2)) NW (tl (tl c_23.body)) [some (.ref n),some (.int mo),some (.int tn),some (.int many),some (.lst ((List.replicate many (1:Int)).map .int)),none,none,none] (pk S n (v.fdiv mo))=.ok (.rt (webD w)) (pk S n u++T)→G (d+3) 23 [.ref n,.int mo,.int tn] (pk S n v)=.ok (webD w) (pk S n u):=by
  intro w u T cs v3 h
  rw [G_at (c:=c_23) rfl]
  refine qdb (S2:=T) rfl rfl (qR (d:=.int many) (S1:=pk S n (v.fdiv mo)) (qB (d2:=.int (v.fmod mo)) (S1:=pk S n v) rfl (qh rfl (zK hn (by omega) (by omega))) (by rw [badd,hmany])) (ρ1:=[some (.ref n),some (.int mo),some (.int tn),some (.int many),none,none,none,none]) rfl (qR (d:=.lst ((List.replicate many (1:Int)).map .int)) (S1:=pk S n (v.fdiv mo)) (qB (S1:=pk S n (v.fdiv mo)) (zz rfl (by simp)) rfl ?_) (ρ1:=[some (.ref n),some (.int mo),some (.int tn),some (.int many),some (.lst ((List.replicate many (1:Int)).map .int)),none,none,none]) rfl h)) (by rw [qz,qz]) (qfw _ _)
  have:repOk [D.int 1] (many:Int)=true:=by
   unfold repOk PySem.sizeLine
   rw [we]
   refine ⟨by omega,by omega,?_⟩
   simp;omega
  simp only [binD,lstOf]
  rw [wJ this,rep1]
 have et3:=zK (d:=d+1) (n:=n) (v:=v.fdiv mo) (m:=3) hn (by decide) (by decide)
 by_cases z:((v.fdiv mo).fmod 3)=0
 ·rw [z] at et3
  obtain ⟨made,S',e,⟨cs,u3,rfl,rfl,hu3,hcs⟩,_,hml⟩:=qfy (g:=.int) (F:=G (d+2)) (fr:=[0]) (nt:=1) (elt:=.bin .add (.cst (.int 1)) (.call 21 (.cons (.var 0) (.cons (.cst (.int 5)) .nil)))) (tg:=.var 1) (it:=.rng (.cons (.var 3) .nil))
   (ρ:=[some (.ref n),some (.int mo),some (.int tn),some (.int many),some (.lst ((List.replicate many (1:Int)).map .int)),none,none,none]) (S:=pk S n ((v.fdiv mo).fdiv 3)) (S1:=pk S n ((v.fdiv mo).fdiv 3)) (rI many) (λρ=>∃ x,ρ=[some (.ref n),x])
   (λmade T=>∃ cs u,made=cs.map .int∧T=pk S n u∧0≤u∧∀ c∈cs,(1:Int)≤c∧c≤100) (i_rng rfl (by omega)) rfl ⟨_,rfl⟩ (by rw [zk];omega) ⟨[],_,rfl,rfl,hv2,by simp⟩ (by
    rintro q hq ρ m T ⟨x,rfl⟩ ⟨cs,u,rfl,rfl,hu,hcs⟩ _ _
    have ek:=zK (d:=d+1) (n:=n) (v:=u) (m:=5) (S:=S++[.lst (cs.map .int)]) (by simp;omega) (by decide) (by decide)
    rw [← zR hn,← zR hn] at ek
    have f5:=fm (v:=u) (m:=5) (by decide)
    refine ⟨_,.int (1+u.fmod 5),pk S n (u.fdiv 5),rfl,⟨_,rfl⟩,qB rfl (qh rfl ek) badd,by rw [qz,qz],rfl,cs++[1+u.fmod 5],_,by simp,rfl,vE hu (by decide),?_⟩
    intro c hc
    rcases vC.mp hc with z | z
    ·exact hcs c z
    ·simp at z;omega)
  rw [wP,zk] at hml
  obtain ⟨w,u,T,hw,hwl,hu,hx⟩:=qbY (d:=d) (tn:=tn) (x0:=some (.int mo)) hn hu3 (by omega) (by omega) ht0 ht hml hcs
  refine ⟨w,u,hw,by omega,hu,head (cs:=cs) (v3:=u3) (qiW (t_of (zb (qh rfl et3) rfl (eq0 _ _))) (qR e rfl jv) hx)⟩
 ·obtain ⟨w,u,T,hw,hwl,hu,hx⟩:=qbY (d:=d) (many:=many) (tn:=tn) (x0:=some (.int mo)) (cs:=List.replicate many 1) hn hv2 (by omega) (by omega) ht0 ht (by simp) (by intro c hc;rw [List.mem_replicate] at hc;omega)
  refine ⟨w,u,hw,by omega,hu,head (cs:=[]) (v3:=0) (x_no (t_of (zb (qh rfl et3) rfl ?_)) hx)⟩
  rw [eq0,wz.mpr z]
end RP
namespace RP
open R
theorem band1 {x:Int} (h:0≤x):PySem.Builtin.bitAnd x 1=x % 2:=by
 unfold PySem.Builtin.bitAnd
 simp only [h,decide_true]
 have:(1:Int).toNat=1:=rfl
 rw [show decide ((0:Int)≤1)=true from rfl]
 simp only [this,Nat.and_one_is_mod]
 lia
noncomputable def bitB (x:Int) (i:Int):Bool:=decide (x / 2^i.toNat % 2=1)
theorem qd2 {many:Nat} {x:Int} (h1:1≤x) (h2:x<2^many):∃ i∈rI many,bitB x i=true:=by
 induction many generalizing x with
 | zero=>simp at h2;lia
 | succ k ih =>
  by_cases z:x % 2=1
  ·exact ⟨0,ye.mpr (by lia),by simp [bitB,z]⟩
  ·have e:(2:Int)^(k+1)=2*2^k:=by rw [Int.pow_succ];lia
   obtain ⟨i,hi,hb⟩:=ih (x:=x / 2) (by lia) (by lia)
   have hi':=ye.mp hi
   refine ⟨i+1,ye.mpr (by lia),?_⟩
   unfold bitB at hb ⊢
   have e2:(i+1).toNat=i.toNat+1:=by lia
   rw [we] at hb ⊢
   rw [e2,Int.pow_succ,Int.mul_comm,← Int.ediv_ediv_of_nonneg (by lia)]
   exact hb
theorem qi6 {d n many:Nat} {v:Int} {S:Sr} (hn:n<S.length) (hv:0≤v) (h1:1≤many) (h2:many≤12):∃ (p:List Int) (u:Int),PlOk many p∧0≤u∧G (d+2) 24 [.ref n,.int many] (pk S n v)=.ok (tupI p) (pk S n u):=by
 have hp2:(2:Int)^1≤2^many:=by
  have:=Nat.pow_le_pow_right (n:=2) (by decide) h1
  exact_mod_cast this
 have hp12:(2:Int)^many≤2^12:=by
  have:=Nat.pow_le_pow_right (n:=2) (by decide) h2
  exact_mod_cast this
 have f:=fm (v:=v) (m:=2^many-1) (by lia)
 refine ⟨(rI many).filter (bitB (1+v.fmod (2^many-1))),v.fdiv (2^many-1),⟨?_,?_,(qkx many).filter _⟩,vE hv (by lia),?_⟩
 ·obtain ⟨i,hi,hb⟩:=qd2 (many:=many) (x:=1+v.fmod (2^many-1)) (by lia) (by lia)
  intro e
  have:i∈(rI many).filter (bitB (1+v.fmod (2^many-1))):=List.mem_filter.mpr ⟨hi,hb⟩
  rw [e] at this;simp at this
 ·exact λx hx=>ye.mp (List.mem_filter.mp hx).1
 ·rw [G_at (c:=c_24) rfl]
  have hsh:binD .shl (.int 1) (.int many) (pk S n v)=some (.int (2^many)):=by
   simp only [binD,binI]
   have:0≤(many:Int)∧(many:Int)≤1000000∧(1:Int).natAbs<2^64:=⟨by lia,by lia,by decide⟩
   rw [wJ this]
   simp
  have e:=j3 (g:=.int) (F:=G (d+1)) (fr:=[2]) (nt:=1) (elt:=.var 1) (tg:=.var 1) (it:=.rng (.cons (.var 1) .nil)) (ifs:=.cons (.val (.cmp .eq (.bin .band (.bin .shr (.var 0) (.var 1)) (.cst (.int 1))) (.cst (.int 1)))) .nil) (ρ:=[some (.ref n),some (.int many),some (.int (1+v.fmod (2^many-1)))]) (S:=pk S n (v.fdiv (2^many-1))) (S1:=pk S n (v.fdiv (2^many-1))) (rI many) (bitB (1+v.fmod (2^many-1))) .int (λρ=>∃ x,ρ=[some (.int (1+v.fmod (2^many-1))),x]) (i_rng rfl (by lia)) rfl ⟨_,rfl⟩ (by rw [zk];unfold PySem.sizeLine;lia) (by
   rintro q hq ρ m ⟨x,rfl⟩
   have hq':=ye.mp hq
   refine ⟨_,rfl,⟨_,rfl⟩,qa1 (t_of (zb (d1:=.int ((1+v.fmod (2^many-1)) / 2^q.toNat % 2)) (qB (d1:=.int ((1+v.fmod (2^many-1)) / 2^q.toNat)) (qB rfl rfl ?_) rfl ?_) rfl ?_)),λ_=>⟨rfl,rfl⟩⟩
   ·simp only [binD,binI];rw [wJ hq'.1];rfl
   ·simp only [binD,binI,wk]
    rw [band1]
    exact Int.ediv_nonneg (by lia) (Int.le_of_lt (Int.pow_pos (by decide)))
   ·simp only [cmpD,eqD,bitB]
    rfl)
  refine qdb (S2:=[]) rfl rfl (qR (d:=.int (1+v.fmod (2^many-1))) (S1:=pk S n (v.fdiv (2^many-1))) (qB (d2:=.int (v.fmod (2^many-1))) (S1:=pk S n v) rfl (qh (qe rfl (qe (qB (qB rfl rfl hsh) rfl rfl) rfl)) (zK hn (by lia) (by lia))) badd) (ρ1:=[some (.ref n),some (.int many),some (.int (1+v.fmod (2^many-1)))]) rfl (x_ret ?_)) (by rw [qz,qz]) (qw _ _)
  rw [List.append_nil]
  exact qD (qe e rfl) rfl
end RP
namespace RP
open R
theorem jy:∀ l:List Bool,boolsOf (l.map .bl)=some l
 | []=>rfl
 | a::r=>by simp [boolsOf,jy r]
theorem qkF (l:List Bool) (S:Sr):bltD .all [.lst (l.map .bl)] S=.ok (.bl (l.all id)) S:=by
 simp only [bltD,one,bAll,seqOf,lstOf,wX,jy,wk,ofO]
theorem qi7 {α:Type} (l:List α) (p:α→Bool) (S:Sr):bltD .all [.lst (l.map λx=>.bl (p x))] S=.ok (.bl (l.all p)) S:=by
 have:=qkF (l.map p) S
 rw [wu,List.all_map] at this
 exact this
theorem idxN {l:List D} {k:Nat} {y:D} {S:Sr} (h:l[k]?=some y):idxD S (.tup l) (.int k)=some y:=by
 have hk:k<l.length:=(wI.mp h).1
 have:L2.ixN l.length (k:Int)=some k:=by
  unfold L2.ixN;rw [wJ (by omega),wJ (by omega)];simp
 show (L2.ixN l.length (k:Int)).bind (λj=>l[j]?)=_
 rw [this];exact h
theorem qfS:∀ {n:Nat} {ns:List Int} {a:Int},ns.Pairwise (· < ·)→(∀ x∈ns,a≤x∧x<a+n)→ns.length≤n
 | _,[],_,_,_=>vO _
 | 0,x::r,a,_,h=>by have:=h x (by simp);omega
 | n+1,x::r,a,hp,h=>by
  have h1:=h x (by simp)
  rw [w8] at hp
  have:=qfS (n:=n) (ns:=r) (a:=a+1) hp.2 (λy hy=>by
   have h2:=hp.1 y hy
   have h3:=h y (wM _ hy)
   push_cast at h3
   omega)
  simp;omega
theorem qfT {n:Nat} {p:List Int} (h:PlOk n p):p.length≤n:=qfS (a:=0) h.up (λy hy=>by have:=h.rng y hy;omega)
theorem j9 (p:List Int) (a b:Option Int):(cutD (p.map D.int) a b).length≤p.length:=by have:=(qa5 (p.map D.int) a b).2;rw [wP] at this;exact this
theorem qbZ (p:List Int) (a b:Option Int):refsLts 0 (cutD (p.map D.int) a b)=true:=qG λx hx=>by
 obtain ⟨y,_,rfl⟩:=wn.mp ((qa5 _ _ _).1 x hx);rfl
section
variable {F:Fs} {N:Nat} {ρ:En} {S S1 S2:Sr} {e:CE} {es:CEs} {a b:CSs} {c:CB} {y:D}
theorem qhc (h:ev F e ρ S=.err y S1):ex F N (.ret e) ρ S=.err y S1:=by simp [ex,h,Res.bind]
theorem qi8 (h:ev F e ρ S=.err y S1):evs F (.cons e es) ρ S=.err y S1:=by simp [evs,h,Res.bind]
theorem qhd {i:Nat} (h:evs F es ρ S=.err y S1):ev F (.call i es) ρ S=.err y S1:=by simp [ev,h,Res.bind]
theorem zD (h:tst F c ρ S=.ok false S1) (h2:exs F N b ρ S1=.err y S2):ex F N (.ifs c a b) ρ S=.err y S2:=by simp [ex,h,h2,Res.bind]
theorem qi9 {d:D} {i:Nat} {r:CSs} {X:Res R.Fl} (h:ev F e ρ S=.ok d S1) (h3:exs F N r (ρ.set i (some d)) S1=X):exs F N (.cons (.cal (.set (.var i) e)) r) ρ S=X:=qfP (qR h rfl h3) (by simp [ex,h,Res.bind,asg])
end
noncomputable def bad (x t:D):Option PySem.Addr:=if isWebB x=true then (if placesB (wlen x) t=true then none else some 49) else some 37
theorem zE {d:Nat} {x t:D} {S:Sr} (hx:refsLt 0 x=true) (ht:refsLt 0 t=true):G (d+10) 13 [x,t] S=match bad x t with | none=>.ok .non S | some C=>.err (.exc C) S:=by
 rw [G_at (c:=c_13) rfl]
 have e:=qcw (d:=d) (S:=S) hx ht
 unfold bad
 cases z:isWebB x with
 | true =>
  rw [z,wJ rfl] at e
  rw [wJ rfl]
  cases q:placesB (wlen x) t with
  | true=>rw [q] at e;rw [wJ rfl];exact qda rfl (x_no (S1:=S) (t_no (x:=true) (t_of (qh rfl e))) jv)
  | false=>rw [q] at e;rw [wK (by decide)];exact ja rfl (qM (jp (S1:=S) (t_no (x:=false) (t_of (qh rfl e))) (qM rfl)))
 | false =>
  rw [z,wK (by decide)] at e
  rw [wK (by decide)]
  exact ja rfl (qM (qg8 (qi4 (qkC (zn rfl e)))))
theorem qaa {w:Wb}:refsLt 0 (webD w)=true:=by
 unfold webD;simp [refsLt,refsLts,qw]
 have:refsLts 0 (w.ties.map tieD)=true:=qG (by intro y hy;obtain ⟨z,_,rfl⟩:=wn.mp hy;exact yw 0 z)
 simpa [refsLts,refsLt] using this
theorem qfU {w:Wb} (h:WbOk w):isWebB (webD w)=true:=by
 have e1:=qfO (d:=0) (S:=[]) h
 have e2:=qaz (d:=0) (S:=[]) (qaa (w:=w))
 rw [e1] at e2
 injection e2 with e2
 injection e2 with e2
 exact e2.symm
theorem qb0 (w:Wb):wlen (webD w)=w.costs.length:=by show lenT (tupI w.costs)=_;show (w.costs.map D.int).length=_;rw [wP]
theorem qd3 {n:Nat} {p:List Int} (hp:PlOk n p):placesB n (tupI p)=true:=by
 have e1:=y0 (d:=0) (n:=n) (S:=[]) hp
 have e2:=zS (d:=0) (many:=n) (x:=tupI p) (S:=[]) (qw 0 p)
 rw [e1] at e2
 injection e2 with e2
 injection e2 with e2
 exact e2.symm
theorem qja {w:Wb} {p:List Int} (h:WbOk w) (hp:PlOk w.costs.length p):bad (webD w) (tupI p)=none:=by
 unfold bad
 rw [qfU h,wJ rfl,qb0,qd3 hp,wJ rfl]
theorem zO {d:Nat} {w:Wb} {p:List Int} {S:Sr} (h:WbOk w) (hp:PlOk w.costs.length p):G (d+10) 13 [webD w,tupI p] S=.ok .non S:=by
 rw [zE qaa (qw 0 p),qja h hp]
section
variable {d:Nat} {x t:D} {S:Sr} {C:PySem.Addr} (hx:refsLt 0 x=true) (ht:refsLt 0 t=true) (hb:bad x t=some C)
include hx ht hb
theorem qaB:G (d+11) 15 [x,t] S=.err (.exc C) S:=by
 have e:=zE (d:=d) (S:=S) hx ht
 rw [hb] at e
 rw [G_at (c:=c_15) rfl]
 exact ja rfl (qM (yf (zn rfl e)))
theorem qhe:G (d+11) 16 [x,t] S=.err (.exc C) S:=by
 have e:=zE (d:=d) (S:=S) hx ht
 rw [hb] at e
 rw [G_at (c:=c_16) rfl]
 exact ja rfl (qM (yf (zn rfl e)))
theorem qfV:G (d+12) 17 [x,t] S=.err (.exc C) S:=by
 rw [G_at (c:=c_17) rfl]
 exact ja rfl (qM (qhc (qhd (qi8 (zn rfl (qaB hx ht hb))))))
theorem qd4 {p:D}:G (d+11) 18 [x,t,p] S=.err (.exc C) S:=by
 have e:=zE (d:=d) (S:=S) hx ht
 rw [hb] at e
 rw [G_at (c:=c_18) rfl]
 exact ja rfl (qM (yf (zn rfl e)))
end
noncomputable def outB (p:List Int):D→Bool
 | .int i=>!p.contains i
 | _=>true
theorem qd5 {d:Nat} {w:Wb} {p:List Int} {x:D} {S:Sr} (h:WbOk w) (hp:PlOk w.costs.length p) (hx:refsLt 0 x=true) (ho:outB p x=true):G (d+11) 18 [webD w,tupI p,x] S=.err (.exc 49) S:=by
 rw [G_at (c:=c_18) rfl]
 refine ja rfl (by
  refine x_expr (S1:=S) (qh rfl (zO h hp)) (qM (jp (S1:=S) (tc ?_) (qM rfl)))
  have e:=jx (d:=d+9) (S:=S) hx
  cases x with
  | int i =>
   refine yx (t_no (x:=true) (t_of (qh rfl e))) (t_of (zb rfl rfl ?_))
   show ((inD (.int i) (p.map .int)).map (!·))=some true
   rw [y9]
   have:p.contains i=false:=by simpa [outB] using ho
   simp only [this];rfl
  | ref n=>simp [refsLt] at hx
  | exc n=>simp [refsLt] at hx
  | _=>exact qax (t_no (x:=false) (t_of (qh rfl e))))
theorem qb1 {d:Nat} {w:Wb} {p:List Int} {S:Sr} (h:WbOk w) (hp:PlOk w.costs.length p):G (d+11) 15 [webD w,tupI p] S=.ok (.int ((tin w p).map (·.2)).sum) S:=by
 rw [G_at (c:=c_15) rfl]
 refine ql rfl (x_expr (S1:=S) (qh rfl (zO h hp)) (j8 ?_))
 have:=qa0 (g:=tieD) (F:=G (d+10)) (fr:=[]) (nt:=2) (elt:=.var 1) (tg:=.tup (.cons (.var 0) (.cons (.var 1) .nil))) (it:=.seq (.call 14 (.cons (.var 0) (.cons (.var 1) .nil)))) (ifs:=.nil) (ρ:=[some (webD w),some (tupI p)]) (S:=S) (S1:=S) (tin w p) (λ_=>true) (·.2) (λρ=>∃ x y,ρ=[x,y]) (by simp [Res.bind,callC,exs,ex,ev,evs,evO,evI,asg,asgs,tst,tsts,varE,frE,bltD,one,two,leave,ofO,truD,yG h]) rfl ⟨_,_,rfl⟩ (by
   rintro t ht ρ ⟨x,y,rfl⟩
   exact ⟨_,rfl,⟨_,_,rfl⟩,rfl,λ_=>rfl⟩)
 rw [zH] at this
 exact this
theorem qkG {d:Nat} {a b:Int} {S:Sr} (ha:0≤a) (hb:0≤b) (hb2:b<2^20):G (d+1) 2 [.int a,.int b] S=.ok (.int (eu NW a b)) S:=by
 rw [G_at (c:=c_2) rfl]
 have h:=wl (S:=S) (test:=λρ S=>tst (G d) (.val (.var 1)) ρ S) (body:=λρ S=>exs (G d) NW (.cons (.set (.tup (.cons (.var 0) (.cons (.var 1) .nil))) (.tup (.cons (.var 1) (.cons (.bin .mod (.var 0) (.var 1)) .nil)))) .nil) ρ S) (E:=λa b=>[some (.int a),some (.int b)]) (λa b=>rfl) (λa b h=>qR (qY (qe rfl (qe (qB rfl rfl (bmod (by omega))) rfl)) (by simp [PySem.sizeLine])) rfl jv) 20 NW a b ha hb hb2 (by decide)
 exact ql rfl (qg6 h (x_ret rfl))
theorem qfW {d:Nat} {t b:Int} {S:Sr} (ht:0≤t) (hb:1≤b) (hb2:b<2^20):G (d+2) 3 [.int t,.int b] S=.ok (low NW t b) S:=by
 rw [G_at (c:=c_3) rfl]
 have hg:=qfG (n:=59) ht (show 0<b by omega)
 exact ql rfl (qi9 (d:=.int (eu NW t b)) (S1:=S) (qh (qe (qD rfl (qkA ht)) rfl) (qkG ht (by omega) hb2)) (j8 (qY (qe (qB rfl rfl (bdiv hg.1 (by have:=hg.2;show (eu (59+1) t b).natAbs<2^64;omega))) (qe (qB rfl rfl (bdiv hg.1 (by have:=hg.2;show (eu (59+1) t b).natAbs<2^64;omega))) rfl)) (by simp [PySem.sizeLine]))))
theorem qfX {d:Nat} {w:Wb} {p:List Int} {S:Sr} (h:WbOk w) (hp:PlOk w.costs.length p):G (d+11) 16 [webD w,tupI p] S=.ok (.int (price w p)) S:=by
 rw [G_at (c:=c_16) rfl]
 refine ql rfl (x_expr (S1:=S) (qh rfl (zO h hp)) (j8 ?_))
 have e:=qa0 (g:=.int) (F:=G (d+10)) (fr:=[0]) (nt:=1) (elt:=.idx (.idx (.var 0) (.cst (.int 0))) (.var 1)) (tg:=.var 1) (it:=.seq (.var 1)) (ifs:=.nil) (ρ:=[some (webD w),some (tupI p)]) (S:=S) (S1:=S) (ds:=p.map .int) p (λ_=>true) (cstI w) (λρ=>∃ x,ρ=[some (webD w),x]) rfl rfl ⟨_,rfl⟩ (by
   rintro q hq ρ ⟨x,rfl⟩
   exact ⟨_,rfl,⟨_,rfl⟩,rfl,λ_=>zN (d1:=tupI w.costs) (d2:=.int q) (S1:=S) (zN rfl rfl rfl) rfl (qfH (hp.rng q hq).1 (hp.rng q hq).2)⟩)
 rw [zH] at e
 exact e
theorem qhf {d:Nat} {w:Wb} {p:List Int} {S:Sr} (h:WbOk w) (hp:PlOk w.costs.length p):G (d+12) 17 [webD w,tupI p] S=.ok (low NW (mass w p) (price w p)) S:=by
 have hi:=qfK h hp
 rw [G_at (c:=c_17) rfl]
 exact ql rfl (x_ret (qh (qe (qh rfl (qb1 h hp)) (qe (qh rfl (qfX h hp)) rfl)) (qfW (qg7 h p) hi.1 (by have:=hi.2;omega))))
theorem qfY {d:Nat} {w:Wb} {p:List Int} {S:Sr} {x:Int} (h:WbOk w) (hp:PlOk w.costs.length p) (hx:x∈p):G (d+11) 18 [webD w,tupI p,.int x] S=.ok (.int (((tin w p).filter λt=>t.1.contains x).map (·.2)).sum) S:=by
 rw [G_at (c:=c_18) rfl]
 refine ql rfl (x_expr (S1:=S) (qh rfl (zO h hp)) (x_no (S1:=S) (tc (t_or (x:=false) (y:=false) (t_no (x:=true) (t_of (qh rfl j7))) (t_of (zb rfl rfl ?_)))) (j8 ?_)))
 ·show ((inD (.int x) (p.map .int)).map (!·))=some false
  rw [y9];simp [hx]
 ·exact qa0 (g:=tieD) (S1:=S) (tin w p) (λt=>t.1.contains x) (·.2) (λρ=>∃ a b,ρ=[some (.int x),a,b]) (by simp [Res.bind,callC,exs,ex,ev,evs,evO,evI,asg,asgs,tst,tsts,varE,frE,bltD,one,two,leave,ofO,truD,yG h]) rfl ⟨_,_,rfl⟩ (by
   rintro t ht ρ ⟨a,b,rfl⟩
   exact ⟨_,rfl,⟨_,_,rfl⟩,qa1 (t_of (zb rfl rfl (y9 x t.1))),λ_=>rfl⟩)
end RP
namespace RP
open R
noncomputable def tryB:CSs→CSs
 | .cons _ (.cons (.tryX _ _ b _) _)=>b
 | _=>.nil
theorem qjb {F:Fs} {N:Nat} {ρ ρ':En} {S S1 S2:Sr} {t:List (PySem.Addr × Bool)} {i:Nat} {b s r:CSs} {C:PySem.Addr} {X:Res R.Fl} (h:exs F N b ρ S=.err (.exc C) S1) (ht:lookA C t=some true) (h2:exs F N s (ρ.set i (some (.exc C))) S1=.ok (.nx ρ') S2) (h3:exs F N r (ρ'.set i none) S2=X):exs F N (.cons (.tryX t i b s) r) ρ S=X:=by
 simp only [exs,ex,h,ht,h2,Res.bind];exact h3
theorem qhg {d:Nat} {S:Sr}:G (d+1) 25 [.exc 37] S=.ok (.int 1) S:=by
 rw [G_at (c:=c_25) rfl]
 refine ql rfl ?_
 simp [c_25,exs,ex,ev,evs,varE,Res.bind,isxD,lookA,newL,PySem.sizeLine,asg,binD,lstOf,catOk,tst,truD,bltD,one,bSumB,boolsOf,cmpD,eqD,ixtD]
 try decide
theorem qhh {d:Nat} {S:Sr}:G (d+1) 25 [.exc 49] S=.ok (.int 2) S:=by
 rw [G_at (c:=c_25) rfl]
 refine ql rfl ?_
 simp [c_25,exs,ex,ev,evs,varE,Res.bind,isxD,lookA,newL,PySem.sizeLine,asg,binD,lstOf,catOk,tst,truD,bltD,one,bSumB,boolsOf,cmpD,eqD,ixtD]
 try decide
noncomputable def srtN (C:PySem.Addr):Int:=if C=37 then 1 else 2
theorem qfZ {d:Nat} {k n:Int} {x t p:D} {S:Sr} {C:PySem.Addr} (hC:C=37∨C=49) (hn:n=srtN C) (h:exs (G (d+12)) NW (tryB c_26.body) [some (.int k),some x,some t,some p,some (.int n),some .non,none] S=.err (.exc C) S):G (d+13) 26 [.int k,x,t,p,.int n] S=.ok (.bl true) S:=by
 rw [G_at (c:=c_26) rfl]
 have hl:lookA C [(49,true),(37,true)]=some true:=by rcases hC with rfl | rfl <;> decide
 have hs:G (d+12) 25 [.exc C] S=.ok (.int n) S:=by
  rcases hC with rfl | rfl
  ·rw [hn];exact qhg (d:=d+11)
  ·rw [hn];exact qhh (d:=d+11)
 refine ql rfl (qR (S1:=S) (d:=.non) (ρ1:=[some (.int k),some x,some t,some p,some (.int n),some .non,none]) rfl rfl (qjb h hl (ρ':=[some (.int k),some x,some t,some p,some (.int n),some (.exc C),some (.exc C)]) (qR (S1:=S) (d:=.exc C) rfl (ρ1:=[some (.int k),some x,some t,some p,some (.int n),some (.exc C),some (.exc C)]) rfl jv) (x_ret ?_)))
 refine yY (x:=true) (y:=true) (zb (S1:=S) rfl rfl rfl) (zb (S1:=S) (qh rfl hs) rfl ?_)
 show some (n == n)=some true
 simp
theorem q_eq {F:Fs} {k j:Int} {x t p:D} {n:Int} {S:Sr}:tst F (.cal (.val (.cmp .eq (.var 0) (.cst (.int j))))) [some (.int k),some x,some t,some p,some (.int n),some .non,none] S=.ok (k == j) S:=tc (t_of (zb rfl rfl rfl))
theorem qkH {x t:D} {C:PySem.Addr} (h:bad x t=some C):C=37∨C=49:=by
 unfold bad at h
 split at h
 ·split at h
  ·cases h
  ·cases h;exact .inr rfl
 ·cases h;exact .inl rfl
theorem qf0 {d:Nat} {k n:Int} {x t p:D} {S:Sr} {C:PySem.Addr} (hk:k=0∨k=1∨k=2∨k=3) (hx:refsLt 0 x=true) (ht:refsLt 0 t=true) (hb:bad x t=some C) (hn:n=srtN C):G (d+13) 26 [.int k,x,t,p,.int n] S=.ok (.bl true) S:=by
 refine qfZ (qkH hb) hn ?_
 simp only [tryB,c_26]
 rcases hk with rfl | rfl | rfl | rfl
 ·exact qM (jp q_eq (qM (yf (zn rfl (qaB (d:=d+1) hx ht hb)))))
 ·exact qM (zD q_eq (qM (jp q_eq (qM (yf (zn rfl (qhe (d:=d+1) hx ht hb)))))))
 ·exact qM (zD q_eq (qM (zD q_eq (qM (jp q_eq (qM (yf (zn rfl (qfV (d:=d) hx ht hb)))))))))
 ·exact qM (zD q_eq (qM (zD q_eq (qM (zD q_eq (qM (yf (zn rfl (qd4 (d:=d+1) hx ht hb)))))))))
theorem qjc {d:Nat} {w:Wb} {p:List Int} {y:D} {S:Sr} (h:WbOk w) (hp:PlOk w.costs.length p) (hy:refsLt 0 y=true) (ho:outB p y=true):G (d+13) 26 [.int 3,webD w,tupI p,y,.int 2] S=.ok (.bl true) S:=by
 refine qfZ (C:=49) (.inr rfl) rfl ?_
 simp only [tryB,c_26]
 exact qM (zD q_eq (qM (zD q_eq (qM (zD q_eq (qM (yf (zn rfl (qd5 (d:=d+1) h hp hy ho)))))))))
theorem qdl {x t:D} (h:isWebB x=false):bad x t=some 37:=by unfold bad;rw [h,wK (by decide)]
theorem qf1 {w:Wb} {t:D} (h:WbOk w) (ht:placesB w.costs.length t=false):bad (webD w) t=some 49:=by
 unfold bad;rw [qfU h,wJ rfl,qb0,ht,wK (by decide)]
noncomputable def NoWb (y:D):Prop:=refsLt 0 y=true∧isWebB y=false
theorem qjd {a b:List D} {o:D} (ho:wholeB 1 100 o=false):costsB (.tup (a++[o]++b))=false:=by
 have:(a++[o]++b).all (wholeB 1 100)=false:=by
  rw [List.all_append,List.all_append];simp [ho]
 show (decide (1≤(a++[o]++b).length)&&decide ((a++[o]++b).length≤12)&&(a++[o]++b).all (wholeB 1 100))=false
 rw [this,Bool.and_false]
theorem qhi {a b:List D} {o ts:D} (ra:refsLts 0 a=true) (rb:refsLts 0 b=true) (ro:refsLt 0 o=true) (rt:refsLt 0 ts=true) (ho:wholeB 1 100 o=false):NoWb (.tup [.tup (a++[o]++b),ts]):=by
 refine ⟨?_,?_⟩
 ·simp [refsLt,refsLts,qT,ra,rb,ro,rt]
 ·show (costsB (.tup (a++[o]++b))&&tiesB (lenT (.tup (a++[o]++b)):Nat) ts)=false
  rw [qjd ho];rfl
theorem qje {cs:List Int} {o:D} (ro:refsLt 0 o=true) (ho:tieB cs.length o=false):NoWb (.tup [tupI cs,.tup [o]]):=by
 refine ⟨by simp [refsLt,refsLts,qw,ro],?_⟩
 have:lenT (tupI cs)=cs.length:=by show (cs.map D.int).length=_;rw [wP]
 show (costsB (tupI cs)&&(decide ([o].length≤30)&&[o].all (tieB (lenT (tupI cs):Nat))&&upT ([o].map keyT)))=false
 rw [this]
 simp [ho]
theorem qf2 (l:List Int):isWebB (.tup (l.map .int))=false:=by
 match l with
 | []=>rfl
 | [a]=>rfl
 | [a,b]=>rfl
 | a::b::c::r=>rfl
theorem qf3 (l:List Tie):isWebB (.tup (l.map tieD))=false:=by
 match l with
 | []=>rfl
 | [a]=>rfl
 | [a,b] =>
  show (costsB (tieD a)&&tiesB (lenT (tieD a):Nat) (tieD b))=false
  have:costsB (tieD a)=false:=by
   unfold tieD costsB
   simp [wholeB,tupI]
  rw [this];rfl
 | a::b::c::r=>rfl
noncomputable def nwA (w:Wb):List D:=[.non,.int 7,.bl true,.str (PySem.Str.ofString ""),.tup [],.lst [],.emp,tupI w.costs,.tup (w.ties.map tieD),.tup [tupI w.costs],.lst [tupI w.costs,.tup (w.ties.map tieD)],.tup [tupI w.costs,.tup (w.ties.map tieD),.tup []]]
noncomputable def nwB (w:Wb):List D:=[.tup [.lst (w.costs.map .int),.tup (w.ties.map tieD)],.tup [tupI w.costs,.lst (w.ties.map tieD)]]
noncomputable def nwO:List D:=[.int 0,.int (-1),.int 101,.bl true,.non,.str (PySem.Str.ofString "1"),.tup [.int 1]]
noncomputable def nwT (m:Nat):List D:=[.tup [.tup [.int m],.int 1],.tup [.tup [.int 0],.int 0],.tup [.tup [.int 0],.int (1000000+1)],.tup [.tup [.int 0,.int 0],.int 1],.tup [.tup [],.int 1],.tup [.lst [.int 0],.int 1],.tup [.tup [.int 0],.bl true]]
noncomputable def nwU:List D:=[.tup [.tup [.int 0]],.tup [.tup [.int (-1)],.int 1],.non]
noncomputable def nwE (w:Wb):List D:=[.tup [tupI w.costs,.tup [.tup [.tup [.int 0],.int 2],.tup [.tup [.int 0],.int 3]]],.tup [.tup (rep (w.costs.map D.int) ((13:Nat):Int)),.tup []]]
section
variable {w:Wb}
theorem qcx:refsLts 0 (w.ties.map tieD)=true:=qG (by intro y hy;obtain ⟨z,_,rfl⟩:=wn.mp hy;exact yw 0 z)
theorem r_cs:refsLts 0 (w.costs.map D.int)=true:=by have:=qw 0 w.costs;exact this
theorem qf4:∀ y∈nwA w,NoWb y:=by
 have rc:=qw 0 w.costs
 have rt:=qcx (w:=w)
 intro y hy
 unfold nwA at hy
 simp only [wO,wf,or_false] at hy
 rcases hy with rfl | rfl | rfl | rfl | rfl | rfl | rfl | rfl | rfl | rfl | rfl | rfl
 ·exact ⟨rfl,rfl⟩
 ·exact ⟨rfl,rfl⟩
 ·exact ⟨rfl,rfl⟩
 ·exact ⟨rfl,rfl⟩
 ·exact ⟨rfl,rfl⟩
 ·exact ⟨rfl,rfl⟩
 ·exact ⟨rfl,rfl⟩
 ·exact ⟨rc,qf2 _⟩
 ·exact ⟨rt,qf3 _⟩
 ·exact ⟨by simp [refsLt,refsLts,rc],rfl⟩
 ·exact ⟨by simp [refsLt,refsLts,rc,rt],rfl⟩
 ·exact ⟨by simp [refsLt,refsLts,rc,rt],rfl⟩
theorem qjf:∀ y∈nwB w,NoWb y:=by
 have rc:=qw 0 w.costs
 have rs:=r_cs (w:=w)
 have rt:=qcx (w:=w)
 intro y hy
 unfold nwB at hy
 simp only [wO,wf,or_false] at hy
 rcases hy with rfl | rfl
 ·exact ⟨by simp [refsLt,refsLts,rs,rt],rfl⟩
 ·exact ⟨by simp [refsLt,refsLts,rc,rt],by show (costsB (tupI w.costs)&&tiesB _ (.lst _))=false;simp [tiesB]⟩
theorem qjg {m:Nat}:∀ y∈nwT m++nwU,refsLt 0 y=true∧tieB m y=false:=by
 intro y hy
 unfold nwT nwU at hy
 simp only [List.cons_append,List.nil_append,wO,wf,or_false] at hy
 rcases hy with rfl | rfl | rfl | rfl | rfl | rfl | rfl | rfl | rfl | rfl
 ·refine ⟨rfl,?_⟩
  simp [tieB,placesB,intsOf]
  intro h;omega
 ·exact ⟨rfl,by simp [tieB,wholeB]⟩
 ·exact ⟨rfl,by simp [tieB,wholeB]⟩
 ·exact ⟨rfl,by simp [tieB,placesB,intsOf,upB]⟩
 ·exact ⟨rfl,by simp [tieB,placesB,intsOf]⟩
 ·exact ⟨rfl,by simp [tieB,placesB]⟩
 ·exact ⟨rfl,by simp [tieB,wholeB]⟩
 ·exact ⟨rfl,rfl⟩
 ·exact ⟨rfl,by simp [tieB,placesB,intsOf]⟩
 ·exact ⟨rfl,rfl⟩
theorem qjh (h:WbOk w):∀ y∈nwE w,NoWb y:=by
 have rc:=qw 0 w.costs
 have c1:=h.c1
 intro y hy
 unfold nwE at hy
 simp only [wO,wf,or_false] at hy
 rcases hy with rfl | rfl
 ·refine ⟨by simp [refsLt,refsLts,rc],?_⟩
  show (costsB (tupI w.costs)&&(decide (2≤30)&&_&&upT [[0],[0]]))=false
  have:upT [[(0:Int)],[0]]=false:=by decide
  rw [this];simp
 ·have hl:(rep (w.costs.map D.int) ((13:Nat):Int)).length=13*w.costs.length:=by
   unfold rep
   rw [L2.jA,wP];rfl
  have rr:refsLts 0 (rep (w.costs.map D.int) ((13:Nat):Int))=true:=qG λx hx=>by
   unfold rep at hx
   obtain ⟨l,hl,hxl⟩:=List.mem_flatten.mp hx
   rw [List.mem_replicate] at hl
   rw [hl.2] at hxl
   obtain ⟨z,_,rfl⟩:=wn.mp hxl
   rfl
  refine ⟨by show (refsLts 0 (rep (w.costs.map D.int) ((13:Nat):Int))&&(true&&true))=true;rw [rr];rfl,?_⟩
  show ((decide (1≤(rep (w.costs.map D.int) ((13:Nat):Int)).length)&&decide ((rep (w.costs.map D.int) ((13:Nat):Int)).length≤12)&&_)&&_)=false
  rw [hl,w6 (show ¬ 13*w.costs.length≤12 by omega)]
  simp
end
theorem brepT {a:List D} {k:Nat} {S:Sr} (h:a.length*k≤1000) (hk:k≤1000):binD .mul (.tup a) (.int k) S=some (.tup (rep a k)):=by
 have:repOk a (k:Int)=true:=by
  unfold repOk PySem.sizeLine
  rw [we]
  refine ⟨by omega,by omega,?_⟩
  have:((k:Int)).toNat=k:=by omega
  rw [this];omega
 simp [binD,this]
end RP
namespace RP
open R
noncomputable def dropS:Nat→CSs→CSs
 | 0,s=>s
 | n+1,.cons _ r=>dropS n r
 | _+1,.nil=>.nil
theorem qd6 {F:Fs} {ρ:En} {S S1 S2:Sr} {e1 e2:CE} {x y:D} {a b:List D} (h:ev F e1 ρ S=.ok x S1) (h2:ev F e2 ρ S1=.ok y S2) (ha:lstOf S2 x=some a) (hb:lstOf S2 y=some b) (hl:a.length+b.length≤1000) (hr:refsLts 0 (a++b)=true):ev F (.binM .add e1 e2) ρ S=.ok (.ref S2.length) (S2++[.lst (a++b)]):=by
 have hc:catOk a b=true:=by unfold catOk PySem.sizeLine;rw [we];omega
 simp only [ev,h,h2,Res.bind,R.binM,ha,hb,hc,newL,hr,if_true]
theorem bcatR {S:Sr} {j:Nat} {a b:List D} (h:S[j]?=some (.lst a)) (hl:a.length+b.length≤1000):binD .add (.ref j) (.lst b) S=some (.lst (a++b)):=by
 have hc:catOk a b=true:=by unfold catOk PySem.sizeLine;rw [we];omega
 simp only [binD,lstOf,h,hc,if_true]
theorem at1 {B:Sr} {A:SO}:(B++[A])[B.length]?=some A:=by simp
theorem at2 {B:Sr} {A M:SO}:(B++[A,M])[B.length+1]?=some M:=by simp
theorem set2 {B:Sr} {A M Z:SO}:(B++[A,M]).set (B.length+1) Z=B++[A,Z]:=by simp [List.set_append]
theorem set1 {B:Sr} {A Z:SO}:(B++[A]).set B.length Z=B++[Z]:=by simp [List.set_append]
theorem jb {P:D→Prop} {m:List D} {y:D} (h:∀ x∈m,P x) (hy:P y):∀ x∈m++[y],P x:=λx hx=>by
 rcases vC.mp hx with z | z
 ·exact h x z
 ·rw [w9.mp z];exact hy
theorem qdm {P:D→Prop} {m l:List D} (h:∀ x∈m,P x) (hy:∀ x∈l,P x):∀ x∈m++l,P x:=λx hx=>by
 rcases vC.mp hx with z | z
 ·exact h x z
 ·exact hy x z
theorem qbb {l:List D} (h:∀ y∈l,NoWb y):refsLts 0 l=true:=qG λy hy=>(h y hy).1
theorem e_nw {d n:Nat} {v:Int} {w:Wb} {S:Sr} (hn:n<S.length) (hv:0≤v) (h:WbOk w):∃ (L:List D) (u:Int),(∀ y∈L,NoWb y)∧L.length≤100∧0≤u∧G (d+2) 27 [.ref n,webD w] (pk S n v)=.ok (.lst L) (pk S n u):=by
 have hc1:=h.c1
 have hc2:=h.c2
 obtain ⟨f1,f2⟩:=fm (v:=v) (m:=w.costs.length) (by omega)
 obtain ⟨a,ha⟩:∃ a:Nat,v.fmod w.costs.length=a:=⟨(v.fmod w.costs.length).toNat,by omega⟩
 obtain ⟨v1,ev1⟩:∃ v1,v1=v.fdiv w.costs.length:=⟨_,rfl⟩
 have hv1:0≤v1:=by rw [ev1];exact vE hv (by omega)
 have t1:=zK (d:=d) (n:=n) (v:=v) (m:=w.costs.length) (S:=S) hn (by omega) (by omega)
 rw [ha,← ev1] at t1
 suffices hs:Ok (G (d+2) 27 [.ref n,webD w] (pk S n v)) λr U=>∃ L,r=.lst L∧U=pk S n v1∧(∀ y∈L,NoWb y)∧L.length≤100 by
  obtain ⟨r,U,e,L,rfl,rfl,h1,h2⟩:=hs.ex
  exact ⟨L,v1,h1,h2,hv1,e⟩
 rw [G_at (c:=c_27) rfl]
 obtain ⟨B,hB⟩:∃ B,B=pk S n v1:=⟨_,rfl⟩
 have lB:B.length=S.length:=by rw [hB,qz]
 rw [← hB] at t1
 refine qa7 rfl rfl ?_
 rw [qz]
 simp only [c_27]
 refine zA (Ok.of rfl (Ok.of (a:=[some (.ref n),some (webD w),some (tupI w.costs),some (.tup (w.ties.map tieD)),none,none,none,none,none]) rfl ?_))
 refine zA (Ok.of (qh (qe rfl (qe (qD rfl (zw _ _)) rfl)) t1) (Ok.of (a:=[some (.ref n),some (webD w),some (tupI w.costs),some (.tup (w.ties.map tieD)),some (.int a),none,none,none,none]) rfl ?_))
 refine zA (Ok.of (qct (l:=nwA w) (qe rfl (qe rfl (qe rfl (qe rfl (qe (qY rfl (by simp [PySem.sizeLine])) (qe (zz rfl (by simp)) (qe rfl (qe rfl (qe rfl (qe (qY rfl (by simp [PySem.sizeLine])) (qe (qD rfl rfl) (qe (qY (qe rfl (qe rfl (qe (qY rfl (by simp [PySem.sizeLine])) rfl))) (by simp [PySem.sizeLine])) rfl)))))))))))) (by simp [nwA]) (qbb qf4)) (Ok.of (a:=[some (.ref n),some (webD w),some (tupI w.costs),some (.tup (w.ties.map tieD)),some (.int a),some (.ref B.length),none,none,none]) rfl ?_))
 have ab:=qdm (qf4 (w:=w)) (qjf (w:=w))
 refine zA (Ok.of (qd6 (a:=nwA w) (b:=nwB w) rfl (zz (qe (qY (qe (qD rfl rfl) (qe rfl rfl)) (by simp [PySem.sizeLine])) (qe (qY (qe rfl (qe (qD rfl rfl) rfl)) (by simp [PySem.sizeLine])) rfl)) (by simp)) (by simp only [lstOf,at1]) rfl (by simp [nwA,nwB]) (qbb ab)) (Ok.of (a:=[some (.ref n),some (webD w),some (tupI w.costs),some (.tup (w.ties.map tieD)),some (.int a),some (.ref (B.length+1)),none,none,none]) (by simp only [wc,w5,vD];rfl) ?_))
 rw [List.append_assoc]
 refine jw (g:=λy:D=>y) (λpre ρ U=>∃ y6 m,ρ=[some (.ref n),some (webD w),some (tupI w.costs),some (.tup (w.ties.map tieD)),some (.int a),some (.ref (B.length+1)),y6,none,none]∧U=B++[.lst (nwA w),.lst m]∧(∀ y∈m,NoWb y)∧m.length=14+pre.length) nwO
  (Ok.of (jn (zz rfl (by simp))) ⟨by simp [nwO],none,_,rfl,rfl,ab,by simp [nwA,nwB]⟩) ?_ ?_
 ·rintro pre o suf ρ U hpre ⟨y6,m,rfl,rfl,hm,hml⟩
  have ho:o∈nwO:=by rw [hpre];simp
  have hl7:pre.length≤7:=by have:=congrArg List.length hpre;simp [nwO] at this;omega
  have ho2:refsLt 0 o=true∧wholeB 1 100 o=false:=by
   unfold nwO at ho
   simp only [wO,wf,or_false] at ho
   rcases ho with rfl | rfl | rfl | rfl | rfl | rfl | rfl <;> exact ⟨rfl,by decide⟩
  refine Ok.of (a:=[some (.ref n),some (webD w),some (tupI w.costs),some (.tup (w.ties.map tieD)),some (.int a),some (.ref (B.length+1)),some o,none,none]) rfl ?_
  have l1:=j9 w.costs none (some a)
  have l2:=j9 w.costs (some (a+1)) none
  have hy:=qhi (a:=cutD (w.costs.map .int) none (some a)) (b:=cutD (w.costs.map .int) (some (a+1)) none) (ts:=.tup (w.ties.map tieD)) (qbZ _ _ _) (qbZ _ _ _) ho2.1 qcx ho2.2
  refine qa6 (qdk (Ok.of rfl ⟨B.length+1,m,rfl,at2,Ok.of (qY (qe (qB (qB (qbR (l:=w.costs.map .int) rfl rfl rfl) (qY rfl (by simp [PySem.sizeLine])) (bcatT (by simp;omega))) (qbR (l:=w.costs.map .int) rfl rfl rfl) (bcatT (by rw [wc];simp;omega))) (qe rfl rfl)) (by simp [PySem.sizeLine])) ⟨at2,by omega,hy.1,?_⟩⟩))
  rw [set2]
  exact yZ ⟨_,_,rfl,rfl,jb hm hy,by simp;omega⟩
 rintro ρ U ⟨y6,m,rfl,rfl,hm,hml⟩
 refine zA (Ok.of (qD rfl (zw _ _)) (Ok.of (a:=[some (.ref n),some (webD w),some (tupI w.costs),some (.tup (w.ties.map tieD)),some (.int a),some (.ref (B.length+1)),y6,some (.int w.costs.length),none]) rfl ?_))
 have one:∀ (F:Fs) (ρ:En) (U:Sr) (e1 e2:CE) (d1 d2:D),ev F e1 ρ U=.ok d1 U→ev F e2 ρ U=.ok d2 U→ev F (.tup (.cons e1 (.cons e2 .nil))) ρ U=.ok (.tup [d1,d2]) U:=λF ρ U e1 e2 d1 d2 g1 g2=>qY (qe g1 (qe g2 rfl)) (by simp [PySem.sizeLine])
 have sg:∀ (F:Fs) (ρ:En) (U:Sr) (e1:CE) (d1:D),ev F e1 ρ U=.ok d1 U→ev F (.tup (.cons e1 .nil)) ρ U=.ok (.tup [d1]) U:=λF ρ U e1 d1 g1=>qY (qe g1 rfl) (by simp [PySem.sizeLine])
 have tn:∀ (F:Fs) (ρ:En) (U:Sr),ev F (.tup .nil) ρ U=.ok (.tup []) U:=λF ρ U=>qY rfl (by simp [PySem.sizeLine])
 refine zA (Ok.of (zz (l:=nwT w.costs.length) (qe (one _ _ _ _ _ _ _ (sg _ _ _ _ _ rfl) rfl) (qe (one _ _ _ _ _ _ _ (sg _ _ _ _ _ rfl) rfl) (qe (one _ _ _ _ _ _ _ (sg _ _ _ _ _ rfl) (qB (pow6 _ _ _) rfl rfl)) (qe (one _ _ _ _ _ _ _ (one _ _ _ _ _ _ _ rfl rfl) rfl) (qe (one _ _ _ _ _ _ _ (tn _ _ _) rfl) (qe (one _ _ _ _ _ _ _ (zz rfl (by simp)) rfl) (qe (one _ _ _ _ _ _ _ (sg _ _ _ _ _ rfl) rfl) rfl))))))) (by simp [nwT])) (Ok.of (a:=[some (.ref n),some (webD w),some (tupI w.costs),some (.lst (nwT w.costs.length)),some (.int a),some (.ref (B.length+1)),y6,some (.int w.costs.length),none]) rfl ?_))
 refine zA (Ok.of (qB rfl (zz (l:=nwU) (qe (sg _ _ _ _ _ (sg _ _ _ _ _ rfl)) (qe (one _ _ _ _ _ _ _ (sg _ _ _ _ _ rfl) rfl) (qe rfl rfl))) (by simp [nwU])) (bcat (by simp [nwT,nwU]))) (Ok.of (a:=[some (.ref n),some (webD w),some (tupI w.costs),some (.lst (nwT w.costs.length++nwU)),some (.int a),some (.ref (B.length+1)),y6,some (.int w.costs.length),none]) rfl ?_))
 refine jw (g:=λy:D=>y) (λpre ρ U=>∃ y8 m,ρ=[some (.ref n),some (webD w),some (tupI w.costs),some (.lst (nwT w.costs.length++nwU)),some (.int a),some (.ref (B.length+1)),y6,some (.int w.costs.length),y8]∧U=B++[.lst (nwA w),.lst m]∧(∀ y∈m,NoWb y)∧m.length=21+pre.length) (nwT w.costs.length++nwU)
  (Ok.of (jn rfl) ⟨by simp,none,_,rfl,rfl,hm,by simp [hml,nwO]⟩) ?_ ?_
 ·rintro pre o suf ρ U hpre ⟨y8,m,rfl,rfl,hm,hml⟩
  have ho:o∈nwT w.costs.length++nwU:=by rw [hpre];simp
  have hl7:pre.length≤10:=by have:=congrArg List.length hpre;simp [nwT,nwU] at this;omega
  obtain ⟨o1,o2⟩:=qjg o ho
  have hy:=qje (cs:=w.costs) o1 o2
  refine Ok.of (a:=[some (.ref n),some (webD w),some (tupI w.costs),some (.lst (nwT w.costs.length++nwU)),some (.int a),some (.ref (B.length+1)),y6,some (.int w.costs.length),some o]) rfl ?_
  refine qa6 (qdk (Ok.of rfl ⟨B.length+1,m,rfl,at2,Ok.of (one _ _ _ _ _ _ _ rfl (sg _ _ _ _ _ rfl)) ⟨at2,by omega,hy.1,?_⟩⟩))
  rw [set2]
  exact yZ ⟨_,_,rfl,rfl,jb hm hy,by simp;omega⟩
 rintro ρ U ⟨y8,m,rfl,rfl,hm,hml⟩
 have hml':m.length=31:=by rw [hml];simp [nwT,nwU]
 have hE:=qdm hm (qjh h)
 refine qdj (Ok.of (qB rfl (zz (l:=nwE w) (qe (one _ _ _ _ _ _ _ rfl (one _ _ _ _ _ _ _ (one _ _ _ _ _ _ _ (sg _ _ _ _ _ rfl) rfl) (one _ _ _ _ _ _ _ (sg _ _ _ _ _ rfl) rfl))) (qe (one _ _ _ _ _ _ _ (qB rfl rfl (brepT (k:=13) (by rw [wP];omega) (by omega))) (tn _ _ _)) rfl)) (by simp [nwE])) (bcatR at2 (by rw [hml'];simp [nwE]))) ⟨by simp;omega,by exact qK _ (qbb hE),_,rfl,?_,hE,by rw [wc,hml'];simp [nwE]⟩)
 rw [← lB,List.take_left,hB]
end RP
namespace RP
open R
theorem qhH:∀ {ns:List Int},upB ns=true→ns.Pairwise (· < ·)
 | [],_=>.nil
 | [a],_=>by simp
 | a::b::r,h=>by
  unfold upB at h
  simp only [List.drop_succ_cons,List.drop_zero,List.zip_cons_cons,List.all_cons,wL,we] at h
  have ih:=qhH (ns:=b::r) (by unfold upB;simpa using h.2)
  rw [w8]
  refine ⟨λy hy=>?_,ih⟩
  rcases wO.mp hy with z | z
  ·subst z;exact h.1
  ·have:=(w8.mp ih).1 y z
   have:=h.1
   omega
theorem qd7 {m:Int} {l:List D} (h:placesB m (.tup l)=true):∃ ns:List Int,l=ns.map .int∧ns.Pairwise (· < ·)∧(∀ x∈ns,0≤x∧x≤m-1)∧ns≠[]:=by
 unfold placesB at h
 dsimp only at h
 cases z:intsOf l with
 | none=>rw [z] at h;cases h
 | some ns =>
  rw [z] at h
  simp only [wL,List.all_eq_true,we,Bool.not_eq_true'] at h
  exact ⟨ns,qa3 z,qhH h.2,h.1.2,λe=>by rw [e] at h;simp at h⟩
theorem qaC {m:Int} {l:List D} (h:∀ ns:List Int,l=ns.map .int→ns.Pairwise (· < ·)→(∀ x∈ns,0≤x∧x≤m-1)→ns≠[]→False):placesB m (.tup l)=false:=by
 cases z:placesB m (.tup l) with
 | false=>rfl
 | true=>obtain ⟨ns,h1,h2,h3,h4⟩:=qd7 z;exact (h ns h1 h2 h3 h4).elim
noncomputable def NoPt (m:Nat) (y:D):Prop:=refsLt 0 y=true∧placesB m y=false
theorem qdn {a b:List Int} (h:a.map D.int=b.map D.int):a=b:=by
 have:=congrArg intsOf h
 rw [qQ,qQ] at this
 exact Option.some.inj this
theorem qji {m:Nat} {a b:List D} {o:D} (ra:refsLts 0 a=true) (rb:refsLts 0 b=true) (ro:refsLt 0 o=true) (ho:wholeB 0 ((m:Int)-1) o=false):NoPt m (.tup (a++[o]++b)):=by
 refine ⟨by simp [refsLt,refsLts,qT,ra,rb,ro],qaC λns e _ hr _=>?_⟩
 have:o∈ns.map D.int:=by rw [← e];simp
 obtain ⟨x,hx,rfl⟩:=wn.mp this
 have:=hr x hx
 simp [wholeB] at ho
 omega
noncomputable def npA (m:Nat) (p:List Int):List D:=[.tup [],.non,.lst [],.lst (p.map .int),.int 7,.bl true,.str (PySem.Str.ofString "0"),.emp,.tup [tupI p],.tup (p.map .int++cutD (p.map .int) (some (-1)) none),tupI (rI (m+1))]
noncomputable def npO (m:Nat):List D:=[.int m,.int (-1),.bl true,.non,.str (PySem.Str.ofString "0"),.tup [.int 0],.lst [.int 0]]
theorem qf5 {p:List Int} (h:p≠[]):∃ y,y∈cutD (p.map D.int) (some (-1)) none:=by
 have hl:0<p.length:=List.length_pos_iff.mpr h
 have e:(cutD (p.map D.int) (some (-1)) none).length≠0:=by
  unfold cutD HT.sIx
  simp
  omega
 cases z:cutD (p.map D.int) (some (-1)) none with
 | nil=>rw [z] at e;exact absurd rfl e
 | cons y r=>exact ⟨y,by simp⟩
theorem qf6 {m:Nat} {p:List Int} (hp:PlOk m p):∀ y∈npA m p,NoPt m y:=by
 have rp:=qw 0 p
 have rp2:refsLts 0 (p.map D.int)=true:=rp
 intro y hy
 unfold npA at hy
 simp only [wO,wf,or_false] at hy
 rcases hy with rfl | rfl | rfl | rfl | rfl | rfl | rfl | rfl | rfl | rfl | rfl
 ·exact ⟨rfl,qaC λns e _ _ h=>h (by cases ns with | nil=>rfl | cons a r=>cases e)⟩
 ·exact ⟨rfl,rfl⟩
 ·exact ⟨rfl,rfl⟩
 ·exact ⟨by simp [refsLt,rp2],rfl⟩
 ·exact ⟨rfl,rfl⟩
 ·exact ⟨rfl,rfl⟩
 ·exact ⟨rfl,rfl⟩
 ·exact ⟨rfl,rfl⟩
 ·refine ⟨by simp [refsLt,refsLts,rp],qaC λns e _ _ h=>?_⟩
  cases ns with
  | nil=>cases e
  | cons a r=>injection e with e1 _;cases e1
 ·refine ⟨by simp [refsLt,qT,rp2,qbZ],qaC λns e hpw _ _=>?_⟩
  obtain ⟨y,hy⟩:=qf5 hp.ne
  have hy2:=(qa5 _ _ _).1 y hy
  obtain ⟨x,hx,rfl⟩:=wn.mp hy2
  have hpd:(p.map D.int++cutD (p.map D.int) (some (-1)) none).Pairwise λa b=>∀ i j,a=.int i→b=.int j→i<j:=by
   rw [e,List.pairwise_map]
   exact hpw.imp λh i j e1 e2=>by cases e1;cases e2;exact h
  have:=(List.pairwise_append.mp hpd).2.2 (.int x) hy2 (.int x) hy x x rfl rfl
  omega
 ·refine ⟨qw 0 _,qaC λns e _ hr _=>?_⟩
  have e2:=qdn e
  have:(m:Int)∈ns:=by rw [← e2];exact ye.mpr ⟨by omega,by push_cast;omega⟩
  have:=hr _ this
  omega
theorem qjj {m:Nat} {p:List Int} (hp:PlOk m p) (h2:1<p.length):NoPt m (.tup (p.map D.int).reverse):=by
 refine ⟨qG λx hx=>by obtain ⟨y,_,rfl⟩:=wn.mp (List.mem_reverse.mp hx);rfl,qaC λns e hpw _ _=>?_⟩
 rw [← List.map_reverse] at e
 have e2:=qdn e
 rw [← e2,List.pairwise_reverse] at hpw
 have h1:=hp.up
 match p,h2 with
 | a::b::r,_ =>
  have q1:=(w8.mp h1).1 b (by simp)
  have q2:=(w8.mp hpw).1 b (by simp)
  omega
theorem qhj {F:Fs} {N:Nat} {S:Sr} {f:CF} {l:List D} {Q:D→Sr→Prop} (hl:l.length=f.np) (hk:f.keeps=false) (h:Ok (exs F N f.body (l.map some++List.replicate (f.nn-f.np) none) S) λx S1=>∃ j m,x=.rt (.ref j)∧S.length≤j∧S1[j]?=some (.lst m)∧refsLts 0 m=true∧Q (.lst m) (S1.take S.length)):Ok (callC F N f l S) Q:=by
 obtain ⟨x,S1,e1,j,m,rfl,h1,h2,h3,h4⟩:=h.ex
 have hj:j<S1.length:=(wI.mp h2).1
 have:callC F N f l S=.ok (.lst m) (S1.take S.length):=by
  simp only [callC,hl,wJ,e1,Res.bind,leave,hk]
  rw [wK (by simp),wK (by omega),wK (by simp [refsLt];omega)]
  have:frz S1 S.length (.ref j)=some (.lst m):=by
   unfold frz
   rw [wK (by omega),h2]
   simp [qK m h3]
  rw [this]
 rw [this];exact qay h4
theorem e_np {d n m:Nat} {v:Int} {p:List Int} {S:Sr} (hn:n<S.length) (hv:0≤v) (hp:PlOk m p) (hm:m≤12):∃ (L:List D) (u:Int),(∀ y∈L,NoPt m y)∧17≤L.length∧L.length≤100∧0≤u∧G (d+2) 28 [.ref n,tupI p,.int m] (pk S n v)=.ok (.lst L) (pk S n u):=by
 have pl:=qfT hp
 have hp0:0<p.length:=List.length_pos_iff.mpr hp.ne
 obtain ⟨f1,f2⟩:=fm (v:=v) (m:=p.length) (by omega)
 obtain ⟨a,ha⟩:∃ a:Nat,v.fmod p.length=a:=⟨(v.fmod p.length).toNat,by omega⟩
 obtain ⟨v1,ev1⟩:∃ v1,v1=v.fdiv p.length:=⟨_,rfl⟩
 have hv1:0≤v1:=by rw [ev1];exact vE hv (by omega)
 have t1:=zK (d:=d) (n:=n) (v:=v) (m:=p.length) (S:=S) hn (by omega) (by omega)
 rw [ha,← ev1] at t1
 suffices hs:Ok (G (d+2) 28 [.ref n,tupI p,.int m] (pk S n v)) λr U=>∃ L,r=.lst L∧U=pk S n v1∧(∀ y∈L,NoPt m y)∧17≤L.length∧L.length≤100 by
  obtain ⟨r,U,e,L,rfl,rfl,h1,h2,h3⟩:=hs.ex
  exact ⟨L,v1,h1,h2,h3,hv1,e⟩
 rw [G_at (c:=c_28) rfl]
 obtain ⟨B,hB⟩:∃ B,B=pk S n v1:=⟨_,rfl⟩
 have lB:B.length=S.length:=by rw [hB,qz]
 rw [← hB] at t1
 refine qhj rfl rfl ?_
 rw [qz]
 simp only [c_28]
 have lc:=j9 p (some (-1)) none
 have np_refs:∀ {l:List D},(∀ y∈l,NoPt m y)→refsLts 0 l=true:=λh=>qG λy hy=>(h y hy).1
 refine zA (Ok.of (qh (qe rfl (qe (qD rfl (zw _ _)) rfl)) t1) (Ok.of (a:=[some (.ref n),some (tupI p),some (.int m),some (.int a),none,none]) rfl ?_))
 refine zA (Ok.of (qct (l:=npA m p) (qe (qY rfl (by simp [PySem.sizeLine])) (qe rfl (qe (zz rfl (by simp)) (qe (qD rfl rfl) (qe rfl (qe rfl (qe rfl (qe rfl (qe (qY rfl (by simp [PySem.sizeLine])) (qe (qB rfl (qbR (l:=p.map .int) rfl rfl rfl) (bcatT (by rw [wP];omega))) (qe (qiZ (n:=m+1) (qe (qB rfl rfl (by show some (D.int _)=_;rfl)) rfl) (by omega)) rfl))))))))))) (by simp [npA]) (np_refs (qf6 hp))) (Ok.of (a:=[some (.ref n),some (tupI p),some (.int m),some (.int a),some (.ref B.length),none]) rfl ?_))
 refine jw (g:=λy:D=>y) (λpre ρ U=>∃ y5 l,ρ=[some (.ref n),some (tupI p),some (.int m),some (.int a),some (.ref B.length),y5]∧U=B++[.lst l]∧(∀ y∈l,NoPt m y)∧l.length=11+pre.length) (npO m)
  (Ok.of (jn (zz (qe rfl (qe rfl (qe rfl (qe rfl (qe rfl (qe (qY rfl (by simp [PySem.sizeLine])) (qe (zz rfl (by simp)) rfl))))))) (by simp))) ⟨by simp [npO],none,_,rfl,rfl,qf6 hp,by simp [npA]⟩) ?_ ?_
 ·rintro pre o suf ρ U hpre ⟨y5,l,rfl,rfl,hl,hll⟩
  have ho:o∈npO m:=by rw [hpre];simp
  have hl7:pre.length≤7:=by have:=congrArg List.length hpre;simp [npO] at this;omega
  have ho2:refsLt 0 o=true∧wholeB 0 ((m:Int)-1) o=false:=by
   unfold npO at ho
   simp only [wO,wf,or_false] at ho
   rcases ho with rfl | rfl | rfl | rfl | rfl | rfl | rfl
   ·exact ⟨rfl,by simp [wholeB];omega⟩
   all_goals exact ⟨rfl,by simp [wholeB]⟩
  refine Ok.of (a:=[some (.ref n),some (tupI p),some (.int m),some (.int a),some (.ref B.length),some o]) rfl ?_
  have l1:=j9 p none (some a)
  have l2:=j9 p (some (a+1)) none
  have hy:=qji (m:=m) (a:=cutD (p.map .int) none (some a)) (b:=cutD (p.map .int) (some (a+1)) none) (qbZ _ _ _) (qbZ _ _ _) ho2.1 ho2.2
  refine qa6 (qdk (Ok.of rfl ⟨B.length,l,rfl,at1,Ok.of (qB (qB (qbR (l:=p.map .int) rfl rfl rfl) (qY rfl (by simp [PySem.sizeLine])) (bcatT (by simp;omega))) (qbR (l:=p.map .int) rfl rfl rfl) (bcatT (by rw [wc];simp;omega))) ⟨at1,by omega,hy.1,?_⟩⟩))
  rw [set1]
  exact yZ ⟨_,_,rfl,rfl,jb hl hy,by simp;omega⟩
 rintro ρ U ⟨y5,l,rfl,rfl,hl,hll⟩
 have hll':l.length=18:=by rw [hll];simp [npO]
 have fin:∀ l':List D,(∀ y∈l',NoPt m y)→17≤l'.length→l'.length≤100→Ok (exs (G (d+1)) NW (.cons (.ret (.var 4)) .nil) [some (.ref n),some (tupI p),some (.int m),some (.int a),some (.ref B.length),y5] (B++[.lst l'])) λx S1=>∃ j m1,x=.rt (.ref j)∧S.length≤j∧S1[j]?=some (.lst m1)∧refsLts 0 m1=true∧∃ L,D.lst m1=.lst L∧S1.take S.length=pk S n v1∧(∀ y∈L,NoPt m y)∧17≤L.length∧L.length≤100:=λl' h1 h2 h3 =>
  qdj (Ok.of rfl ⟨B.length,l',rfl,by omega,at1,np_refs h1,l',rfl,by rw [← lB,List.take_left,hB],h1,h2,h3⟩)
 refine o_if (Ok.of (t_of (zb (qD rfl (zw _ _)) rfl (gtN _ _ _))) ?_)
 by_cases h2:1<p.length
 ·rw [wm (show (1:Int)<p.length by omega)]
  have hr:=qjj hp h2
  refine qa6 (qdk (Ok.of rfl ⟨B.length,l,rfl,at1,Ok.of (a:=.tup (p.map D.int).reverse) (S:=B++[.lst l]) rfl ⟨at1,by omega,hr.1,?_⟩⟩))
  rw [set1]
  exact yZ (fin _ (jb hl hr) (by simp;omega) (by simp;omega))
 ·rw [w6 (show ¬ (1:Int)<p.length by omega)]
  exact yZ (fin _ hl (by omega) (by omega))
end RP
namespace RP
open R
noncomputable def bodyF:CSs→CSs
 | .cons (.forS _ _ b) _=>b
 | _=>.nil
theorem yy {F:Fs} {ρ:En} {S S1:Sr} {e:CE} (h:ev F e ρ S=.ok (.bl true) S1):tst F (.not (.val e)) ρ S=.ok false S1:=t_no (x:=true) (t_of h)
theorem qkI {F:Fs} {ρ:En} {S S1 S2:Sr} {c c2:CB} (h:tst F c ρ S=.ok false S1) (h2:tst F c2 ρ S1=.ok false S2):tst F (.or c c2) ρ S=.ok false S2:=by simp [tst,h,h2,Res.bind]
theorem idxL {L:List D} {r:Int} {S:Sr} (h0:0≤r) (h1:r<L.length):∃ y,idxD S (.lst L) (.int r)=some y∧y∈L:=by
 have hk:r.toNat<L.length:=by omega
 have:L2.ixN L.length r=some r.toNat:=by
  unfold L2.ixN;rw [wJ h0,wJ (by omega)]
 refine ⟨L[r.toNat],?_,List.getElem_mem hk⟩
 show (L2.ixN L.length r).bind (λj=>L[j]?)=_
 rw [this]
 exact wD hk
theorem idx0 {a:Int} {q:List Int} {U:Sr}:idxD U (tupI (a::q)) (.int 0)=some (.int a):=idxN (l:=(a::q).map .int) (k:=0) rfl
theorem qf7 {d n:Nat} {u:Int} {w:Wb} {p:List Int} {L2:List D} {y:D} {k:Int} {S:Sr} {x3 x8 x7:Option D} (hn:n<S.length) (hu:0≤u) (hp:p≠[]) (hL:∀ y∈L2,refsLt 0 y=true) (hl:17≤L2.length) (hy:NoWb y) (hk:k=0∨k=1∨k=2∨k=3) :
  ∃ (z:D) (u2:Int),0≤u2∧exs (G (d+13)) NW (bodyF (bodyF (dropS 2 c_29.body))) [some (.ref n),some (webD w),some (tupI p),x3,some (.lst L2),some y,some (.int k),x7,x8] (pk S n u)=.ok (.nx [some (.ref n),some (webD w),some (tupI p),x3,some (.lst L2),some y,some (.int k),some z,x8]) (pk S n u2):=by
 have t1:=zK (d:=d+12) (n:=n) (v:=u) (m:=17) (S:=S) hn (by omega) (by omega)
 obtain ⟨r,er⟩:∃ r,r=u.fmod 17:=⟨_,rfl⟩
 obtain ⟨u2,eu2⟩:∃ u2,u2=u.fdiv 17:=⟨_,rfl⟩
 have hr:=fm (v:=u) (m:=17) (by omega)
 rw [← er,← eu2] at t1
 rw [← er] at hr
 obtain ⟨z,hz,zm⟩:=idxL (L:=L2) (r:=r) (S:=pk S n u2) hr.1 (by omega)
 refine ⟨z,u2,by rw [eu2];exact vE hu (by omega),?_⟩
 obtain ⟨a,q,rfl⟩:∃ a q,p=a::q:=by cases p with | nil=>exact absurd rfl hp | cons a q=>exact ⟨a,q,rfl⟩
 simp only [dropS,bodyF,c_29]
 refine qR (zN rfl (qh rfl t1) hz) (ρ1:=[some (.ref n),some (webD w),some (tupI (a::q)),x3,some (.lst L2),some y,some (.int k),some z,x8]) rfl (x_no (qkI (yy (qh (l:=[.int k,y,tupI (a::q),.int a,.int 1]) (qe rfl (qe rfl (qe rfl (qe (zN rfl rfl idx0) (qe rfl rfl))))) (qf0 (d:=d) hk hy.1 (qw 0 _) (qdl hy.2) rfl))) (yy (qh (l:=[.int k,y,z,.non,.int 1]) rfl (qf0 (d:=d) hk hy.1 (hL z zm) (qdl hy.2) rfl)))) jv)
theorem rI4 {q:Int} (h:q∈rI 4):q=0∨q=1∨q=2∨q=3:=by have:=ye.mp h;omega
theorem qhk {d n:Nat} {v:Int} {w:Wb} {p:List Int} {S:Sr} (hn:n<S.length) (hv:0≤v) (h:WbOk w) (hp:PlOk w.costs.length p):∃ u:Int,0≤u∧G (d+14) 29 [.ref n,webD w,tupI p] (pk S n v)=.ok (.bl true) (pk S n u):=by
 have hc1:=h.c1
 have hc2:=h.c2
 have pl:=qfT hp
 obtain ⟨L2,u1,g1,g2,g3,hu1,e1⟩:=e_np (d:=d+11) (n:=n) (m:=w.costs.length) (v:=v) (p:=p) (S:=S) hn hv hp hc2
 obtain ⟨L,u2,k1,k2,hu2,e2⟩:=e_nw (d:=d+11) (n:=n) (v:=u1) (w:=w) (S:=S) hn hu1 h
 suffices hs:Ok (G (d+14) 29 [.ref n,webD w,tupI p] (pk S n v)) λr U=>∃ u,r=.bl true∧U=pk S n u∧0≤u by
  obtain ⟨r,U,e,u,rfl,rfl,h1⟩:=hs.ex
  exact ⟨u,h1,e⟩
 rw [G_at (c:=c_29) rfl]
 refine qa7 rfl rfl ?_
 rw [qz]
 rw [show c_29.body=.cons (.set (.var 3) (.blt .len (.cons (.idx (.var 1) (.cst (.int 0))) .nil))) (dropS 1 c_29.body) from rfl]
 refine zA (Ok.of (qD (qe (zN rfl rfl rfl) rfl) (zw _ _)) (Ok.of (a:=[some (.ref n),some (webD w),some (tupI p),some (.int w.costs.length),none,none,none,none,none]) rfl ?_))
 rw [show dropS 1 c_29.body=.cons (.set (.var 4) (.call 28 (.cons (.var 0) (.cons (.var 2) (.cons (.var 3) .nil))))) (dropS 2 c_29.body) from rfl]
 refine zA (Ok.of (qh rfl e1) (Ok.of (a:=[some (.ref n),some (webD w),some (tupI p),some (.int w.costs.length),some (.lst L2),none,none,none,none]) rfl ?_))
 rw [show dropS 2 c_29.body=.cons (.forS (.var 5) (.seq (.call 27 (.cons (.var 0) (.cons (.var 1) .nil)))) (bodyF (dropS 2 c_29.body))) (dropS 3 c_29.body) from rfl]
 refine jw (g:=λy:D=>y) (λpre ρ U=>∃ u x5 x6 x7,0≤u∧U=pk S n u∧ρ=[some (.ref n),some (webD w),some (tupI p),some (.int w.costs.length),some (.lst L2),x5,x6,x7,none]) L
  (Ok.of (jn (qh rfl e2)) ⟨by simp,u2,none,none,none,hu2,rfl,rfl⟩) ?_ ?_
 ·rintro pre y suf ρ U hpre ⟨u,x5,x6,x7,hu,rfl,rfl⟩
  have hy:=k1 y (by rw [hpre];simp)
  refine Ok.of (a:=[some (.ref n),some (webD w),some (tupI p),some (.int w.costs.length),some (.lst L2),some y,x6,x7,none]) rfl ?_
  rw [show bodyF (dropS 2 c_29.body)=.cons (.forS (.var 6) (.rng (.cons (.cst (.int 4)) .nil)) (bodyF (bodyF (dropS 2 c_29.body)))) .nil from rfl]
  refine jw (g:=.int) (λpre ρ U=>∃ u x6 x7,0≤u∧U=pk S n u∧ρ=[some (.ref n),some (webD w),some (tupI p),some (.int w.costs.length),some (.lst L2),some y,x6,x7,none]) (rI 4)
   (Ok.of (i_rng (n:=4) rfl (by decide)) ⟨rfl,u,x6,x7,hu,rfl,rfl⟩) ?_ ?_
  ·rintro pre2 k suf2 ρ U hpre2 ⟨u,x6,x7,hu,rfl,rfl⟩
   have hk:k∈rI 4:=by rw [hpre2];simp
   refine Ok.of (a:=[some (.ref n),some (webD w),some (tupI p),some (.int w.costs.length),some (.lst L2),some y,some (.int k),x7,none]) rfl ?_
   obtain ⟨z,u3,hu3,e⟩:=qf7 (d:=d) (n:=n) (u:=u) (w:=w) (p:=p) (L2:=L2) (y:=y) (k:=k) (S:=S) (x3:=some (.int w.costs.length)) (x8:=none) (x7:=x7) hn hu hp.ne (λy hy=>(g1 y hy).1) g2 hy (rI4 hk)
   exact Ok.of e ⟨u3,_,_,hu3,rfl,rfl⟩
  ·rintro ρ U ⟨u,x6,x7,hu,rfl,rfl⟩
   exact yZ ⟨u,_,_,_,hu,rfl,rfl⟩
 rintro ρ U ⟨u,x5,x6,x7,hu,rfl,rfl⟩
 rw [show dropS 3 c_29.body=.cons (.forS (.var 5) (.seq (.var 4)) (bodyF (dropS 3 c_29.body))) (dropS 4 c_29.body) from rfl]
 refine jw (g:=λy:D=>y) (λpre ρ U=>∃ x5,U=pk S n u∧ρ=[some (.ref n),some (webD w),some (tupI p),some (.int w.costs.length),some (.lst L2),x5,x6,x7,none]) L2
  (Ok.of (jn rfl) ⟨by simp,x5,rfl,rfl⟩) ?_ ?_
 ·rintro pre y suf ρ U hpre ⟨x5,rfl,rfl⟩
  have hy:=g1 y (by rw [hpre];simp)
  refine Ok.of (a:=[some (.ref n),some (webD w),some (tupI p),some (.int w.costs.length),some (.lst L2),some y,x6,x7,none]) rfl ?_
  simp only [dropS,bodyF,c_29]
  have ea:=j3 (g:=.int) (F:=G (d+13)) (fr:=[1,5]) (nt:=1) (elt:=.call 26 (.cons (.var 2) (.cons (.var 0) (.cons (.var 1) (.cons (.cst (.int 0)) (.cons (.cst (.int 2)) .nil)))))) (tg:=.var 2) (it:=.rng (.cons (.cst (.int 4)) .nil)) (ifs:=.nil) (ρ:=[some (.ref n),some (webD w),some (tupI p),some (.int w.costs.length),some (.lst L2),some y,x6,x7,none]) (S:=pk S n u) (S1:=pk S n u) (ds:=(rI 4).map .int) (rI 4) (λ_=>true) (λ_=>.bl true) (λρ=>∃ x,ρ=[some (webD w),some y,x]) (i_rng (n:=4) rfl (by decide)) rfl ⟨_,rfl⟩ (by simp [PySem.sizeLine,zk]) (by
   rintro q hq ρ m ⟨x,rfl⟩
   exact ⟨_,rfl,⟨_,rfl⟩,rfl,λ_=>⟨qh rfl (qf0 (d:=d) (rI4 hq) qaa hy.1 (qf1 h hy.2) (by simp [srtN])),rfl⟩⟩)
  rw [zH] at ea
  have eb:=qi7 (rI 4) (λ_=>true) (pk S n u)
  rw [show (rI 4).all (λ_=>true)=true by simp] at eb
  exact o_no (Ok.of (yy (qD (qe ea rfl) eb)) ⟨rfl,yZ ⟨_,rfl,rfl⟩⟩)
 rintro ρ U ⟨x5,rfl,rfl⟩
 obtain ⟨a,q,epq⟩:∃ a q,p=a::q:=by
  cases p with
  | nil=>exact absurd rfl hp.ne
  | cons a q=>exact ⟨a,q,rfl⟩
 have i0:∀ (F:Fs) (x3 x4 x5 x6 x7 x8:Option D) (U:Sr),ev F (.idx (.var 2) (.cst (.int 0))) [some (.ref n),some (webD w),some (tupI p),x3,x4,x5,x6,x7,x8] U=.ok (.int a) U:=λF x3 x4 x5 x6 x7 x8 U=>zN rfl rfl (by rw [epq];exact idx0)
 simp only [dropS,c_29]
 have el:=j3 (g:=.int) (F:=G (d+13)) (fr:=[2]) (nt:=1) (elt:=.var 1) (tg:=.var 1) (it:=.rng (.cons (.bin .add (.var 3) (.cst (.int 1))) .nil)) (ifs:=.cons (.val (.cmp .nin (.var 1) (.var 0))) .nil) (ρ:=[some (.ref n),some (webD w),some (tupI p),some (.int w.costs.length),some (.lst L2),x5,x6,x7,none]) (S:=pk S n u) (S1:=pk S n u) (ds:=(rI (w.costs.length+1)).map .int) (rI (w.costs.length+1)) (λq=>!p.contains q) .int (λρ=>∃ x,ρ=[some (tupI p),x]) (i_rng (n:=w.costs.length+1) (qe (qB rfl rfl (by show some (D.int _)=_;rfl)) rfl) (by omega)) rfl ⟨_,rfl⟩ (by rw [zk];unfold PySem.sizeLine;omega) (by
  rintro q hq ρ m ⟨x,rfl⟩
  refine ⟨_,rfl,⟨_,rfl⟩,qa1 (t_of (zb rfl rfl ?_)),λ_=>⟨rfl,rfl⟩⟩
  show ((inD (.int q) (p.map .int)).map (!·))=_
  rw [y9];rfl)
 obtain ⟨O,hO⟩:∃ O,O=(rI (w.costs.length+1)).filter λq=>!p.contains q:=⟨_,rfl⟩
 rw [← hO] at el
 have hOl:O.length≤13:=by
  rw [hO]
  have:=List.length_filter_le (λq=>!p.contains q) (rI (w.costs.length+1))
  rw [zk] at this
  omega
 refine zA (Ok.of el (Ok.of (a:=[some (.ref n),some (webD w),some (tupI p),some (.int w.costs.length),some (.lst L2),x5,x6,x7,some (.lst (O.map .int))]) rfl ?_))
 have m1:((-1:Int)) ∉ p:=λz=>by have:=(hp.rng _ z).1;omega
 have m2:((100:Int)) ∉ p:=λz=>by have:=(hp.rng _ z).2;omega
 refine jw (g:=λy:D=>y) (λpre ρ U=>∃ x5,U=pk S n u∧ρ=[some (.ref n),some (webD w),some (tupI p),some (.int w.costs.length),some (.lst L2),x5,x6,x7,some (.lst (O.map .int))]) (O.map .int++[.int (-1),.int 100,.non,.str (PySem.Str.ofString "0"),.tup [.int a],.lst [.int a],.emp,.bl true,.bl false,.tup []])
  (Ok.of (jn (qB rfl (zz (qe rfl (qe rfl (qe rfl (qe rfl (qe (qY (qe (i0 _ _ _ _ _ _ _ _) rfl) (by simp [PySem.sizeLine])) (qe (zz (qe (i0 _ _ _ _ _ _ _ _) rfl) (by simp)) (qe rfl (qe rfl (qe rfl (qe (qY rfl (by simp [PySem.sizeLine])) rfl)))))))))) (by simp)) (bcat (by simp;omega)))) ⟨by simp,x5,rfl,rfl⟩) ?_ ?_
 ·rintro pre y suf ρ U hpre ⟨x5,rfl,rfl⟩
  have hm:y∈O.map D.int++[.int (-1),.int 100,.non,.str (PySem.Str.ofString "0"),.tup [.int a],.lst [.int a],.emp,.bl true,.bl false,.tup []]:=by rw [hpre];simp
  have hy:refsLt 0 y=true∧outB p y=true:=by
   rcases vC.mp hm with z | z
   ·obtain ⟨x,hx,rfl⟩:=wn.mp z
    refine ⟨rfl,?_⟩
    rw [hO] at hx
    exact (List.mem_filter.mp hx).2
   ·simp only [wO,wf,or_false] at z
    rcases z with rfl | rfl | rfl | rfl | rfl | rfl | rfl | rfl | rfl | rfl
    ·exact ⟨rfl,by simp [outB,m1]⟩
    ·exact ⟨rfl,by simp [outB,m2]⟩
    all_goals exact ⟨rfl,rfl⟩
  refine Ok.of (a:=[some (.ref n),some (webD w),some (tupI p),some (.int w.costs.length),some (.lst L2),some y,x6,x7,some (.lst (O.map .int))]) rfl ?_
  exact o_no (Ok.of (yy (qh rfl (qjc (d:=d) h hp hy.1 hy.2))) ⟨rfl,yZ ⟨_,rfl,rfl⟩⟩)
 rintro ρ U ⟨x5,rfl,rfl⟩
 exact qdj (Ok.of rfl ⟨by rw [qz];exact wG _,rfl,u,rfl,by rw [← qz S n u,List.take_length],hu⟩)
end RP
namespace RP
open R
noncomputable def lE (ns:List Int) (k:Int) (x2 x3 x4 x5:Option D):En:=[some (.lst (ns.map .int)),some (.int k),x2,x3,x4,x5]
theorem qhl {a b c:Int} {n:Nat} {t s:Int} {S:Sr}:cmpD .ne (.lst [.int a,.int b,low n t s,.int c]) (.lst [.int a,.int b,low n t s,.int c]) S=some false:=by
 simp [cmpD,eqD,eqL,low]
theorem turn {d:Nat} {ns:List Int} (h63:ns.length≤63) {k:Int} (hk:0≤k) (hk2:k<50) {x2 x3 x4 x5:Option D} {S:Sr} :
  Ok (exs (G (d+14)) NW (bodyF qbO.body) (lE ns k x2 x3 x4 x5) S) λf _=>∃ y2 y3 y4 y5,f=.nx (lE ns k y2 y3 y4 y5):=by
 obtain ⟨v,hv,ep⟩:=qfQ (d:=d+12) h63 (k:=k) (S:=S) hk (by omega)
 have hself:pk (S++[.lst [.int v]]) S.length v=S++[.lst [.int v]]:=qdf (by simp)
 obtain ⟨w,u,hw,hwl,hu,ew⟩:=qkE (d:=d+11) (n:=S.length) (v:=v) (mo:=8) (tn:=10) (S:=S++[.lst [.int v]]) (by simp) hv (by decide) (by decide) (by decide) (by decide)
 rw [hself] at ew
 have hc1:=hw.c1
 have hc2:=hw.c2
 obtain ⟨p,u2,hp,hu2,epart⟩:=qi6 (d:=d+12) (n:=S.length) (many:=w.costs.length) (v:=u) (S:=S++[.lst [.int v]]) (by simp) hu hc1 hc2
 generalize pk (S++[.lst [.int v]]) S.length u=T at ew epart
 generalize pk (S++[.lst [.int v]]) S.length u2=T2 at epart
 obtain ⟨v2,hv2,ep2⟩:=qfQ (d:=d+12) h63 (k:=k+3) (S:=T2) (by omega) (by omega)
 have hself2:pk (T2++[.lst [.int v2]]) T2.length v2=T2++[.lst [.int v2]]:=qdf (by simp)
 obtain ⟨u3,hu3,er⟩:=qhk (d:=d) (n:=T2.length) (v:=v2) (w:=w) (p:=p) (S:=T2++[.lst [.int v2]]) (by simp) hv2 hw hp
 rw [hself2] at er
 generalize pk (T2++[.lst [.int v2]]) T2.length u3=T3 at er
 obtain ⟨a,q,epq⟩:∃ a q,p=a::q:=by
  cases p with
  | nil=>exact absurd rfl hp.ne
  | cons a q=>exact ⟨a,q,rfl⟩
 have four:∀ (x5:Option D) (U:Sr),ev (G (d+14)) (.lst false (.cons (.call 15 (.cons (.var 3) (.cons (.var 4) .nil))) (.cons (.call 16 (.cons (.var 3) (.cons (.var 4) .nil))) (.cons (.call 17 (.cons (.var 3) (.cons (.var 4) .nil))) (.cons (.call 18 (.cons (.var 3) (.cons (.var 4) (.cons (.idx (.var 4) (.cst (.int 0))) .nil)))) .nil))))) (lE ns k (some (.ref S.length)) (some (webD w)) (some (tupI p)) x5) U=.ok (.lst [.int ((tin w p).map (·.2)).sum,.int (price w p),low NW (mass w p) (price w p),.int (((tin w p).filter λt=>t.1.contains a).map (·.2)).sum]) U:=λx5 U =>
  zz (qe (qh rfl (qb1 (d:=d+3) hw hp)) (qe (qh rfl (qfX (d:=d+3) hw hp)) (qe (qh rfl (qhf (d:=d+2) hw hp)) (qe (qh (l:=[webD w,tupI p,.int a]) (qe rfl (qe rfl (qe (zN rfl rfl (by rw [epq];exact idx0)) rfl))) (qfY (d:=d+3) hw hp (by rw [epq];simp))) rfl)))) (by simp)
 simp only [bodyF,qbO]
 refine zA (Ok.of (qh rfl ep) (Ok.of (a:=lE ns k (some (.ref S.length)) x3 x4 x5) rfl ?_))
 refine zA (Ok.of (qh rfl ew) (Ok.of (a:=lE ns k (some (.ref S.length)) (some (webD w)) x4 x5) rfl ?_))
 refine zA (Ok.of (qh (qe rfl (qe (qD (qe (zN rfl rfl rfl) rfl) (zw _ _)) rfl)) epart) (Ok.of (a:=lE ns k (some (.ref S.length)) (some (webD w)) (some (tupI p)) x5) rfl ?_))
 refine zA (Ok.of (four x5 _) (Ok.of (a:=lE ns k (some (.ref S.length)) (some (webD w)) (some (tupI p)) (some (.lst [.int ((tin w p).map (·.2)).sum,.int (price w p),low NW (mass w p) (price w p),.int (((tin w p).filter λt=>t.1.contains a).map (·.2)).sum]))) rfl ?_))
 refine o_no (Ok.of (yy (qh (qe (qh (qe rfl (qe (qB rfl rfl badd) rfl)) ep2) (qe rfl (qe rfl rfl))) er)) ⟨rfl,?_⟩)
 exact o_no (Ok.of (t_of (zb (four _ _) rfl qhl)) ⟨rfl,yZ ⟨_,_,_,_,rfl⟩⟩)
theorem qjk {d:Nat} {ns:List Int} (h63:ns.length≤63):G (d+15) 30 [.lst (ns.map .int)] []=.ok (.bl true) []:=by
 have:Ok (G (d+15) 30 [.lst (ns.map .int)] []) λr S=>r=.bl true∧S=[]:=by
  rw [G_at (c:=qbO) rfl]
  refine qa7 rfl rfl ?_
  obtain ⟨n,hn,ei⟩:=qkB (F:=G (d+14)) (ρ:=[some (.lst (ns.map .int)),none,none,none,none,none]) (S:=[]) (ns:=ns) (c:=12) rfl (by decide) (by decide)
  refine jw (g:=λk:Nat=>D.int (0+2*k)) (λpre ρ _=>∃ x1 x2 x3 x4 x5,ρ=[some (.lst (ns.map .int)),x1,x2,x3,x4,x5]) (List.range n) (Ok.of ei ⟨rfl,_,_,_,_,_,rfl⟩) ?_ ?_
  ·rintro pre q suf ρ T hpre ⟨x1,x2,x3,x4,x5,rfl⟩
   have hq:q∈List.range n:=by rw [hpre];simp
   have hq':=List.mem_range.mp hq
   refine Ok.of (a:=lE ns (0+2*q) x2 x3 x4 x5) rfl ?_
   refine (turn (d:=d) h63 (k:=0+2*(q:Int)) (by omega) (by omega)).mono ?_
   rintro f S1 ⟨y2,y3,y4,y5,rfl⟩
   exact ⟨_,_,_,_,_,rfl⟩
  ·rintro ρ T ⟨x1,x2,x3,x4,x5,rfl⟩
   exact qdj (Ok.of rfl ⟨vO _,rfl,rfl,by simp⟩)
 obtain ⟨a,S,e,rfl,rfl⟩:=this.ex
 exact e
theorem pure_law (ns:List Int) (h:ns.length≤63):∃ S',R.run prg NW 15 30 [.lst (ns.map .int)] []=.ok (.bl true) S':=⟨[],by rw [← qfM];exact qjk (d:=0) h⟩
end RP
section
def PySem.W.Fast.tw2040996211554398254:Nat:=0
noncomputable def PySem.W.Fast.tw4053614289068376700:Nat:=0
noncomputable def PySem.W.Fast.tw14770908809850810446:Nat:=0
noncomputable def PySem.W.Fast.tw2036647095687611826:Nat:=0
noncomputable def PySem.W.Fast.tw9781897912697338369:Nat:=0
noncomputable def PySem.W.Fast.tw4547389300822792915:Nat:=0
noncomputable def PySem.W.Fast.tw1130937376136698673:Nat:=0
noncomputable def PySem.W.Fast.tw3096131271583881318:Nat:=0
noncomputable def PySem.W.Fast.tw12357764187398348213:Nat:=0
noncomputable def PySem.W.Fast.tw10311219072673119847:Nat:=0
noncomputable def PySem.W.Fast.tw12142638268214451849:Nat:=0
noncomputable def PySem.W.Fast.tw9267956266514583571:Nat:=0
noncomputable def PySem.W.Fast.tw18098659741966933748:Nat:=0
noncomputable def PySem.W.Fast.tw14241044897558394833:Nat:=0
noncomputable def PySem.W.Fast.tw6739521765202202196:Nat:=0
noncomputable def PySem.W.Fast.tw1032256026784114104:Nat:=0
noncomputable def PySem.W.Fast.tw14565166043523029383:Nat:=0
noncomputable def PySem.W.Fast.tw12063924732947739583:Nat:=0
noncomputable def PySem.W.Fast.tw4059136645967137306:Nat:=0
noncomputable def PySem.W.Fast.tw12955107830702467640:Nat:=0
noncomputable def PySem.W.Fast.tw11347063275270891328:Nat:=0
noncomputable def PySem.W.Fast.tw6514504326549408018:Nat:=0
noncomputable def PySem.W.Fast.tw786331444024739907:Nat:=0
noncomputable def PySem.W.Fast.tw6662816222169128077:Nat:=0
noncomputable def PySem.W.Fast.tw3284881267216057829:Nat:=0
noncomputable def PySem.W.Fast.tw10119648413200913620:Nat:=0
noncomputable def PySem.W.Fast.tw12458197727177065747:Nat:=0
noncomputable def PySem.W.Fast.tw13912407004934651059:Nat:=0
noncomputable def PySem.W.Fast.tw16395453511693952460:Nat:=0
noncomputable def PySem.W.Fast.tw15938624930199263043:Nat:=0
noncomputable def PySem.W.Fast.tw2300963533760428677:Nat:=0
noncomputable def PySem.W.Fast.tw1303269889436559903:Nat:=0
noncomputable def PySem.W.Fast.tw12851802087466630918:Nat:=0
noncomputable def PySem.W.Fast.tw1343436202670045424:Nat:=0
noncomputable def PySem.W.Fast.tw12725543456619145171:Nat:=0
noncomputable def PySem.W.Fast.tw7214458250384423532:Nat:=0
noncomputable def PySem.W.Fast.tw9955844442701042611:Nat:=0
noncomputable def PySem.W.Fast.tw7065064226294292934:Nat:=0
noncomputable def PySem.W.Fast.tw15402943898129875532:Nat:=0
noncomputable def PySem.W.Fast.tw10736448396307123086:Nat:=0
noncomputable def PySem.W.Fast.tw7222027057684279925:Nat:=0
noncomputable def PySem.W.Fast.tw7339271575538249173:Nat:=0
noncomputable def PySem.W.Fast.tw17972513837394567614:Nat:=0
noncomputable def PySem.W.Fast.tw11344338767307947957:Nat:=0
noncomputable def PySem.W.Fast.tw16713655060668696027:Nat:=0
noncomputable def PySem.W.Fast.tw16207919019970389136:Nat:=0
noncomputable def PySem.W.Fast.tw4431432223990771952:Nat:=0
noncomputable def PySem.W.Fast.tw16398484915156088719:Nat:=0
noncomputable def PySem.W.Fast.tw7129931258381748158:Nat:=0
noncomputable def PySem.W.Fast.tw14189800415950326575:Nat:=0
noncomputable def PySem.W.Fast.tw487758760709337765:Nat:=0
noncomputable def PySem.W.Fast.tw17659071692991400338:Nat:=0
noncomputable def PySem.W.Fast.tw13146741937498305512:Nat:=0
noncomputable def PySem.W.Fast.tw13190153419981617026:Nat:=0
noncomputable def PySem.W.Fast.tw6448776412422073446:Nat:=0
noncomputable def PySem.W.Fast.tw14166632162718122632:Nat:=0
noncomputable def PySem.W.Fast.tw2068458280542821147:Nat:=0
noncomputable def PySem.W.Fast.tw7000470149806260334:Nat:=0
noncomputable def PySem.W.Fast.tw17349506068135567899:Nat:=0
noncomputable def PySem.W.Fast.tw6019381495849523918:Nat:=0
noncomputable def PySem.W.Fast.tw8125904334193267805:Nat:=0
noncomputable def PySem.W.Fast.tw7266841304921461024:Nat:=0
noncomputable def PySem.W.Fast.tw16039834687982814961:Nat:=0
noncomputable def PySem.W.Fast.tw9872585694820931539:Nat:=0
noncomputable def PySem.W.Fast.tw10518422436255332399:Nat:=0
noncomputable def PySem.W.Fast.tw3842348065220133654:Nat:=0
noncomputable def PySem.W.Fast.tw14599192998643733443:Nat:=0
noncomputable def PySem.W.Fast.tw14120382574572823444:Nat:=0
noncomputable def PySem.W.Fast.tw7834828251998063339:Nat:=0
noncomputable def PySem.W.Fast.tw13035835065902187542:Nat:=0
noncomputable def PySem.W.Fast.tw17125064725502136245:Nat:=0
noncomputable def PySem.W.Fast.tw7205818762043512271:Nat:=0
noncomputable def PySem.W.Fast.tw4300831179098892853:Nat:=0
noncomputable def PySem.W.Fast.tw16209499982726321720:Nat:=0
noncomputable def PySem.W.Fast.tw10688874830195691984:PySem.Program:=PySem.Challenge.pw_weblayers_k05_webs_and_parts_refused
theorem PySem.W.Fast.te10688874830195691984:PySem.Challenge.pw_weblayers_k05_webs_and_parts_refused=PySem.W.Fast.tw10688874830195691984:=rfl
namespace RP
open PySem PySem.W PyProof.Rows R
noncomputable abbrev KOf2 {K:PySem.W.Frag} {h:Heap} (_:K.In h):PySem.W.Frag:=K
end RP
open PySem PySem.W PyProof.Rows R
set_option maxRecDepth 100000 in
set_option maxHeartbeats 0 in
theorem PySem.Challenge.cw_weblayers_k05_webs_and_parts_refused_holds : PySem.Challenge.rw_weblayers_k05_webs_and_parts_refused.Holds := by
 w_on;o_law;k_head;(case hw=>w_witness2)
 k_fill
 refine R.qiJ (l:=PySem.Challenge.rw_weblayers_k05_webs_and_parts_refused) (n:=63) (k:=45) (x:="_law_script") (g:=R.run RP.prg RP.NW 15 30) rfl (by decide) rfl ⟨rfl,by decide,by decide⟩ (λw h Y=>PySem.W.kIn_of Y) ?zp ?zc ?zF RP.pure_law
 case zp=>intro P;rfl
 case zc=>intro P;rfl
 case zF =>
  intro w mg fa h KX G hmg
  have p:RP.Pre (RP.KOf2 KX) mg:=by
   dsimp only [RP.KOf2]
   refine ⟨?gb,?c_MOST_COST,?c_MOST_PLACES,?c_MOST_PLACES_OF_TIE,?c_MOST_TIES,?c_MOST_WEIGHT,?p_x_NoArrows,?p_x_NoCall,?p_x_NoKept,?p_x_NoLaying,?p_x_NoMeasure,?p_x_NoNumber,?p_x_NoPart,?p_x_NoRoad,?p_x_NoSize,?p_x_NoText,?p_x_NoThread,?p_x_NoWeb,?p_x_WebError,?p_x_ValueError,?p_er_NoPart,?p_er_NoWeb,?p_er_WebError,?p_ei_NoPart,?p_ek_NoPart,?p_ki_NoPart_NoArrows,?p_ki_NoPart_NoCall,?p_ki_NoPart_NoKept,?p_ki_NoPart_NoLaying,?p_ki_NoPart_NoMeasure,?p_ki_NoPart_NoNumber,?p_ki_NoPart_NoPart,?p_ki_NoPart_NoRoad,?p_ki_NoPart_NoSize,?p_ki_NoPart_NoText,?p_ki_NoPart_NoThread,?p_ki_NoPart_NoWeb,?p_ki_NoPart_ValueError,?p_ei_NoWeb,?p_ek_NoWeb,?p_ki_NoWeb_NoArrows,?p_ki_NoWeb_NoCall,?p_ki_NoWeb_NoKept,?p_ki_NoWeb_NoLaying,?p_ki_NoWeb_NoMeasure,?p_ki_NoWeb_NoNumber,?p_ki_NoWeb_NoPart,?p_ki_NoWeb_NoRoad,?p_ki_NoWeb_NoSize,?p_ki_NoWeb_NoText,?p_ki_NoWeb_NoThread,?p_ki_NoWeb_NoWeb,?p_ki_NoWeb_ValueError,?u_0,?u_1,?u_2,?u_3,?u_4,?u_5,?u_6,?u_7,?u_8,?u_9,?u_10,?u_11,?u_12,?u_13,?u_14,?u_15,?u_16,?u_17,?u_18,?u_19,?u_20,?u_21,?u_22,?u_23,?u_24,?u_25,?u_26,?u_27,?u_28,?u_29,?u_30⟩
   case gb =>
    refine ⟨mg_none_of KX G ?x0,mg_none_of KX G ?x1,mg_none_of KX G ?x2,mg_none_of KX G ?x3,mg_none_of KX G ?x4,mg_none_of KX G ?x5,mg_none_of KX G ?x6,mg_none_of KX G ?x7,mg_none_of KX G ?x8,mg_none_of KX G ?x9,mg_none_of KX G ?x10,mg_none_of KX G ?x11,mg_none_of KX G ?x12,mg_none_of KX G ?x13,mg_none_of KX G ?x14,mg_none_of KX G ?x15,mg_none_of KX G ?x16,mg_none_of KX G ?x17,mg_none_of KX G ?x18⟩
    (case x0=>k_is);(case x1=>k_is);(case x2=>k_is);(case x3=>k_is);(case x4=>k_is);(case x5=>k_is);(case x6=>k_is);(case x7=>k_is);(case x8=>k_is);(case x9=>k_is);(case x10=>k_is);(case x11=>k_is);(case x12=>k_is);(case x13=>k_is);(case x14=>k_is);(case x15=>k_is);(case x16=>k_is);(case x17=>k_is);(case x18=>k_is)
   case c_MOST_COST=>refine' jY KX G ?a ?b;(case a=>k_is);(case b=>exact rfl)
   case c_MOST_PLACES=>refine' jY KX G ?a ?b;(case a=>k_is);(case b=>exact rfl)
   case c_MOST_PLACES_OF_TIE=>refine' jY KX G ?a ?b;(case a=>k_is);(case b=>exact rfl)
   case c_MOST_TIES=>refine' jY KX G ?a ?b;(case a=>k_is);(case b=>exact rfl)
   case c_MOST_WEIGHT=>refine' jY KX G ?a ?b;(case a=>k_is);(case b=>exact rfl)
   case p_x_NoArrows=>refine' R.zv KX G ?a ?b;(case a=>k_is);(case b=>exact rfl)
   case p_x_NoCall=>refine' R.zv KX G ?a ?b;(case a=>k_is);(case b=>exact rfl)
   case p_x_NoKept=>refine' R.zv KX G ?a ?b;(case a=>k_is);(case b=>exact rfl)
   case p_x_NoLaying=>refine' R.zv KX G ?a ?b;(case a=>k_is);(case b=>exact rfl)
   case p_x_NoMeasure=>refine' R.zv KX G ?a ?b;(case a=>k_is);(case b=>exact rfl)
   case p_x_NoNumber=>refine' R.zv KX G ?a ?b;(case a=>k_is);(case b=>exact rfl)
   case p_x_NoPart=>refine' R.zv KX G ?a ?b;(case a=>k_is);(case b=>exact rfl)
   case p_x_NoRoad=>refine' R.zv KX G ?a ?b;(case a=>k_is);(case b=>exact rfl)
   case p_x_NoSize=>refine' R.zv KX G ?a ?b;(case a=>k_is);(case b=>exact rfl)
   case p_x_NoText=>refine' R.zv KX G ?a ?b;(case a=>k_is);(case b=>exact rfl)
   case p_x_NoThread=>refine' R.zv KX G ?a ?b;(case a=>k_is);(case b=>exact rfl)
   case p_x_NoWeb=>refine' R.zv KX G ?a ?b;(case a=>k_is);(case b=>exact rfl)
   case p_x_WebError=>refine' R.zv KX G ?a ?b;(case a=>k_is);(case b=>exact rfl)
   case p_x_ValueError=>refine' mg_none_of KX G ?a;(case a=>k_is)
   case p_er_NoPart=>rfl
   case p_er_NoWeb=>rfl
   case p_er_WebError=>rfl
   case p_ei_NoPart=>k_exc
   case p_ek_NoPart=>refine' ⟨?a,?b,?c,?d,?e,?f,?g,?h⟩;(case a=>k_is);(case b=>k_is);(case c=>k_is);(case d=>k_is);(case e=>k_is);(case f=>k_is);(case g=>k_is);(case h=>rfl)
   case p_ki_NoPart_NoArrows=>rfl
   case p_ki_NoPart_NoCall=>rfl
   case p_ki_NoPart_NoKept=>rfl
   case p_ki_NoPart_NoLaying=>rfl
   case p_ki_NoPart_NoMeasure=>rfl
   case p_ki_NoPart_NoNumber=>rfl
   case p_ki_NoPart_NoPart=>rfl
   case p_ki_NoPart_NoRoad=>rfl
   case p_ki_NoPart_NoSize=>rfl
   case p_ki_NoPart_NoText=>rfl
   case p_ki_NoPart_NoThread=>rfl
   case p_ki_NoPart_NoWeb=>rfl
   case p_ki_NoPart_ValueError=>rfl
   case p_ei_NoWeb=>k_exc
   case p_ek_NoWeb=>refine' ⟨?a,?b,?c,?d,?e,?f,?g,?h⟩;(case a=>k_is);(case b=>k_is);(case c=>k_is);(case d=>k_is);(case e=>k_is);(case f=>k_is);(case g=>k_is);(case h=>rfl)
   case p_ki_NoWeb_NoArrows=>rfl
   case p_ki_NoWeb_NoCall=>rfl
   case p_ki_NoWeb_NoKept=>rfl
   case p_ki_NoWeb_NoLaying=>rfl
   case p_ki_NoWeb_NoMeasure=>rfl
   case p_ki_NoWeb_NoNumber=>rfl
   case p_ki_NoWeb_NoPart=>rfl
   case p_ki_NoWeb_NoRoad=>rfl
   case p_ki_NoWeb_NoSize=>rfl
   case p_ki_NoWeb_NoText=>rfl
   case p_ki_NoWeb_NoThread=>rfl
   case p_ki_NoWeb_NoWeb=>rfl
   case p_ki_NoWeb_ValueError=>rfl
   case u_0 =>
    refine' qv KX G (ps:=["thing"]) ?a ?l ?c ?d ?h ?t ?k ?b
    (case a=>k_is);(case l=>k_is);(case c=>k_is);(case d=>k_is);(case h=>rfl);(case t=>rfl);(case k=>k_is)
    (case b=>intro _ _ _ _ _ _ _ q;obtain ⟨_,rfl⟩:=len1 q;rfl)
   case u_1 =>
    refine' qv KX G (ps:=["thing","least","most"]) ?a ?l ?c ?d ?h ?t ?k ?b
    (case a=>k_is);(case l=>k_is);(case c=>k_is);(case d=>k_is);(case h=>rfl);(case t=>rfl);(case k=>k_is)
    (case b=>intro _ _ _ _ _ _ _ q;obtain ⟨_,_,_,rfl⟩:=len3 q;rfl)
   case u_2 =>
    refine' qv KX G (ps:=["one","other"]) ?a ?l ?c ?d ?h ?t ?k ?b
    (case a=>k_is);(case l=>k_is);(case c=>k_is);(case d=>k_is);(case h=>rfl);(case t=>rfl);(case k=>k_is)
    (case b=>intro _ _ _ _ _ _ _ q;obtain ⟨_,_,rfl⟩:=len2 q;rfl)
   case u_3 =>
    refine' qv KX G (ps:=["top","bottom"]) ?a ?l ?c ?d ?h ?t ?k ?b
    (case a=>k_is);(case l=>k_is);(case c=>k_is);(case d=>k_is);(case h=>rfl);(case t=>rfl);(case k=>k_is)
    (case b=>intro _ _ _ _ _ _ _ q;obtain ⟨_,_,rfl⟩:=len2 q;rfl)
   case u_4 =>
    refine' qv KX G (ps:=["thing"]) ?a ?l ?c ?d ?h ?t ?k ?b
    (case a=>k_is);(case l=>k_is);(case c=>k_is);(case d=>k_is);(case h=>rfl);(case t=>rfl);(case k=>k_is)
    (case b=>intro _ _ _ _ _ _ _ q;obtain ⟨_,rfl⟩:=len1 q;rfl)
   case u_5 =>
    refine' qv KX G (ps:=["thing"]) ?a ?l ?c ?d ?h ?t ?k ?b
    (case a=>k_is);(case l=>k_is);(case c=>k_is);(case d=>k_is);(case h=>rfl);(case t=>rfl);(case k=>k_is)
    (case b=>intro _ _ _ _ _ _ _ q;obtain ⟨_,rfl⟩:=len1 q;rfl)
   case u_6 =>
    refine' qv KX G (ps:=["thing","many"]) ?a ?l ?c ?d ?h ?t ?k ?b
    (case a=>k_is);(case l=>k_is);(case c=>k_is);(case d=>k_is);(case h=>rfl);(case t=>rfl);(case k=>k_is)
    (case b=>intro _ _ _ _ _ _ _ q;obtain ⟨_,_,rfl⟩:=len2 q;rfl)
   case u_7 =>
    refine' qv KX G (ps:=["thing","many"]) ?a ?l ?c ?d ?h ?t ?k ?b
    (case a=>k_is);(case l=>k_is);(case c=>k_is);(case d=>k_is);(case h=>rfl);(case t=>rfl);(case k=>k_is)
    (case b=>intro _ _ _ _ _ _ _ q;obtain ⟨_,_,rfl⟩:=len2 q;rfl)
   case u_8 =>
    refine' qv KX G (ps:=["thing","many"]) ?a ?l ?c ?d ?h ?t ?k ?b
    (case a=>k_is);(case l=>k_is);(case c=>k_is);(case d=>k_is);(case h=>rfl);(case t=>rfl);(case k=>k_is)
    (case b=>intro _ _ _ _ _ _ _ q;obtain ⟨_,_,rfl⟩:=len2 q;rfl)
   case u_9 =>
    refine' qv KX G (ps:=["thing","many"]) ?a ?l ?c ?d ?h ?t ?k ?b
    (case a=>k_is);(case l=>k_is);(case c=>k_is);(case d=>k_is);(case h=>rfl);(case t=>rfl);(case k=>k_is)
    (case b=>intro _ _ _ _ _ _ _ q;obtain ⟨_,_,rfl⟩:=len2 q;rfl)
   case u_10 =>
    refine' qv KX G (ps:=["things"]) ?a ?l ?c ?d ?h ?t ?k ?b
    (case a=>k_is);(case l=>k_is);(case c=>k_is);(case d=>k_is);(case h=>rfl);(case t=>rfl);(case k=>k_is)
    (case b=>intro _ _ _ _ _ _ _ q;obtain ⟨_,rfl⟩:=len1 q;rfl)
   case u_11 =>
    refine' qv KX G (ps:=["thing"]) ?a ?l ?c ?d ?h ?t ?k ?b
    (case a=>k_is);(case l=>k_is);(case c=>k_is);(case d=>k_is);(case h=>rfl);(case t=>rfl);(case k=>k_is)
    (case b=>intro _ _ _ _ _ _ _ q;obtain ⟨_,rfl⟩:=len1 q;rfl)
   case u_12 =>
    refine' qv KX G (ps:=["web","thing"]) ?a ?l ?c ?d ?h ?t ?k ?b
    (case a=>k_is);(case l=>k_is);(case c=>k_is);(case d=>k_is);(case h=>rfl);(case t=>rfl);(case k=>k_is)
    (case b=>intro _ _ _ _ _ _ _ q;obtain ⟨_,_,rfl⟩:=len2 q;rfl)
   case u_13 =>
    refine' qv KX G (ps:=["web","thing"]) ?a ?l ?c ?d ?h ?t ?k ?b
    (case a=>k_is);(case l=>k_is);(case c=>k_is);(case d=>k_is);(case h=>rfl);(case t=>rfl);(case k=>k_is)
    (case b=>intro _ _ _ _ _ _ _ q;obtain ⟨_,_,rfl⟩:=len2 q;rfl)
   case u_14 =>
    refine' qv KX G (ps:=["web","part"]) ?a ?l ?c ?d ?h ?t ?k ?b
    (case a=>k_is);(case l=>k_is);(case c=>k_is);(case d=>k_is);(case h=>rfl);(case t=>rfl);(case k=>k_is)
    (case b=>intro _ _ _ _ _ _ _ q;obtain ⟨_,_,rfl⟩:=len2 q;rfl)
   case u_15 =>
    refine' qv KX G (ps:=["web","part"]) ?a ?l ?c ?d ?h ?t ?k ?b
    (case a=>k_is);(case l=>k_is);(case c=>k_is);(case d=>k_is);(case h=>rfl);(case t=>rfl);(case k=>k_is)
    (case b=>intro _ _ _ _ _ _ _ q;obtain ⟨_,_,rfl⟩:=len2 q;rfl)
   case u_16 =>
    refine' qv KX G (ps:=["web","part"]) ?a ?l ?c ?d ?h ?t ?k ?b
    (case a=>k_is);(case l=>k_is);(case c=>k_is);(case d=>k_is);(case h=>rfl);(case t=>rfl);(case k=>k_is)
    (case b=>intro _ _ _ _ _ _ _ q;obtain ⟨_,_,rfl⟩:=len2 q;rfl)
   case u_17 =>
    refine' qv KX G (ps:=["web","part"]) ?a ?l ?c ?d ?h ?t ?k ?b
    (case a=>k_is);(case l=>k_is);(case c=>k_is);(case d=>k_is);(case h=>rfl);(case t=>rfl);(case k=>k_is)
    (case b=>intro _ _ _ _ _ _ _ q;obtain ⟨_,_,rfl⟩:=len2 q;rfl)
   case u_18 =>
    refine' qv KX G (ps:=["web","part","place"]) ?a ?l ?c ?d ?h ?t ?k ?b
    (case a=>k_is);(case l=>k_is);(case c=>k_is);(case d=>k_is);(case h=>rfl);(case t=>rfl);(case k=>k_is)
    (case b=>intro _ _ _ _ _ _ _ q;obtain ⟨_,_,_,rfl⟩:=len3 q;rfl)
   case u_19 =>
    refine' qv KX G (ps:=["_law_cell"]) ?a ?l ?c ?d ?h ?t ?k ?b
    (case a=>k_is);(case l=>k_is);(case c=>k_is);(case d=>k_is);(case h=>rfl);(case t=>rfl);(case k=>k_is)
    (case b=>intro _ _ _ _ _ _ _ q;obtain ⟨_,rfl⟩:=len1 q;rfl)
   case u_20 =>
    refine' qv KX G (ps:=["_law_script","_law_k"]) ?a ?l ?c ?d ?h ?t ?k ?b
    (case a=>k_is);(case l=>k_is);(case c=>k_is);(case d=>k_is);(case h=>rfl);(case t=>rfl);(case k=>k_is)
    (case b=>intro _ _ _ _ _ _ _ q;obtain ⟨_,_,rfl⟩:=len2 q;rfl)
   case u_21 =>
    refine' qv KX G (ps:=["_law_pack_here","_law_size"]) ?a ?l ?c ?d ?h ?t ?k ?b
    (case a=>k_is);(case l=>k_is);(case c=>k_is);(case d=>k_is);(case h=>rfl);(case t=>rfl);(case k=>k_is)
    (case b=>intro _ _ _ _ _ _ _ q;obtain ⟨_,_,rfl⟩:=len2 q;rfl)
   case u_22 =>
    refine' qv KX G (ps:=["_law_pack_here","_law_many"]) ?a ?l ?c ?d ?h ?t ?k ?b
    (case a=>k_is);(case l=>k_is);(case c=>k_is);(case d=>k_is);(case h=>rfl);(case t=>rfl);(case k=>k_is)
    (case b=>intro _ _ _ _ _ _ _ q;obtain ⟨_,_,rfl⟩:=len2 q;rfl)
   case u_23 =>
    refine' qv KX G (ps:=["_law_pack_here","_law_most","_law_ties"]) ?a ?l ?c ?d ?h ?t ?k ?b
    (case a=>k_is);(case l=>k_is);(case c=>k_is);(case d=>k_is);(case h=>rfl);(case t=>rfl);(case k=>k_is)
    (case b=>intro _ _ _ _ _ _ _ q;obtain ⟨_,_,_,rfl⟩:=len3 q;rfl)
   case u_24 =>
    refine' qv KX G (ps:=["_law_pack_here","_law_many"]) ?a ?l ?c ?d ?h ?t ?k ?b
    (case a=>k_is);(case l=>k_is);(case c=>k_is);(case d=>k_is);(case h=>rfl);(case t=>rfl);(case k=>k_is)
    (case b=>intro _ _ _ _ _ _ _ q;obtain ⟨_,_,rfl⟩:=len2 q;rfl)
   case u_25 =>
    refine' qv KX G (ps:=["_law_e"]) ?a ?l ?c ?d ?h ?t ?k ?b
    (case a=>k_is);(case l=>k_is);(case c=>k_is);(case d=>k_is);(case h=>rfl);(case t=>rfl);(case k=>k_is)
    (case b=>intro _ _ _ _ _ _ _ q;obtain ⟨_,rfl⟩:=len1 q;rfl)
   case u_26 =>
    refine' qv KX G (ps:=["_law_ask","_law_web_here","_law_part_here","_law_place","_law_sort_here"]) ?a ?l ?c ?d ?h ?t ?k ?b
    (case a=>k_is);(case l=>k_is);(case c=>k_is);(case d=>k_is);(case h=>rfl);(case t=>rfl);(case k=>k_is)
    (case b=>intro _ _ _ _ _ _ _ q;obtain ⟨_,_,_,_,_,rfl⟩:=len5 q;rfl)
   case u_27 =>
    refine' qv KX G (ps:=["_law_pack_here","_law_web_here"]) ?a ?l ?c ?d ?h ?t ?k ?b
    (case a=>k_is);(case l=>k_is);(case c=>k_is);(case d=>k_is);(case h=>rfl);(case t=>rfl);(case k=>k_is)
    (case b=>intro _ _ _ _ _ _ _ q;obtain ⟨_,_,rfl⟩:=len2 q;rfl)
   case u_28 =>
    refine' qv KX G (ps:=["_law_pack_here","_law_part_here","_law_many"]) ?a ?l ?c ?d ?h ?t ?k ?b
    (case a=>k_is);(case l=>k_is);(case c=>k_is);(case d=>k_is);(case h=>rfl);(case t=>rfl);(case k=>k_is)
    (case b=>intro _ _ _ _ _ _ _ q;obtain ⟨_,_,_,rfl⟩:=len3 q;rfl)
   case u_29 =>
    refine' qv KX G (ps:=["_law_pack_here","_law_web_here","_law_part_here"]) ?a ?l ?c ?d ?h ?t ?k ?b
    (case a=>k_is);(case l=>k_is);(case c=>k_is);(case d=>k_is);(case h=>rfl);(case t=>rfl);(case k=>k_is)
    (case b=>intro _ _ _ _ _ _ _ q;obtain ⟨_,_,_,rfl⟩:=len3 q;rfl)
   case u_30 =>
    refine' qv KX G (ps:=["_law_script"]) ?a ?l ?c ?d ?h ?t ?k ?b
    (case a=>k_is);(case l=>k_is);(case c=>k_is);(case d=>k_is);(case h=>rfl);(case t=>rfl);(case k=>k_is)
    (case b=>intro _ _ _ _ _ _ _ q;obtain ⟨_,rfl⟩:=len1 q;rfl)
  obtain ⟨f,fd,c,t,hm,U,hb⟩:=p.u_30
  have e0:=hmg.symm.trans hm
  cases e0
  obtain ⟨oc,od,kV,doc,pm,an,ct,osl,rfl,lk,hcd⟩:=U.ex
  exact ⟨_,λs u=>.of_eq rfl,λbase kb _=>RP.o_30 p kb (RP.qft p kb 14) U⟩
end
