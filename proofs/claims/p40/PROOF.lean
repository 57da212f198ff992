import PyProof.Rows.All
import Wide.All
import OpenK.AllK
import Wide.FinOn
import Lean
import PyProof.EqAt
import PyProof.EqKinds
import PyProof.TupleCall
import PyProof.DictTruth
import PyProof.Conv_int_bool
import PySem.Challenge.RW_weblayers_k40_great_webs_stripped
set_option Elab.async false
set_option linter.all false
set_option maxRecDepth 100000
set_option maxHeartbeats 4000000
set_option genSizeOf false
set_option genSizeOfSpec false
section
open PySem PySem.Spec PyProof.Rows Spec
def wA:=@wpAny_bind
def wB:=@Heap.get?_push_of_some
def wC:=@wpAny_pure
def wD:=@List.getElem?_eq_getElem
def wF:=@Nat.le_refl
def wG:=@Heap.get?_push_size
def wH:=@List.size_toArray
def wI:=@Heap.lt_size
def wJ:=@List.mem_cons_self
def wK:=@List.getElem?_eq_some_iff
def wL:=@if_pos
def wM:=@List.mem_cons_of_mem
def wN:=@if_neg
def wO:=@List.length_map
def wP:=@Option.bind_some
def wQ:=@List.map_cons
def wR:=@List.mem_append_right
def wS:=@List.getElem?_append_right
def wT:=@Bool.false_ne_true
def wU:=@Bool.and_eq_true
def wV:=@List.length_append
def wW:=@List.getElem?_append_left
def wX:=@Nat.lt_of_lt_of_le
def wY:=@wpAny_newObj_type
def wZ:=@List.mem_cons
def w4:=@List.length_cons
def w5:=@List.getElem?_map
def w6:=@Nat.ne_of_lt
def w8:=@List.length_eq_zero_iff
def w9:=@List.mem_singleton
def wa:=@Option.map_some
def wb:=@Heap.get?_update_other
def wc:=@Int.fmod_nonneg_of_pos
def wd:=@List.map_map
def we:=@List.getD_eq_getElem?_getD
def wf:=@wpAny_callSpecial?_slot
def wg:=@Around.under_plainId
def wj:=@decide_eq_false
def wk:=@wpAny_call_entry
def wm:=@List.mem_filter
def wn:=@List.mem_of_getElem?
def wo:=@wpAny_holding
def wp:=@Heap.get?_update_self
def wq:=@List.length_take
def wt:=@PyProof.Rows.slot_tuple_getitem
def wu:=@List.mem_append_left
def wv:=@Nat.le_trans
def ww:=@List.pairwise_cons
def wx:=@List.length_singleton
def wy:=@plainId_quiet
def wz:=@codeAny_builtin
def vA:=@PySem.W.kia_one
def vB:=@Nat.lt_irrefl
def vC:=@wpAny_mono
def vD:=@wpAny_truthy_bool
def vE:=@wpAny_field
def vF:=@sizeLine_eq
def vG:=@of_decide_eq_true
def vH:=@decide_eq_true_eq
def vI:=@beq_eq_false_iff_ne
def vJ:=@PySem.mem_of_lookup
def vK:=@List.map_congr_left
def vL:=@wpAny_standAt
def vM:=@decide_eq_true
def vN:=@List.mem_map
def vO:=@List.mem_append
def vP:=@Bool.false_eq_true
def vQ:=@Nat.zero_le
def vR:=@List.lookup_cons
end
namespace L2
open PySem PySem.Spec PyProof.Rows
noncomputable abbrev Key:=Sum Int Str
noncomputable def keyIs:Key→Value→Bool
 | .inl k,v=>Value.isInt k v
 | .inr x,v=>Value.isStrOf x v
noncomputable def keyH (w:World):Key→Int
 | .inl k=>hashInt k
 | .inr x=>hashStr w x
theorem keyIs_shape:∀ {k:Key} {v:Value},keyIs k v=true→(∃ i t,k=Sum.inl i∧v=Value.int i t)∨(∃ x t,k=Sum.inr x∧v=Value.str x t)
 | .inl i,v,h=>by
  obtain ⟨t,e⟩:=Value.isInt_shape (k:=i) (v:=v) h
  exact .inl ⟨i,t,rfl,e⟩
 | .inr x,v,h=>by
  obtain ⟨t,e⟩:=Value.isStrOf_shape (x:=x) (v:=v) h
  exact .inr ⟨x,t,rfl,e⟩
theorem qdn (i:Int) (t:Tok):keyIs (.inl i) (.int i t)=true:=by simp [keyIs,Value.isInt]
theorem qdo (x:Str) (t:Tok):keyIs (.inr x) (.str x t)=true:=by simp [keyIs,Value.isStrOf]
theorem qhU (a b:Int):decide ((Sum.inl a:Key)=Sum.inl b)=(a == b):=by
 by_cases e:a=b
 ·subst e;simp
 ·have h:¬ (Sum.inl a:Key)=Sum.inl b:=λq=>e (Sum.inl.inj q)
  rw [wj h]
  exact (vI.mpr e).symm
theorem qhV (a b:Str):decide ((Sum.inr a:Key)=Sum.inr b)=decide (a=b):=by
 by_cases e:a=b
 ·subst e;simp
 ·have h:¬ (Sum.inr a:Key)=Sum.inr b:=λq=>e (Sum.inr.inj q)
  rw [wj h,wj e]
theorem qhW (a:Int) (b:Str):decide ((Sum.inl a:Key)=Sum.inr b)=false:=wj (λq=>nomatch q)
theorem qhX (a:Str) (b:Int):decide ((Sum.inr a:Key)=Sum.inl b)=false:=wj (λq=>nomatch q)
noncomputable def mixKind (prog:Program) (w:World):PySem.KeyKind prog w Key where
 is:=keyIs
 hash:=keyH w
 inj:=λv a b ha hb=>by
  rcases keyIs_shape ha with ⟨i,t,rfl,rfl⟩ | ⟨x,t,rfl,rfl⟩
  ·rcases keyIs_shape hb with ⟨j,u,rfl,e⟩ | ⟨y,u,rfl,e⟩
   ·injection e with e1 _;rw [e1]
   ·exact nomatch e
  ·rcases keyIs_shape hb with ⟨j,u,rfl,e⟩ | ⟨y,u,rfl,e⟩
   ·exact nomatch e
   ·injection e with e1 _;rw [e1]
 byValue:=λk v h=>by
  rcases keyIs_shape h with ⟨i,t,rfl,rfl⟩ | ⟨x,t,rfl,rfl⟩ <;> rfl
 pyHash:=λhv h=>by
  rcases keyIs_shape hv with ⟨i,t,rfl,rfl⟩ | ⟨x,t,rfl,rfl⟩
  ·exact wpAny_pyHash_int h
  ·exact wpAny_pyHash_str h
 eqBool:=λhu hv h=>by
  rcases keyIs_shape hu with ⟨i,t,rfl,rfl⟩ | ⟨x,t,rfl,rfl⟩
  ·rcases keyIs_shape hv with ⟨j,u,rfl,rfl⟩ | ⟨y,u,rfl,rfl⟩
   ·rw [qhU] at h;exact wpAny_eqBool_int h
   ·rw [qhW] at h;exact SeqAt.EqAt.int_str i t y u _ _ _ _ h
  ·rcases keyIs_shape hv with ⟨j,u,rfl,rfl⟩ | ⟨y,u,rfl,rfl⟩
   ·rw [qhX] at h;exact SeqAt.EqAt.str_int x t j u _ _ _ _ h
   ·rw [qhV] at h;exact wpAny_eqBool_str h
 «strs»:=λk x t v h=>by
  rcases keyIs_shape h with ⟨i,u,rfl,e⟩ | ⟨y,u,rfl,e⟩
  ·exact nomatch e
  ·injection e with e1 _
   subst e1
   cases v <;> rfl
theorem qa3 (prog:Program) (w:World) (i:Int) (t:Tok):(mixKind prog w).is (.inl i) (.int i t)=true:=qdn i t
theorem qa4 (prog:Program) (w:World) (x:Str) (t:Tok):(mixKind prog w).is (.inr x) (.str x t)=true:=qdo x t
end L2
namespace L2
open PySem PySem.Spec PyProof.Rows
inductive V where
 | non | bl (b:Bool) | int (i:Int) | str (x:Str) | byt (b:Array UInt8) | flt (b:UInt64) | ref (a:Addr) | ty (n:String)
 deriving DecidableEq
noncomputable def RelV:V→Value→Prop
 | .non,u=>u=Value.none
 | .bl b,u=>u=Value.bool b
 | .int i,u=>∃ t,u=Value.int i t
 | .str x,u=>∃ t,u=Value.str x t
 | .byt b,u=>∃ t,u=Value.bytes b t
 | .flt b,u=>∃ t,u=Value.float b t
 | .ref a,u=>u=Value.ref a
 | .ty n,u=>u=Value.type n
noncomputable abbrev Vals:List V→List Value→Prop:=Paired RelV
theorem Vals.length {xs:List V} {us:List Value} (r:Vals xs us):xs.length=us.length:=Paired.length r
theorem Vals.get:∀ {xs:List V} {us:List Value} {i:Nat} {x:V},Vals xs us→xs[i]?=some x→∃ u,us[i]?=some u∧RelV x u
 | _,_,_,_,.nil,e=>by simp at e
 | _,_,0,_,.cons r _,e=>by simp at e;subst e;exact ⟨_,rfl,r⟩
 | _,_,i+1,x,.cons _ t,e=>by
  obtain ⟨u,h1,h2⟩:=Vals.get (i:=i) (x:=x) t (by simpa using e)
  exact ⟨u,by simpa using h1,h2⟩
theorem Vals.set {x:V} {u:Value} (r:RelV x u):∀ {xs:List V} {us:List Value} (i:Nat),Vals xs us→Vals (xs.set i x) (us.set i u)
 | _,_,_,.nil=>.nil
 | _,_,0,.cons _ t=>.cons r t
 | _,_,i+1,.cons q t=>.cons q (Vals.set r i t)
theorem Vals.append:∀ {xs ys:List V} {us ws:List Value},Vals xs us→Vals ys ws→Vals (xs++ys) (us++ws)
 | _,_,_,_,.nil,s=>s
 | _,_,_,_,.cons r t,s=>.cons r (Vals.append t s)
theorem Vals.take:∀ {xs:List V} {us:List Value} (n:Nat),Vals xs us→Vals (xs.take n) (us.take n)
 | _,_,0,_=>.nil
 | _,_,_+1,.nil=>.nil
 | _,_,n+1,.cons r t=>.cons r (Vals.take n t)
theorem Vals.drop:∀ {xs:List V} {us:List Value} (n:Nat),Vals xs us→Vals (xs.drop n) (us.drop n)
 | _,_,0,r=>r
 | _,_,_+1,.nil=>.nil
 | _,_,n+1,.cons _ t=>Vals.drop n t
noncomputable def RelO:Option V→Option Value→Prop
 | some v,some u=>RelV v u
 | none,none=>True
 | _,_=>False
noncomputable def KV {κ:Type}:List (κ × V)→List (κ × Value)→Prop:=Paired λ(p:κ × V) (q:κ × Value)=>p.1=q.1∧RelV p.2 q.2
noncomputable def kV:Key→V
 | .inl i=>.int i
 | .inr x=>.str x
inductive HO where
 | lst (xs:List V)
 | tup (xs:List V)
 | dK (kvs:List (Key × V)) | dT (kvs:List (List Key × V))
 | set (S:Int→Bool) (n:Nat)
 | ins (C dx:Addr) (fs:List (Str × V))
 | own (x:Addr)
 | xd (fs:List (Str × V))
 | met (f x:Addr)
 | rng (lo hi:Int)
 | frz (o:Obj) (u:HO)
 | tbl (ps:Array Value)
 | ext (φ:Heap→Prop)
noncomputable abbrev Hp:=Addr→Option HO
noncomputable def upd (H:Hp) (a:Addr) (o:HO):Hp:=λb=>if b=a then some o else H b
theorem qu {H:Hp} {a:Addr} {o:HO}:upd H a o a=some o:=by unfold upd;rw [wL rfl]
theorem qk {H:Hp} {a b:Addr} {o:HO} (h:b≠a):upd H a o b=H b:=by unfold upd;rw [wN h]
theorem qge {H:Hp} {a:Addr} {o u:HO}:upd (upd H a o) a u=upd H a u:=by
 funext b;unfold upd;split <;> rfl
theorem qjs {H:Hp} {a b:Addr} {o u:HO} (h:H a=some o) (h':H b=some u) (d:o≠u):a≠b:=by
 intro e;subst e;rw [h] at h';exact d (Option.some.inj h')
theorem ze {H:Hp} {a b:Addr} {o:HO} (h:H a=some o) (h':H b=none):a≠b:=by
 intro e;subst e;rw [h] at h';cases h'
section
variable (P:Program) (w:World)
noncomputable def ObjOk (H:Hp) (h:Heap) (a:Addr):HO→Prop
 | .lst xs=>xs.length≤sizeLine∧∃ (its:List Value) (n:Nat),Vals xs its∧h.get? a=some { cls:=.type "list",data:=.seq its.toArray n }
 | .tup xs=>xs.length≤sizeLine∧∃ its:List Value,Vals xs its∧IsTup h a its.toArray
 | .dK kvs=>kvs.length≤sizeLine∧(a == sysModules)=false∧∃ vs,KV kvs vs∧h.DictOf (mixKind P w) a vs
 | .dT kvs=>kvs.length≤sizeLine∧(a == sysModules)=false∧∃ xs:List (List Key × Addr × Value),
   Paired (λ(p:List Key × V) (q:List Key × Addr × Value)=>p.1=q.1∧H q.2.1=some (.tup (p.1.map kV))∧RelV p.2 q.2.2) kvs xs ∧
   ∃ o es ep,h.get? a=some o∧o.ExactDict∧o.data=.dict es ep∧es.toList=xs.map (entryOfKey (tupleKind (mixKind P w)))∧(xs.map (·.1)).Nodup
 | .set S n=>h.SetOf (intKind P w) a S n
 | .ins C dx fs=>H dx=some (.own a)∧fs.length≤1000∧dx≠a∧h.get? a=some (PySem.W.instObj C dx) ∧
   ∃ mA,h.Ns1 dx mA∧(∀ f,RelO (fs.lookup f) (mA f))∧PySem.Within mA (fs.map (·.1))
 | .own _=>∃ o,h.get? a=some o
 | .xd fs=>∃ mA,h.Ns1 a mA∧∀ f,RelO (fs.lookup f) (mA f)
 | .rng lo hi=>∃ t u v,h.get? a=some { cls:=.type "range",data:=.fields #[.int lo t,.int hi u,.int 1 v] }
 | .frz o u=>h.get? a=some o∧ObjOk H h a u
 | .tbl ps=>h.get? a=some { cls:=.none,data:=.fields ps }∧TriplesOk ps.toList
 | .met f x=>h.get? a=some (PySem.W.methodObj (.ref f) (.ref x))
 | .ext φ=>φ h∧(∃ o,h.get? a=some o)∧∀ h1 h2:Heap,φ h1→(∀ o,h1.get? a=some o→h2.get? a=some o)→φ h2
noncomputable def HOk (H:Hp) (h:Heap):Prop:=∀ a o,H a=some o→ObjOk P w H h a o
end
section
variable {P:Program} {w:World} {H H':Hp} {h h':Heap} {a:Addr} {o:HO}
theorem ObjOk.lt (x:ObjOk P w H h a o):a<h.objs.size:=by
 cases o with
 | lst xs=>obtain ⟨_,_,_,_,e⟩:=x;exact wI e
 | tup xs=>obtain ⟨_,_,_,p⟩:=x;exact p.lt
 | dK kvs=>obtain ⟨_,_,_,_,o,_,_,e,_⟩:=x;exact wI e
 | dT kvs=>obtain ⟨_,_,_,_,o,_,_,e,_⟩:=x;exact wI e
 | set S n=>obtain ⟨o,_,_,_,e,_⟩:=x;exact wI e
 | ins C dx fs=>obtain ⟨_,_,_,e,_⟩:=x;exact wI e
 | own y=>obtain ⟨_,e⟩:=x;exact wI e
 | xd fs=>obtain ⟨_,⟨_,_,_,e,_⟩,_⟩:=x;exact wI e
 | rng lo hi=>obtain ⟨_,_,_,e⟩:=x;exact wI e
 | frz ob u=>obtain ⟨e,_⟩:=x;exact wI e
 | tbl ps=>exact wI (show h.get? a=some _ from x.1)
 | met f y=>exact wI (show h.get? a=some _ from x)
 | ext φ=>obtain ⟨_,⟨_,e⟩,_⟩:=x;exact wI e
theorem Paired.mapP {α β:Type} {F G:α→β→Prop}:∀ {l₁:List α} {l₂:List β},Paired F l₁ l₂→(∀ a b,F a b→G a b)→Paired G l₁ l₂
 | _,_,.nil,_=>.nil
 | _,_,.cons r t,f=>.cons (f _ _ r) (Paired.mapP t f)
theorem ObjOk.stay (x:ObjOk P w H h a o) (k:∀ b u,(b=a∨H b=some (.own a))→h.get? b=some u→h'.get? b=some u)
  (ho:∀ b,H b=some (.own a)→H' b=some (.own a)) (ht:∀ b xs,H b=some (.tup xs)→H' b=some (.tup xs)):ObjOk P w H' h' a o:=by
 induction o with
 | lst xs=>obtain ⟨z,its,n,r,e⟩:=x;exact ⟨z,its,n,r,k _ _ (.inl rfl) e⟩
 | tup xs=>obtain ⟨z,its,r,ob,e,c⟩:=x;exact ⟨z,its,r,ob,k _ _ (.inl rfl) e,c⟩
 | dK kvs=>obtain ⟨z,y,vs,r,ob,es,ep,e,c⟩:=x;exact ⟨z,y,vs,r,ob,es,ep,k _ _ (.inl rfl) e,c⟩
 | dT kvs =>
  obtain ⟨z,y,xs,r,ob,es,ep,e,c⟩:=x
  exact ⟨z,y,xs,Paired.mapP r λp q z=>⟨z.1,ht _ _ z.2.1,z.2.2⟩,ob,es,ep,k _ _ (.inl rfl) e,c⟩
 | set S n=>obtain ⟨ob,es,ep,t,e,c⟩:=x;exact ⟨ob,es,ep,t,k _ _ (.inl rfl) e,c⟩
 | ins C dx fs =>
  obtain ⟨d,z,ne,e,mA,⟨od,es,ep,e2,c⟩,r⟩:=x
  exact ⟨ho _ d,z,ne,k _ _ (.inl rfl) e,mA,⟨od,es,ep,k _ _ (.inr d) e2,c⟩,r⟩
 | own y=>obtain ⟨ob,e⟩:=x;exact ⟨ob,k _ _ (.inl rfl) e⟩
 | xd fs=>obtain ⟨mA,⟨od,es,ep,e,c⟩,r⟩:=x;exact ⟨mA,⟨od,es,ep,k _ _ (.inl rfl) e,c⟩,r⟩
 | rng lo hi=>obtain ⟨t,u,v,e⟩:=x;exact ⟨t,u,v,k _ _ (.inl rfl) e⟩
 | frz ob u ih=>obtain ⟨e,q⟩:=x;exact ⟨k _ _ (.inl rfl) e,ih q⟩
 | tbl ps =>
  obtain ⟨e,z⟩:=x
  exact ⟨k a _ (.inl rfl) e,z⟩
 | met f y =>
  have e:h.get? a=some (PySem.W.methodObj (.ref f) (.ref y)):=x
  show h'.get? a=some (PySem.W.methodObj (.ref f) (.ref y))
  exact k a _ (.inl rfl) e
 | ext φ=>obtain ⟨p,⟨o,e⟩,st⟩:=x;exact ⟨st _ _ p λo q=>k _ _ (.inl rfl) q,⟨o,k _ _ (.inl rfl) e⟩,st⟩
theorem HOk.lt (x:HOk P w H h) (e:H a=some o):a<h.objs.size:=(x a o e).lt
theorem HOk.fresh (x:HOk P w H h) (e:h.objs.size≤a):H a=none:=by
 cases q:H a with
 | none=>rfl
 | some u=>exact absurd (wX (x.lt q) e) (vB _)
theorem HOk.kept (x:HOk P w H h) (k:∀ b u,h.get? b=some u→h'.get? b=some u):HOk P w H h':=λa o e =>
 (x a o e).stay (λb u _ q=>k b u q) (λ_ q=>q) λ_ _ q=>q
theorem HOk.laid (x:HOk P w H h) (k:∀ b u,h.get? b=some u→h'.get? b=some u) (hp:h.objs.size≤a) (new:ObjOk P w (upd H a o) h' a o):HOk P w (upd H a o) h':=λb u e=>by
 have hn:=x.fresh hp
 by_cases hb:b=a
 ·subst hb;rw [qu] at e;cases e;exact new
 ·rw [qk hb] at e
  exact (x b u e).stay (λc v _ q=>k c v q) (λc q=>by rw [qk (ze q hn)];exact q) λc xs q=>by rw [qk (ze q hn)];exact q
end
noncomputable def Rd (H:Hp) (a:Addr) (u:HO):Prop:=H a=some u∨∃ o,H a=some (.frz o u)
theorem Rd.ok {P:Program} {w:World} {H:Hp} {h:Heap} {a:Addr} {u:HO} (r:Rd H a u) (x:HOk P w H h):ObjOk P w H h a u:=by
 rcases r with r | ⟨o,r⟩
 ·exact x a u r
 ·obtain ⟨_,q⟩:=x a _ r
  exact q
noncomputable def Mut:Option HO→Prop
 | some (.lst _)=>True
 | some (.dK _)=>True
 | some (.dT _)=>True
 | some (.set _ _)=>True
 | some (.ins _ _ _)=>True
 | some (.ext _)=>True
 | _=>False
section
variable {P:Program} {w:World} {H:Hp} {h h':Heap} {x e:Addr} {o':HO}
theorem HOk.write (ok:HOk P w H h) (mu:Mut (H x)) (he:e=x∨H e=some (.own x)) (k:∀ b u,b≠e→h.get? b=some u→h'.get? b=some u) (heo:∃ u,h'.get? e=some u)
  (new:ObjOk P w (upd H x o') h' x o'):HOk P w (upd H x o') h':=λb u q=>by
 have nown:∀ c y,H c=some (.own y)→c≠x:=λc y r z=>by subst z;rw [r] at mu;exact mu
 have ntup:∀ c xs,H c=some (.tup xs)→c≠x:=λc xs r z=>by subst z;rw [r] at mu;exact mu
 by_cases hb:b=x
 ·subst hb;rw [qu] at q;cases q;exact new
 ·rw [qk hb] at q
  by_cases hbe:b=e
  ·have q':H b=some (.own x):=by
    rcases he with z | z
    ·exact absurd (hbe.trans z) hb
    ·rw [hbe];exact z
   rw [q] at q';cases q'
   obtain ⟨v,hv⟩:=heo
   exact ⟨v,by rw [hbe];exact hv⟩
  ·refine (ok b u q).stay (λc v hc r=>k c v ?_ r) (λc r=>by rw [qk (nown c b r)];exact r) λc xs r=>by rw [qk (ntup c xs r)];exact r
   rcases hc with rfl | hc
   ·exact hbe
   ·rintro rfl
    rcases he with z | z
    ·exact nown c b hc z
    ·rw [hc] at z;cases z;exact hb rfl
end
structure Un (fs ex:List Addr) (H H':Hp) (h h':Heap):Prop where
 keep:∀ b o,h.get? b=some o→H b=none→b ∉ fs→b ∉ ex→h'.get? b=some o
 slot:∀ b o,h.get? b=some o→H b=none→b∈fs→b ∉ ex→∃ sl,h'.get? b=some { o with slots:=sl }
 free:∀ b o,h.get? b=some o→H b=none→b ∉ ex→H' b=none
 there:∀ b o,h.get? b=some o→b ∉ ex→∃ o',h'.get? b=some o'
 tups:∀ b xs,H b=some (.tup xs)→H' b=some (.tup xs)
 frzs:∀ b o u,H b=some (.frz o u)→H' b=some (.frz o u)
 tbls:∀ b ps,H b=some (.tbl ps)→∃ more,H' b=some (.tbl (ps++more))
section
variable {fs fs' ex ex':List Addr} {H H1 H2:Hp} {h h1 h2 h':Heap} {a x e:Addr} {o:HO}
theorem Un.any (u:Un fs ex H H1 h h1) {b:Addr} {ob:Obj} (q:h.get? b=some ob) (n:H b=none) (hx:b ∉ ex):∃ sl,h1.get? b=some { ob with slots:=sl }:=by
 by_cases hb:b∈fs
 ·exact u.slot b ob q n hb hx
 ·exact ⟨ob.slots,u.keep b ob q n hb hx⟩
theorem Un.kept (k:∀ b u,h.get? b=some u→h'.get? b=some u):Un fs ex H H h h' :=
 ⟨λb ob q _ _ _=>k b ob q,λb ob q _ _ _=>⟨ob.slots,k b ob q⟩,λ_ _ _ n _=>n,λb ob q _=>⟨ob,k b ob q⟩,λ_ _ q=>q,λ_ _ _ q=>q,λ_ ps q=>⟨#[],by rw [q];simp⟩⟩
theorem Un.refl:Un fs ex H H h h:=Un.kept λ_ _ q=>q
theorem Un.laid (k:∀ b u,h.get? b=some u→h'.get? b=some u) (hp:h.objs.size≤a) (hn:H a=none):Un fs ex H (upd H a o) h h' where
 keep:=λb u q _ _ _=>k b u q
 slot:=λb u q _ _ _=>⟨u.slots,k b u q⟩
 free:=λb u q n _=>by rw [qk (w6 (wX (wI q) hp))];exact n
 there:=λb u q _=>⟨u,k b u q⟩
 tups:=λb xs q=>by rw [qk (ze q hn)];exact q
 frzs:=λb u xs q=>by rw [qk (ze q hn)];exact q
 tbls:=λb ps q=>⟨#[],by rw [qk (ze q hn),q];simp⟩
theorem Un.write (mu:Mut (H x)) (he:e=x∨H e=some (.own x)) (k:∀ b u,b≠e→h.get? b=some u→h'.get? b=some u) (heo:∃ u,h'.get? e=some u):Un fs ex H (upd H x o) h h':=by
 have hx:∀ b,H b=none→b≠x:=λb n z=>by subst z;rw [n] at mu;exact mu
 have hb:∀ b,H b=none→b≠e:=λb n z=>by
  subst z
  rcases he with r | r
  ·exact hx b n r
  ·rw [n] at r;cases r
 have hm:∀ b u,H b=some u→¬ Mut (some u)→b≠x:=λb u q nm z=>by subst z;rw [q] at mu;exact nm mu
 refine ⟨λb u q n _ _=>k b u (hb b n) q,λb u q n _ _=>⟨u.slots,k b u (hb b n) q⟩,λb u q n _=>by rw [qk (hx b n)];exact n,λb u q _=>?_,
  λb xs q=>by rw [qk (hm b _ q λz=>z)];exact q,λb u xs q=>by rw [qk (hm b _ q λz=>z)];exact q,λb ps q=>⟨#[],by rw [qk (hm b _ q λz=>z),q];simp⟩⟩
 by_cases hbe:b=e
 ·subst hbe;exact heo
 ·exact ⟨u,k b u hbe q⟩
end
structure GK (g g':Array GenState):Prop where
 bare:AllBare g'
 sz:g.size≤g'.size
 old:∀ i,i<g.size→g'[i]?=g[i]?
theorem GK.refl {g:Array GenState} (b:AllBare g):GK g g:=⟨b,wF _,λ_ _=>rfl⟩
theorem GK.self {g g':Array GenState} (x:GK g g'):GK g' g':=GK.refl x.bare
theorem GK.trans {g g1 g2:Array GenState} (a:GK g g1) (b:GK g1 g2):GK g g2:=⟨b.bare,wv a.sz b.sz,λi hi=>(b.old i (wX hi a.sz)).trans (a.old i hi)⟩
noncomputable def codeTab (K:PySem.W.Frag) (c T:Addr):Bool:=match K.lookup c with
 | some ⟨cls,_,.fields vs,_⟩=>(cls == .type "code")&&(match (vs.getD 11 Value.none:Value),(vs[11]?:Option Value),(vs.getD 18 Value.none:Value),(vs.getD 7 Value.none:Value),(vs.getD 9 Value.none:Value),(vs.getD 10 Value.none:Value) with
  | .ref a,some (.ref b),.str _ _,.int _ _,.bool _,.int _ _=>a == T&&b == T&&c != T
  | _,_,_,_,_,_=>false)
 | _=>false
noncomputable def trk (h:Heap) (H:Hp):List Addr:=(List.range h.objs.size).filter λa=>(H a).isSome
noncomputable def hidT (h:Heap) (H:Hp):Heap:=PySem.W.hideAll h (trk h H)
theorem qdp (h:Heap) (H:Hp):(hidT h H).objs.size=h.objs.size:=PySem.W.hideAll_size _ _
theorem qdY {h:Heap} {H:Hp} {b:Addr} {o:Obj} (e:h.get? b=some o) (n:H b=none):(hidT h H).get? b=some o :=
 PySem.W.hideAll_get _ e λhm=>by
  have q:(H b).isSome=true:=(wm.mp hm).2
  rw [n] at q;simp at q
theorem qgf {h:Heap} {H:Hp} {b:Addr} {o:Obj} (e:(hidT h H).get? b=some o):h.get? b=some o∧H b=none:=by
 have e':h.get? b=some o:=PySem.W.of_hideAll (trk h H) e
 refine ⟨e',?_⟩
 cases q:H b with
 | none=>rfl
 | some x =>
  have hm:b∈trk h H:=wm.mpr ⟨List.mem_range.mpr (wI e'),by simp [q]⟩
  have z:(hidT h H).get? b=none:=PySem.W.hideAll_none (trk h H) hm
  rw [z] at e;cases e
noncomputable def allNews (g h:Heap) (L:Addr):List (Addr × Obj):=(List.range h.objs.size).filterMap λa=>if a=L∨(g.get? a).isSome=true then none else (h.get? a).map λo=>(a,o)
noncomputable def rest (g h:Heap) (L d:Addr):List (Addr × Obj):=(allNews g h L).filter λp=>decide (p.1≠d)
end L2
namespace L2
open PySem PySem.Spec PyProof.Rows
structure Mod (K:PySem.W.Frag) (mg:Str→Option Value) (base:Heap):Prop where
 kin:K.In base
 glob:base.Ns mainGlobals mg
 blt:∃ mb,base.Ns builtinsNs mb∧∀ x:Str,x≠"__name__"→mb x=bootBuiltins x
 nolimit:base.NoLimit
 bmod:∃ bm ob,mg "__builtins__"=some (.ref bm)∧bm≠builtinsNs∧base.get? bm=some ob∧ob.cls=.type "module"∧ob.dict=some builtinsNs∧ob.data=.plain
structure Cx where
 prog:Program
 w:World
 K:PySem.W.Frag
 mg:Str→Option Value
 base:Heap
 A:Around
 N:List Str
 s₀:Shared
 H₀:Hp
 env:Env
 outer:List Env
 stack:List Env
 ex:List Addr
 fn:Str→Bool
 calm:Bool
 pn:List (Addr × Obj)
 xe:Value→Shared→Prop
noncomputable def frs (l:List Env):List Addr:=l.filterMap (·.frame)
noncomputable abbrev Cx.fs (X:Cx):List Addr:=frs X.outer
noncomputable def Vis (sc:Scope) (x:Str):Prop:=sc.names.lookup x=some .local∨sc.names.lookup x=some .cell∨sc.names.lookup x=some .free
noncomputable def Loc (sc:Scope) (x:Str):Prop:=sc.names.lookup x=some .local∨sc.names.lookup x=some .cell
noncomputable def Look (env:Env) (h:Heap) (m:Str→Option Value) (x:Str) (u:Value):Prop :=
 (env.kindOf x=some .local∧m x=some u)∨((env.kindOf x=some .cell∨env.kindOf x=some .free)∧∃ c,env.cells.lookup x=some c∧h.IsCell c (some u))
structure Cx.Ok (X:Cx):Prop where
 mod:Mod X.K X.mg X.base
 kind:X.env.scope.kind=.function
 glob:X.env.globals=mainGlobals
 blt:X.env.builtins=builtinsNs
 above:X.s₀.heap.objs.size≤X.env.locals
 inj:∀ x y c,X.env.cells.lookup x=some c→X.env.cells.lookup y=some c→x=y
 has:∀ x,(X.env.kindOf x=some .cell∨X.env.kindOf x=some .free)→∃ c,X.env.cells.lookup x=some c
 cab:∀ x c,X.fn x=true→X.env.cells.lookup x=some c→X.s₀.heap.objs.size≤c
 hd:X.calm=true→X.A.handled=none
 frames:X.A.frames=some X.stack
 stk:X.stack=X.outer∨(X.stack=X.env::X.outer∧X.env.frame=some X.env.locals)
 exf:∀ b∈X.ex,b≠X.env.locals∧∀ x c,X.env.cells.lookup x=some c→c≠b
 bs:∀ b o,X.base.get? b=some o→X.s₀.heap.get? b=some o∧X.H₀ b=none
 bsz:X.base.objs.size≤X.s₀.heap.objs.size
 noex:∀ b o,X.base.get? b=some o→b ∉ X.ex
 exfs:∀ b∈X.ex,b ∉ X.fs
 funs:X.s₀.heap.FunFrames X.base X.outer
 frf:∀ b∈X.fs,X.H₀ b=none
 tab:∀ c T,codeTab X.K c T=true→∃ ps,X.H₀ T=some (.tbl ps)
structure Inv (X:Cx) (pins:List (Addr × Obj)) (σ:List (Option V)) (H:Hp) (s:Shared):Prop where
 ok:X.Ok
 os:s.os=X.s₀.os
 bare:GK X.s₀.gens s.gens
 base:Un X.fs X.ex X.H₀ H X.s₀.heap s.heap
 loc:∃ m,s.heap.Ns X.env.locals m∧∀ (i:Nat) (x:Str) (v:V),X.N[i]?=some x→σ[i]?=some (some v)→Vis X.env.scope x→∃ u,RelV v u∧Look X.env s.heap m x u
 cell:∀ x c,X.env.cells.lookup x=some c→∃ v,s.heap.IsCell c v
 free:H X.env.locals=none
 freeC:∀ x c,X.env.cells.lookup x=some c→H c=none
 pin:∀ p∈X.pn++pins,s.heap.get? p.1=some p.2∧H p.1=none∧p.1≠X.env.locals∧p.1 ∉ X.fs∧∀ v,p.2.data≠.cell v
 hok:HOk X.prog X.w H s.heap
 len:σ.length=X.N.length
section
variable {X:Cx} {pins:List (Addr × Obj)} {σ:List (Option V)} {H H':Hp} {s:Shared} {h':Heap}
theorem Cx.Ok.nofr (ok:X.Ok) {b:Addr} {o:Obj} (e:X.base.get? b=some o):b ∉ X.fs:=λhb=>by
 have:=(ok.funs.mem hb).1
 rw [e] at this;cases this
theorem Inv.bs (I:Inv X pins σ H s):∀ b o,X.base.get? b=some o→s.heap.get? b=some o∧H b=none:=λb o e =>
 ⟨I.base.keep b o (I.ok.bs b o e).1 (I.ok.bs b o e).2 (I.ok.nofr e) (I.ok.noex b o e),I.base.free b o (I.ok.bs b o e).1 (I.ok.bs b o e).2 (I.ok.noex b o e)⟩
theorem Inv.bk (I:Inv X pins σ H s):∀ b o,X.base.get? b=some o→s.heap.get? b=some o:=λb o e=>(I.bs b o e).1
theorem Inv.mod (I:Inv X pins σ H s):Mod X.K X.mg X.base:=I.ok.mod
theorem Inv.kIn (I:Inv X pins σ H s):X.K.In s.heap:=I.ok.mod.kin.keeps I.bk
theorem Inv.nolimit (I:Inv X pins σ H s):s.heap.NoLimit:=I.ok.mod.nolimit.keeps I.bk
theorem Inv.lt (I:Inv X pins σ H s):X.env.locals<s.heap.objs.size:=let ⟨_,hn,_⟩:=I.loc;hn.lt
theorem Inv.sz (I:Inv X pins σ H s):X.s₀.heap.objs.size≤s.heap.objs.size:=wv I.ok.above (Nat.le_of_lt I.lt)
theorem Inv.nofs (I:Inv X pins σ H s) {a:Addr} (h:s.heap.objs.size≤a):a ∉ X.fs:=λhb=>by
 obtain ⟨_,o,ho,_⟩:=I.ok.funs.mem hb
 exact absurd (wX (wI ho) (wv I.sz h)) (vB _)
theorem Inv.cne (I:Inv X pins σ H s):∀ x c,X.env.cells.lookup x=some c→c≠X.env.locals:=λx c e z=>by
 obtain ⟨v,o,ho,hd⟩:=I.cell x c e
 obtain ⟨m,⟨o',es,ep,ho',hd',_⟩,_⟩:=I.loc
 rw [z,ho'] at ho;cases ho;rw [hd'] at hd;cases hd
theorem Inv.funs (I:Inv X pins σ H s):s.heap.FunFrames X.base X.outer:=by
 have all:∀ (l:List Env),(∀ b∈frs l,b∈X.fs)→X.s₀.heap.FunFrames X.base l→s.heap.FunFrames X.base l:=by
  intro l
  induction l with
  | nil=>intro _ _;trivial
  | cons env r ih =>
   intro hs hl
   obtain ⟨hk,⟨L,o,hf,hn,ho,hd⟩,hr⟩:=hl
   have hL:L∈X.fs:=hs L (by unfold frs;rw [List.filterMap_cons,hf];exact wJ)
   obtain ⟨sl,e⟩:=I.base.slot L o ho (I.ok.frf L hL) hL λz=>I.ok.exfs L z hL
   exact ⟨hk,⟨L,_,hf,hn,e,hd⟩,ih (λb hb=>hs b (by unfold frs;rw [List.filterMap_cons,hf];exact wM _ hb)) hr⟩
 exact all X.outer (λ_ hb=>hb) I.ok.funs
theorem Inv.stack (I:Inv X pins σ H s):s.heap.FunFrames X.base X.stack:=by
 rcases I.ok.stk with e | ⟨e,hf⟩
 ·rw [e];exact I.funs
 ·rw [e]
  obtain ⟨m,hn,_⟩:=I.loc
  refine .cons (by rw [I.ok.kind];decide) hf hn ?_ I.funs
  exact Heap.get?_none_of_le (wv I.ok.bsz I.ok.above)
theorem Inv.stkSub (I:Inv X pins σ H s):∀ b∈frs X.stack,b∈X.env.locals::X.fs:=λb hb=>by
 rcases I.ok.stk with e | ⟨e,hf⟩
 ·rw [e] at hb;exact wM _ hb
 ·rw [e] at hb
  unfold frs at hb
  rw [List.filterMap_cons,hf] at hb
  exact hb
theorem Inv.stkFree (I:Inv X pins σ H s):∀ b∈frs X.stack,H b=none:=λb hb=>by
 rcases wZ.mp (I.stkSub b hb) with e | hb
 ·rw [e];exact I.free
 ·obtain ⟨_,o,ho,_⟩:=I.ok.funs.mem hb
  exact I.base.free b o ho (I.ok.frf b hb) λz=>I.ok.exfs b z hb
theorem Inv.step {g':Array GenState} {t':Nat} {d':Drawn} {ch:List Addr} (I:Inv X pins σ H s)
  (hch:∀ b∈ch,(b∈X.ex∨X.s₀.heap.objs.size≤b)∧b≠X.env.locals∧(∀ x c,X.env.cells.lookup x=some c→c≠b)∧∀ p∈X.pn++pins,p.1≠b)
  (keep:∀ b o,b≠X.env.locals→b ∉ X.fs→b ∉ ch→s.heap.get? b=some o→H b=none→h'.get? b=some o)
  (slot:∀ b o,b≠X.env.locals→b∈X.fs→b ∉ ch→s.heap.get? b=some o→H b=none→∃ sl,h'.get? b=some { o with slots:=sl }) (free:∀ b o,b ∉ ch→s.heap.get? b=some o→H b=none→H' b=none)
  (there:∀ b o,b ∉ ch→s.heap.get? b=some o→∃ o',h'.get? b=some o')
  (tups:∀ b xs,H b=some (.tup xs)→H' b=some (.tup xs)) (frzs:∀ b o u,H b=some (.frz o u)→H' b=some (.frz o u)) (tbls:∀ b ps,H b=some (.tbl ps)→∃ more,H' b=some (.tbl (ps++more)))
  (ns:∀ m,s.heap.Ns X.env.locals m→h'.Ns X.env.locals m) (hok:HOk X.prog X.w H' h') (hg:GK s.gens g') :
  Inv X pins σ H' { s with heap:=h',gens:=g',drawn:=d',toks:=t' }:=by
 have neL:∀ b o,X.s₀.heap.get? b=some o→b≠X.env.locals:=λb o e=>w6 (wX (wI e) I.ok.above)
 have neC:∀ b o,X.s₀.heap.get? b=some o→b ∉ X.ex→b ∉ ch:=λb o e hx hb=>by
  rcases (hch b hb).1 with z | z
  ·exact hx z
  ·exact absurd (wX (wI e) z) (vB _)
 have cellK:∀ x c,X.env.cells.lookup x=some c→∀ v,s.heap.IsCell c v→h'.IsCell c v:=λx c e v ⟨o,ho,hd⟩=>by
  have nch:c ∉ ch:=λz=>(hch c z).2.2.1 x c e rfl
  by_cases hc:c∈X.fs
  ·obtain ⟨sl,q⟩:=slot c o (I.cne x c e) hc nch ho (I.freeC x c e)
   exact ⟨_,q,hd⟩
  ·exact ⟨o,keep c o (I.cne x c e) hc nch ho (I.freeC x c e),hd⟩
 refine ⟨I.ok,I.os,I.bare.trans hg,⟨λb o e n hb hx=>?_,λb o e n hb hx=>?_,λb o e n hx=>?_,λb o e hx=>?_,λb xs e=>tups b xs (I.base.tups b xs e),λb o xs e=>frzs b o xs (I.base.frzs b o xs e),λb ps e=>?_⟩,?_,λx c e=>?_,?_,λx c e=>?_,λp hp=>?_,hok,I.len⟩
 ·exact keep b o (neL b o e) hb (neC b o e hx) (I.base.keep b o e n hb hx) (I.base.free b o e n hx)
 ·obtain ⟨sl,e1⟩:=I.base.slot b o e n hb hx
  obtain ⟨sl',e2⟩:=slot b _ (neL b o e) hb (neC b o e hx) e1 (I.base.free b o e n hx)
  exact ⟨sl',e2⟩
 ·obtain ⟨o',e1⟩:=I.base.there b o e hx
  exact free b o' (neC b o e hx) e1 (I.base.free b o e n hx)
 ·obtain ⟨o',e1⟩:=I.base.there b o e hx
  exact there b o' (neC b o e hx) e1
 ·obtain ⟨m1,e1⟩:=I.base.tbls b ps e
  obtain ⟨m2,e2⟩:=tbls b _ e1
  exact ⟨m1++m2,by rw [e2,Array.append_assoc]⟩
 ·obtain ⟨m,hn,hl⟩:=I.loc
  refine ⟨m,ns m hn,λi x v e1 e2 e3=>?_⟩
  obtain ⟨u,r,l⟩:=hl i x v e1 e2 e3
  refine ⟨u,r,?_⟩
  rcases l with l | ⟨k,c,e,z⟩
  ·exact .inl l
  ·exact .inr ⟨k,c,e,cellK x c e _ z⟩
 ·obtain ⟨v,z⟩:=I.cell x c e
  exact ⟨v,cellK x c e v z⟩
 ·obtain ⟨m,⟨o,_,_,ho,_⟩,_⟩:=I.loc
  exact free _ o (λz=>(hch _ z).2.1 rfl) ho I.free
 ·obtain ⟨v,o,ho,hd⟩:=I.cell x c e
  exact free c o (λz=>(hch c z).2.2.1 x c e rfl) ho (I.freeC x c e)
 ·obtain ⟨e,n,ne,nf,d⟩:=I.pin p hp
  have nch:p.1 ∉ ch:=λz=>(hch p.1 z).2.2.2 p hp rfl
  exact ⟨keep p.1 p.2 ne nf nch e n,free p.1 p.2 nch e n,ne,nf,d⟩
theorem Inv.un {t':Nat} (I:Inv X pins σ H s) (u:Un X.fs [] H H' s.heap h') (hok:HOk X.prog X.w H' h'):Inv X pins σ H' { s with heap:=h',toks:=t' }:=by
 obtain ⟨m,⟨o,es,ep,ho,r⟩,_⟩:=id I.loc
 obtain ⟨sl,hL⟩:=u.any ho I.free (by simp)
 exact I.step (g':=s.gens) (d':=s.drawn) (ch:=[]) (λ_ z=>nomatch z) (λb o _ hb _ e n=>u.keep b o e n hb (by simp)) (λb o _ hb _ e n=>u.slot b o e n hb (by simp)) (λb o _ e n=>u.free b o e n (by simp)) (λb o _ e=>u.there b o e (by simp)) u.tups u.frzs u.tbls (λm' hm=>by
  obtain ⟨o',es',ep',ho',r'⟩:=hm
  rw [ho] at ho';cases ho'
  exact ⟨_,es',ep',hL,r'⟩) hok I.bare.self
theorem Inv.call {g':Array GenState} {t':Nat} {d':Drawn} {ch:List Addr} (I:Inv X pins σ H s) (u:Un (frs X.stack) ch H H' s.heap h') (hok:HOk X.prog X.w H' h') (hg:GK s.gens g')
  (hch:∀ b∈ch,(b∈X.ex∨X.s₀.heap.objs.size≤b)∧b≠X.env.locals∧(∀ x c,X.env.cells.lookup x=some c→c≠b)∧∀ p∈X.pn++pins,p.1≠b) :
  Inv X pins σ H' { s with heap:=h',gens:=g',drawn:=d',toks:=t' }:=by
 obtain ⟨m,⟨o,es,ep,ho,r⟩,_⟩:=id I.loc
 obtain ⟨sl,hL⟩:=u.any ho I.free λz=>(hch _ z).2.1 rfl
 exact I.step (ch:=ch) hch (λb o hL hb hc e n=>u.keep b o e n (λz=>(wZ.mp (I.stkSub b z)).elim hL hb) hc) (λb o _ _ hc e n=>u.any e n hc) (λb o hc e n=>u.free b o e n hc) (λb o hc e=>u.there b o e hc) u.tups u.frzs u.tbls (λm' hm=>by
  obtain ⟨o',es',ep',ho',r'⟩:=hm
  rw [ho] at ho';cases ho'
  exact ⟨_,es',ep',hL,r'⟩) hok hg
theorem Inv.turned {t':Nat} {it:Addr} (I:Inv X pins σ H s) (k:∀ b o,b≠it→s.heap.get? b=some o→h'.get? b=some o) (hn:H it=none) (hL:it≠X.env.locals)
  (h1:it∈X.ex∨X.s₀.heap.objs.size≤it) (h2:∀ x c,X.env.cells.lookup x=some c→c≠it) (h3:∀ p∈X.pn++pins,p.1≠it):Inv X pins σ H { s with heap:=h',toks:=t' }:=by
 have nit:∀ b u,H b=some u→b≠it:=λb u e z=>by rw [z,hn] at e;cases e
 refine I.step (g':=s.gens) (d':=s.drawn) (ch:=[it]) (λb hb=>?_) (λb o _ _ hc e _=>k b o (λz=>hc (by simp [z])) e) (λb o _ _ hc e _=>⟨o.slots,k b o (λz=>hc (by simp [z])) e⟩) (λ_ _ _ _ n=>n)
  (λb o hc e=>⟨o,k b o (λz=>hc (by simp [z])) e⟩) (λ_ _ e=>e) (λ_ _ _ e=>e) (λb ps e=>⟨#[],by rw [e];simp⟩) (λm hm=>?_) (λb u e=>?_) I.bare.self
 ·have e:b=it:=by simpa using hb
  subst e
  exact ⟨h1,hL,h2,h3⟩
 ·obtain ⟨o,es,ep,ho,r⟩:=hm
  exact ⟨o,es,ep,k _ o (Ne.symm hL) ho,r⟩
 ·refine (I.hok b u e).stay (λc v hc q=>k c v ?_ q) (λ_ q=>q) λ_ _ q=>q
  rcases hc with z | z
  ·rw [z];exact nit b u e
  ·exact nit c _ z
theorem Inv.tok (I:Inv X pins σ H s) (t:Nat):Inv X pins σ H { s with toks:=t }:=I.un (h':=s.heap) (t':=t) Un.refl I.hok
theorem Inv.kept {t':Nat} (I:Inv X pins σ H s) (k:∀ b u,s.heap.get? b=some u→h'.get? b=some u):Inv X pins σ H { s with heap:=h',toks:=t' }:=I.un (Un.kept k) (I.hok.kept k)
theorem Inv.laid {a:Addr} {o:HO} {t':Nat} (I:Inv X pins σ H s) (k:∀ b u,s.heap.get? b=some u→h'.get? b=some u) (hp:s.heap.objs.size≤a) (new:ObjOk X.prog X.w (upd H a o) h' a o) :
  Inv X pins σ (upd H a o) { s with heap:=h',toks:=t' }:=I.un (Un.laid k hp (I.hok.fresh hp)) (I.hok.laid k hp new)
theorem Inv.write {x e:Addr} {o:HO} {t':Nat} (I:Inv X pins σ H s) (mu:Mut (H x)) (he:e=x∨H e=some (.own x)) (k:∀ b u,b≠e→s.heap.get? b=some u→h'.get? b=some u) (heo:∃ u,h'.get? e=some u)
  (new:ObjOk X.prog X.w (upd H x o) h' x o):Inv X pins σ (upd H x o) { s with heap:=h',toks:=t' }:=I.un (Un.write mu he k heo) (I.hok.write mu he k heo new)
theorem Inv.pins_of {pins':List (Addr × Obj)} (I:Inv X pins σ H s) (h:∀ p∈pins',s.heap.get? p.1=some p.2∧H p.1=none∧p.1≠X.env.locals∧p.1 ∉ X.fs∧∀ v,p.2.data≠.cell v):Inv X pins' σ H s :=
 ⟨I.ok,I.os,I.bare,I.base,I.loc,I.cell,I.free,I.freeC,λp hp=>(vO.mp hp).elim (λz=>I.pin p (wu _ z)) (h p),I.hok,I.len⟩
theorem qa5 {N:List Str} (hN:N.Nodup) {i j:Nat} {x:Str} (a:N[i]?=some x) (b:N[j]?=some x):i=j:=by
 obtain ⟨h1,e1⟩:=wK.mp a
 obtain ⟨h2,e2⟩:=wK.mp b
 exact (List.getElem_inj hN).mp (e1.trans e2.symm)
theorem yR {M:Model} {A:Around} {E:Value→Shared→Prop} {i:Nat} {x:Str} {v:V} {u:Value} {Q:Unit→Shared→Prop} (I:Inv X pins σ H s) (hN:X.N.Nodup) (hi:X.N[i]?=some x) (hx:Loc X.env.scope x) (r:RelV v u)
  (h:∀ s',Inv X pins (σ.set i (some v)) H s'→(∃ a,Heap.SameBut a s.heap s'.heap∧(a=X.env.locals∨X.env.cells.lookup x=some a))→Q () s') (hf:X.fn x=true∨X.env.scope.names.lookup x=some .local:=by first | exact .inl rfl | exact .inr rfl | assumption):wpAny M A (storeName X.env x u) Q E s:=by
 obtain ⟨m,hn,hl⟩:=id I.loc
 have hcls:(X.env.scope.kind == .class || (X.env.scope.kind == .module&&X.env.locals != X.env.globals))=false:=by rw [I.ok.kind];rfl
 have hiσ:i<σ.length:=by rw [I.len];exact (wK.mp hi).1
 have cne:=I.cne
 have tracked:∀ {a:Addr} {h':Heap},(∃ o,s.heap.get? a=some o∧H a=none)→Heap.SameBut a s.heap h'→HOk X.prog X.w H h':=λ{a h'} ha hs b ob e=>by
  obtain ⟨_,_,hfree⟩:=ha
  refine (I.hok b ob e).stay (λc w' hc q=>(hs.2 c ?_).trans q) (λ_ q=>q) λ_ _ q=>q
  rintro rfl
  rcases hc with rfl | hc
  ·rw [hfree] at e;cases e
  ·rw [hfree] at hc;cases hc
 rcases hx with hk | hk
 ·refine wpAny_storeName_local hk hn (λh' hn' hs=>?_) hcls
  obtain ⟨oL,_,_,hoL,_⟩:=id hn
  refine h _ ⟨I.ok,I.os,I.bare,⟨λb o e n hb hx=>?_,λb o e n hb hx=>?_,I.base.free,λb o e hx=>?_,I.base.tups,I.base.frzs,I.base.tbls⟩,⟨_,hn',λj y v' e1 e2 e3=>?_⟩,λy c e=>?_,I.free,I.freeC,λp hp=>?_,tracked ⟨oL,hoL,I.free⟩ hs,by simpa using I.len⟩ ⟨_,hs,.inl rfl⟩
  ·exact (hs.2 b (w6 (wX (wI e) I.ok.above))).trans (I.base.keep b o e n hb hx)
  ·obtain ⟨sl,e1⟩:=I.base.slot b o e n hb hx
   exact ⟨sl,(hs.2 b (w6 (wX (wI e) I.ok.above))).trans e1⟩
  ·obtain ⟨o',e1⟩:=I.base.there b o e hx
   exact ⟨o',(hs.2 b (w6 (wX (wI e) I.ok.above))).trans e1⟩
  ·by_cases hj:j=i
   ·subst hj
    rw [hi] at e1;cases e1
    rw [List.getElem?_set_self hiσ] at e2
    cases e2
    exact ⟨u,r,.inl ⟨hk,by simp⟩⟩
   ·rw [List.getElem?_set_ne (Ne.symm hj)] at e2
    obtain ⟨u',r',q⟩:=hl j y v' e1 e2 e3
    refine ⟨u',r',?_⟩
    rcases q with ⟨k,e⟩ | ⟨k,c,e,z⟩
    ·refine .inl ⟨k,?_⟩
     have:y≠x:=λe=>hj (qa5 hN e1 (e ▸ hi))
     simp [this,e]
    ·exact .inr ⟨k,c,e,z.sameBut hs (cne y c e)⟩
  ·obtain ⟨w',z⟩:=I.cell y c e
   exact ⟨w',z.sameBut hs (cne y c e)⟩
  ·obtain ⟨e,n,ne,nf,d⟩:=I.pin p hp
   exact ⟨(hs.2 p.1 ne).trans e,n,ne,nf,d⟩
 ·have hfn:X.fn x=true:=by
   rcases hf with z | z
   ·exact z
   ·rw [z] at hk;cases hk
  obtain ⟨c,hc⟩:=I.ok.has x (.inl hk)
  obtain ⟨w',z⟩:=I.cell x c hc
  refine wpAny_storeName_cell I.ok.kind hk hc z (λh' hc' hs=>?_)
  obtain ⟨oc,hoc,hocd⟩:=id z
  refine h { s with heap:=h' } ⟨I.ok,I.os,I.bare,⟨λb o e n hb hx=>?_,λb o e n hb hx=>?_,I.base.free,λb o e hx=>?_,I.base.tups,I.base.frzs,I.base.tbls⟩,⟨m,hn.sameBut hs (Ne.symm (cne x c hc)),λj y v' e1 e2 e3=>?_⟩,λy c' e=>?_,I.free,I.freeC,λp hp=>?_,tracked ⟨oc,hoc,I.freeC x c hc⟩ hs,by simpa using I.len⟩ ⟨c,hs,.inr hc⟩
  ·exact (hs.2 b (w6 (wX (wI e) (I.ok.cab x c hfn hc)))).trans (I.base.keep b o e n hb hx)
  ·obtain ⟨sl,e1⟩:=I.base.slot b o e n hb hx
   exact ⟨sl,(hs.2 b (w6 (wX (wI e) (I.ok.cab x c hfn hc)))).trans e1⟩
  ·obtain ⟨o',e1⟩:=I.base.there b o e hx
   exact ⟨o',(hs.2 b (w6 (wX (wI e) (I.ok.cab x c hfn hc)))).trans e1⟩
  ·by_cases hj:j=i
   ·subst hj
    rw [hi] at e1;cases e1
    rw [List.getElem?_set_self hiσ] at e2
    cases e2
    exact ⟨u,r,.inr ⟨.inl hk,c,hc,hc'⟩⟩
   ·rw [List.getElem?_set_ne (Ne.symm hj)] at e2
    obtain ⟨u',r',q⟩:=hl j y v' e1 e2 e3
    refine ⟨u',r',?_⟩
    rcases q with q | ⟨k,c',e,z'⟩
    ·exact .inl q
    ·refine .inr ⟨k,c',e,z'.sameBut hs ?_⟩
     rintro rfl
     exact hj (qa5 hN e1 (I.ok.inj _ _ _ e hc ▸ hi))
  ·by_cases hcc:c'=c
   ·subst hcc;exact ⟨_,hc'⟩
   ·obtain ⟨w2,z2⟩:=I.cell y c' e
    exact ⟨w2,z2.sameBut hs hcc⟩
  ·obtain ⟨e,n,ne,nf,d⟩:=I.pin p hp
   refine ⟨(hs.2 p.1 ?_).trans e,n,ne,nf,d⟩
   intro q
   rw [q,hoc] at e
   have q':oc=p.2:=Option.some.inj e
   exact d w' (by rw [← q'];exact hocd)
theorem yA {M:Model} {A:Around} {E:Value→Shared→Prop} {i:Nat} {x:Str} {v:V} {u:Value} {Q:Unit→Shared→Prop} (I:Inv X pins σ H s) (hN:X.N.Nodup) (hi:X.N[i]?=some x) (hx:Loc X.env.scope x) (r:RelV v u)
  (h:∀ s',Inv X pins (σ.set i (some v)) H s'→Q () s') (hf:X.fn x=true∨X.env.scope.names.lookup x=some .local:=by first | exact .inl rfl | exact .inr rfl | assumption):wpAny M A (storeName X.env x u) Q E s :=
 yR I hN hi hx r (λs' I' _=>h s' I') hf
theorem Inv.call' {s':Shared} {ch:List Addr} (I:Inv X pins σ H s) (ho:s'.os=s.os) (u:Un (frs X.stack) ch H H' s.heap s'.heap) (hok:HOk X.prog X.w H' s'.heap) (hg:GK s.gens s'.gens)
  (hch:∀ b∈ch,(b∈X.ex∨X.s₀.heap.objs.size≤b)∧b≠X.env.locals∧(∀ x c,X.env.cells.lookup x=some c→c≠b)∧∀ p∈X.pn++pins,p.1≠b):Inv X pins σ H' s':=by
 obtain ⟨h',g',d',t',o'⟩:=s'
 have e:o'=s.os:=ho
 subst e
 exact I.call (g':=g') (t':=t') (d':=d') u hok hg hch
end
noncomputable abbrev XK:=Value→Option Addr→Hp→Prop
noncomputable abbrev St:=List (Option V)
noncomputable abbrev VK:=V→Hp→Prop
noncomputable abbrev TE:=St→Hp→VK→Prop
noncomputable abbrev TT:=St→Hp→(Bool→Hp→Prop)→Prop
noncomputable abbrev TA:=St→Hp→(List V→Hp→Prop)→Prop
structure Ends where
 nx:St→Hp→Prop
 rt:VK
 bk:St→Hp→Prop:=λ_ _=>False
 ct:St→Hp→Prop:=λ_ _=>False
noncomputable abbrev TS:=Ends→St→Hp→Prop
noncomputable def EP (X:Cx) (pins:List (Addr × Obj)) (σ:St) (Q:VK) (u:Value) (s':Shared):Prop:=∃ v H',Inv X pins σ H' s'∧RelV v u∧Q v H'
noncomputable def TP (X:Cx) (pins:List (Addr × Obj)) (σ:St) (Q:Bool→Hp→Prop) (b:Bool) (s':Shared):Prop:=∃ H',Inv X pins σ H' s'∧Q b H'
noncomputable def AP (X:Cx) (pins:List (Addr × Obj)) (σ:St) (Q:List V→Hp→Prop) (us:List Value) (s':Shared):Prop:=∃ vs H',Inv X pins σ H' s'∧Vals vs us∧Q vs H'
noncomputable def SP (X:Cx) (pins:List (Addr × Obj)) (D:Ends) (f:Flow) (s':Shared):Prop :=
 match f with
 | .next=>∃ σ' H',Inv X pins σ' H' s'∧D.nx σ' H'
 | .brk=>∃ σ' H',Inv X pins σ' H' s'∧D.bk σ' H'
 | .cont=>∃ σ' H',Inv X pins σ' H' s'∧D.ct σ' H'
 | .ret u=>∃ v σ' H',Inv X pins σ' H' s'∧RelV v u∧D.rt v H'
noncomputable def PE (X:Cx) (e:Expr) (t:TE):Prop :=
 ∀ (pins:List (Addr × Obj)) (s:Shared) (σ:St) (H:Hp) (Q:VK),Inv X pins σ H s→t σ H Q→wpAny (model X.prog X.w) X.A (eval e X.env) (EP X pins σ Q) X.xe s
noncomputable def PT (X:Cx) (e:Expr) (t:TT):Prop :=
 ∀ (pins:List (Addr × Obj)) (s:Shared) (σ:St) (H:Hp) (Q:Bool→Hp→Prop),Inv X pins σ H s→t σ H Q→wpAny (model X.prog X.w) X.A (isTrue e X.env (eval e X.env)) (TP X pins σ Q) X.xe s
noncomputable def PW (X:Cx) (e:Expr) (t:TT):Prop :=
 ∀ (whole:Sem Value) (pins:List (Addr × Obj)) (s:Shared) (σ:St) (H:Hp) (Q:Bool→Hp→Prop),Inv X pins σ H s→t σ H Q→wpAny (model X.prog X.w) X.A (isTrue e X.env whole) (TP X pins σ Q) X.xe s
theorem PW.pt {X:Cx} {e:Expr} {t:TT} (h:PW X e t):PT X e t:=h _
noncomputable def PA (X:Cx) (es:List Expr) (t:TA):Prop :=
 ∀ (pos:Pos) (pins:List (Addr × Obj)) (s:Shared) (σ:St) (H:Hp) (Q:List V→Hp→Prop),Inv X pins σ H s→t σ H Q→wpAny (model X.prog X.w) X.A (spliced (backTo pos (starEach es X.env))) (AP X pins σ Q) X.xe s
noncomputable def PS (X:Cx) (st:Stmt) (t:TS):Prop :=
 ∀ (pins:List (Addr × Obj)) (s:Shared) (σ:St) (H:Hp) (D:Ends),Inv X pins σ H s→t D σ H→wpAny (model X.prog X.w) X.A (exec st X.env) (SP X pins D) X.xe s
noncomputable def PSs (X:Cx) (st:List Stmt) (t:TS):Prop :=
 ∀ (pins:List (Addr × Obj)) (s:Shared) (σ:St) (H:Hp) (D:Ends),Inv X pins σ H s→t D σ H→wpAny (model X.prog X.w) X.A (execs st X.env) (SP X pins D) X.xe s
theorem thn {α:Type} {t:Sem α} {Q Q':α→Shared→Prop} {M:Model} {A:Around} {E:Value→Shared→Prop} {s:Shared} (h:wpAny M A t Q E s) (hQ:∀ a s,Q a s→Q' a s):wpAny M A t Q' E s:=vC h hQ λ_ _ x=>x
end L2
namespace L2
open PySem PySem.Spec PyProof.Rows
section
variable {X:Cx}
theorem bin {a b:Expr} {ta tb:TE} (ha:PE X a ta) (hb:PE X b tb) {pins:List (Addr × Obj)} {s:Shared} {σ:St} {H:Hp} {R:V→V→Hp→Prop} (I:Inv X pins σ H s) (h:ta σ H λx H1=>tb σ H1 λy H2=>R x y H2)
  {α:Type} {Q:α→Shared→Prop} {f:Value→Value→Sem α}
  (hf:∀ v u s2 x y H2,Inv X pins σ H2 s2→RelV x v→RelV y u→R x y H2→wpAny (model X.prog X.w) X.A (f v u) Q X.xe s2) :
  wpAny (model X.prog X.w) X.A (eval a X.env) (λv s₁=>wpAny (model X.prog X.w) X.A (eval b X.env) (λu s₂=>wpAny (model X.prog X.w) X.A (f v u) Q X.xe s₂) X.xe s₁) X.xe s:=by
 refine thn (ha pins s σ H _ I h) λv s1 ⟨x,H1,I1,r1,q1⟩=>?_
 refine thn (hb pins s1 σ H1 _ I1 q1) λu s2 ⟨y,H2,I2,r2,q2⟩=>?_
 exact hf v u s2 x y H2 I2 r1 r2 q2
noncomputable def tVar (i:Nat):TE:=λσ H Q=>∃ v,σ[i]?=some (some v)∧Q v H
noncomputable def tC (v:V):TE:=λ_ H Q=>Q v H
theorem qdZ {i:Nat} {x:Str} {pos:Pos} (hN:X.N[i]?=some x) (hv:Vis X.env.scope x) (hd:(x == ("__debug__":Str))=false:=by decide) (hcd:(x == ("__classdict__":Str))=false:=by decide):PE X (.Name x pos) (tVar i):=by
 intro pins s σ H Q I h
 obtain ⟨v,e,h⟩:=h
 obtain ⟨m,hn,hl⟩:=I.loc
 obtain ⟨u,r,l⟩:=hl i x v hN e hv
 have fin:EP X pins σ Q u s:=⟨v,H,I,r,h⟩
 rcases l with ⟨hk,hm⟩ | ⟨hk,c,hc,hcell⟩
 ·exact wpAny_Name (wpAny_loadName_local I.ok.kind hk hn hm fin) hd
 ·rcases hk with hk | hk
  ·exact wpAny_Name (wpAny_loadName_cell I.ok.kind hk hc hcell fin) hd
  ·exact wpAny_Name (wpAny_loadName_free I.ok.kind hk hc hcell fin hcd) hd
theorem qd0 {i j pos}:PE X (.Constant (.int i) j pos) (tC (.int i)):=λ_ _ _ H _ I h=>wpAny_Constant_int ⟨.int i,H,I.tok _,⟨_,rfl⟩,h⟩
theorem qjt {b j pos}:PE X (.Constant (.bool b) j pos) (tC (.bl b)):=λ_ _ _ H _ I h=>Constant_bool ⟨.bl b,H,I,rfl,h⟩
theorem qhY {j pos}:PE X (.Constant .none j pos) (tC .non):=λ_ _ _ H _ I h=>Constant_none ⟨.non,H,I,rfl,h⟩
noncomputable def Gl (X:Cx) (x:Str):Prop:=X.env.kindOf x=some .globalImplicit
theorem qcr {E:Value→Shared→Prop} {pins:List (Addr × Obj)} {s:Shared} {σ:St} {H:Hp} {x:Str} {u:Value} {pos:Pos} {Q:Value→Shared→Prop} (I:Inv X pins σ H s) (hg:Gl X x) (hm:X.mg x=some u) (h:Q u s)
  (hd:(x == ("__debug__":Str))=false:=by decide):wpAny (model X.prog X.w) X.A (eval (.Name x pos) X.env) Q E s :=
 Calls.Name_function_global I.ok.kind hg (Calls.loadGlobal_global (by rw [I.ok.glob];exact I.mod.glob.keeps I.bk) hm h) hd
theorem zO {E:Value→Shared→Prop} {pins:List (Addr × Obj)} {s:Shared} {σ:St} {H:Hp} {x:Str} {u:Value} {pos:Pos} {Q:Value→Shared→Prop} (I:Inv X pins σ H s) (hg:Gl X x) (hm:X.mg x=none) (hv:bootBuiltins x=some u) (h:Q u s)
  (hn:x≠"__name__":=by decide) (hd:(x == ("__debug__":Str))=false:=by decide):wpAny (model X.prog X.w) X.A (eval (.Name x pos) X.env) Q E s:=by
 obtain ⟨mb,h1,h2⟩:=I.mod.blt
 exact Calls.Name_function_global I.ok.kind hg (Calls.loadGlobal_builtin (by rw [I.ok.glob];exact I.mod.glob.keeps I.bk) hm (by rw [I.ok.blt];exact h1.keeps I.bk) ((h2 x hn).trans hv) h) hd
theorem qgg {x:Str} {v:V} {u:Value} {pos:Pos} (hg:Gl X x) (hm:X.mg x=some u) (r:RelV v u) (hd:(x == ("__debug__":Str))=false:=by decide):PE X (.Name x pos) (tC v) :=
 λ_ _ _ H _ I h=>qcr I hg hm ⟨v,H,I,r,h⟩ hd
theorem qgh {x:Str} {v:V} {u:Value} {pos:Pos} (hg:Gl X x) (hm:X.mg x=none) (hv:bootBuiltins x=some u) (r:RelV v u) (hn:x≠"__name__":=by decide) (hd:(x == ("__debug__":Str))=false:=by decide):PE X (.Name x pos) (tC v) :=
 λ_ _ _ H _ I h=>zO I hg hm hv ⟨v,H,I,r,h⟩ hn hd
variable {a b:Expr} {ta tb:TE} {pos:Pos}
variable {tA tB':TT} {rest:List Expr}
noncomputable def tAnd (t u:TT):TT:=λσ H Q=>t σ H λc H1=>if c=true then u σ H1 Q else Q false H1
noncomputable def tOr (t u:TT):TT:=λσ H Q=>t σ H λc H1=>if c=true then Q true H1 else u σ H1 Q
noncomputable def tNot (t:TT):TT:=λσ H Q=>t σ H λc H1=>Q (!c) H1
theorem qgi (ha:PT X a tA):PW X (.BoolOp .And [a] pos) tA:=by
 intro wh pins s σ H Q I h
 refine isTrue_and (thn (ha pins s σ H Q I h) λc s1 e=>?_)
 cases c with
 | true=>exact isTrue_and_nil e
 | false=>exact e
theorem qhZ (ha:PT X a tA):PW X (.BoolOp .Or [a] pos) tA:=by
 intro wh pins s σ H Q I h
 refine isTrue_or (thn (ha pins s σ H Q I h) λc s1 e=>?_)
 cases c with
 | false=>exact isTrue_or_nil e
 | true=>exact e
theorem qh0 (ha:PT X a tA) (hb:PW X (.BoolOp .And (b::rest) pos) tB'):PW X (.BoolOp .And (a::b::rest) pos) (tAnd tA tB'):=by
 intro wh pins s σ H Q I h
 refine isTrue_and (thn (ha pins s σ H _ I h) λc s1 ⟨H1,I1,q1⟩=>?_)
 cases c with
 | true=>exact hb wh pins s1 σ H1 Q I1 q1
 | false=>exact ⟨H1,I1,q1⟩
theorem qju (ha:PT X a tA) (hb:PW X (.BoolOp .Or (b::rest) pos) tB'):PW X (.BoolOp .Or (a::b::rest) pos) (tOr tA tB'):=by
 intro wh pins s σ H Q I h
 refine isTrue_or (thn (ha pins s σ H _ I h) λc s1 ⟨H1,I1,q1⟩=>?_)
 cases c with
 | true=>exact ⟨H1,I1,q1⟩
 | false=>exact hb wh pins s1 σ H1 Q I1 q1
theorem qh1 (ha:PT X a tA):PT X (.UnaryOp .Not a pos) (tNot tA):=by
 intro pins s σ H Q I h
 exact isTrue_not (ha pins s σ H (λc H1=>Q (!c) H1) I h)
noncomputable def tAndV (ta tb:TE):TE:=λσ H Q=>ta σ H λx H1=>∃ c,x=.bl c∧if c=true then tb σ H1 Q else Q (.bl false) H1
noncomputable def tNotV (ta:TE):TE:=λσ H Q=>ta σ H λx H1=>∃ c,x=.bl c∧Q (.bl (!c)) H1
theorem qh2 {op} {t:TE} (h:PE X a t):PE X (.BoolOp op [a] pos) t:=λpins s σ H Q I hw=>BoolOp_one (h pins s σ H Q I hw)
theorem qh3 (ha:PE X a ta) (hb:PE X (.BoolOp .And (b::rest) pos) tb):PE X (.BoolOp .And (a::b::rest) pos) (tAndV ta tb):=by
 intro pins s σ H Q I h
 refine BoolOp_and (thn (ha pins s σ H _ I h) λv s1 ⟨x,H1,I1,r1,q1⟩=>?_)
 obtain ⟨c,rfl,q1⟩:=q1
 cases r1
 refine vD ?_
 cases c with
 | true=>exact hb pins s1 σ H1 Q I1 q1
 | false=>exact ⟨.bl false,H1,I1,rfl,q1⟩
theorem qh4 (ha:PE X a ta):PE X (.UnaryOp .Not a pos) (tNotV ta):=by
 intro pins s σ H Q I h
 refine UnaryOp_ (thn (ha pins s σ H _ I h) λv s1 ⟨x,H1,I1,r1,q1⟩=>?_)
 obtain ⟨c,rfl,q1⟩:=q1
 cases r1
 exact not_of (vD ⟨.bl (!c),H1,I1,rfl,q1⟩)
end
end L2
namespace L2
open PySem PySem.Spec PyProof.Rows
noncomputable def SqL (K:PySem.W.Frag) (H:Hp) (a:Addr) (xs:List V):Prop :=
 Rd H a (.lst xs) ∨
  ∃ (o:Obj) (its:Array Value) (n:Nat),K.lookup a=some o∧o.cls=.type "list"∧o.dict=none∧o.data=.seq its n∧its.size≤sizeLine∧Vals xs its.toList
noncomputable def SqT (K:PySem.W.Frag) (H:Hp) (a:Addr) (xs:List V):Prop :=
 Rd H a (.tup xs) ∨
  ∃ (o:Obj) (its:Array Value) (n:Nat),K.lookup a=some o∧o.cls=.type "tuple"∧o.data=.seq its n∧its.size≤sizeLine∧Vals xs its.toList
noncomputable def absV:Value→Option V
 | .none=>some .non
 | .bool b=>some (.bl b)
 | .int i _=>some (.int i)
 | .str x _=>some (.str x)
 | .bytes b _=>some (.byt b)
 | .float b _=>some (.flt b)
 | .ref a=>some (.ref a)
 | .type n=>some (.ty n)
 | _=>none
theorem RelV.abs {x:V} {u:Value} (r:RelV x u):absV u=some x:=by
 cases x with
 | non=>cases r;rfl
 | bl _=>cases r;rfl
 | int _=>obtain ⟨t,rfl⟩:=r;rfl
 | str _=>obtain ⟨t,rfl⟩:=r;rfl
 | byt _=>obtain ⟨t,rfl⟩:=r;rfl
 | flt _=>obtain ⟨t,rfl⟩:=r;rfl
 | ref _=>cases r;rfl
 | ty _=>cases r;rfl
theorem RelV.inj {x y:V} {u:Value} (r:RelV x u) (q:RelV y u):x=y:=Option.some.inj (r.abs.symm.trans q.abs)
theorem Vals.inj:∀ {xs ys:List V} {us:List Value},Vals xs us→Vals ys us→xs=ys
 | _,_,_,.nil,.nil=>rfl
 | _,_,_,.cons r t,.cons r' t'=>by rw [r.inj r',Vals.inj t t']
section
variable {X:Cx} {pins:List (Addr × Obj)} {σ:St} {H:Hp} {s:Shared} {a:Addr} {xs ys:List V}
theorem Inv.list (I:Inv X pins σ H s) (h:SqL X.K H a xs):∃ its:List Value,Vals xs its∧PlainL s.heap a its.toArray∧xs.length≤sizeLine:=by
 rcases h with h | ⟨o,its,n,hk,hc,hd,hs,hz,r⟩
 ·obtain ⟨z,its,n,r,e⟩:=h.ok I.hok
  exact ⟨its,r,⟨_,n,e,rfl,rfl,rfl⟩,z⟩
 ·refine ⟨its.toList,r,⟨o,n,I.kIn a o hk,hc,hd,by simpa using hs⟩,?_⟩
  have e:=r.length
  simp only [Array.length_toList] at e
  lia
theorem Inv.tuple (I:Inv X pins σ H s) (h:SqT X.K H a xs):∃ its:List Value,Vals xs its∧IsTup s.heap a its.toArray∧xs.length≤sizeLine:=by
 rcases h with h | ⟨o,its,n,hk,hc,hs,hz,r⟩
 ·obtain ⟨z,its,r,p⟩:=h.ok I.hok
  exact ⟨its,r,p,z⟩
 ·refine ⟨its.toList,r,⟨o,I.kIn a o hk,hc,n,by simpa using hs⟩,?_⟩
  have e:=r.length
  simp only [Array.length_toList] at e
  lia
theorem Inv.list_inj (I:Inv X pins σ H s) (h:SqL X.K H a xs) (h':SqL X.K H a ys):xs=ys:=by
 obtain ⟨its,r,⟨o,n,e,_,_,d⟩,_⟩:=I.list h
 obtain ⟨its',r',⟨o',n',e',_,_,d'⟩,_⟩:=I.list h'
 rw [e] at e';cases e'
 rw [d] at d'
 injection d' with d1 _
 have:its=its':=by simpa using congrArg Array.toList d1
 subst this
 exact r.inj r'
theorem Inv.tuple_inj (I:Inv X pins σ H s) (h:SqT X.K H a xs) (h':SqT X.K H a ys):xs=ys:=by
 obtain ⟨its,r,⟨o,e,_,n,d⟩,_⟩:=I.tuple h
 obtain ⟨its',r',⟨o',e',_,n',d'⟩,_⟩:=I.tuple h'
 rw [e] at e';cases e'
 rw [d] at d'
 injection d' with d1 _
 have:its=its':=by simpa using congrArg Array.toList d1
 subst this
 exact r.inj r'
end
noncomputable abbrev Cx.wish (X:Cx) (E:Value→Shared→Prop):Cx:={ X with xe:=E }
noncomputable abbrev Cx.nox (X:Cx):Cx:=X.wish λ_ _=>False
theorem Cx.Ok.wish {X:Cx} (ok:X.Ok) (E:Value→Shared→Prop):(X.wish E).Ok :=
 ⟨ok.mod,ok.kind,ok.glob,ok.blt,ok.above,ok.inj,ok.has,ok.cab,ok.hd,ok.frames,ok.stk,ok.exf,ok.bs,ok.bsz,ok.noex,ok.exfs,ok.funs,ok.frf,ok.tab⟩
theorem Cx.Ok.unwish {X:Cx} {E:Value→Shared→Prop} (ok:(X.wish E).Ok):X.Ok :=
 ⟨ok.mod,ok.kind,ok.glob,ok.blt,ok.above,ok.inj,ok.has,ok.cab,ok.hd,ok.frames,ok.stk,ok.exf,ok.bs,ok.bsz,ok.noex,ok.exfs,ok.funs,ok.frf,ok.tab⟩
section
variable {X:Cx} {pins:List (Addr × Obj)} {σ:St} {H:Hp} {s:Shared} {E:Value→Shared→Prop}
theorem Inv.wish (I:Inv X pins σ H s) (E:Value→Shared→Prop):Inv (X.wish E) pins σ H s:=⟨I.ok.wish E,I.os,I.bare,I.base,I.loc,I.cell,I.free,I.freeC,I.pin,I.hok,I.len⟩
theorem Inv.unwish (I:Inv (X.wish E) pins σ H s):Inv X pins σ H s:=⟨I.ok.unwish,I.os,I.bare,I.base,I.loc,I.cell,I.free,I.freeC,I.pin,I.hok,I.len⟩
theorem SP.unwish {D:Ends} {f:Flow} {s':Shared} (h:SP (X.wish E) pins D f s'):SP X pins D f s':=by
 cases f with
 | next=>obtain ⟨σ',H',I,q⟩:=h;exact ⟨σ',H',I.unwish,q⟩
 | brk=>obtain ⟨σ',H',I,q⟩:=h;exact ⟨σ',H',I.unwish,q⟩
 | cont=>obtain ⟨σ',H',I,q⟩:=h;exact ⟨σ',H',I.unwish,q⟩
 | ret u=>obtain ⟨v,σ',H',I,r,q⟩:=h;exact ⟨v,σ',H',I.unwish,r,q⟩
theorem PSs.nox {st:List Stmt} {t:TS} (h:PSs X.nox st t):PSs X st t:=λpins s σ H D I hw =>
 vC (h pins s σ H D (I.wish _) hw) (λ_ _ q=>q.unwish) λ_ _ z=>False.elim z
end
section
variable {X:Cx} {st:Stmt} {rest:List Stmt} {t u:TS} {e:Expr} {te:TE} {pos:Pos}
noncomputable def tNext:TS:=λD σ H=>D.nx σ H
noncomputable def tSeq (t u:TS):TS:=λD σ H=>t { D with nx:=u D } σ H
theorem qgj:PSs X [] tNext:=λ_ _ σ H _ I h=>wpAny_execs_nil ⟨σ,H,I,h⟩
theorem qd1 (h1:PS X st t) (h2:PSs X rest u):PSs X (st::rest) (tSeq t u):=by
 intro pins s σ H D I h
 refine wpAny_execs_cons (thn (h1 pins s σ H { D with nx:=u D } I h) λf s1 q=>?_)
 cases f with
 | next =>
  obtain ⟨σ',H',I',q⟩:=q
  exact h2 pins s1 σ' H' D I' q
 | ret v=>exact q
 | brk=>exact q
 | cont=>exact q
theorem Inv.quiet {pins:List (Addr × Obj)} {σ:St} {H:Hp} {s:Shared} (I:Inv X pins σ H s):interactive X.env=false:=by simp [interactive,I.ok.kind]
noncomputable def tDrop (te:TE):TS:=λD σ H=>te σ H λ_ H1=>D.nx σ H1
theorem qgk (he:PE X e te) (hs:swapsWith e none pos.line X.env=pure false:=by rfl):PS X (.Expr e pos) (tDrop te):=by
 intro pins s σ H D I h
 exact wpAny_Expr_any (thn (he pins s σ H _ I h) λv s1 ⟨x,H1,I1,r1,q1⟩=>⟨σ,H1,I1,q1⟩) I.quiet hs
noncomputable def tRet (te:TE):TS:=λD σ H=>te σ H D.rt
theorem qh5 (he:PE X e te):PS X (.Return (some e) pos) (tRet te):=by
 intro pins s σ H D I h
 exact wpAny_Return_some (thn (he pins s σ H _ I h) λv s1 ⟨x,H1,I1,r1,q1⟩=>⟨x,σ,H1,I1,r1,q1⟩)
noncomputable def tIfS (c:TT) (t u:TS):TS:=λD σ H=>c σ H λb H1=>if b=true then t D σ H1 else u D σ H1
theorem qjv {c:Expr} {a b:List Stmt} {tc:TT} (hc:PT X c tc) (ha:PSs X a t) (hb:PSs X b u):PS X (.If c a b pos) (tIfS tc t u):=by
 intro pins s σ H D I h
 refine wpAny_If (thn (hc pins s σ H _ I h) λd s1 ⟨H1,I1,q1⟩=>?_)
 cases d with
 | true=>exact ha pins s1 σ H1 D I1 q1
 | false=>exact hb pins s1 σ H1 D I1 q1
noncomputable def tNever:TS:=λ_ _ _=>False
theorem qd2:PS X st tNever:=λ_ _ _ _ _ _ h=>h.elim
end
noncomputable abbrev TG:=V→St→Hp→(St→Hp→Prop)→Prop
noncomputable abbrev TGs:=List V→St→Hp→(St→Hp→Prop)→Prop
noncomputable def PG (X:Cx) (target:Expr) (t:TG):Prop :=
 ∀ (pins:List (Addr × Obj)) (s:Shared) (σ:St) (H:Hp) (v:V) (u:Value) (Q:St→Hp→Prop),Inv X pins σ H s→RelV v u→t v σ H Q →
  wpAny (model X.prog X.w) X.A (assign target X.env u) (λ_ s'=>∃ σ' H',Inv X pins σ' H' s'∧Q σ' H') X.xe s
noncomputable def PGs (X:Cx) (ts:List Expr) (t:TGs):Prop :=
 ∀ (pins:List (Addr × Obj)) (s:Shared) (σ:St) (H:Hp) (vs:List V) (us:List Value) (Q:St→Hp→Prop),Inv X pins σ H s→Vals vs us→t vs σ H Q →
  wpAny (model X.prog X.w) X.A (assignInOrder ((assignEach ts X.env).map (·.2)) us) (λ_ s'=>∃ σ' H',Inv X pins σ' H' s'∧Q σ' H') X.xe s
noncomputable abbrev TSet:=V→V→V→Hp→(Hp→Prop)→Prop
noncomputable def PSet (X:Cx) (t:TSet):Prop :=
 ∀ (pins:List (Addr × Obj)) (s:Shared) (σ:St) (H:Hp) (o i v:V) (ov iv u:Value) (Q:Hp→Prop),Inv X pins σ H s→RelV o ov→RelV i iv→RelV v u→t o i v H Q →
  wpAny (model X.prog X.w) X.A (setItem ov iv u) (λ_ s'=>∃ H',Inv X pins σ H' s'∧Q H') X.xe s
noncomputable abbrev TIp:=V→V→Hp→VK→Prop
noncomputable def PIp (X:Cx) (op:Operator) (t:TIp):Prop :=
 ∀ (pins:List (Addr × Obj)) (s:Shared) (σ:St) (H:Hp) (x y:V) (v u:Value) (Q:VK),Inv X pins σ H s→RelV x v→RelV y u→t x y H Q →
  wpAny (model X.prog X.w) X.A (inplaceOp op v u) (EP X pins σ Q) X.xe s
section
variable {X:Cx} {pos:Pos}
noncomputable def gName (i:Nat):TG:=λv σ H Q=>Q (σ.set i (some v)) H
theorem qcs {i:Nat} {x:Str} (hN:X.N.Nodup) (hi:X.N[i]?=some x) (hx:Loc X.env.scope x) (hf:X.fn x=true∨X.env.scope.names.lookup x=some .local:=by first | exact .inl rfl | exact .inr rfl | assumption):PG X (.Name x pos) (gName i):=by
 intro pins s σ H v u Q I r h
 exact wpAny_assign_Name (yA I hN hi hx r (λs' I'=>⟨_,H,I',h⟩) hf)
noncomputable def gNil:TGs:=λvs σ H Q=>vs=[]∧Q σ H
noncomputable def gCons (t:TG) (u:TGs):TGs:=λvs σ H Q=>∃ v r,vs=v::r∧t v σ H λσ' H'=>u r σ' H' Q
theorem qgl:PGs X [] gNil:=by
 intro pins s σ H vs us Q I r h
 obtain ⟨e,h⟩:=h
 subst e
 cases r
 exact assignInOrder_nil ⟨σ,H,I,h⟩
theorem qd3 {e:Expr} {es:List Expr} {t:TG} {u:TGs} (h1:PG X e t) (h2:PGs X es u)
  (hs:(assignEach (e::es) X.env).map (·.2)=assign e X.env::(assignEach es X.env).map (·.2):=by rfl):PGs X (e::es) (gCons t u):=by
 intro pins s σ H vs us Q I r h
 obtain ⟨v,vr,e1,h⟩:=h
 subst e1
 cases r with
 | cons r rr =>
  rw [hs]
  refine assignInOrder_cons (thn (h1 pins s σ H _ _ _ I r h) λ_ s1 ⟨σ1,H1,I1,q1⟩=>?_)
  exact h2 pins s1 σ1 H1 _ _ Q I1 rr q1
noncomputable def gTup (K:PySem.W.Frag) (n:Nat) (t:TGs):TG:=λv σ H Q=>∃ a xs,v=.ref a∧SqT K H a xs∧xs.length=n∧t xs σ H Q
theorem qh6 {es:List Expr} {k:Nat} {t:TGs} {n:Nat} (hc:X.calm=true) (h:PGs X es t)
  (hn:(assignEach es X.env).length=n:=by rfl) (hst:(assignEach es X.env).findIdx? (·.1)=none:=by rfl):PG X (.Tuple es k pos) (gTup X.K n t):=by
 intro pins s σ H v u Q I r hw
 obtain ⟨a,xs,e1,hq,hl,hw⟩:=hw
 subst e1
 cases r
 obtain ⟨its,rv,ht,hz⟩:=I.tuple hq
 refine assign_Tuple_tuple (I.ok.hd hc) ht (by simp [hn,← hl,rv.length]) hst λh' hx=>?_
 have I1:Inv X pins σ H { s with heap:=h' }:=I.kept (t':=s.toks) λb o e=>hx b o (w6 (wI e)) e
 exact h pins _ σ H xs _ Q I1 (by simpa using rv) hw
noncomputable def gSub (to ti:TE) (t:TSet):TG:=λv σ H Q=>to σ H λo H1=>ti σ H1 λi H2=>t o i v H2 λH3=>Q σ H3
theorem qh7 {o i:Expr} {to ti:TE} {t:TSet} (ho:PE X o to) (hi:PE X i ti) (hs:PSet X t)
  (ha:∀ v,assign (.Subscript o i pos) X.env v=(do
   let ov ← holding [v] (eval o X.env)
   let iv ← holding [v,ov] (eval i X.env)
   standAt pos
   holding [v,ov,iv] (setItem ov iv v)
   release [v,ov,iv] []):=by intro _;rfl):PG X (.Subscript o i pos) (gSub to ti t):=by
 intro pins s σ H v u Q I r h
 rw [ha]
 refine wA (wo (thn (ho pins s σ H _ I h) λov s1 ⟨x,H1,I1,r1,q1⟩=>?_))
 refine wA (wo (thn (hi pins s1 σ H1 _ I1 q1) λiv s2 ⟨y,H2,I2,r2,q2⟩=>?_))
 refine wA (vL (wA (wo (thn (hs pins s2 σ H2 x y v ov iv u _ I2 r1 r2 r q2) λ_ s3 ⟨H3,I3,q3⟩=>?_))))
 exact wpAny_release ⟨σ,H3,I3,q3⟩
noncomputable def tAsg (te:TE) (g:TG):TS:=λD σ H=>te σ H λx H1=>g x σ H1 D.nx
theorem qh8 {tg e:Expr} {te:TE} {g:TG} (he:PE X e te) (hg:PG X tg g) (hs:swapsWithSole [tg] e pos.line X.env=pure false:=by rfl) (hw:swappedStores [tg] e X.env=pure none:=by rfl)
  (h1:(assignEach [tg] X.env).map (·.2)=[assign tg X.env]:=by rfl):PS X (.Assign [tg] e pos) (tAsg te g):=by
 intro pins s σ H D I h
 refine wpAny_Assign_stores (thn (he pins s σ H _ I h) λv s1 ⟨x,H1,I1,r1,q1⟩=>?_) hs hw
 rw [h1]
 exact thn (hg pins s1 σ H1 x v _ I1 r1 q1) λ_ s2 q=>q
theorem qh9 {i:Nat} {x:Str} {e:Expr} {te:TE} {pos':Pos} (hN:X.N.Nodup) (hi:X.N[i]?=some x) (hx:Loc X.env.scope x) (he:PE X e te) (hs:swapsWith e (some (.Name x pos')) pos.line X.env=pure false:=by rfl) (hf:X.fn x=true∨X.env.scope.names.lookup x=some .local:=by first | exact .inl rfl | exact .inr rfl | assumption) :
  PS X (.Assign [.Name x pos'] e pos) (tAsg te (gName i)):=by
 intro pins s σ H D I h
 refine wpAny_Assign_Name (thn (he pins s σ H _ I h) λv s1 ⟨y,H1,I1,r1,q1⟩=>?_) hs
 exact yA I1 hN hi hx r1 (λs2 I2=>⟨_,H1,I2,q1⟩) hf
noncomputable def tPar (i j:Nat) (ta:TA):TS:=λD σ H=>ta σ H λvs H1=>∃ v w,vs=[v,w]∧D.nx ((σ.set i (some v)).set j (some w)) H1
theorem qia {i j:Nat} {x y:Str} {a b:Expr} {ta:TA} {px py pt:Pos} {kt k2 pt2} (hc:X.calm=true) (hN:X.N.Nodup) (hi:X.N[i]?=some x) (hj:X.N[j]?=some y) (hij:i≠j)
  (hx:X.env.scope.names.lookup x=some .local) (hy:X.env.scope.names.lookup y=some .local) (ha:PA X [a,b] ta)
  (hw:swappedStores [.Tuple [.Name x px,.Name y py] kt pt] (.Tuple [a,b] k2 pt2) X.env=pure (some [x,y]))
  (hs:swapsWithSole [.Tuple [.Name x px,.Name y py] kt pt] (.Tuple [a,b] k2 pt2) pos.line X.env=pure false:=by rfl) :
  PS X (.Assign [.Tuple [.Name x px,.Name y py] kt pt] (.Tuple [a,b] k2 pt2) pos) (tPar i j ta):=by
 intro pins s σ H D I h
 rw [exec_Assign_arm]
 refine wA (vL ?_)
 rw [hs]
 refine wA (wC ?_)
 rw [wN (by decide)]
 refine wA (Tuple_ (thn (ha _ pins s σ H _ I h) λus s1 ⟨vs,H1,I1,r1,q1⟩=>?_))
 obtain ⟨v,w,e1,q1⟩:=q1
 subst e1
 obtain ⟨u1,u2,rfl,rv,rw'⟩:∃ u1 u2,us=[u1,u2]∧RelV v u1∧RelV w u2:=by
  cases r1 with
  | cons p q =>
   cases q with
   | cons p' q' =>
    cases q'
    exact ⟨_,_,rfl,p,p'⟩
 refine wY ?_ (by show 2≤sizeLine;decide)
 have I2:Inv X pins σ H1 { s1 with heap:=s1.heap.push { cls:=.type "tuple",data:=.seq [u1,u2].toArray } }:=I1.kept (t':=s1.toks) λb o e=>wB _ e
 rw [hw]
 refine wA (wC ?_)
 show wpAny (model X.prog X.w) X.A (do rule "assign.swapped-stores";let items ← unpackItems (.ref s1.heap.objs.size) 2 none;assignInOrder [λv=>bindName X.env y v,λv=>bindName X.env x v] items.reverse;pure Flow.next) _ _ _
 refine wA (wpAny_rule (wA (unpackItems_tuple (items:=#[u1,u2]) (I.ok.hd hc) (IsTup.new s1.heap _) λh' hx'=>?_)))
 have I3:=I2.kept (h':=h') (t':=s1.toks) λb o e=>hx' b o (w6 (wI e)) e
 show wpAny _ _ (assignInOrder [λv=>bindName X.env y v,λv=>bindName X.env x v] [u2,u1] >>= λ_=>pure Flow.next) _ _ _
 refine wA (assignInOrder_cons (wpAny_bindName (yA I3 hN hj (.inl hy) rw' (λs2 I4=>?_) (.inr hy))))
 refine assignInOrder_cons (wpAny_bindName (yA I4 hN hi (.inl hx) rv (λs3 I5=>assignInOrder_nil (wC ?_)) (.inr hx)))
 rw [List.set_comm _ _ (Ne.symm hij)] at I5
 exact ⟨_,H1,I5,q1⟩
noncomputable def tAugS (to ti te:TE) (tget:V→V→Hp→VK→Prop) (tip:TIp) (tset:TSet):TS:=λD σ H=>to σ H λo H1=>ti σ H1 λi H2=>tget o i H2 λx H3=>te σ H3 λy H4=>tip x y H4 λz H5=>tset o i z H5 λH6=>D.nx σ H6
noncomputable def PGet (X:Cx) (t:V→V→Hp→VK→Prop):Prop :=
 ∀ (pins:List (Addr × Obj)) (s:Shared) (σ:St) (H:Hp) (o i:V) (ov iv:Value) (Q:VK),Inv X pins σ H s→RelV o ov→RelV i iv→t o i H Q →
  wpAny (model X.prog X.w) X.A (getItem ov iv) (EP X pins σ Q) X.xe s
theorem qgm {o i e:Expr} {to ti te:TE} {tget:V→V→Hp→VK→Prop} {tip:TIp} {tset:TSet} {op:Operator} {tpos:Pos} (ho:PE X o to) (hi:PE X i ti) (hg:PGet X tget) (he:PE X e te) (hp:PIp X op tip) (hs:PSet X tset)
  (ha:∀ ov iv new,augStore i ov iv new=(do holding [new,ov,iv] (setItem ov iv new);release [new,ov,iv] [];pure .next):=by intros;rfl):PS X (.AugAssign (.Subscript o i tpos) op e pos) (tAugS to ti te tget tip tset):=by
 intro pins s σ H D I h
 refine wpAny_AugAssign_SubscriptAny (thn (ho pins s σ H _ I h) λov s1 ⟨x1,H1,I1,r1,q1⟩=>?_) ha
 refine thn (hi pins s1 σ H1 _ I1 q1) λiv s2 ⟨x2,H2,I2,r2,q2⟩=>?_
 refine thn (hg pins s2 σ H2 x1 x2 ov iv _ I2 r1 r2 q2) λold s3 ⟨x3,H3,I3,r3,q3⟩=>?_
 refine thn (he pins s3 σ H3 _ I3 q3) λv s4 ⟨x4,H4,I4,r4,q4⟩=>?_
 refine thn (hp pins s4 σ H4 x3 x4 old v _ I4 r3 r4 q4) λnew s5 ⟨x5,H5,I5,r5,q5⟩=>?_
 exact thn (hs pins s5 σ H5 x1 x2 x5 ov iv new _ I5 r1 r2 r5 q5) λ_ s6 ⟨H6,I6,q6⟩=>⟨σ,H6,I6,q6⟩
noncomputable def ipI (f:Int→Int→Int):TIp:=λx y H Q=>∃ i j,x=.int i∧y=.int j∧Q (.int (f i j)) H
theorem qib:PIp X .Add (ipI λi j=>i+j):=by
 intro pins s σ H x y v u Q I r1 r2 h
 obtain ⟨i,j,e1,e2,q⟩:=h
 subst e1;subst e2
 obtain ⟨t,rfl⟩:=r1
 obtain ⟨t',rfl⟩:=r2
 exact iadd_int ⟨.int _,H,I.tok _,⟨_,rfl⟩,q⟩
end
section
variable {X:Cx} {pos:Pos}
noncomputable def tWhile (c:TT) (tb:TS):TS:=λD σ H=>∃ W:Nat→St→Hp→Prop,(∃ m,W m σ H)∧∀ m σ H,W m σ H →
 c σ H λb H1=>if b=true then ∃ N:St→Hp→Prop,(∀ σ' H',N σ' H'→∃ m',m'<m∧W m' σ' H')∧tb { D with nx:=N,ct:=N,bk:=D.nx } σ H1 else D.nx σ H1
theorem qd4 {c:Expr} {body:List Stmt} {tc:TT} {tb:TS} (hp:PassesOwn (model X.prog X.w) X.A X.env X.xe) (hc:PT X c tc) (hb:PSs X body tb):PS X (.While c body [] pos) (tWhile tc tb):=by
 intro pins s σ H D I h
 obtain ⟨W,⟨m0,w0⟩,turn⟩:=h
 refine wpAny_While (codeAny_whileLoop (λn s'=>∃ σ' H',Inv X pins σ' H' s'∧W n σ' H') ?_ m0 ⟨σ,H,I,w0⟩)
 rintro n s1 ⟨σ1,H1,I1,w1⟩
 refine wpAny_passesOwn hp (thn (hc pins s1 σ1 H1 _ I1 (turn n σ1 H1 w1)) λb s2 ⟨H2,I2,q2⟩=>?_)
 cases b with
 | true =>
  obtain ⟨N,hN,q2⟩:=q2
  rw [wL rfl]
  refine wpAny_passesOwn hp (thn (hb pins s2 σ1 H2 _ I2 q2) λf s3 q3=>?_)
  cases f with
  | next =>
   obtain ⟨σ3,H3,I3,n3⟩:=q3
   obtain ⟨m',hm,w3⟩:=hN σ3 H3 n3
   exact ⟨m',hm,σ3,H3,I3,w3⟩
  | cont =>
   obtain ⟨σ3,H3,I3,n3⟩:=q3
   obtain ⟨m',hm,w3⟩:=hN σ3 H3 n3
   exact ⟨m',hm,σ3,H3,I3,w3⟩
  | brk=>exact q3
  | ret v=>exact q3
 | false =>
  rw [wN wT]
  exact wpAny_execs_nil ⟨σ1,H2,I2,q2⟩
end
structure It where
 go:Nat→Hp→Prop
 yld:Nat→Hp→V→Hp→Prop
 stop:Nat→Hp→Prop
noncomputable def FpOk (X:Cx) (pins:List (Addr × Obj)) (H:Hp) (b:Addr):Prop :=
 H b=none∧b≠X.env.locals∧b ∉ X.fs∧(b∈X.ex∨X.s₀.heap.objs.size≤b)∧(∀ x c,X.env.cells.lookup x=some c→c≠b)∧∀ p∈X.pn++pins,p.1≠b
theorem Inv.fpOk {X:Cx} {pins:List (Addr × Obj)} {σ:St} {H H':Hp} {s:Shared} {b:Addr} (I:Inv X pins σ H s) (hb:s.heap.objs.size≤b) (hn:H' b=none):FpOk X pins H' b:=by
 refine ⟨hn,Nat.ne_of_gt (wX I.lt hb),I.nofs hb,.inr (wv I.sz hb),λx c e z=>?_,λp hp z=>?_⟩
 ·obtain ⟨v,q⟩:=I.cell x c e
  exact absurd (wX q.lt (by rw [z];exact hb)) (vB _)
 ·exact absurd (wX (wI (I.pin p hp).1) (by rw [z];exact hb)) (vB _)
structure Turn (P:Program) (w:World) (K:PySem.W.Frag) (tg:Expr) (J:It) (fp:List Addr) (it:Addr) (tn:Nat→Heap→Prop):Prop where
 mem:it∈fp
 obj:∀ i h,tn i h→∀ b∈fp,∃ o,h.get? b=some o∧∀ v,o.data≠.cell v
 keep:∀ i h h',tn i h→(∀ b∈fp,∀ o,h.get? b=some o→h'.get? b=some o)→tn i h'
 item:∀ (X:Cx),X.prog=P→X.w=w→X.K=K→X.calm=true→∀ (i:Nat) (pins:List (Addr × Obj)) (s:Shared) (σ:St) (H:Hp) (E:Value→Shared→Prop),Inv X pins σ H s→(∀ b∈fp,FpOk X pins H b)→tn i s.heap→J.go i H →
  wpAny (model P w) X.A (pyNext (.ref it)) (λr s1=>∃ u,r=some u ∧
   wpAny (model P w) X.A (letOwnedTupleGo tg (.ref it) u) (λ_ s2=>∃ x H',Inv X pins σ H' s2∧RelV x u∧J.yld i H x H'∧tn (i+1) s2.heap∧∀ b∈fp,H' b=none) E s1) E s
 done:∀ (X:Cx),X.prog=P→X.w=w→X.K=K→X.calm=true→∀ (i:Nat) (pins:List (Addr × Obj)) (s:Shared) (σ:St) (H:Hp) (E:Value→Shared→Prop),Inv X pins σ H s→(∀ b∈fp,FpOk X pins H b)→tn i s.heap→J.stop i H →
  wpAny (model P w) X.A (pyNext (.ref it)) (λr s1=>r=none∧Inv X pins σ H s1) E s
 self:∀ (A:Around) (i:Nat) (s:Shared) (Q:Value→Shared→Prop) (E:Value→Shared→Prop),tn i s.heap→Q (.ref it) s→wpAny (model P w) A (pyIter (.ref it)) Q E s
noncomputable abbrev TI:=St→Hp→(It→Hp→Prop)→Prop
noncomputable def PIE (X:Cx) (pins:List (Addr × Obj)) (σ:St) (tg:Expr) (R:It→Hp→Prop) (itv:Value) (s2:Shared):Prop :=
 ∃ (it:Addr) (fp:List Addr) (tn:Nat→Heap→Prop) (J:It) (H':Hp),itv=.ref it∧Inv X pins σ H' s2∧Turn X.prog X.w X.K tg J fp it tn∧tn 0 s2.heap∧(∀ b∈fp,FpOk X pins H' b)∧R J H'
noncomputable def PI (X:Cx) (tg iter:Expr) (wi:TI):Prop :=
 ∀ (pins:List (Addr × Obj)) (s:Shared) (σ:St) (H:Hp) (R:It→Hp→Prop),Inv X pins σ H s→wi σ H R →
  wpAny (model X.prog X.w) X.A (eval iter X.env) (λv s1=>wpAny (model X.prog X.w) X.A (pyIter v) (PIE X pins σ tg R) X.xe s1) X.xe s
theorem qd5 {M:Model} {A:Around} {E:Value→Shared→Prop} {s:Shared} {tg:Expr} {it:Addr} {u:Value} {o:Obj} {n:String} {vs:Array Value} {Q:Unit→Shared→Prop} (ho:s.heap.get? it=some o) (hc:o.cls=.type n) (hd:o.data=.fields vs)
  (hn:["enumerate","zip","dict_itemiterator","dict_reverseitemiterator","odict_iterator","itertools.zip_longest","itertools.pairwise"].contains n=false) (hQ:Q () s):wpAny M A (letOwnedTupleGo tg (.ref it) u) Q E s:=by
 unfold letOwnedTupleGo
 cases tg <;> first
  | exact wC hQ
  | (cases u <;> first
    | exact wC hQ
    | (refine wA (wpAny_load ho ?_)
       rw [hc,hd]
       show wpAny M A (if (["enumerate","zip","dict_itemiterator","dict_reverseitemiterator","odict_iterator","itertools.zip_longest","itertools.pairwise"].contains n&&vs[0]? == some (rawInt _))=true then _ else _) Q E s
       rw [wN (by intro h;rw [hn,Bool.false_and] at h;cases h)]
       exact wC hQ))
noncomputable def Itl (K:PySem.W.Frag) (a:Addr):It :=
 ⟨λi H=>∃ xs x,SqL K H a xs∧xs[i]?=some x,λi H x H'=>H'=H∧∀ xs,SqL K H a xs→xs[i]?=some x,λi H=>∃ xs,SqL K H a xs∧xs.length≤i⟩
noncomputable def Itt (K:PySem.W.Frag) (a:Addr):It :=
 ⟨λi H=>∃ xs x,SqT K H a xs∧xs[i]?=some x,λi H x H'=>H'=H∧∀ xs,SqT K H a xs→xs[i]?=some x,λi H=>∃ xs,SqT K H a xs∧xs.length≤i⟩
theorem qdq {P:Program} {w:World} {K:PySem.W.Frag} {tg:Expr} (a it:Addr):Turn P w K tg (Itl K a) [it] it (λi h=>h.IsListIter it a i) where
 mem:=by simp
 obj:=λi h st b hb=>by
  have e:b=it:=by simpa using hb
  subst e
  obtain ⟨o,e,c,d⟩:=st
  exact ⟨o,e,λv z=>by rw [d] at z;cases z⟩
 keep:=λi h h' st k=>st.at λo e=>k it (by simp) o e
 item:=by
  intro X hP hw hK hc i pins s σ H E I hf st hg
  subst hP hw hK
  obtain ⟨xs,x,hq,hx⟩:=hg
  obtain ⟨its,rv,p,hz⟩:=I.list hq
  obtain ⟨u,hu,ru⟩:=rv.get hx
  obtain ⟨f0,f1,f2,f3,f4,f5⟩:=hf it (by simp)
  refine wpAny_pyNext_list_item st p.isList (x:=u) (by simpa using hu) λh' st' sb=>?_
  have I1:Inv X pins σ H { s with heap:=h' }:=I.turned (t':=s.toks) (λb o hb e=>(sb.2 b hb).trans e) f0 f1 f3 f4 f5
  obtain ⟨o,e,c,d⟩:=id st'
  exact ⟨u,rfl,qd5 (s:={ s with heap:=h' }) e c d (by decide) ⟨x,H,I1,ru,⟨rfl,λys hy=>by rw [I.list_inj hy hq];exact hx⟩,st',λb hb=>(hf b hb).1⟩⟩
 done:=by
  intro X hP hw hK hc i pins s σ H E I hf st hg
  subst hP hw hK
  obtain ⟨xs,hq,hx⟩:=hg
  obtain ⟨its,rv,p,hz⟩:=I.list hq
  obtain ⟨f0,f1,f2,f3,f4,f5⟩:=hf it (by simp)
  have hl:=rv.length
  exact wpAny_pyNext_list_end (I.ok.hd hc) st p.isList (by simp;lia) λh' eb=>⟨rfl,I.turned (t':=s.toks) (λb o hb e=>eb b o hb e) f0 f1 f3 f4 f5⟩
 self:=λ_ _ _ _ _ st h=>wpAny_pyIter_listiter st h
theorem qbV {P:Program} {w:World} {K:PySem.W.Frag} {tg:Expr} (a it:Addr):Turn P w K tg (Itt K a) [it] it (λi h=>h.IsTupleIter it a i) where
 mem:=by simp
 obj:=λi h st b hb=>by
  have e:b=it:=by simpa using hb
  subst e
  obtain ⟨o,e,c,d⟩:=st
  exact ⟨o,e,λv z=>by rw [d] at z;cases z⟩
 keep:=λi h h' st k=>st.at λo e=>k it (by simp) o e
 item:=by
  intro X hP hw hK hc i pins s σ H E I hf st hg
  subst hP hw hK
  obtain ⟨xs,x,hq,hx⟩:=hg
  obtain ⟨its,rv,p,hz⟩:=I.tuple hq
  obtain ⟨u,hu,ru⟩:=rv.get hx
  obtain ⟨f0,f1,f2,f3,f4,f5⟩:=hf it (by simp)
  refine wpAny_pyNext_tuple_item st (show s.heap.IsTuple a its.toArray from p) (x:=u) (by simpa using hu) λh' st' sb=>?_
  have I1:Inv X pins σ H { s with heap:=h' }:=I.turned (t':=s.toks) (λb o hb e=>(sb.2 b hb).trans e) f0 f1 f3 f4 f5
  obtain ⟨o,e,c,d⟩:=id st'
  exact ⟨u,rfl,qd5 (s:={ s with heap:=h' }) e c d (by decide) ⟨x,H,I1,ru,⟨rfl,λys hy=>by rw [I.tuple_inj hy hq];exact hx⟩,st',λb hb=>(hf b hb).1⟩⟩
 done:=by
  intro X hP hw hK hc i pins s σ H E I hf st hg
  subst hP hw hK
  obtain ⟨xs,hq,hx⟩:=hg
  obtain ⟨its,rv,p,hz⟩:=I.tuple hq
  obtain ⟨f0,f1,f2,f3,f4,f5⟩:=hf it (by simp)
  have hl:=rv.length
  exact wpAny_pyNext_tuple_end (I.ok.hd hc) st (show s.heap.IsTuple a its.toArray from p) (by simp;lia) λh' eb=>⟨rfl,I.turned (t':=s.toks) (λb o hb e=>eb b o hb e) f0 f1 f3 f4 f5⟩
 self:=λ_ _ _ _ _ st h=>wpAny_pyIter_tupleiter st h
end L2
namespace L2
open PySem PySem.Spec PyProof.Rows
section
variable {X:Cx} {tg:Expr}
noncomputable def tFor (wi:TI) (g:TG) (tb:TS):TS:=λD σ H=>wi σ H λJ H1=>∃ W:Nat→Nat→St→Hp→Prop,(∃ m,W 0 m σ H1)∧∀ i m σ H,W i m σ H →
 (J.stop i H∧D.nx σ H)∨(J.go i H∧∃ N:St→Hp→Prop,(∀ σ' H',N σ' H'→∃ m',m'<m∧W (i+1) m' σ' H')∧∀ x H',J.yld i H x H'→g x σ H' λσ2 H2=>tb { D with nx:=N,ct:=N,bk:=D.nx } σ2 H2)
noncomputable def pinsAt (fp:List Addr) (h:Heap):List (Addr × Obj):=fp.filterMap λb=>(h.get? b).map λo=>(b,o)
theorem qX {fp:List Addr} {h:Heap} {b:Addr} {o:Obj} (hb:b∈fp) (e:h.get? b=some o):(b,o)∈pinsAt fp h:=List.mem_filterMap.mpr ⟨b,hb,by rw [e];rfl⟩
theorem qdr {fp:List Addr} {h:Heap} {p:Addr × Obj} (hp:p∈pinsAt fp h):p.1∈fp∧h.get? p.1=some p.2:=by
 obtain ⟨b,hb,e⟩:=List.mem_filterMap.mp hp
 cases q:h.get? b with
 | none=>rw [q] at e;cases e
 | some o =>
  rw [q] at e
  have e':(b,o)=p:=Option.some.inj e
  subst e'
  exact ⟨hb,q⟩
theorem Inv.pinned {pins:List (Addr × Obj)} {σ:St} {H:Hp} {s:Shared} {fp:List Addr} (I:Inv X pins σ H s) (hf:∀ b∈fp,FpOk X pins H b) (ho:∀ b∈fp,∃ o,s.heap.get? b=some o∧∀ v,o.data≠.cell v):Inv X (pins++pinsAt fp s.heap) σ H s :=
 I.pins_of λp hp=>(vO.mp hp).elim (λz=>I.pin p (wR _ z)) λz=>by
  obtain ⟨hb,e⟩:=qdr z
  obtain ⟨f0,f1,f2,_⟩:=hf p.1 hb
  obtain ⟨o,e',d⟩:=ho p.1 hb
  rw [e] at e';cases e'
  exact ⟨e,f0,f1,f2,d⟩
theorem Inv.unpinned {pins pl:List (Addr × Obj)} {σ:St} {H:Hp} {s:Shared} (I:Inv X (pins++pl) σ H s):Inv X pins σ H s:=I.pins_of λp hp=>I.pin p (wR _ (wu _ hp))
theorem qic {iter:Expr} {body:List Stmt} {wi:TI} {g:TG} {tb:TS} {pos:Pos} (hp:PassesOwn (model X.prog X.w) X.A X.env X.xe) (hc:X.calm=true) (hi:PI X tg iter wi) (hg:PG X tg g) (hb:PSs X body tb)
  (hs:∀ x,foldedSetIterable iter X.env x=pure x:=by intro _;rfl):PS X (.For tg iter body [] pos) (tFor wi g tb):=by
 intro pins s σ H D I h
 refine wpAny_For (thn (hi pins s σ H _ I h) λv s1 h1=>thn h1 λitv s2 h2=>?_) hs
 obtain ⟨it,fp,tn,J,H2,e,I2,T,st2,f2,W,⟨m0,w0⟩,turn⟩:=h2
 subst e
 have stat:∀ {H':Hp},(∀ b∈fp,H' b=none)→∀ b∈fp,FpOk X pins H' b:=λhn b hb=>⟨hn b hb,(f2 b hb).2⟩
 refine codeAny_forLoop_any (λn s'=>∃ i σ' H',Inv X pins σ' H' s'∧tn i s'.heap∧(∀ b∈fp,H' b=none)∧W i n σ' H') ?_ m0 ⟨0,σ,H2,I2,st2,λb hb=>(f2 b hb).1,w0⟩
 rintro n s3 ⟨i,σ3,H3,I3,st3,fr3,w3⟩
 rcases turn i n σ3 H3 w3 with ⟨stop,qn⟩ | ⟨go,N,hN,step⟩
 ·refine wpAny_passesOwn hp (thn (T.done X rfl rfl rfl hc i pins s3 σ3 H3 X.xe I3 (stat fr3) st3 stop) λr s4 ⟨hr,I4⟩=>?_)
  subst hr
  exact wpAny_execs_nil ⟨σ3,H3,I4,qn⟩
 ·refine wpAny_passesOwn hp (thn (T.item X rfl rfl rfl hc i pins s3 σ3 H3 X.xe I3 (stat fr3) st3 go) λr s4 ⟨u,hr,h4⟩=>?_)
  subst hr
  refine wpAny_passesOwn hp (thn h4 λ_ s5 ⟨x,H5,I5,r5,y5,st5,fr5⟩=>?_)
  have I5':=I5.pinned (stat fr5) (T.obj _ _ st5)
  refine wpAny_passesOwn hp (thn (hg _ s5 σ3 H5 x u _ I5' r5 (step x H5 y5)) λ_ s6 ⟨σ6,H6,I6,q6⟩=>?_)
  refine wpAny_passesOwn hp (thn (hb _ s6 σ6 H6 _ I6 q6) λf s7 q7=>?_)
  have again:∀ {σ7:St} {H7:Hp},Inv X (pins++pinsAt fp s5.heap) σ7 H7 s7→N σ7 H7→∃ m,m<n∧∃ i σ' H',Inv X pins σ' H' s7∧tn i s7.heap∧(∀ b∈fp,H' b=none)∧W i m σ' H':=λ{σ7 H7} I7 n7=>by
   obtain ⟨m',hm,w7⟩:=hN σ7 H7 n7
   refine ⟨m',hm,i+1,σ7,H7,I7.unpinned,T.keep _ _ _ st5 λb hb o e=>(I7.pin (b,o) (wR _ (wR _ (qX hb e)))).1,λb hb=>?_,w7⟩
   obtain ⟨o,e,d⟩:=T.obj _ _ st5 b hb
   exact (I7.pin (b,o) (wR _ (wR _ (qX hb e)))).2.1
  cases f with
  | next=>obtain ⟨σ7,H7,I7,n7⟩:=q7;exact again I7 n7
  | cont=>obtain ⟨σ7,H7,I7,n7⟩:=q7;exact again I7 n7
  | brk=>obtain ⟨σ7,H7,I7,q7⟩:=q7;exact ⟨σ7,H7,I7.unpinned,q7⟩
  | ret v=>obtain ⟨x7,σ7,H7,I7,r7,q7⟩:=q7;exact ⟨x7,σ7,H7,I7.unpinned,r7,q7⟩
end
end L2
namespace L2
open PySem PySem.Spec PyProof.Rows
noncomputable abbrev R2:=V→V→Hp→VK→Prop
noncomputable def OpR (X:Cx) (f:Value→Value→Sem Value) (r:R2):Prop :=
 ∀ (pins:List (Addr × Obj)) (s:Shared) (σ:St) (H:Hp) (x y:V) (v u:Value) (Q:VK),Inv X pins σ H s→RelV x v→RelV y u→r x y H Q →
  wpAny (model X.prog X.w) X.A (f v u) (EP X pins σ Q) X.xe s
noncomputable def UnR (X:Cx) (f:Value→Sem Value) (r:V→Hp→VK→Prop):Prop :=
 ∀ (pins:List (Addr × Obj)) (s:Shared) (σ:St) (H:Hp) (x:V) (v:Value) (Q:VK),Inv X pins σ H s→RelV x v→r x H Q →
  wpAny (model X.prog X.w) X.A (f v) (EP X pins σ Q) X.xe s
noncomputable def CallR (X:Cx) (f:Value) (r:List V→Hp→VK→Prop):Prop :=
 ∀ (pins:List (Addr × Obj)) (s:Shared) (σ:St) (H:Hp) (xs:List V) (us:List Value) (Q:VK),Inv X pins σ H s→Vals xs us→r xs H Q →
  wpAny (model X.prog X.w) X.A (call f us) (EP X pins σ Q) X.xe s
noncomputable def TruR (X:Cx) (r:V→Hp→(Bool→Hp→Prop)→Prop):Prop :=
 ∀ (pins:List (Addr × Obj)) (s:Shared) (σ:St) (H:Hp) (x:V) (v:Value) (Q:Bool→Hp→Prop),Inv X pins σ H s→RelV x v→r x H Q →
  wpAny (model X.prog X.w) X.A (truthy v) (TP X pins σ Q) X.xe s
noncomputable def tOp (r:R2) (ta tb:TE):TE:=λσ H Q=>ta σ H λx H1=>tb σ H1 λy H2=>r x y H2 Q
noncomputable def tUn (r:V→Hp→VK→Prop) (ta:TE):TE:=λσ H Q=>ta σ H λx H1=>r x H1 Q
noncomputable def rI (C:Int→Int→Prop) (g:Int→Int→V):R2:=λx y H Q=>∃ i j,x=.int i∧y=.int j∧C i j∧Q (g i j) H
noncomputable def rI0 (g:Int→Int→V):R2:=λx y H Q=>∃ i j,x=.int i∧y=.int j∧Q (g i j) H
noncomputable def rU (g:Int→V):V→Hp→VK→Prop:=λx H Q=>∃ i,x=.int i∧Q (g i) H
section
variable {X:Cx} {a b c:Expr} {ta tb tc:TE} {pos:Pos}
theorem binT (ha:PE X a ta) (hb:PE X b tb) {pins:List (Addr × Obj)} {s:Shared} {σ:St} {H:Hp} {R:V→V→Hp→Prop} (I:Inv X pins σ H s)
  (h:ta σ H λx H1=>tb σ H1 λy H2=>R x y H2) {Q:Value→Shared→Prop} {f:Value→Value→Sem Value}
  (hf:∀ v u s2 x y H2,Inv X pins σ H2 s2→RelV x v→RelV y u→R x y H2→wpAny (model X.prog X.w) X.A (f v u) Q X.xe s2) :
  wpAny (model X.prog X.w) X.A (eval a X.env) (λv s₁=>wpAny (model X.prog X.w) X.A (eval b X.env) (λu s₂=>wpAny (model X.prog X.w) X.A (f v u) Q X.xe s₂) X.xe s₁) X.xe s:=by
 refine thn (ha pins s σ H _ I h) λv s1 ⟨x,H1,I1,r1,q1⟩=>?_
 refine thn (hb pins s1 σ H1 _ I1 q1) λu s2 ⟨y,H2,I2,r2,q2⟩=>?_
 exact hf v u s2 x y H2 I2 r1 r2 q2
theorem qjw {op:Operator} {r:R2} (ho:OpR X (binaryOp op) r) (ha:PE X a ta) (hb:PE X b tb):PE X (.BinOp a op b pos) (tOp r ta tb):=by
 intro pins s σ H Q I h
 exact wpAny_BinOp (binT ha hb I h λv u s2 x y H2 I2 rx ry q=>ho pins s2 σ H2 x y v u Q I2 rx ry q)
theorem qjx {op:UnaryOp} {r:V→Hp→VK→Prop} (ho:UnR X (unaryOp op) r) (ha:PE X a ta):PE X (.UnaryOp op a pos) (tUn r ta):=by
 intro pins s σ H Q I h
 exact UnaryOp_ (thn (ha pins s σ H _ I h) λv s1 ⟨x,H1,I1,r1,q1⟩=>ho pins s1 σ H1 x v Q I1 r1 q1)
theorem opI {f:Value→Value→Sem Value} {C:Int→Int→Prop} {g:Int→Int→Int}
  (rule:∀ (i j:Int) (t u:Tok) (s:Shared) (Q:Value→Shared→Prop) (E:Value→Shared→Prop),C i j→Q (.int (g i j) s.toks) { s with toks:=s.toks+1 }→wpAny (model X.prog X.w) X.A (f (.int i t) (.int j u)) Q E s) :
  OpR X f (rI C λi j=>.int (g i j)):=by
 intro pins s σ H x y v u Q I rx ry h
 obtain ⟨i,j,rfl,rfl,hc,q⟩:=h
 obtain ⟨t,rfl⟩:=rx
 obtain ⟨t',rfl⟩:=ry
 exact rule i j t t' s _ _ hc ⟨.int (g i j),H,I.tok _,⟨_,rfl⟩,q⟩
theorem opB0 {f:Value→Value→Sem Value} {g:Int→Int→Bool}
  (rule:∀ (i j:Int) (t u:Tok) (s:Shared) (Q:Value→Shared→Prop) (E:Value→Shared→Prop),Q (.bool (g i j)) s→wpAny (model X.prog X.w) X.A (f (.int i t) (.int j u)) Q E s) :
  OpR X f (rI0 λi j=>.bl (g i j)):=by
 intro pins s σ H x y v u Q I rx ry h
 obtain ⟨i,j,rfl,rfl,q⟩:=h
 obtain ⟨t,rfl⟩:=rx
 obtain ⟨t',rfl⟩:=ry
 exact rule i j t t' s _ _ ⟨.bl (g i j),H,I,rfl,q⟩
theorem qbW (k:Nat):(0:Int)≤2^k:=by
 rw [two_pow_cast]
 exact Int.natCast_nonneg _
theorem qid:OpR X (binaryOp .RShift) (rI (λ_ j=>0≤j) λi j=>.int (i / 2^j.toNat)):=opI λi j _ _ _ _ _ hc q =>
 rshift_int hc (by rw [Int.fdiv_eq_ediv_of_nonneg i (qbW _)];exact q)
theorem unI {f:Value→Sem Value} {g:Int→Int}
  (rule:∀ (i:Int) (t:Tok) (s:Shared) (Q:Value→Shared→Prop) (E:Value→Shared→Prop),Q (.int (g i) s.toks) { s with toks:=s.toks+1 }→wpAny (model X.prog X.w) X.A (f (.int i t)) Q E s) :
  UnR X f (rU λi=>.int (g i)):=by
 intro pins s σ H x v Q I rx h
 obtain ⟨i,rfl,q⟩:=h
 obtain ⟨t,rfl⟩:=rx
 exact rule i t s _ _ ⟨.int (g i),H,I.tok _,⟨_,rfl⟩,q⟩
theorem qie:UnR X (unaryOp .USub) (rU λi=>.int (-i)):=unI λ_ _ _ _ _ q=>neg_int q
end
section
variable {X:Cx} {a b c:Expr} {ta tb tc:TE} {pos:Pos}
theorem qd6 {pins:List (Addr × Obj)} {σ:St} {H:Hp} {s:Shared} {Q:VK} {k k':Bool} (I:Inv X pins σ H s) (q:Q (.bl k) H) (e:k=k'):EP X pins σ Q (.bool k') s:=by
 subst e
 exact ⟨.bl k,H,I,rfl,q⟩
theorem qjy:OpR X (compareOp .Lt) (rI0 λi j=>.bl (decide (i<j))):=opB0 λ_ _ _ _ _ _ _ q=>lt_int q
theorem qjz:OpR X (compareOp .LtE) (rI0 λi j=>.bl (decide (i≤j))):=opB0 λ_ _ _ _ _ _ _ q=>le_int q
theorem qjA:OpR X (compareOp .Gt) (rI0 λi j=>.bl (decide (j<i))):=opB0 λ_ _ _ _ _ _ _ q=>gt_int q
theorem qjB:OpR X (compareOp .GtE) (rI0 λi j=>.bl (decide (j≤i))):=opB0 λ_ _ _ _ _ _ _ q=>ge_int q
theorem qif:OpR X (compareOp .Is) (λx y H Q=>y=.non∧Q (.bl (decide (x=.non))) H):=by
 intro pins s σ H x y v u Q I rx ry h
 obtain ⟨rfl,q⟩:=h
 cases ry
 refine is_none_gen (qd6 I q ?_)
 cases x <;> first
  | (cases rx;rfl)
  | (obtain ⟨t,rfl⟩:=rx;rfl)
theorem qgn:OpR X (compareOp .IsNot) (λx y H Q=>y=.non∧Q (.bl (!decide (x=.non))) H):=by
 intro pins s σ H x y v u Q I rx ry h
 obtain ⟨rfl,q⟩:=h
 cases ry
 refine isnot_none_gen (qd6 I q ?_)
 cases x <;> first
  | (cases rx;rfl)
  | (obtain ⟨t,rfl⟩:=rx;rfl)
theorem qgo {op:CmpOp} {r:R2} (ho:OpR X (compareOp op) r) (ha:PE X a ta) (hb:PE X b tb) (hm:behindInMarks op b=false):PE X (.Compare a [op] [b] pos) (tOp r ta tb):=by
 intro pins s σ H Q I h
 exact wpAny_Compare1 (binT ha hb I h λv u s2 x y H2 I2 rx ry q=>ho pins s2 σ H2 x y v u Q I2 rx ry q) hm
noncomputable def tTest (t:TE):TT:=λσ H Q=>t σ H λx H'=>∃ k,x=.bl k∧Q k H'
theorem qgp {op:CmpOp} {r:R2} (ho:OpR X (compareOp op) r) (ha:PE X a ta) (hb:PE X b tb) (hm:behindInMarks op b=false):PT X (.Compare a [op] [b] pos) (tTest (tOp r ta tb)):=by
 intro pins s σ H Q I h
 refine wpAny_isTrue_Compare1 (thn (ha pins s σ H _ I h) λv s1 ⟨x,H1,I1,r1,q1⟩=>thn (hb pins s1 σ H1 _ I1 q1) λu s2 ⟨y,H2,I2,r2,q2⟩ =>
  thn (ho pins s2 σ H2 x y v u _ I2 r1 r2 q2) λc s3 ⟨z,H3,I3,r3,k,e,q3⟩=>?_) hm
 subst e
 cases r3
 exact vD ⟨H3,I3,q3⟩
noncomputable def tChain (r r':R2) (ta tb tc:TE):TE:=λσ H Q=>ta σ H λx H1=>tb σ H1 λy H2=>r x y H2 λz H3=>∃ k,z=.bl k ∧
 (if k=true then tc σ H3 λw' H4=>r' y w' H4 Q else Q (.bl false) H3)
theorem qd7 {op op':CmpOp} {r r':R2} (ho:OpR X (compareOp op) r) (ho':OpR X (compareOp op') r') (ha:PE X a ta) (hb:PE X b tb) (hc:PE X c tc)
  (hm:lastMarks [op,op'] [b,c]=false:=by with_unfolding_all rfl):PE X (.Compare a [op,op'] [b,c] pos) (tChain r r' ta tb tc):=by
 intro pins s σ H Q I h
 refine Compare_chain (thn (ha pins s σ H _ I h) λv s1 ⟨x,H1,I1,r1,q1⟩=>chain_link (thn (hb pins s1 σ H1 _ I1 q1) λu s2 ⟨y,H2,I2,r2,q2⟩ =>
  thn (ho pins s2 σ H2 x y v u _ I2 r1 r2 q2) λd s3 ⟨z,H3,I3,r3,k,e,q3⟩=>?_)) hm
 subst e
 cases r3
 refine vD ?_
 cases k with
 | false=>exact ite_ff ⟨.bl false,H3,I3,rfl,q3⟩
 | true=>exact ite_tt (chain_last (thn (hc pins s3 σ H3 _ I3 q3) λw' s4 ⟨z',H4,I4,r4,q4⟩=>ho' pins s4 σ H4 y z' u w' Q I4 r2 r4 q4))
theorem qd8 {op op':CmpOp} {r r':R2} (ho:OpR X (compareOp op) r) (ho':OpR X (compareOp op') r') (ha:PE X a ta) (hb:PE X b tb) (hc:PE X c tc)
  (hm:lastMarks [op,op'] [b,c]=false:=by with_unfolding_all rfl):PT X (.Compare a [op,op'] [b,c] pos) (tTest (tChain r r' ta tb tc)):=by
 intro pins s σ H Q I h
 refine isTrue_chain (thn (ha pins s σ H _ I h) λv s1 ⟨x,H1,I1,r1,q1⟩=>test_link (thn (hb pins s1 σ H1 _ I1 q1) λu s2 ⟨y,H2,I2,r2,q2⟩ =>
  thn (ho pins s2 σ H2 x y v u _ I2 r1 r2 q2) λd s3 ⟨z,H3,I3,r3,k,e,q3⟩=>?_)) hm
 subst e
 cases r3
 refine vD ?_
 cases k with
 | false =>
  obtain ⟨k',e',q'⟩:=q3
  cases e'
  exact ite_ff ⟨H3,I3,q'⟩
 | true =>
  refine ite_tt (test_last (thn (hc pins s3 σ H3 _ I3 q3) λw' s4 ⟨z',H4,I4,r4,q4⟩=>thn (ho' pins s4 σ H4 y z' u w' _ I4 r2 r4 q4) λd' s5 ⟨z2,H5,I5,r5,k2,e2,q5⟩=>?_))
  subst e2
  cases r5
  exact vD ⟨H5,I5,q5⟩
noncomputable def TruV (K:PySem.W.Frag) (x:V) (H:Hp) (k:Bool):Prop :=
 match x with
 | .non=>k=false
 | .bl b=>k=b
 | .int i=>k=(i != 0)
 | .str y=>y.length≤sizeLine∧k=((y.length:Int) != 0)
 | .byt y=>y.size≤sizeLine∧k=((y.size:Int) != 0)
 | .ref p=>(∃ xs,SqL K H p xs∧k=!xs.isEmpty)∨(∃ xs,SqT K H p xs∧k=!xs.isEmpty)∨∃ kvs,H p=some (.dK kvs)∧k=!kvs.isEmpty
 | _=>False
theorem qbX {κ:Type} {kvs:List (κ × V)} {vs:List (κ × Value)} (r:KV kvs vs):(!vs.isEmpty)=!kvs.isEmpty:=by
 cases r <;> rfl
theorem jl {xs:List V} {its:List Value} (r:Vals xs its):(!its.toArray.isEmpty)=!xs.isEmpty:=by
 cases r <;> simp
theorem line63:(sizeLine:Nat)<2^63:=by rw [vF];decide
theorem qig:TruR X (λx H Q=>∃ k,TruV X.K x H k∧Q k H):=by
 intro pins s σ H x v Q I rx h
 obtain ⟨k,e,q⟩:=h
 have hl:=line63
 have hs:sizeLine=16777216:=vF
 cases x with
 | non =>
  cases rx
  have e':k=false:=e
  subst e'
  exact truthy_none ⟨H,I,q⟩
 | bl b =>
  cases rx
  have e':k=b:=e
  subst e'
  exact vD ⟨H,I,q⟩
 | int i =>
  obtain ⟨t,rfl⟩:=rx
  have e':k=(i != 0):=e
  subst e'
  exact PySem.P.truthy_int ⟨H,I,q⟩
 | str y =>
  obtain ⟨t,rfl⟩:=rx
  obtain ⟨hy,e'⟩:y.length≤sizeLine∧k=((y.length:Int) != 0):=e
  subst e'
  exact PySem.P.truthy_str (by lia) ⟨H,I.tok _,q⟩
 | byt y =>
  obtain ⟨t,rfl⟩:=rx
  obtain ⟨hy,e'⟩:y.size≤sizeLine∧k=((y.size:Int) != 0):=e
  subst e'
  exact PySem.W.truthy_bytes (by lia) ⟨H,I.tok _,q⟩
 | ref p =>
  cases rx
  have e':(∃ xs,SqL X.K H p xs∧k=!xs.isEmpty)∨(∃ xs,SqT X.K H p xs∧k=!xs.isEmpty)∨∃ kvs,H p=some (.dK kvs)∧k=!kvs.isEmpty:=e
  rcases e' with ⟨xs,hx,e'⟩ | ⟨xs,hx,e'⟩ | ⟨kvs,hx,e'⟩
  ·subst e'
   obtain ⟨its,r,pl,hz⟩:=I.list hx
   have hlen:=r.length
   exact wpAny_truthy_list pl.isList (by simp only [wH];lia) ⟨H,I.tok _,by rw [jl r];exact q⟩
  ·subst e'
   obtain ⟨its,r,pl,hz⟩:=I.tuple hx
   have hlen:=r.length
   exact truthy_tuple pl (by simp only [wH];lia) ⟨H,I.tok _,by rw [jl r];exact q⟩
  ·subst e'
   obtain ⟨hz,hS,vs,r,m⟩:kvs.length≤sizeLine∧(p == sysModules)=false∧∃ vs,KV kvs vs∧s.heap.DictOf (mixKind X.prog X.w) p vs:=I.hok p _ hx
   have hlen:kvs.length=vs.length:=Paired.length r
   exact wpAny_truthy_dict hS m (by lia) ⟨H,I.tok _,by rw [qbX r];exact q⟩
 | _=>exact (show False from e).elim
theorem qd9 (ha:PE X a ta) (he:∀ whole,isTrue a X.env whole=(do let v ← whole;standAt a.pos;holding [v] (truthy v))) :
  PT X a (λσ H Q=>ta σ H λx H'=>∃ k,TruV X.K x H' k∧Q k H'):=by
 intro pins s σ H Q I h
 exact isTrue_plain (thn (ha pins s σ H _ I h) λv s1 ⟨x,H1,I1,r1,q1⟩=>qig pins s1 σ H1 x v Q I1 r1 q1) (he _)
theorem qbY:OpR X (binaryOp .Add) (λx y H Q=>∃ i j,x=.str i∧y=.str j∧i.length+j.length≤sizeLine∧Q (.str (i++j)) H):=by
 intro pins s σ H x y v u Q I rx ry h
 obtain ⟨i,j,rfl,rfl,hz,q⟩:=h
 obtain ⟨t,rfl⟩:=rx
 obtain ⟨t',rfl⟩:=ry
 exact add_str (λt' tk=>⟨.str (i++j),H,I.tok _,⟨_,rfl⟩,q⟩) hz
theorem vals1 {x:V} {us:List Value} (r:Vals [x] us):∃ u,us=[u]∧RelV x u:=by
 cases r with
 | cons r1 r2=>cases r2;exact ⟨_,rfl,r1⟩
theorem vals2 {x y:V} {us:List Value} (r:Vals [x,y] us):∃ u w',us=[u,w']∧RelV x u∧RelV y w':=by
 cases r with
 | cons r1 r2 =>
  cases r2 with
  | cons r3 r4=>cases r4;exact ⟨_,_,rfl,r1,r3⟩
theorem qea:CallR X (.builtin "abs") (λxs H Q=>∃ i,xs=[.int i]∧Q (.int (if i<0 then -i else i)) H):=by
 intro pins s σ H xs us Q I r h
 obtain ⟨i,rfl,q⟩:=h
 obtain ⟨u,rfl,t,rfl⟩:=vals1 r
 exact call_abs_int λu tk=>⟨.int (if i<0 then -i else i),H,I.tok _,⟨_,rfl⟩,q⟩
theorem qds (hc:X.calm=true):CallR X (.builtin "min") (λxs H Q=>∃ i j,xs=[.int i,.int j]∧Q (.int (if j<i then j else i)) H):=by
 intro pins s σ H xs us Q I r h
 obtain ⟨i,j,rfl,q⟩:=h
 obtain ⟨u,w',rfl,⟨t,rfl⟩,⟨t',rfl⟩⟩:=vals2 r
 refine min_two_ints (I.ok.hd hc) λh' tk k=>⟨_,H,I.kept k,?_,q⟩
 by_cases hj:j<i
 ·rw [wL hj,wL hj];exact ⟨_,rfl⟩
 ·rw [wN hj,wN hj];exact ⟨_,rfl⟩
noncomputable def LenV (K:PySem.W.Frag) (x:V) (H:Hp) (n:Nat):Prop :=
 match x with
 | .str y=>y.length≤sizeLine∧n=y.length
 | .byt y=>y.size≤sizeLine∧n=y.size
 | .ref p=>(∃ xs,SqL K H p xs∧n=xs.length)∨∃ xs,SqT K H p xs∧n=xs.length
 | _=>False
theorem qeb:CallR X (.builtin "len") (λxs H Q=>∃ x n,xs=[x]∧LenV X.K x H n∧Q (.int n) H):=by
 intro pins s σ H xs us Q I r h
 obtain ⟨x,n,rfl,e,q⟩:=h
 obtain ⟨u,rfl,rx⟩:=vals1 r
 have hl:=line63
 have hs:sizeLine=16777216:=vF
 cases x with
 | str y =>
  obtain ⟨t,rfl⟩:=rx
  obtain ⟨hy,e'⟩:y.length≤sizeLine∧n=y.length:=e
  subst e'
  exact len_str (by lia) ⟨.int _,H,I.tok _,⟨_,rfl⟩,q⟩
 | byt y =>
  obtain ⟨t,rfl⟩:=rx
  obtain ⟨hy,e'⟩:y.size≤sizeLine∧n=y.size:=e
  subst e'
  exact PySem.W.len_bytes (by lia) ⟨.int _,H,I.tok _,⟨_,rfl⟩,q⟩
 | ref p =>
  cases rx
  have e':(∃ xs,SqL X.K H p xs∧n=xs.length)∨∃ xs,SqT X.K H p xs∧n=xs.length:=e
  rcases e' with ⟨xs,hx,e'⟩ | ⟨xs,hx,e'⟩
  ·subst e'
   obtain ⟨its,r',pl,hz⟩:=I.list hx
   have hlen:=r'.length
   exact Calls.call_len_list pl.isList (by simp only [wH];lia) ⟨.int xs.length,H,I.tok _,⟨_,by simp only [wH];rw [hlen]⟩,q⟩
  ·subst e'
   obtain ⟨its,r',pl,hz⟩:=I.tuple hx
   have hlen:=r'.length
   exact len_tuple pl (by simp only [wH];lia) ⟨.int xs.length,H,I.tok _,⟨_,by simp only [wH];rw [hlen]⟩,q⟩
 | _=>exact (show False from e).elim
end
end L2
namespace L2
open PySem PySem.Spec PyProof.Rows
structure ObjM (h:Heap) (x dx C:Addr) (mA:Str→Option Value):Prop where
 obj:h.get? x=some (PySem.W.instObj C dx)
 ns:h.Ns1 dx mA
 ne:dx≠x
theorem qdt {h:Heap} {dx:Addr} {mA:Str→Option Value} (n:h.Ns1 dx mA):∃ od,h.get? dx=some od∧∀ name,PySem.W.lookIn name od=some (mA name):=by
 obtain ⟨o,es,ep,ho,hd,hk,_,hm⟩:=n
 refine ⟨o,ho,λname=>?_⟩
 have e:=hm name
 unfold nsFind findBy at e
 rw [← Array.find?_toList] at e
 unfold PySem.W.lookIn
 rw [hd]
 dsimp only
 split
 ·rename_i y q
  rw [q] at e
  exact congrArg some e
 ·rename_i q
  rw [q] at e
  have a:es.toList.any (·.refKey)=false:=by
   rw [List.any_eq_false]
   intro y hy
   obtain ⟨z,t,hkey⟩:=hk y (Array.mem_toList_iff.mp hy)
   simp [DictEntry.refKey,hkey]
  have a':¬ es.toList.any (·.refKey)=true:=by rw [a];exact wT
  rw [wN a']
  exact congrArg some e
theorem ObjM.look {h:Heap} {x dx C:Addr} {mA:Str→Option Value} (I:ObjM h x dx C mA):∃ od,PySem.W.InstAt h x (PySem.W.instObj C dx) C (some od)∧∀ name,PySem.W.lookIn name od=some (mA name) :=
 let ⟨od,ho,hl⟩:=qdt I.ns
 ⟨od,⟨I.obj,rfl,rfl,ho⟩,hl⟩
theorem RelO.some_of {v:V} {o:Option Value} (r:RelO (some v) o):∃ u,o=some u∧RelV v u:=by
 cases o with
 | none=>exact (show False from r).elim
 | some u=>exact ⟨u,rfl,r⟩
section
variable {P:Program} {w:World} {H H':Hp} {h h':Heap} {a C dx:Addr} {fs fs':List (Str × V)}
theorem qgq (hok:HOk P w H h) (e:H a=some (.ins C dx fs)):∃ mA,ObjM h a dx C mA∧(∀ f,RelO (fs.lookup f) (mA f))∧PySem.Within mA (fs.map (·.1))∧fs.length≤1000∧H dx=some (.own a):=by
 obtain ⟨d,z,ne,ob,mA,n,r,q⟩:=(show ObjOk P w H h a (.ins C dx fs) from hok a _ e)
 exact ⟨mA,⟨ob,n,ne⟩,r,q,z,d⟩
end
structure Cls (K:PySem.W.Frag) (C:Addr):Prop where
 pg:PySem.W.plainGet K C Str.empty=true
 hd:PySem.W.hasDictIn K C=true
 po:PySem.W.plainOver K C=true
 sa:PySem.W.findIn K (.ref C) "__setattr__"=some (some (.builtin "object.__setattr__"))
theorem Cls.get {K:PySem.W.Frag} {C:Addr} (c:Cls K C) (f:Str):PySem.W.plainGet K C f=true:=c.pg
section
variable {X:Cx} {pins:List (Addr × Obj)} {σ:St} {H:Hp} {s:Shared} {A:Around} {E:Value→Shared→Prop} {Q:Value→Shared→Prop} {c:Value} {b:Bool}
inductive TyOf (K:PySem.W.Frag) (H:Hp):V→Value→Prop where
 | non:TyOf K H .non (.type "NoneType")
 | bl (x:Bool):TyOf K H (.bl x) (.type "bool")
 | int (i:Int):TyOf K H (.int i) (.type "int")
 | str (x:Str):TyOf K H (.str x) (.type "str")
 | flt (x:UInt64):TyOf K H (.flt x) (.type "float")
 | lst {a:Addr} {xs:List V} (e:H a=some (.lst xs)):TyOf K H (.ref a) (.type "list")
 | frz {a:Addr} {o:Obj} {xs:List V} (e:H a=some (.frz o (.lst xs))):TyOf K H (.ref a) (.type "list")
 | tup {a:Addr} {xs:List V} (e:H a=some (.tup xs)):TyOf K H (.ref a) (.type "tuple")
 | dK {a:Addr} {kvs:List (Key × V)} (e:H a=some (.dK kvs)):TyOf K H (.ref a) (.type "dict")
 | dT {a:Addr} {kvs:List (List Key × V)} (e:H a=some (.dT kvs)):TyOf K H (.ref a) (.type "dict")
 | ins {a C dx:Addr} {fs:List (Str × V)} (e:H a=some (.ins C dx fs)) (cl:Cls K C) (ha:PySem.W.findIn K (.ref C) "__class__"=some (some (.builtin "object.__class__")))
   (hn:PySem.W.specialIn K (.builtin "object.__class__") "__get__"=some (some (.builtin "getset_descriptor.__get__"))) (htk:PySem.W.takesIn K (.builtin "object.__class__")=some true)
   (hm:PySem.W.mroIn K C (.type "object")=some true):TyOf K H (.ref a) (.ref C)
theorem qdu {x:V} {u t:Value} (I:Inv X pins σ H s) (rx:RelV x u) (ty:TyOf X.K H x t) (e:PySem.W.kitOne X.K t c=some b) (h:∀ tk,Q (.bool b) { s with toks:=tk }) :
  wpAny (model X.prog X.w) A (call (.builtin "isinstance") [u,c]) Q E s:=by
 cases ty with
 | non=>cases (show u=Value.none from rx);exact vA PySem.W.kitx_none I.kIn True.intro e (λz=>nomatch z) h
 | bl y=>cases (show u=Value.bool y from rx);exact vA PySem.W.kitx_bool I.kIn True.intro e (λz=>nomatch z) h
 | int i=>obtain ⟨t,q⟩:=(show ∃ t,u=Value.int i t from rx);cases q;exact vA PySem.W.kitx_int I.kIn True.intro e (λz=>nomatch z) h
 | str y=>obtain ⟨t,q⟩:=(show ∃ t,u=Value.str y t from rx);cases q;exact vA PySem.W.kitx_str I.kIn True.intro e (λz=>nomatch z) h
 | flt y=>obtain ⟨t,q⟩:=(show ∃ t,u=Value.float y t from rx);cases q;exact vA PySem.W.kitx_float I.kIn True.intro e (λz=>nomatch z) h
 | @lst a xs ea =>
  cases (show u=Value.ref a from rx)
  obtain ⟨_,_,n,_,h1⟩:=(show ObjOk X.prog X.w H s.heap a (.lst xs) from I.hok a _ ea)
  exact vA PySem.W.kitx_list I.kIn ⟨_,h1,rfl⟩ e (λz=>nomatch z) h
 | @frz a ob xs ea =>
  cases (show u=Value.ref a from rx)
  obtain ⟨_,_,_,n,_,h1⟩:=(show ObjOk X.prog X.w H s.heap a (.frz ob (.lst xs)) from I.hok a _ ea)
  exact vA PySem.W.kitx_list I.kIn ⟨_,h1,rfl⟩ e (λz=>nomatch z) h
 | @tup a xs ea =>
  cases (show u=Value.ref a from rx)
  obtain ⟨_,_,_,p⟩:=(show ObjOk X.prog X.w H s.heap a (.tup xs) from I.hok a _ ea)
  obtain ⟨o,h1,h2,_⟩:=p
  exact vA PySem.W.kitx_tuple I.kIn ⟨o,h1,h2⟩ e (λz=>nomatch z) h
 | @dK a kvs ea =>
  cases (show u=Value.ref a from rx)
  obtain ⟨_,_,vs,_,p⟩:=(show ObjOk X.prog X.w H s.heap a (.dK kvs) from I.hok a _ ea)
  obtain ⟨o,es,ep,h1,h2,_⟩:=p
  exact vA PySem.W.kitx_dict I.kIn ⟨o,h1,h2.1⟩ e (λz=>nomatch z) h
 | @dT a kvs ea =>
  cases (show u=Value.ref a from rx)
  obtain ⟨_,_,xs,_,o,es,ep,h1,h2,_⟩:=(show ObjOk X.prog X.w H s.heap a (.dT kvs) from I.hok a _ ea)
  exact vA PySem.W.kitx_dict I.kIn ⟨o,h1,h2.1⟩ e (λz=>nomatch z) h
 | @ins a C dx fs ea cl ha hn htk hm =>
  cases (show u=Value.ref a from rx)
  obtain ⟨mA,O,_⟩:=qgq I.hok ea
  obtain ⟨od,J,_⟩:=O.look
  exact vA (PySem.W.kitx_own (cl.get _) cl.hd ha hn htk hm) I.kIn J e (λz=>nomatch z) h
end
end L2
namespace L2
open PySem PySem.Spec PyProof.Rows
structure Room (k:Nat) (A:Around):Prop where
 hd:A.handled=none
 dp:A.depth+3*k+5<recursionLimit
 un:A.units+16*k+200<cLine
theorem Room.mono {j k:Nat} {A:Around} (r:Room k A) (h:j≤k):Room j A:=⟨r.hd,by have:=r.dp;lia,by have:=r.un;lia⟩
theorem Room.deeper {k:Nat} {A:Around} (r:Room (k+1) A) (env:Env):Room k (A.deeper env) :=
 ⟨r.hd,by have:=r.dp;show A.depth+1+3*k+5<_;lia,by have:=r.un;show A.units+3+16*k+200<_;lia⟩
theorem Room.depth {k:Nat} {A:Around} (r:Room k A):A.depth<recursionLimit:=by have:=r.dp;lia
theorem Room.units {k:Nat} {A:Around} (r:Room k A):A.units+64<cLine:=by have:=r.un;lia
noncomputable def tNil:TA:=λ_ H Q=>Q [] H
noncomputable def tCons (ta:TE) (tr:TA):TA:=λσ H Q=>ta σ H λx H1=>tr σ H1 λxs H2=>Q (x::xs) H2
section
variable {X:Cx} {e:Expr} {es:List Expr} {te:TE} {t:TA} {pos:Pos}
theorem qbZ:PA X [] tNil:=λ_ _ _ _ H Q I h=>Calls.spliced_nil ⟨[],H,I,.nil,h⟩
theorem jb (ha:PE X e te) (hr:PA X es t) (hs:starEach (e::es) X.env=(false,eval e X.env)::starEach es X.env:=by rfl):PA X (e::es) (tCons te t):=by
 intro pos pins s σ H Q I h
 rw [hs]
 show wpAny _ _ (spliced ((false,eval e X.env)::backTo pos (starEach es X.env))) _ _ s
 refine Calls.spliced_cons (thn (ha pins s σ H _ I h) λu s1 ⟨x,H1,I1,r1,q1⟩=>?_)
 exact thn (hr pos pins s1 σ H1 _ I1 q1) λus s2 ⟨xs,H2,I2,r2,q2⟩=>⟨x::xs,H2,I2,.cons r1 r2,q2⟩
noncomputable def tTup (t:TA):TE:=λσ H Q=>t σ H λxs H1=>xs.length≤sizeLine∧∀ p,H1 p=none→Q (.ref p) (upd H1 p (.tup xs))
noncomputable def tLst (t:TA):TE:=λσ H Q=>t σ H λxs H1=>xs.length≤sizeLine∧∀ p,H1 p=none→Q (.ref p) (upd H1 p (.lst xs))
theorem qih {x1} (h:PA X es t):PE X (.Tuple es x1 pos) (tTup t):=by
 intro pins s σ H Q I hq
 refine wpAny_Tuple_spliced (thn (h pos pins s σ H _ I hq) λus s1 ⟨xs,H1,I1,r,z,q⟩=>⟨by rw [← r.length];exact z,?_⟩)
 have hf:H1 s1.heap.objs.size=none:=I1.hok.fresh (wF _)
 refine ⟨.ref s1.heap.objs.size,upd H1 s1.heap.objs.size (.tup xs),I1.laid (t':=s1.toks) (λb u e=>wB _ e) (wF _) ?_,rfl,q _ hf⟩
 exact ⟨z,us,r,⟨_,wG _ rfl,rfl,_,rfl⟩⟩
theorem qii (h:PA X es t):PE X (.List es pos) (tLst t):=by
 intro pins s σ H Q I hq
 refine wpAny_List_spliced (thn (h pos pins s σ H _ I hq) λus s1 ⟨xs,H1,I1,r,z,q⟩=>⟨by rw [← r.length];exact z,?_⟩)
 have hf:H1 s1.heap.objs.size=none:=I1.hok.fresh (wF _)
 refine ⟨.ref s1.heap.objs.size,upd H1 s1.heap.objs.size (.lst xs),I1.laid (t':=s1.toks) (λb u e=>wB _ e) (wF _) ?_,rfl,q _ hf⟩
 exact ⟨z,us,0,r,wG _ rfl⟩
end
noncomputable abbrev Sp:=List V→Hp→VK→XK→Prop
noncomputable abbrev CXT:=List Env→Hp→Shared→XK→Value→Shared→Prop
structure Env0 (P:Program) (w:World) (K:PySem.W.Frag) (mg:Str→Option Value) (base:Heap) (A:Around) (outer:List Env) (s:Shared) (H:Hp):Prop where
 frames:A.frames=some outer
 mod:Mod K mg base
 bs:∀ b o,base.get? b=some o→s.heap.get? b=some o∧H b=none
 bsz:base.objs.size≤s.heap.objs.size
 funs:s.heap.FunFrames base outer
 frf:∀ b∈frs outer,H b=none
 hok:HOk P w H s.heap
 bare:AllBare s.gens
 tab:∀ c T,codeTab K c T=true→∃ ps,H T=some (.tbl ps)
noncomputable def CE (outer:List Env) (P:Program) (w:World) (H:Hp) (s:Shared) (Q:VK) (u:Value) (s':Shared):Prop :=
 ∃ v H',s'.os=s.os∧GK s.gens s'.gens∧Un (frs outer) [] H H' s.heap s'.heap∧HOk P w H' s'.heap∧RelV v u∧Q v H'
noncomputable def CR (CX:CXT) (outer:List Env) (P:Program) (w:World) (H:Hp) (s:Shared) (Q:VK) (E:XK) (r:Result) (s':Shared):Prop :=
 match r with
 | .ok (.ret u)=>CE outer P w H s Q u s'
 | .ok _=>False
 | .error e=>CX outer H s E e s'
structure FnOk (P:Program) (w:World) (K:PySem.W.Frag) (mg:Str→Option Value) (base:Heap) (CX:CXT) (k:Nat) (f:Addr) (fd:FuncData) (ps:List Str) (sp:Sp):Prop where
 len:∀ vs H Q E,sp vs H Q E→vs.length=ps.length
 run:∀ (A:Around) (outer:List Env) (s:Shared) (H:Hp) (args:Args) (us:List Value) (vs:List V) (Q:VK) (E:XK),Room k A→Env0 P w K mg base A outer s H→BindsTo s fd args (ps.zip us)→Vals vs us→sp vs H Q E →
  codeAny (model P w) A (.call (.ref f) args) (CR CX outer P w H s Q E) s
section
variable {X:Cx} {pins:List (Addr × Obj)} {σ:St} {H:Hp} {s s':Shared}
theorem Inv.env0 (I:Inv X pins σ H s):Env0 X.prog X.w X.K X.mg X.base X.A X.stack s H :=
 ⟨I.ok.frames,I.ok.mod,I.bs,wv I.ok.bsz I.sz,I.stack,I.stkFree,I.hok,I.bare.bare,λc T z=>let ⟨ps,e⟩:=I.ok.tab c T z;let ⟨m,e'⟩:=I.base.tbls _ _ e;⟨_,e'⟩⟩
theorem Inv.after {Q:VK} {u:Value} (I:Inv X pins σ H s) (h:CE X.stack X.prog X.w H s Q u s'):EP X pins σ Q u s':=by
 obtain ⟨v,H',os,bare,un,hok,r,q⟩:=h
 obtain ⟨hh,g,d,t,os'⟩:=s'
 obtain rfl:os'=s.os:=os
 exact ⟨v,H',I.call (h':=hh) (g':=g) (d':=d) (t':=t) (ch:=[]) un hok bare (λb z=>absurd z (by simp)),r,q⟩
end
noncomputable def tCall (sp:Sp) (dvs:List V) (E:XK) (t:TA):TE:=λσ H Q=>t σ H λvs H1=>sp (vs++dvs) H1 Q E
noncomputable def Binds (K:PySem.W.Frag) (fd:FuncData) (ps:List Str) (ds:List Value):Prop :=
 ∀ (s:Shared) (us:List Value),K.In s.heap→(us++ds).length=ps.length→BindsTo s fd ⟨us,[]⟩ (ps.zip (us++ds))
theorem Binds.all {K:PySem.W.Frag} {fd:FuncData} {ps:List Str} (h:∀ us:List Value,us.length=ps.length→bindArgs fd ⟨us,[]⟩=pure (ps.zip us)):Binds K fd ps []:=λs us _ hl=>by
 rw [List.append_nil] at hl ⊢
 exact .of_eq (h us hl)
noncomputable def Passes (CX:CXT) (X:Cx) (E:XK):Prop:=∀ (pins:List (Addr × Obj)) (σ:St) (H:Hp) (s:Shared) (e:Value) (s':Shared),Inv X pins σ H s→CX X.stack H s E e s'→X.xe e s'
section
variable {X:Cx} {CX:CXT} {k:Nat} {f C:Addr} {fd:FuncData} {ps:List Str} {sp:Sp} {dvs:List V} {ds:List Value} {E:XK} {x m:Str} {p pos apos:Pos} {e o:Expr} {es:List Expr} {ta:TE} {t:TA}
theorem qij {pins:List (Addr × Obj)} {σ:St} {H:Hp} {s:Shared} {Q:VK} {us:List Value} {vs:List V} (F:FnOk X.prog X.w X.K X.mg X.base CX k f fd ps sp) (hr:Room k X.A) (hb:Binds X.K fd ps ds) (hd:Vals dvs ds) (hx:Passes CX X E)
  (I:Inv X pins σ H s) (r:Vals vs us) (h:sp (vs++dvs) H Q E):wpAny (model X.prog X.w) X.A (call (.ref f) us) (EP X pins σ Q) X.xe s:=by
 have r2:Vals (vs++dvs) (us++ds):=r.append hd
 have hl:(us++ds).length=ps.length:=by rw [← r2.length];exact F.len _ _ _ _ h
 refine wpAny_call (codeAny_mono (F.run X.A X.stack s H ⟨us,[]⟩ (us++ds) (vs++dvs) Q E hr I.env0 (hb s us I.kIn hl) r2 h) λr s' hq=>?_)
 cases r with
 | error e=>exact hx pins σ H s e s' I hq
 | ok fl =>
  cases fl with
  | ret u=>exact I.after hq
  | next=>exact False.elim hq
  | brk=>exact False.elim hq
  | cont=>exact False.elim hq
theorem qgr (F:FnOk X.prog X.w X.K X.mg X.base CX k f fd ps sp) (hr:Room k X.A) (hg:Gl X x) (hm:X.mg x=some (.ref f)) (hk:PySem.W.keepIn X.K (.ref f)=true) (hb:Binds X.K fd ps ds) (hd:Vals dvs ds) (hx:Passes CX X E)
  (ha:PA X (e::es) t) (hdb:(x == ("__debug__":Str))=false:=by decide) (he:starEach (e::es) X.env=(false,eval e X.env)::starEach es X.env:=by rfl) (hpl:(backTo pos (starEach es X.env)).any (·.1)=false:=by rfl) :
  PE X (.Call (.Name x p) (e::es) [] pos) (tCall sp dvs E t):=by
 intro pins s σ H Q I h
 refine wpAny_Call_Name_kw (qcr I hg hm ?_ hdb)
 refine PySem.W.callWith_K (h₀:=X.base) I.ok.mod.kin hk (thn (ha pos pins s σ H _ I h) λus s1 ⟨vs,H1,I1,r,q⟩=>⟨I1.kIn,?_⟩) he hpl
 exact qij F hr hb hd hx I1 r q
end
structure FnScope (N P:List Str) (sc:Scope):Prop where
 kind:sc.kind=.function
 co:sc.isCoroutine=false
 gen:sc.isGenerator=false
 nd:N.Nodup
 pre:N.take P.length=P
 par:∀ x∈P,sc.names.lookup x=some .local∨sc.names.lookup x=some .cell
 nofree:∀ y∈sc.names,y.2≠.free
theorem j4 {kindOf:Str→Option NameKind} {x:Str}:∀ {binds:List (Str × Value)} {m:Str→Option Value},(∀ v,(x,v) ∉ binds)→bindL kindOf binds m x=m x
 | [],_,_=>rfl
 | (n,v)::r,m,h=>by
  unfold bindL
  rw [j4 λw hw=>h w (wM _ hw)]
  split
  ·have:x≠n:=by rintro rfl;exact h v wJ
   simp [this]
  ·rfl
theorem j5 {kindOf:Str→Option NameKind} {x:Str}:∀ {binds:List (Str × Value)} {m:Str→Option Value},(∀ v,(x,v) ∉ binds)→bindC kindOf binds m x=m x
 | [],_,_=>rfl
 | (n,v)::r,m,h=>by
  unfold bindC
  rw [j5 λw hw=>h w (wM _ hw)]
  split
  ·rfl
  ·have:x≠n:=by rintro rfl;exact h v wJ
   simp [this]
theorem j6 {kindOf:Str→Option NameKind} {x:Str} {v:Value}:∀ {P:List Str} {vs:List Value} {i:Nat} {m:Str→Option Value},P.Nodup→P[i]?=some x→vs[i]?=some v→kindOf x=some .local →
  bindL kindOf (P.zip vs) m x=some v
 | [],_,_,_,_,h,_,_=>by simp at h
 | _::_,[],_,_,_,_,h,_=>by simp at h
 | p::P,w::vs,0,m,nd,h1,h2,hk=>by
  simp at h1 h2;subst h1;subst h2
  show bindL kindOf ((p,w)::P.zip vs) m p=_
  unfold bindL
  rw [j4 λv hv=>(List.nodup_cons.mp nd).1 (List.of_mem_zip hv).1,wL hk]
  simp
 | p::P,w::vs,i+1,m,nd,h1,h2,hk=>by
  show bindL kindOf ((p,w)::P.zip vs) m x=_
  unfold bindL
  exact j6 (i:=i) (List.nodup_cons.mp nd).2 (by simpa using h1) (by simpa using h2) hk
theorem j7 {kindOf:Str→Option NameKind} {x:Str} {v:Value}:∀ {P:List Str} {vs:List Value} {i:Nat} {m:Str→Option Value},P.Nodup→P[i]?=some x→vs[i]?=some v→kindOf x≠some .local →
  bindC kindOf (P.zip vs) m x=some v
 | [],_,_,_,_,h,_,_=>by simp at h
 | _::_,[],_,_,_,_,h,_=>by simp at h
 | p::P,w::vs,0,m,nd,h1,h2,hk=>by
  simp at h1 h2;subst h1;subst h2
  show bindC kindOf ((p,w)::P.zip vs) m p=_
  unfold bindC
  rw [j5 λv hv=>(List.nodup_cons.mp nd).1 (List.of_mem_zip hv).1,wN hk]
  simp
 | p::P,w::vs,i+1,m,nd,h1,h2,hk=>by
  show bindC kindOf ((p,w)::P.zip vs) m x=_
  unfold bindC
  exact j7 (i:=i) (List.nodup_cons.mp nd).2 (by simpa using h1) (by simpa using h2) hk
noncomputable def start (N:List Str) (vs:List V):St:=vs.map some++List.replicate (N.length-vs.length) none
noncomputable def cxOf (CX:CXT) (P:Program) (w:World) (K:PySem.W.Frag) (mg:Str→Option Value) (base:Heap) (N:List Str) (qual:Str) (scope:Scope) (f:Addr) (cd:Value) (A:Around) (outer:List Env) (s:Shared) (H:Hp) (E:XK):Cx where
 prog:=P
 w:=w
 K:=K
 mg:=mg
 base:=base
 A:=A.deeper (envOfC qual scope s.heap.objs.size f cd)
 N:=N
 s₀:=s
 H₀:=H
 env:=envOfC qual scope s.heap.objs.size f cd
 outer:=outer
 stack:=envOfC qual scope s.heap.objs.size f cd::outer
 ex:=[]
 calm:=true
 fn:=λ_=>true
 pn:=[]
 xe:=λe s'=>wpAny (model P w) (A.deeper (envOfC qual scope s.heap.objs.size f cd)) (leaving (envOfC qual scope s.heap.objs.size f cd) e) (λ_ s''=>CX outer H s E e s'') (λe' s''=>CX outer H s E e' s'') s'
theorem qa6 {sc:Scope} {n:Nat} {x:Str} (h:sc.names.lookup x=some .cell):∃ c,(cellsFrom n sc.names []).lookup x=some c:=by
 have q:=PySem.W.cellsFrom_some sc.names n [] (.inl h)
 exact Option.isSome_iff_exists.mp q
theorem qdv {CX:CXT} {P:Program} {w:World} {K:PySem.W.Frag} {mg:Str→Option Value} {base:Heap} {N ps:List Str} {qual:Str} {scope:Scope} {f:Addr} {cd:Value} {A:Around} {outer:List Env} {s s1:Shared} {H:Hp} {E:XK} {us:List Value} {vs:List V}
  (S:FnScope N ps scope) (hd:A.handled=none) (e0:Env0 P w K mg base A outer s H) (hl:vs.length=ps.length) (r:Vals vs us)
  (x:InCallC s s.heap.objs.size (bindL (envOfC qual scope s.heap.objs.size f cd).kindOf (ps.zip us) λ_=>none) (cellsFrom (s.heap.objs.size+1) scope.names []) (bindC (envOfC qual scope s.heap.objs.size f cd).kindOf (ps.zip us) λ_=>none) s1) :
  Inv (cxOf CX P w K mg base N qual scope f cd A outer s H E) [] (start N vs) H s1:=by
 have hpl:ps.length≤N.length:=by have:=congrArg List.length S.pre;rw [wq] at this;lia
 obtain ⟨h1,tk,rfl,hk⟩:=x.done
 have noA:∀ b:Addr,b ∉ (cxOf CX P w K mg base N qual scope f cd A outer s H E).ex:=λb z=>absurd (show b∈([]:List Addr) from z) (by simp)
 refine ⟨⟨e0.mod,S.kind,rfl,rfl,wF _,λy z c h1 h2=>?_,λy hy=>?_,λy c _ h=>?_,λ_=>hd,Around.frames_deeper e0.frames,.inr ⟨rfl,rfl⟩,λb z=>absurd z (noA b),e0.bs,e0.bsz,λb _ _=>noA b,λb z=>absurd z (noA b),e0.funs,e0.frf,e0.tab⟩,
  rfl,GK.refl e0.bare,Un.kept hk,⟨_,x.toInCall.ns,λi y v h1 h2 h3=>?_⟩,λy c h=>⟨_,x.cell y c h⟩,e0.hok.fresh (wF _),λy c h=>?_,λp hp=>absurd (show p∈([]:List (Addr × Obj)) from hp) (by simp),e0.hok.kept hk,?_⟩
 ·exact name_of_addr x.apart (vJ h1) (vJ h2)
 ·have hy:scope.names.lookup y=some .cell∨scope.names.lookup y=some .free:=hy
  rcases hy with hy | hy
  ·exact qa6 hy
  ·exact absurd rfl (S.nofree _ (vJ hy))
 ·exact Nat.le_of_lt (x.above y c (vJ h))
 ·have hi:i<vs.length:=by
   unfold start at h2
   by_cases hi:i<vs.length
   ·exact hi
   ·rw [wS (by simpa using hi)] at h2
    rw [List.getElem?_replicate] at h2
    split at h2 <;> cases h2
  have ha:vs[i]?=some v:=by
   unfold start at h2
   rw [wW (by simpa using hi),w5] at h2
   cases e:vs[i]? with
   | none=>rw [e] at h2;cases h2
   | some a=>rw [e] at h2;cases h2;rfl
  obtain ⟨u,hu,rv⟩:=r.get ha
  have hp:ps[i]?=some y:=by
   rw [← S.pre,List.getElem?_take_of_lt (by lia)];exact h1
  have ndP:ps.Nodup:=by rw [← S.pre];exact S.nd.sublist (List.take_sublist _ _)
  refine ⟨u,rv,?_⟩
  rcases S.par y (wn hp) with k | k
  ·exact .inl ⟨k,j6 ndP hp hu k⟩
  ·obtain ⟨c,e⟩:=qa6 (n:=s.heap.objs.size+1) k
   refine .inr ⟨.inl k,c,e,?_⟩
   have q:=x.cell y c e
   rw [j7 ndP hp hu (by show scope.names.lookup y≠_;rw [k];decide)] at q
   exact q
 ·exact e0.hok.fresh (Nat.le_of_lt (x.above y c (vJ h)))
 ·unfold start
  show _=N.length
  rw [wV,wO,List.length_replicate]
  lia
theorem qjC {CX:CXT} {P:Program} {w:World} {K:PySem.W.Frag} {mg:Str→Option Value} {base:Heap} {k:Nat} {f:Addr} {name qual:Str} {params:Arguments} {body:List Stmt} {scope:Scope} {dV kV doc pm cdv ct oc:Value} {an od:Option Addr}
  {osl:Array (Option Value)} {N ps:List Str} {sp:Sp} (lk:K.lookup f=some ⟨oc,od,.func (PySem.W.fnOf name qual params body scope dV kV doc pm an cdv ct),osl⟩) (hcd:PySem.W.codeIn K cdv qual=true) (S:FnScope N ps scope)
  (len:∀ vs H Q E,sp vs H Q E→vs.length=ps.length)
  (hbody:∀ (A:Around) (outer:List Env) (s:Shared) (H:Hp) (vs:List V) (Q:VK) (E:XK),Room k (A.deeper (envOfC qual scope s.heap.objs.size f cdv))→sp vs H Q E →
   ∃ t,PSs (cxOf CX P w K mg base N qual scope f cdv A outer s H E) body t∧t { nx:=λ_ H'=>Q .non H',rt:=Q } (start N vs) H) :
  FnOk P w K mg base CX (k+1) f (PySem.W.fnOf name qual params body scope dV kV doc pm an cdv ct) ps sp:=by
 refine ⟨len,λA outer s H args us vs Q E hr e0 hb r hsp=>?_⟩
 have hl:=len _ _ _ _ hsp
 have KX:K.In s.heap:=e0.mod.kin.keeps λb o e=>(e0.bs b o e).1
 have lim:s.heap.NoLimit:=e0.mod.nolimit.keeps λb o e=>(e0.bs b o e).1
 have hkind:∀ y∈ps.zip us,scope.names.lookup y.1=some .local∨(scope.names.lookup y.1=some .cell∧((cellsFrom (s.heap.objs.size+1) scope.names []).lookup y.1).isSome=true):=λ⟨n,v⟩ hy=>by
  rcases S.par n (List.of_mem_zip hy).1 with q | q
  ·exact .inl q
  ·exact .inr ⟨q,PySem.W.cellsFrom_some _ _ _ (.inl q)⟩
 refine codeAny_call_function hr.depth (KX _ _ lk) rfl S.co S.gen rfl (PySem.W.codeRec_of KX hcd) (hb _ _ _ _ ?_)
 refine wpAny_newFunctionEnv_cells S.kind hkind λenv he s1 x=>?_
 subst he
 refine ⟨lim.keeps x.toInCall.keep,codeAny_func ?_⟩
 obtain ⟨t,ht,hq⟩:=hbody A outer s H vs Q E (hr.deeper _) hsp
 have I:Inv (cxOf CX P w K mg base N qual scope f cdv A outer s H E) [] (start N vs) H s1:=qdv S hr.hd e0 hl r x
 refine vC (ht [] s1 (start N vs) H _ I hq) (λfl s' hs=>?_) λe s' hs=>hs
 have fin:∀ {σ':St} {H':Hp} {v:V} {u:Value},Inv (cxOf CX P w K mg base N qual scope f cdv A outer s H E) [] σ' H' s'→RelV v u→Q v H'→CE outer P w H s Q u s' :=
  λ{σ' H' v u} J rv q=>⟨v,H',J.os,J.bare,J.base,J.hok,rv,q⟩
 cases fl with
 | ret u =>
  obtain ⟨v,σ',H',J,rv,q⟩:=hs
  exact fin J rv q
 | next =>
  obtain ⟨σ',H',J,q⟩:=hs
  exact fin (v:=V.non) (u:=Value.none) J rfl q
 | brk =>
  obtain ⟨_,_,_,q⟩:=hs
  exact False.elim q
 | cont =>
  obtain ⟨_,_,_,q⟩:=hs
  exact False.elim q
end L2
namespace L2
open PySem PySem.Spec PyProof.Rows
section
variable {X:Cx} {x:Str} {p pos:Pos} {e:Expr} {es:List Expr} {t:TA} {id T:String} {r:List V→Hp→VK→Prop}
noncomputable def tCB (r:List V→Hp→VK→Prop) (t:TA):TE:=λσ H Q=>t σ H λvs H1=>r vs H1 Q
theorem qa7 (hc:CallR X (.builtin id) r) (hg:Gl X x) (hm:X.mg x=none) (hv:bootBuiltins x=some (.builtin id)) (ha:PA X (e::es) t) (hn:x≠"__name__":=by decide) (hdb:(x == ("__debug__":Str))=false:=by decide)
  (he:starEach (e::es) X.env=(false,eval e X.env)::starEach es X.env:=by rfl) (hpl:(backTo pos (starEach es X.env)).any (·.1)=false:=by rfl):PE X (.Call (.Name x p) (e::es) [] pos) (tCB r t):=by
 intro pins s σ H Q I h
 refine wpAny_Call_Name_kw (zO I hg hm hv ?_ hn hdb)
 exact PyProof.Rows.callWith_builtin1 (thn (ha pos pins s σ H _ I h) λus s1 ⟨vs,H1,I1,r1,q1⟩=>hc pins s1 σ H1 vs us Q I1 r1 q1) he hpl
theorem qdw (hc:CallR X (.type T) r) (hg:Gl X x) (hm:X.mg x=none) (hv:bootBuiltins x=some (.type T)) (ha:PA X (e::es) t) (hn:x≠"__name__":=by decide) (hdb:(x == ("__debug__":Str))=false:=by decide)
  (he:starEach (e::es) X.env=(false,eval e X.env)::starEach es X.env:=by rfl) (hpl:(backTo pos (starEach es X.env)).any (·.1)=false:=by rfl):PE X (.Call (.Name x p) (e::es) [] pos) (tCB r t):=by
 intro pins s σ H Q I h
 refine wpAny_Call_Name_kw (zO I hg hm hv ?_ hn hdb)
 exact PyProof.Rows.callWith_type1 (thn (ha pos pins s σ H _ I h) λus s1 ⟨vs,H1,I1,r1,q1⟩=>hc pins s1 σ H1 vs us Q I1 r1 q1) he hpl
end
end L2
namespace HT
open PySem PyProof.Rows
noncomputable def lexLt:List Int→List Int→Bool
 | [],[]=>false
 | [],_::_=>true
 | _::_,[]=>false
 | x::xs,y::ys=>if x=y then lexLt xs ys else decide (x<y)
theorem qY (x y:Int) (xs ys:List Int):lexLt (x::xs) (y::ys)=if x=y then lexLt xs ys else decide (x<y):=rfl
theorem yn:lexLt [] []=false:=rfl
theorem zP (y:Int) (ys:List Int):lexLt [] (y::ys)=true:=rfl
theorem zQ (x:Int) (xs:List Int):lexLt (x::xs) []=false:=rfl
theorem qa8 (A:Around) (s:Shared) (a:Int) (t:Tok) (c:Int) (u:Tok):∃ e,SeqAt.EqAt A s (.int a t) (.int c u) e∧(e=true ↔ a=c) :=
 ⟨(a == c),SeqAt.EqAt.int_int a t c u,by simp⟩
theorem qec (A:Around) (s:Shared) (a:Int) (t:Tok) (c:Int) (u:Tok) (prog:Program) (w:World) (E:Value→Shared→Prop) (Q:Value→Shared→Prop) (h:Q (.bool (decide (a<c))) s) :
  wpAny (model prog w) A (richCompare .Lt (.int a t) (.int c u)) Q E s :=
 (PyProof.Rows.lt_int h:wpAny (model prog w) A (compareOp .Lt (.int a t) (.int c u)) Q E s)
section
open PySem.SeqAt
open PySem.AutoSeq1 (wpAny_loadPart')
open PySem.MeetsSeq PySem.MeetsSeq2 PySem.MeetsSeq3
theorem jX (l b:Addr) (items items2:Array Value) (n n2:Nat) (dd dd2:Option Addr) (sl sl2:Array (Option Value)) (ns ms:List Int) (hi:IntsAre items.toList ns) (hj:IntsAre items2.toList ms) :
  Meets (Builtin.«tuple.__lt__» ⟨[.ref l,.ref b],[]⟩)
   (λ_ R s=>s.heap.get? l=some { cls:=.type "tuple",dict:=dd,data:=.seq items n,slots:=sl }∧s.heap.get? b=some { cls:=.type "tuple",dict:=dd2,data:=.seq items2 n2,slots:=sl2 } ∧
    R (.ok (.ret (.bool (lexLt ns ms)))) s) :=
 .of_wp λprog w A R s h=>by
  obtain ⟨hp,g,d,tk,os⟩:=s;obtain ⟨hl,hb,h⟩:=h
  have f2:=AutoSeq1.sub_tuple_tuple
  have z1:items.size=ns.length:=by rw [← hi.length];simp
  have z2:items2.size=ms.length:=by rw [← hj.length];simp
  wp_walk using wpAny_loadPart' hl,wpAny_loadPart' hb,wpAny_forIn_list _ (λrest b s'=>b.1=none∧s'=⟨hp,g,d,tk,os⟩∧∃ (vs ws:List Value) (ns' ms':List Int),rest=vs.zip ws ∧
   IntsAre vs ns'∧IntsAre ws ms'∧ns'.length+items2.size=ms'.length+items.size∧R (.ok (.ret (.bool (lexLt ns' ms')))) ⟨hp,g,d,tk,os⟩) _
  case turn =>
   rintro ⟨y,x⟩ rest b s' ⟨hb',rfl,vs,ws,ns',ms',hz,hvi,hwi,hlen,hR⟩
   cases hvi with
   | nil=>rw [List.zip_nil_left] at hz;cases hz
   | cons a t hvi' =>
    cases hwi with
    | nil=>rw [List.zip_nil_right] at hz;cases hz
    | cons c u hwi' =>
     rw [List.zip_cons_cons] at hz
     injection hz with hyx hrest
     injection hyx with hy hx
     subst hy hx
     rw [qY] at hR
     simp only [w4] at hlen
     obtain ⟨e,he,hiff⟩:=qa8 A.in1 ⟨hp,g,d,tk,os⟩ a t c u
     refine wA (he prog w _ _ ?_)
     cases e with
     | true =>
      rw [wL (hiff.mp rfl)] at hR
      wp_walk
      exact ⟨rfl,rfl,_,_,_,_,hrest,hvi',hwi',by lia,hR⟩
     | false =>
      rw [wN (λq=>absurd (hiff.mpr q) wT)] at hR
      have hri:=qec A.in1 ⟨hp,g,d,tk,os⟩ a t c u prog w
      wp_walk using hri
      exact ⟨_,rfl,by simpa using hR⟩
  case fin =>
   rintro ⟨b1,b2⟩ s' ⟨hb',rfl,vs,ws,ns',ms',hz,hvi,hwi,hlen,hR⟩
   simp only at hb'
   subst hb'
   have hv:lexLt ns' ms'=decide (items.size<items2.size):=by
    cases hvi with
    | nil =>
     cases hwi with
     | nil =>
      simp only [List.length_nil] at hlen
      rw [yn]
      exact (wj (by lia)).symm
     | cons c u hw =>
      simp only [List.length_nil,w4] at hlen
      rw [zP]
      exact (vM (by lia)).symm
    | cons a t hv =>
     cases hwi with
     | nil =>
      simp only [List.length_nil,w4] at hlen
      rw [zQ]
      exact (wj (by lia)).symm
     | cons c u hw =>
      rw [List.zip_cons_cons] at hz
      cases hz
   rw [hv] at hR
   wp_walk
   exact ⟨_,rfl,by simpa [Builtin.Tuple.tupleCompareSizes] using hR⟩
  case h =>
   exact ⟨rfl,rfl,items.toList,items2.toList,ns,ms,rfl,hi,hj,by lia,h⟩
end
section
variable {prog:Program} {w:World} {A:Around} {E:Value→Shared→Prop} {s:Shared}
theorem qb0 {l b:Addr} {items items2:Array Value} {ns ms:List Int} {Q:Value→Shared→Prop} (hl:IsTup s.heap l items) (hb:IsTup s.heap b items2) (hi:IntsAre items.toList ns) (hj:IntsAre items2.toList ms)
  (hu:A.units<cLine) (h:Q (.bool (lexLt ns ms)) s):wpAny (model prog w) A (compareOp .Lt (.ref l) (.ref b)) Q E s:=by
 obtain ⟨⟨cls,dd,data,sl⟩,ho,hc,n,hd⟩:=id hl
 obtain ⟨⟨cls2,dd2,data2,sl2⟩,ho2,hc2,n2,hd2⟩:=id hb
 simp only at hc hd hc2 hd2
 subst hc hd hc2 hd2
 exact richCompare_meets_room (op:=.Lt) ⟨_,ho,rfl⟩ ⟨_,ho2,rfl⟩ PySem.F.slot_tuple_lt PySem.F.entry_tuple_lt (PySem.F.args_tuple_lt_2 _ _) (jX l b items items2 n n2 dd dd2 sl sl2 ns ms hi hj)
  ⟨ho,ho2,show Value.bool (lexLt ns ms)≠Value.notImplemented∧Q (.bool (lexLt ns ms)) s from ⟨(λx=>nomatch x),h⟩⟩ hu
theorem qgs {t b:Addr} {vs ws:List Value} {Q:Value→Shared→Prop} (ht:IsTup s.heap t vs.toArray) (hb:IsTup s.heap b ws.toArray) (hv:vs≠[])
  (h1:ws=[]→Q (.ref t) s) (h2:ws≠[]→Q (.ref s.heap.objs.size) { s with heap:=s.heap.push { cls:=.type "tuple",data:=.seq (vs++ws).toArray } })
  (hsz:vs.length+ws.length≤sizeLine):wpAny (model prog w) A (binaryOp .Add (.ref t) (.ref b)) Q E s:=by
 obtain ⟨⟨cls,dd,data,sl⟩,ho,hc,n,hd⟩:=id ht
 obtain ⟨⟨cls2,dd2,data2,sl2⟩,ho2,hc2,n2,hd2⟩:=id hb
 simp only at hc hd hc2 hd2
 subst hc hd hc2 hd2
 have e:vs.toArray++ws.toArray=(vs++ws).toArray:=by simp
 by_cases hw:ws=[]
 ·exact concat_meets ⟨_,ho,rfl⟩ ⟨_,ho2,rfl⟩ noFill_tuple_add seq_tuple_add PySem.F.slot_tuple_add PySem.F.entry_tuple_add (PySem.F.args_tuple_add_2 _ _)
   (tuple_addW1 t b vs.toArray ws.toArray n n2 dd dd2 sl sl2 (by simpa using hv) (by simp [hw])) ⟨ho,ho2,h1 hw⟩
 ·refine concat_meets ⟨_,ho,rfl⟩ ⟨_,ho2,rfl⟩ noFill_tuple_add seq_tuple_add PySem.F.slot_tuple_add PySem.F.entry_tuple_add (PySem.F.args_tuple_add_2 _ _)
   (tuple_addW2 t b vs.toArray ws.toArray n n2 dd dd2 sl sl2 (by simpa using hv) (by simpa using hw) (by rw [wH,wH];exact hsz)) ⟨ho,ho2,?_⟩
  rw [e]
  exact h2 hw
noncomputable def sIx (n d:Nat):Option Int→Nat
 | none=>d
 | some v=>if v<0 then (v+(n:Int)).toNat else min v.toNat n
theorem qik (n d:Nat) (hd:d≤n) (o:Option Int):sIx n d o≤n:=by
 cases o with
 | none=>exact hd
 | some v =>
  show (if v<0 then (v+(n:Int)).toNat else min v.toNat n)≤n
  by_cases hv:v<0
  ·rw [wL hv];lia
  ·rw [wN hv];exact Nat.min_le_right _ _
theorem qct (v:Int) (n d:Nat):(if v<0 then max (v+(n:Int)) 0 else min v (n:Int))=((sIx n d (some v):Nat):Int):=by
 show (if v<0 then max (v+(n:Int)) 0 else min v (n:Int))=(((if v<0 then (v+(n:Int)).toNat else min v.toNat n):Nat):Int)
 by_cases hv:v<0
 ·simp only [wL hv];lia
 ·simp only [wN hv];lia
theorem qb1 (lo hi:Option Int) (n:Nat):Builtin.Slice.sliceAdjust lo hi 1 (n:Int)=(((sIx n 0 lo:Nat):Int),((sIx n n hi:Nat):Int)):=by
 have h1:¬ ((1:Int)<0):=by lia
 unfold Builtin.Slice.sliceAdjust
 simp only [h1,if_false]
 refine Prod.ext ?_ ?_
 ·cases lo with
  | none=>rfl
  | some v=>exact qct v n 0
 ·cases hi with
  | none=>rfl
  | some v=>exact qct v n n
theorem qb2 (i j:Nat):Builtin.Slice.slicePlaces (i:Int) (j:Int) 1=j-i:=by
 unfold Builtin.Slice.slicePlaces
 have h1:(1:Int)>0:=by lia
 simp only [h1,if_true,Int.ediv_one]
 split <;> lia
theorem jm {v:Value} {o:Option Int} {Q:Option Int→Shared→Prop} (p:IsPart v o) (h:Q o s):wpAny (model prog w) A (Builtin.Slice.slicePartIndex v) Q E s:=by
 cases p with
 | none=>exact slicePart_none h
 | int i t=>exact slicePart_int h
theorem zB {sl:Addr} {vl vu:Value} {lo hi:Option Int} {n:Nat} {Q:Int × Int × Nat→Shared→Prop} (hs:s.heap.IsSliceOf sl vl vu .none) (pl:IsPart vl lo) (pu:IsPart vu hi)
  (h:Q (((sIx n 0 lo:Nat):Int),1,sIx n n hi-sIx n 0 lo) s):wpAny (model prog w) A (Builtin.Slice.sliceApplied (.ref sl) (pure (n:Int))) Q E s:=by
 obtain ⟨os,hos,hcs,hds⟩:=id hs
 unfold Builtin.Slice.sliceApplied Builtin.Slice.sliceFields
 refine wA (wA (vE hos hds (x:=vl) rfl (wA (vE hos hds (x:=vu) rfl (wA (vE hos hds (x:=.none) rfl (wC ?_)))))))
 refine wA (slicePart_none ?_)
 show wpAny _ _ (if ((1:Int) == 0)=true then _ else _) _ _ s
 rw [wN (by decide)]
 refine wA (jm pl (wA (jm pu (wA (wC ?_)))))
 show wpAny _ _ (match Builtin.Slice.sliceAdjust lo hi 1 (n:Int) with | (lo,hi)=>pure (lo,(1:Int),Builtin.Slice.slicePlaces lo hi 1)) _ _ s
 rw [qb1 lo hi n]
 show wpAny _ _ (pure (((sIx n 0 lo:Nat):Int),(1:Int),Builtin.Slice.slicePlaces ((sIx n 0 lo:Nat):Int) ((sIx n n hi:Nat):Int) 1)) _ _ s
 rw [qb2]
 exact wC h
theorem qed (xs:Array Value) (i k:Nat):((List.range k).filterMap λ(m:Nat)=>xs[((i:Int)+(m:Int)*1).toNat]?).toArray=((xs.toList.drop i).take k).toArray:=by
 have e:(λ(m:Nat)=>xs[((i:Int)+(m:Int)*1).toNat]?)=λm=>xs[i+m]?:=by
  funext m
  have:((i:Int)+(m:Int)*1).toNat=i+m:=by lia
  rw [this]
 rw [e]
 have:=pick_run xs i k
 rw [List.filterMap_map] at this
 have e2:((λx=>xs[x]?)∘λx=>i+x)=λm=>xs[i+m]?:=rfl
 rw [e2] at this
 rw [this]
theorem yB {t sl:Addr} {items:Array Value} {vl vu:Value} {lo hi:Option Int} {Q:Value→Shared→Prop} (ht:IsTup s.heap t items) (hs:s.heap.IsSliceOf sl vl vu .none) (pl:IsPart vl lo) (pu:IsPart vu hi)
  (hw:¬ (sIx items.size 0 lo=0∧sIx items.size items.size hi=items.size))
  (h:Q (.ref s.heap.objs.size) { s with heap:=s.heap.push { cls:=.type "tuple",data:=.seq ((items.toList.drop (sIx items.size 0 lo)).take (sIx items.size items.size hi-sIx items.size 0 lo)).toArray } })
  (hsz:items.size≤sizeLine):wpAny (model prog w) A (getItem (.ref t) (.ref sl)) Q E s:=by
 have htake:sizeOk (.seq ((items.toList.drop (sIx items.size 0 lo)).take (sIx items.size items.size hi-sIx items.size 0 lo)).toArray):=by
  show ((items.toList.drop (sIx items.size 0 lo)).take (sIx items.size items.size hi-sIx items.size 0 lo)).toArray.size≤sizeLine
  rw [wH,wq,List.length_drop,Array.length_toList]
  lia
 have hj:sIx items.size items.size hi≤items.size:=qik _ _ (wF _) hi
 obtain ⟨os,hos,hcs,hds⟩:=id hs
 have hTs:s.TypeIs (.ref sl) "slice":=⟨os,hos,hcs⟩
 unfold getItem
 try with_reducible refine wo ?_
 first | refine wA (wC ?_) | skip
 refine wA (wpAny_sequenceKey ht.typeIs (by decide) ?_)
 refine wA (wf (name:=Str.ofString "__getitem__") ht.typeIs wt
  (wk wt ht.typeIs entry_tuple_getitem ?_ (args_tuple_getitem _ _)))
 show wpAny _ _ (Builtin.Tuple.tupleItemsOf (.ref t) >>= _) _ _ s
 refine wA (tupleItemsOf_ ht ?_)
 refine wA (wpAny_typeOf hTs ?_)
 rw [wL (by decide)]
 refine wA (zB hs pl pu ?_)
 have hno:¬ ((((sIx items.size 0 lo:Nat):Int) == 0&&(1:Int) == 1&&(sIx items.size items.size hi-sIx items.size 0 lo) == items.size)=true):=by
  intro q
  rw [wU,wU] at q
  have q1:((sIx items.size 0 lo:Nat):Int)=0:=eq_of_beq q.1.1
  have q2:sIx items.size items.size hi-sIx items.size 0 lo=items.size:=eq_of_beq q.2
  exact hw ⟨by lia,by lia⟩
 show wpAny _ _ (if (((sIx items.size 0 lo:Nat):Int) == 0&&(1:Int) == 1&&(sIx items.size items.size hi-sIx items.size 0 lo) == items.size)=true then _ else _) _ _ s
 rw [wN hno,qed]
 first
  | exact wA (m:=Builtin.Tuple.tupleExact _) (wY (wC ⟨_,rfl,wC h⟩) htake)
  | exact wA (m:=Builtin.Tuple.tupleExact _) (wY (wA (wC (wC ⟨_,rfl,wC h⟩))) htake)
  | exact wA (wA (m:=Builtin.Tuple.tupleExact _) (wY (wC (wC ⟨_,rfl,wC h⟩)) htake))
  | exact wA (wA (m:=Builtin.Tuple.tupleExact _) (wY (wC ⟨_,rfl,wC h⟩) htake))
end
end HT
namespace L2
open PySem PySem.Spec PyProof.Rows
noncomputable abbrev TO:=St→Hp→(Option Int→Hp→Prop)→Prop
noncomputable def PO (X:Cx) (e:Option Expr) (t:TO):Prop :=
 ∀ (pins:List (Addr × Obj)) (s:Shared) (σ:St) (H:Hp) (Q:Option Int→Hp→Prop),Inv X pins σ H s→t σ H Q →
  wpAny (model X.prog X.w) X.A (evalPart e X.env) (λu s'=>∃ o H',Inv X pins σ H' s'∧IsPart u o∧Q o H') X.xe s
noncomputable def tNoPart:TO:=λ_ H Q=>Q none H
noncomputable def tPart (t:TE):TO:=λσ H Q=>t σ H λx H1=>∃ i,x=.int i∧Q (some i) H1
theorem qZ {ns:List Int}:∀ {us:List Value},Vals (ns.map V.int) us→IntsAre us ns:=by
 induction ns with
 | nil=>intro us r;rw [List.map_nil] at r;cases r;exact .nil
 | cons n ns ih =>
  intro us r
  rw [wQ] at r
  cases r with
  | cons r1 r2 =>
   obtain ⟨t,e⟩:=r1
   subst e
   exact .cons n t (ih r2)
section
variable {X:Cx} {e:Expr} {te:TE} {lo hi:Option Expr} {tl th:TO} {pos p2:Pos}
theorem qgt:PO X none tNoPart:=by
 intro pins s σ H Q I h
 rw [evalPart_none]
 exact wC ⟨none,H,I,.none,h⟩
theorem qgu (h:PE X e te):PO X (some e) (tPart te):=by
 intro pins s σ H Q I hw
 rw [evalPart_some]
 refine thn (h pins s σ H _ I hw) λu s1 ⟨x,H1,I1,r1,q1⟩=>?_
 obtain ⟨i,rfl,q⟩:=q1
 obtain ⟨t,rfl⟩:=r1
 exact ⟨some i,H1,I1,.int i t,q⟩
noncomputable def SlR (X:Cx) (r:V→Option Int→Option Int→Hp→VK→Prop):Prop :=
 ∀ (pins:List (Addr × Obj)) (s:Shared) (σ:St) (H:Hp) (x:V) (v vl vu:Value) (lo hi:Option Int) (sl:Addr) (Q:VK),Inv X pins σ H s→RelV x v→s.heap.IsSliceOf sl vl vu .none→IsPart vl lo→IsPart vu hi→r x lo hi H Q →
  ∃ T id,typeLookup (.type T) "__getitem__"=pure (some (.builtin id))∧s.TypeIs v T∧wpAny (model X.prog X.w) X.A (getItem v (.ref sl)) (EP X pins σ Q) X.xe s
theorem SlR.or {r r':V→Option Int→Option Int→Hp→VK→Prop} (h:SlR X r) (h':SlR X r'):SlR X (λx lo hi H Q=>r x lo hi H Q∨r' x lo hi H Q):=by
 intro pins s σ H x v vl vu lo hi sl Q I rx hs pl pu q
 rcases q with q | q
 ·exact h pins s σ H x v vl vu lo hi sl Q I rx hs pl pu q
 ·exact h' pins s σ H x v vl vu lo hi sl Q I rx hs pl pu q
noncomputable def tSl (r:V→Option Int→Option Int→Hp→VK→Prop) (te:TE) (tl th:TO):TE:=λσ H Q=>te σ H λx H1=>tl σ H1 λl H2=>th σ H2 λu H3=>r x l u H3 Q
theorem qee {r:V→Option Int→Option Int→Hp→VK→Prop} (hr:SlR X r) (he:PE X e te) (hl:PO X lo tl) (hu:PO X hi th):PE X (.Subscript e (.Slice lo hi none p2) pos) (tSl r te tl th):=by
 intro pins s σ H Q I h
 refine Subscript_ (thn (he pins s σ H _ I h) λv s1 ⟨x,H1,I1,r1,q1⟩=>?_)
 refine wpAny_Slice (thn (hl pins s1 σ H1 _ I1 q1) λvl s2 ⟨l,H2,I2,pl,q2⟩=>thn (hu pins s2 σ H2 _ I2 q2) λvu s3 ⟨u,H3,I3,pu,q3⟩=>?_)
 rw [evalPart_none]
 refine wC ?_
 have I4:Inv X pins σ H3 { s3 with heap:=s3.heap.push { cls:=.type "slice",data:=.fields #[vl,vu,.none] } }:=I3.kept (t':=s3.toks) λb ob q=>wB _ q
 obtain ⟨T,id,hT,ht,hg⟩:=hr pins { s3 with heap:=s3.heap.push { cls:=.type "slice",data:=.fields #[vl,vu,.none] } } σ H3 x v vl vu l u s3.heap.objs.size Q I4 r1 (Heap.IsSliceOf.new ..) pl pu q3
 show wpAny (model X.prog X.w) X.A (subscriptTail e (.Slice lo hi none p2) v (.ref s3.heap.objs.size)) (EP X pins σ Q) X.xe { s3 with heap:=s3.heap.push { cls:=.type "slice",data:=.fields #[vl,vu,.none] } }
 exact tail_any (ops:=[.ref s3.heap.objs.size,v]) ht hT hg (by with_unfolding_all rfl)
noncomputable def cutV (xs:List V) (lo hi:Option Int):List V:=(xs.drop (HT.sIx xs.length 0 lo)).take (HT.sIx xs.length xs.length hi-HT.sIx xs.length 0 lo)
theorem y2 (xs:List V) (lo hi:Option Int):(cutV xs lo hi).length≤xs.length:=by
 unfold cutV
 rw [wq,List.length_drop]
 lia
noncomputable def rSlT (K:PySem.W.Frag):V→Option Int→Option Int→Hp→VK→Prop:=λx lo hi H Q=>∃ a xs,x=.ref a∧SqT K H a xs ∧
 ¬ (HT.sIx xs.length 0 lo=0∧HT.sIx xs.length xs.length hi=xs.length)∧∀ p,H p=none→Q (.ref p) (upd H p (.tup (cutV xs lo hi)))
theorem qil:SlR X (rSlT X.K):=by
 intro pins s σ H x v vl vu lo hi sl Q I rx hs pl pu h
 obtain ⟨a,xs,rfl,hx,hw,q⟩:=h
 cases rx
 obtain ⟨its,r,ht,hz⟩:=I.tuple hx
 have hlen:its.toArray.size=xs.length:=by rw [wH];exact r.length.symm
 refine ⟨"tuple",_,wt.lookup,ht.typeIs,?_⟩
 refine HT.yB ht hs pl pu (by rw [hlen];exact hw) ?_ (by rw [hlen];exact hz)
 rw [hlen]
 refine ⟨.ref s.heap.objs.size,_,I.laid (t':=s.toks) (o:=.tup (cutV xs lo hi)) (λb ob q=>wB _ q) (wF _) ?_,rfl,q _ (I.hok.fresh (wF _))⟩
 exact ⟨wv (y2 xs lo hi) hz,_,(r.drop (HT.sIx xs.length 0 lo)).take (HT.sIx xs.length xs.length hi-HT.sIx xs.length 0 lo),IsTup.new _ _⟩
noncomputable def rLtT (K:PySem.W.Frag):R2:=λx y H Q=>∃ a b ns ms,x=.ref a∧y=.ref b∧SqT K H a (ns.map V.int)∧SqT K H b (ms.map V.int)∧Q (.bl (HT.lexLt ns ms)) H
theorem qim (hu:X.A.units<cLine):OpR X (compareOp .Lt) (rLtT X.K):=by
 intro pins s σ H x y v u Q I rx ry h
 obtain ⟨a,b,ns,ms,rfl,rfl,ha,hb,q⟩:=h
 cases rx
 cases ry
 obtain ⟨its,r1,p1,_⟩:=I.tuple ha
 obtain ⟨its2,r2,p2,_⟩:=I.tuple hb
 have i1:IntsAre its.toArray.toList ns:=qZ r1
 have i2:IntsAre its2.toArray.toList ms:=qZ r2
 exact HT.qb0 p1 p2 i1 i2 hu ⟨.bl (HT.lexLt ns ms),H,I,rfl,q⟩
noncomputable def rCatT (K:PySem.W.Frag):R2:=λx y H Q=>∃ a b xs ys,x=.ref a∧y=.ref b∧SqT K H a xs∧SqT K H b ys∧xs≠[]∧xs.length+ys.length≤sizeLine ∧
 (ys=[]→Q (.ref a) H)∧(ys≠[]→∀ p,H p=none→Q (.ref p) (upd H p (.tup (xs++ys))))
theorem Vals.nil_iff {xs:List V} {us:List Value} (r:Vals xs us):us=[] ↔ xs=[]:=by
 cases r with
 | nil=>simp
 | cons _ _=>simp
theorem qgv:OpR X (binaryOp .Add) (rCatT X.K):=by
 intro pins s σ H x y v u Q I rx ry h
 obtain ⟨a,b,xs,ys,rfl,rfl,ha,hb,hx,hz,q1,q2⟩:=h
 cases rx
 cases ry
 obtain ⟨its,r1,p1,_⟩:=I.tuple ha
 obtain ⟨its2,r2,p2,_⟩:=I.tuple hb
 refine HT.qgs p1 p2 (λz=>hx (r1.nil_iff.mp z)) (λz=>⟨.ref a,H,I,rfl,q1 (r2.nil_iff.mp z)⟩) (λz=>?_) (by rw [← r1.length,← r2.length];exact hz)
 refine ⟨.ref s.heap.objs.size,_,I.laid (t':=s.toks) (o:=.tup (xs++ys)) (λb ob q=>wB _ q) (wF _) ?_,rfl,q2 (λw=>z (r2.nil_iff.mpr w)) _ (I.hok.fresh (wF _))⟩
 exact ⟨by rw [wV];exact hz,_,r1.append r2,IsTup.new _ _⟩
end
end L2
namespace L2
open PySem PySem.Spec PyProof.Rows
noncomputable def ixN (n:Nat) (i:Int):Option Nat:=if 0≤i then (if i<n then some i.toNat else none) else if -(n:Int)≤i then some (i+n).toNat else none
noncomputable def atI {α:Type} (xs:List α) (i:Int):Option α:=(ixN xs.length i).bind λj=>xs[j]?
theorem qcu {n:Nat} {i:Int} {j:Nat} (h:ixN n i=some j):seqIndex? i n=some j∧j<n∧-(n:Int)≤i∧i<n:=by
 unfold ixN at h
 by_cases h0:0≤i
 ·rw [wL h0] at h
  by_cases h1:i<n
  ·rw [wL h1] at h
   have e:i.toNat=j:=Option.some.inj h
   exact ⟨by rw [seqIndex_of h0 h1,e],by lia,by lia,h1⟩
  ·rw [wN h1] at h;cases h
 ·rw [wN h0] at h
  by_cases h1:-(n:Int)≤i
  ·rw [wL h1] at h
   have e:(i+n).toNat=j:=Option.some.inj h
   exact ⟨by rw [seqIndex_neg (by lia) h1,e],by lia,h1,by lia⟩
  ·rw [wN h1] at h;cases h
theorem qcv {α:Type} {xs:List α} {i:Int} {v:α} (h:atI xs i=some v):∃ j,seqIndex? i xs.length=some j∧xs[j]?=some v∧j<xs.length∧-(xs.length:Int)≤i∧i<xs.length:=by
 unfold atI at h
 cases e:ixN xs.length i with
 | none=>rw [e] at h;cases h
 | some j =>
  rw [e] at h
  obtain ⟨h1,h2,h3,h4⟩:=qcu e
  exact ⟨j,h1,h,h2,h3,h4⟩
noncomputable def PlainIx (b:Expr):Prop:=∀ o i,subscripted b false o i=operate [o,i] (getItem o i)
noncomputable def IxR (X:Cx) (r:R2):Prop :=
 ∀ (value slice:Expr) (pins:List (Addr × Obj)) (s:Shared) (σ:St) (H:Hp) (x y:V) (v u:Value) (Q:VK),Inv X pins σ H s→RelV x v→RelV y u→r x y H Q →
  subscripted slice false v u=operate [v,u] (getItem v u)→wpAny (model X.prog X.w) X.A (subscriptTail value slice v u) (EP X pins σ Q) X.xe s
noncomputable def MtR (X:Cx) (id:String) (r:V→List V→Hp→VK→Prop):Prop :=
 ∀ (pins:List (Addr × Obj)) (s:Shared) (σ:St) (H:Hp) (x:V) (xs:List V) (v:Value) (us:List Value) (Q:VK),Inv X pins σ H s→RelV x v→Vals xs us→r x xs H Q →
  wpAny (model X.prog X.w) X.A (call (.builtin id) (v::us)) (EP X pins σ Q) X.xe s
section
variable {X:Cx} {a b:Expr} {ta tb:TE} {pos:Pos}
theorem IxR.or {r r':R2} (h:IxR X r) (h':IxR X r'):IxR X (λx y H Q=>r x y H Q∨r' x y H Q):=by
 intro value slice pins s σ H x y v u Q I rx ry q hs
 rcases q with q | q
 ·exact h value slice pins s σ H x y v u Q I rx ry q hs
 ·exact h' value slice pins s σ H x y v u Q I rx ry q hs
theorem qhv {r:R2} (hr:IxR X r) (ha:PE X a ta) (hb:PE X b tb) (hs:PlainIx b):PE X (.Subscript a b pos) (tOp r ta tb):=by
 intro pins s σ H Q I h
 exact Subscript_ (binT ha hb I h λv u s2 x y H2 I2 rx ry q=>hr a b pins s2 σ H2 x y v u Q I2 rx ry q (hs _ _))
noncomputable def rIxL (K:PySem.W.Frag):R2:=λx y H Q=>∃ p xs i v,x=.ref p∧y=.int i∧SqL K H p xs∧atI xs i=some v∧Q v H
noncomputable def rIxT (K:PySem.W.Frag):R2:=λx y H Q=>∃ p xs i v,x=.ref p∧y=.int i∧SqT K H p xs∧atI xs i=some v∧Q v H
theorem qgw:IxR X (rIxL X.K):=by
 intro value slice pins s σ H x y v u Q I rx ry h hs
 obtain ⟨p,xs,i,z,rfl,rfl,hq,he,q⟩:=h
 cases rx
 obtain ⟨t,rfl⟩:=ry
 obtain ⟨its,r,pl,hz⟩:=I.list hq
 obtain ⟨j,h1,h2,h3,h4,h5⟩:=qcv he
 obtain ⟨w,ew,rw'⟩:=r.get h2
 have hl:=r.length
 have hn:=line63
 have fin:EP X pins σ Q w s:=⟨z,H,I,rw',q⟩
 by_cases h0:0≤i
 ·have hj:i.toNat=j:=by
   rw [seqIndex_of h0 h5] at h1
   exact Option.some.inj h1
  exact item_listR pl.isList h0 (by lia) (by rw [hj];simpa using ew) fin hs
 ·have hj:(i+(its.toArray.size:Int)).toNat=j:=by
   rw [seqIndex_neg (by lia) h4] at h1
   rw [wH,← hl]
   exact Option.some.inj h1
  exact subscriptTail_builtinR (x:=w) pl.isList.typeIs slot_list_getitem.lookup
   (wpAny_getItem_list_neg (Q:=λr s'=>r=w∧EP X pins σ Q r s') pl.isList (by lia) (by rw [wH] <;> lia) (by lia) (by rw [hj];simpa using ew) ⟨rfl,fin⟩) hs
theorem qin:IxR X (rIxT X.K):=by
 intro value slice pins s σ H x y v u Q I rx ry h hs
 obtain ⟨p,xs,i,z,rfl,rfl,hq,he,q⟩:=h
 cases rx
 obtain ⟨t,rfl⟩:=ry
 obtain ⟨its,r,pl,hz⟩:=I.tuple hq
 obtain ⟨j,h1,h2,h3,h4,h5⟩:=qcv he
 obtain ⟨w,ew,rw'⟩:=r.get h2
 have hl:=r.length
 have hn:=line63
 have fin:EP X pins σ Q w s:=⟨z,H,I,rw',q⟩
 exact subscriptTail_builtinR (x:=w) pl.typeIs slot_tuple_getitem.lookup
  (getItem_tuple (j:=j) (Q:=λr s'=>r=w∧EP X pins σ Q r s') pl (by lia) (by lia) (by rw [wH,← hl];exact h1) (by simpa using ew) ⟨rfl,fin⟩) hs
theorem qb3 (its:List Value) (n j:Nat) (u:Value):Obj.mapSeq (·.setIfInBounds j u) { cls:=.type "list",data:=.seq its.toArray n }={ cls:=.type "list",data:=.seq (its.set j u).toArray n }:=by
 simp [Obj.mapSeq]
theorem Inv.lst {pins:List (Addr × Obj)} {σ:St} {H:Hp} {s:Shared} {p:Addr} {xs:List V} (I:Inv X pins σ H s) (h:H p=some (.lst xs)) :
  ∃ (its:List Value) (n:Nat),Vals xs its∧s.heap.get? p=some { cls:=.type "list",data:=.seq its.toArray n }∧xs.length≤sizeLine:=by
 obtain ⟨z,its,n,r,e⟩:=I.hok p _ h
 exact ⟨its,n,r,e,z⟩
theorem Inv.lstUpd {pins:List (Addr × Obj)} {σ:St} {H:Hp} {s:Shared} {p:Addr} {xs ys:List V} {its its':List Value} {n n':Nat} {f:Obj→Obj} (I:Inv X pins σ H s) (h:H p=some (.lst xs))
  (ho:s.heap.get? p=some { cls:=.type "list",data:=.seq its.toArray n }) (hf:f { cls:=.type "list",data:=.seq its.toArray n }={ cls:=.type "list",data:=.seq its'.toArray n' }) (r:Vals ys its') (hz:ys.length≤sizeLine) (t:Nat) :
  Inv X pins σ (upd H p (.lst ys)) { s with heap:=s.heap.update p f,toks:=t }:=by
 have e:(s.heap.update p f).get? p=some { cls:=.type "list",data:=.seq its'.toArray n' }:=by
  rw [wp f ho (by rw [hf] <;> rfl),hf]
 refine I.write (x:=p) (e:=p) (by rw [h];trivial) (.inl rfl) (λb u hb q=>(wb _ _ (Ne.symm hb)).trans q) ⟨_,e⟩ ?_
 exact ⟨hz,its',n',r,e⟩
noncomputable def rSetL:V→V→V→Hp→(Hp→Prop)→Prop:=λo i v H Q=>∃ p xs k j,o=.ref p∧i=.int k∧H p=some (.lst xs)∧ixN xs.length k=some j∧Q (upd H p (.lst (xs.set j v)))
theorem qef:PSet X rSetL:=by
 intro pins s σ H o i v ov iv u Q I ro ri rv h
 obtain ⟨p,xs,k,j,rfl,rfl,hp,hj,q⟩:=h
 cases ro
 obtain ⟨t,rfl⟩:=ri
 obtain ⟨its,n,r,ho,hz⟩:=I.lst hp
 obtain ⟨h1,h2,h3,h4⟩:=qcu hj
 have hl:=r.length
 have hn:=line63
 have I':Inv X pins σ (upd H p (.lst (xs.set j v))) { s with heap:=s.heap.update p (Obj.mapSeq (·.setIfInBounds j u)) } :=
  I.lstUpd hp ho (qb3 its n j u) (r.set rv j) (by rw [List.length_set];exact hz) s.toks
 by_cases h0:0≤k
 ·have hk:k.toNat=j:=by
   rw [seqIndex_of h0 h4] at h1
   exact Option.some.inj h1
  exact PySem.W.ki_setAt ho h0 (by lia) (by rw [wH,← hl];exact h4) (by rw [hk];exact ⟨_,I',q⟩)
 ·have hk:(k+(its.toArray.size:Int)).toNat=j:=by
   rw [seqIndex_neg (by lia) h3] at h1
   rw [wH,← hl]
   exact Option.some.inj h1
  exact PySem.W.ki_setBack ho (by lia) (by rw [wH,← hl];exact h3) (by lia) (by rw [hk];exact ⟨_,I',q⟩)
theorem qap (lo hi:Option Int) (n:Nat):(sliceBounds lo hi none n).1=((HT.sIx n 0 lo:Nat):Int)∧(sliceBounds lo hi none n).2.1=((HT.sIx n n hi:Nat):Int)∧(sliceBounds lo hi none n).2.2=1:=by
 refine ⟨?_,?_,rfl⟩
 ·cases lo with
  | none=>simp [sliceBounds,HT.sIx]
  | some i =>
   simp only [sliceBounds,HT.sIx,Option.getD_none,show (1:Int)>0 by decide,if_true]
   by_cases h:i<0
   ·simp only [h,if_true] <;> lia
   ·simp only [h,if_false] <;> lia
 ·cases hi with
  | none=>simp [sliceBounds,HT.sIx]
  | some i =>
   simp only [sliceBounds,HT.sIx,Option.getD_none,show (1:Int)>0 by decide,if_true]
   by_cases h:i<0
   ·simp only [h,if_true] <;> lia
   ·simp only [h,if_false] <;> lia
theorem jY (its:List Value) (lo hi:Option Int):slicePick its.toArray lo hi none=((its.drop (HT.sIx its.length 0 lo)).take (HT.sIx its.length its.length hi-HT.sIx its.length 0 lo)).toArray:=by
 obtain ⟨h1,h2,h3⟩:=qap lo hi its.toArray.size
 unfold slicePick
 rw [h1,h2,h3]
 simp only [sliceRange_one,pick_run,wH] <;> rfl
noncomputable def rSlL (K:PySem.W.Frag):V→Option Int→Option Int→Hp→VK→Prop:=λx lo hi H Q=>∃ a xs,x=.ref a∧SqL K H a xs∧∀ p,H p=none→Q (.ref p) (upd H p (.lst (cutV xs lo hi)))
theorem qgx:SlR X (rSlL X.K):=by
 intro pins s σ H x v vl vu lo hi sl Q I rx hs pl pu h
 obtain ⟨a,xs,rfl,hx,q⟩:=h
 cases rx
 obtain ⟨its,r,ht,hz⟩:=I.list hx
 have hlen:=r.length
 refine ⟨"list",_,slot_list_getitem.lookup,ht.isList.typeIs,?_⟩
 refine wpAny_getItem_list_slice ht.isList hs pl pu .none (by simp) ?_ (by rw [wH] <;> lia)
 rw [jY,← hlen]
 refine ⟨.ref s.heap.objs.size,_,I.laid (t':=s.toks) (o:=.lst (cutV xs lo hi)) (λb ob q=>wB _ q) (wF _) ?_,rfl,q _ (I.hok.fresh (wF _))⟩
 exact ⟨wv (y2 xs lo hi) hz,_,0,(r.drop (HT.sIx xs.length 0 lo)).take (HT.sIx xs.length xs.length hi-HT.sIx xs.length 0 lo),wG _ rfl⟩
noncomputable def flatV:V→Bool
 | .non=>true
 | .bl _=>true
 | .int _=>true
 | .str _=>true
 | _=>false
noncomputable def eqV:V→V→Bool
 | .non,.non=>true
 | .bl a,.bl b=>a == b
 | .bl a,.int b=>(if a then 1 else 0) == b
 | .int a,.bl b=>a == (if b then 1 else 0)
 | .int a,.int b=>a == b
 | .str a,.str b=>a == b
 | _,_=>false
theorem qio {A:Around} {s:Shared} {y x:V} {u v:Value} (ry:RelV y u) (rx:RelV x v) (fy:flatV y=true) (fx:flatV x=true):SeqAt.EqAt A s u v (eqV y x):=by
 cases y with
 | non =>
  cases ry
  cases x with
  | non=>cases rx;exact SeqAt.EqAt.same _
  | bl b=>cases rx;exact SeqAt.EqAt.none_bool b
  | int b=>obtain ⟨t,rfl⟩:=rx;exact SeqAt.EqAt.none_int b t
  | str b=>obtain ⟨t,rfl⟩:=rx;exact SeqAt.EqAt.none_str b t
  | _=>exact absurd (show false=true from fx) wT
 | bl a =>
  cases ry
  cases x with
  | non=>cases rx;exact SeqAt.EqAt.bool_none a
  | bl b=>cases rx;exact SeqAt.EqAt.bool_bool a b
  | int b=>obtain ⟨t,rfl⟩:=rx;exact SeqAt.EqAt.bool_int a b t
  | str b=>obtain ⟨t,rfl⟩:=rx;exact SeqAt.EqAt.bool_str a b t
  | _=>exact absurd (show false=true from fx) wT
 | int a =>
  obtain ⟨t',rfl⟩:=ry
  cases x with
  | non=>cases rx;exact SeqAt.EqAt.int_none a t'
  | bl b=>cases rx;exact SeqAt.EqAt.int_bool a t' b
  | int b=>obtain ⟨t,rfl⟩:=rx;exact SeqAt.EqAt.int_int a t' b t
  | str b=>obtain ⟨t,rfl⟩:=rx;exact SeqAt.EqAt.int_str a t' b t
  | _=>exact absurd (show false=true from fx) wT
 | str a =>
  obtain ⟨t',rfl⟩:=ry
  cases x with
  | non=>cases rx;exact SeqAt.EqAt.str_none a t'
  | bl b=>cases rx;exact SeqAt.EqAt.str_bool a t' b
  | int b=>obtain ⟨t,rfl⟩:=rx;exact SeqAt.EqAt.str_int a t' b t
  | str b=>obtain ⟨t,rfl⟩:=rx;exact SeqAt.EqAt.str_str a t' b t
  | _=>exact absurd (show false=true from fx) wT
 | _=>exact absurd (show false=true from fy) wT
noncomputable def eqU (x:V) (u:Value):Bool:=match u with
 | .none=>eqV .non x
 | .bool b=>eqV (.bl b) x
 | .int i _=>eqV (.int i) x
 | .str z _=>eqV (.str z) x
 | _=>false
theorem qeg {x y:V} {u:Value} (r:RelV y u) (f:flatV y=true):eqU x u=eqV y x:=by
 cases y with
 | non=>cases r;rfl
 | bl b=>cases r;rfl
 | int i=>obtain ⟨t,rfl⟩:=r;rfl
 | str z=>obtain ⟨t,rfl⟩:=r;rfl
 | _=>exact absurd (show false=true from f) wT
theorem yC {x:V}:∀ {xs:List V} {us:List Value},Vals xs us→xs.all flatV=true→us.any (eqU x)=xs.any λy=>eqV y x
 | _,_,.nil,_=>rfl
 | y::xs,u::us,.cons r t,f=>by
  rw [List.all_cons,wU] at f
  rw [List.any_cons,List.any_cons,qeg r f.1,yC t f.2]
theorem zR {A:Around} {s:Shared} {x:V} {v:Value} (rx:RelV x v) (fx:flatV x=true):∀ {xs:List V} {us:List Value},Vals xs us→xs.all flatV=true→∀ u∈us,SeqAt.EqAt A s u v (eqU x u)
 | _,_,.nil,_=>λu hu=>by cases hu
 | y::xs,u::us,.cons r t,f=>λu' hu=>by
  rw [List.all_cons,wU] at f
  rcases wZ.mp hu with rfl | hu
  ·rw [qeg r f.1];exact qio r rx f.1 fx
  ·exact zR rx fx t f.2 u' hu
noncomputable def inV (x:V) (xs:List V):Bool:=xs.any λy=>eqV y x
noncomputable def rIn (K:PySem.W.Frag) (neg:Bool):R2:=λx y H Q=>∃ p xs,y=.ref p∧(SqL K H p xs∨SqT K H p xs)∧flatV x=true∧xs.all flatV=true∧Q (.bl (if neg then !inV x xs else inV x xs)) H
theorem qdx:OpR X (compareOp .In) (rIn X.K false):=by
 intro pins s σ H x y v u Q I rx ry h
 obtain ⟨p,xs,rfl,hq,fx,fs,q⟩:=h
 cases ry
 rcases hq with hq | hq
 ·obtain ⟨its,r,pl,hz⟩:=I.list hq
  refine SeqAt.in_listAt (eqU x) pl.isList (λw hw=>zR rx fx r fs w (by simpa using hw)) ⟨.bl _,H,I,rfl,?_⟩
  rw [show its.toArray.any (eqU x)=its.any (eqU x) by simp,yC r fs]
  exact q
 ·obtain ⟨its,r,pl,hz⟩:=I.tuple hq
  refine SeqAt.in_tupleAt (eqU x) pl (λw hw=>zR rx fx r fs w (by simpa using hw)) ⟨.bl _,H,I,rfl,?_⟩
  rw [show its.toArray.any (eqU x)=its.any (eqU x) by simp,yC r fs]
  exact q
theorem qaq:OpR X (compareOp .NotIn) (rIn X.K true):=by
 intro pins s σ H x y v u Q I rx ry h
 obtain ⟨p,xs,rfl,hq,fx,fs,q⟩:=h
 cases ry
 rcases hq with hq | hq
 ·obtain ⟨its,r,pl,hz⟩:=I.list hq
  refine SeqAt.notIn_listAt (eqU x) pl.isList (λw hw=>zR rx fx r fs w (by simpa using hw)) ⟨.bl _,H,I,rfl,?_⟩
  rw [show its.toArray.any (eqU x)=its.any (eqU x) by simp,yC r fs]
  exact q
 ·obtain ⟨its,r,pl,hz⟩:=I.tuple hq
  refine SeqAt.notIn_tupleAt (eqU x) pl (λw hw=>zR rx fx r fs w (by simpa using hw)) ⟨.bl _,H,I,rfl,?_⟩
  rw [show its.toArray.any (eqU x)=its.any (eqU x) by simp,yC r fs]
  exact q
theorem CallR.or {f:Value} {r r':List V→Hp→VK→Prop} (h:CallR X f r) (h':CallR X f r'):CallR X f (λxs H Q=>r xs H Q∨r' xs H Q):=by
 intro pins s σ H xs us Q I rs q
 rcases q with q | q
 ·exact h pins s σ H xs us Q I rs q
 ·exact h' pins s σ H xs us Q I rs q
theorem jZ:CallR X (.type "tuple") (λxs H Q=>∃ p ys,xs=[.ref p]∧((SqL X.K H p ys∧∀ l,H l=none→Q (.ref l) (upd H l (.tup ys)))∨(SqT X.K H p ys∧Q (.ref p) H))):=by
 intro pins s σ H xs us Q I r h
 obtain ⟨p,ys,rfl,h⟩:=h
 obtain ⟨u,rfl,rx⟩:=vals1 r
 cases rx
 rcases h with ⟨hq,q⟩ | ⟨hq,q⟩
 ·obtain ⟨its,r',pl,hz⟩:=I.list hq
  have hlen:=r'.length
  refine call_tuple_list pl.isList (λh' kp=>?_) (by simp only [wH] <;> lia)
  have I1:Inv X pins σ H { s with heap:=h' }:=I.kept (t':=s.toks) kp
  have I2:Inv X pins σ (upd H h'.objs.size (.tup ys)) { s with heap:=h'.push { cls:=.type "tuple",data:=.seq its.toArray } } :=
   I1.laid (t':=s.toks) (λb o e=>wB _ e) (wF _) (show ObjOk X.prog X.w _ _ _ (.tup ys) from ⟨hz,its,r',IsTup.new _ _⟩)
  exact ⟨.ref h'.objs.size,_,I2,rfl,q _ (I1.hok.fresh (wF _))⟩
 ·obtain ⟨its,r',pl,hz⟩:=I.tuple hq
  exact call_tuple_same pl ⟨.ref p,H,I,rfl,q⟩
noncomputable def tyV (K:PySem.W.Frag) (T:String) (x:V) (H:Hp):Prop:=match x with
 | .str _=>T="str"
 | .int _=>T="int"
 | .ref p=>(T="list"∧∃ xs,SqL K H p xs)∨(T="tuple"∧∃ o,K.lookup p=some o∧o.cls=.type "tuple"∧o.dict=none) ∨
   (T="dict"∧((∃ kvs,H p=some (.dK kvs))∨∃ kvs,H p=some (.dT kvs)))∨(T="set"∧∃ S n,H p=some (.set S n))
 | _=>False
theorem qip {pins:List (Addr × Obj)} {σ:St} {H:Hp} {s:Shared} {T:String} {x:V} {v:Value} (I:Inv X pins σ H s) (r:RelV x v) (ty:tyV X.K T x H) :
  s.TypeIs v T∧∀ a,v=.ref a→∃ ob,s.heap.get? a=some ob∧ob.dict=none:=by
 cases x with
 | str z =>
  obtain ⟨t,rfl⟩:=r
  cases (show T="str" from ty)
  exact ⟨typeIs_str s z t,λ_ e=>nomatch e⟩
 | int i =>
  obtain ⟨t,rfl⟩:=r
  cases (show T="int" from ty)
  exact ⟨typeIs_int s i t,λ_ e=>nomatch e⟩
 | ref p =>
  cases r
  rcases ty with ⟨rfl,xs,hq⟩ | ⟨rfl,o,hk,hc,hd⟩ | ⟨rfl,hk⟩ | ⟨rfl,S,n,hk⟩
  ·obtain ⟨its,_,pl,_⟩:=I.list hq
   refine ⟨pl.isList.typeIs,λa e=>?_⟩
   cases e
   obtain ⟨o,n,e,c,hd,_⟩:=pl
   exact ⟨o,e,hd⟩
  ·refine ⟨⟨o,I.kIn p o hk,hc⟩,λa e=>?_⟩
   cases e
   exact ⟨o,I.kIn _ o hk,hd⟩
  ·have z:∃ o,s.heap.get? p=some o∧o.ExactDict:=by
    rcases hk with ⟨kvs,hk⟩ | ⟨kvs,hk⟩
    ·obtain ⟨_,_,_,_,o,_,_,e,ex,_⟩:=I.hok p _ hk
     exact ⟨o,e,ex⟩
    ·obtain ⟨_,_,_,_,o,_,_,e,ex,_⟩:=I.hok p _ hk
     exact ⟨o,e,ex⟩
   obtain ⟨o,e,ex⟩:=z
   refine ⟨⟨o,e,ex.1⟩,λa e2=>?_⟩
   cases e2
   exact ⟨o,e,ex.2.1⟩
  ·obtain ⟨o,_,_,_,e,ex,_⟩:=I.hok p _ hk
   refine ⟨⟨o,e,ex.1⟩,λa e2=>?_⟩
   cases e2
   exact ⟨o,e,ex.2.1⟩
 | _=>exact False.elim ty
noncomputable def tBM (K:PySem.W.Frag) (T:String) (r:V→List V→Hp→VK→Prop) (to:TE) (t:TA):TE:=λσ H Q=>to σ H λx H1=>tyV K T x H1∧t σ H1 λxs H2=>r x xs H2 Q
variable {o e:Expr} {es:List Expr} {to:TE} {t:TA} {name:Str} {apos cpos:Pos} {T id:String} {r:V→List V→Hp→VK→Prop}
theorem qjD (pa:PlainAttrs T) (slot:Slot T name id) (hty:typeOf (.builtin id)=pure (.type "method_descriptor")) (hm:MtR X id r) (ho:PE X o to) (ha:PA X (e::es) t)
  (hbase:attributeBase o name X.env (eval o X.env)=eval o X.env:=by rfl)
  (hfew:((backTo cpos (starEach (e::es) X.env)).all (λx=>!x.1)&&(backToKw cpos (keywordEach [] X.env)).all (λx=>x.1.isSome)
   && decide ((e::es).length+([]:List Keyword).length+(if ([]:List Keyword).isEmpty then 0 else 1)<30))=true:=by rfl)
  (hline:(apos.endLine == cpos.line)=true:=by rfl) (hs:starEach (e::es) X.env=(false,eval e X.env)::starEach es X.env:=by rfl) (hplain:(backTo cpos (starEach es X.env)).any (·.1)=false:=by rfl) :
  PE X (.Call (.Attribute o name apos) (e::es) [] cpos) (tBM X.K T r to t):=by
 intro pins s σ H Q I h
 refine wpAny_Call_method_late hbase hfew hline rfl (thn (ho pins s σ H _ I h) λv s1 ⟨x,H1,I1,r1,ty,q1⟩=>?_)
 obtain ⟨h1,h2⟩:=qip I1 r1 ty
 refine ⟨T,id,pa,slot,hty,h1,h2,?_⟩
 have hA:=ha cpos pins s1 σ H1 _ I1 q1
 rw [hs] at hA ⊢
 refine Calls.callWith_builtin (by show (false || (backTo cpos (starEach es X.env)).any (·.1))=false;rw [hplain] <;> rfl) (Calls.evalArgs_plain ?_)
 exact thn hA λus s2 ⟨vs,H2,I2,r2,q2⟩=>hm pins s2 σ H2 x vs v us Q I2 r1 r2 q2
/- xs.append(e),list.index on a module's tuple .. are MtR facts of 06m -/
end
end L2
namespace L2
open PySem PySem.Spec PyProof.Rows
noncomputable def MtM (X:Cx) (id:String) (r:V→List V→Hp→VK→Prop):Prop :=
 ∀ (pins:List (Addr × Obj)) (s:Shared) (σ:St) (H:Hp) (x:V) (xs:List V) (v:Value) (us:List Value) (Q:VK),Inv X pins σ H s→RelV x v→Vals xs us→r x xs H Q →
  wpAny (model X.prog X.w) X.A (call (.builtin id) (v::us)) (EP X pins σ Q) X.xe s
theorem Vals.one:∀ {x:V} {us:List Value},Vals [x] us→∃ u,us=[u]∧RelV x u
 | _,_,.cons r .nil=>⟨_,rfl,r⟩
theorem Vals.eraseIdx:∀ {xs:List V} {us:List Value} (i:Nat),Vals xs us→Vals (xs.eraseIdx i) (us.eraseIdx i)
 | _,_,_,.nil=>.nil
 | _,_,0,.cons _ t=>t
 | _,_,i+1,.cons r t=>.cons r (Vals.eraseIdx i t)
theorem Vals.rep {xs:List V} {us:List Value} (h:Vals xs us):∀ k:Nat,Vals (List.replicate k xs).flatten (List.replicate k us).flatten
 | 0=>.nil
 | k+1=>by
  rw [List.replicate_succ,List.replicate_succ,List.flatten_cons,List.flatten_cons]
  exact Vals.append h (Vals.rep h k)
theorem j8 {α:Type}:∀ (l:List α) (i:Nat),(l.eraseIdx i).length≤l.length
 | [],_=>wF _
 | _::_,0=>Nat.le_succ _
 | _::r,i+1=>Nat.succ_le_succ (j8 r i)
theorem yS (its:List Value):∀ (k:Nat) (acc:List Value),
  List.foldl (λx1 x2=>x1++x2) acc.toArray (List.replicate k its.toArray)=(acc++(List.replicate k its).flatten).toArray
 | 0,acc=>by simp
 | k+1,acc=>by
  have e:acc.toArray++its.toArray=(acc++its).toArray:=by simp
  have e2:(acc++its)++(List.replicate k its).flatten=acc++(List.replicate (k+1) its).flatten:=by
   rw [List.replicate_succ,List.flatten_cons,List.append_assoc]
  rw [← e2,← yS its k (acc++its),← e,List.replicate_succ,List.foldl_cons]
section
variable {X:Cx} {pins:List (Addr × Obj)} {σ:St} {H:Hp} {s:Shared} {l b:Addr} {xs ys zs:List V}
theorem Inv.lset {its its':List Value} {n:Nat} {f:Array Value→Array Value} {t':Nat} (I:Inv X pins σ H s) (hH:H l=some (.lst xs))
  (e:s.heap.get? l=some { cls:=.type "list",data:=.seq its.toArray n }) (hf:f its.toArray=its'.toArray) (hv:Vals ys its') (hz:ys.length≤sizeLine) :
  Inv X pins σ (upd H l (.lst ys)) { s with heap:=s.heap.update l (Obj.mapSeq f),toks:=t' }:=by
 have q:=PySem.IsL.update e f
 rw [hf] at q
 refine I.write (x:=l) (e:=l) (by rw [hH];exact trivial) (.inl rfl) (λb' u hb hu=>(wb s.heap (Obj.mapSeq f) (Ne.symm hb)).trans hu) ⟨_,q⟩ ?_
 exact ⟨hz,its',_,hv,q⟩
theorem Inv.lnew {its:List Value} {t':Nat} (I:Inv X pins σ H s) (hv:Vals ys its) (hz:ys.length≤sizeLine) :
  Inv X pins σ (upd H s.heap.objs.size (.lst ys)) { s with heap:=s.heap.push { cls:=.type "list",data:=.seq its.toArray },toks:=t' } :=
 I.laid (λ_ _ q=>wB _ q) (wF _) ⟨hz,its,0,hv,wG _ rfl⟩
theorem Inv.fresh (I:Inv X pins σ H s):H s.heap.objs.size=none:=I.hok.fresh (wF _)
theorem Inv.lstM (I:Inv X pins σ H s) (hH:H l=some (.lst xs)):xs.length≤sizeLine∧∃ (its:List Value) (n:Nat),Vals xs its∧xs.length=its.length∧s.heap.get? l=some { cls:=.type "list",data:=.seq its.toArray n }:=by
 obtain ⟨z,its,n,r,e⟩:=I.hok l _ hH
 exact ⟨z,its,n,r,r.length,e⟩
theorem notLongL {n:Nat} (h:n≤sizeLine):Builtin.List.listTooLong n=false:=by
 unfold Builtin.List.listTooLong
 exact wj (by lia)
end
section
variable {X:Cx}
noncomputable def rAppend:V→List V→Hp→VK→Prop:=λx vs H Q=>∃ l xs y,x=.ref l∧vs=[y]∧H l=some (.lst xs)∧xs.length<sizeLine∧Q .non (upd H l (.lst (xs++[y])))
theorem j9:MtM X "list.append" rAppend:=by
 intro pins s σ H x vs v us Q I rx rv h
 obtain ⟨l,xs,y,rfl,rfl,hH,hz,q⟩:=h
 cases rx
 obtain ⟨u,rfl,ru⟩:=rv.one
 obtain ⟨z,its,n,r,hl,e⟩:=I.lstM hH
 refine call_meets F.slot_list_append ⟨_,e,rfl⟩ F.entry_list_append (F.args_list_append_2 _ _) (PySem.list_append l its.toArray n u (by rw [wH];lia)) ⟨e,?_⟩
 refine ⟨.non,_,I.lset (its':=its++[u]) hH e (by simp) (r.append (.cons ru .nil)) ?_,rfl,q⟩
 rw [wV,wx]
 lia
noncomputable def rPopAt:V→List V→Hp→VK→Prop:=λx vs H Q=>∃ l xs i k y,x=.ref l∧vs=[.int i]∧H l=some (.lst xs)∧-(2^63)≤i∧i<2^63∧seqIndex? i xs.length=some k∧xs[k]?=some y∧Q y (upd H l (.lst (xs.eraseIdx k)))
theorem qeh:MtM X "list.pop" rPopAt:=by
 intro pins s σ H x vs v us Q I rx rv h
 obtain ⟨l,xs,i,k,y,rfl,rfl,hH,h1,h2,hk,hy,q⟩:=h
 cases rx
 obtain ⟨u,rfl,ru⟩:=rv.one
 obtain ⟨t,rfl⟩:=ru
 obtain ⟨z,its,n,r,hl,e⟩:=I.lstM hH
 obtain ⟨w,hw,rw'⟩:=r.get hy
 refine call_meets F.slot_list_pop ⟨_,e,rfl⟩ F.entry_list_pop (F.args_list_pop_2 _ _)
  (MeetsSeq.list_pop_at l its.toArray n i t k w (fitsIndex_both h1 h2) (by rw [wH,← hl];exact hk) (by rw [← Array.getElem?_toList];exact hw) (by rw [wH];lia)) ⟨e,?_⟩
 refine ⟨y,_,I.lset (its':=its.eraseIdx k) hH e ?_ (r.eraseIdx k) ?_,rw',q⟩
 ·show its.toArray.eraseIdxIfInBounds k=(its.eraseIdx k).toArray
  rw [List.eraseIdxIfInBounds_toArray]
 ·have:=j8 xs k
  lia
theorem qar {α:Type} (xs:List α) (k:Nat):(List.replicate k xs).flatten.length=k*xs.length:=by
 induction k with
 | zero=>simp
 | succ k ih=>rw [List.replicate_succ,List.flatten_cons,wV,ih,Nat.succ_mul,Nat.add_comm]
end
section
variable {prog:Program} {w:World} {A:Around} {E:Value→Shared→Prop} {s:Shared}
set_option maxRecDepth 100000 in
end
end L2
namespace L2
open PySem PySem.Spec PyProof.Rows
section
variable {κ:Type} [DecidableEq κ]
noncomputable def valV (kvs:List (κ × V)) (k:κ):Option V:=(kvs.find? λkv=>decide (kv.1=k)).map (·.2)
noncomputable def putK (kvs:List (κ × V)) (k:κ) (v:V):List (κ × V) :=
 if (kvs.any λkv=>decide (kv.1=k))=true then kvs.map (λkv=>if kv.1=k then (kv.1,v) else kv) else kvs++[(k,v)]
theorem yD {p:κ × V} {r:List (κ × V)} {k:κ} (e:p.1=k):valV (p::r) k=some p.2:=by simp [valV,List.find?_cons,e]
theorem yE {p:κ × V} {r:List (κ × V)} {k:κ} (e:¬ p.1=k):valV (p::r) k=valV r k:=by simp [valV,List.find?_cons,e]
theorem qa9 (k:κ):∀ kvs:List (κ × V),(kvs.any λkv=>decide (kv.1=k))=(valV kvs k).isSome
 | []=>rfl
 | p::r=>by
  rw [List.any_cons]
  by_cases e:p.1=k
  ·simp only [yD e,vM e,Bool.true_or,Option.isSome_some]
  ·rw [yE e,wj e,Bool.false_or];exact qa9 k r
theorem zv (kvs:List (κ × V)) (k:κ) (v:V):(putK kvs k v).length≤kvs.length+1:=by
 unfold putK
 split
 ·rw [wO];lia
 ·rw [wV,w4,List.length_nil];lia
theorem RelO.isSome_eq {o:Option V} {u:Option Value} (r:RelO o u):o.isSome=u.isSome:=by
 cases o with
 | none=>cases u with
  | none=>rfl
  | some _=>exact (show False from r).elim
 | some _=>cases u with
  | none=>exact (show False from r).elim
  | some _=>rfl
theorem KV.val {kvs:List (κ × V)} {vs:List (κ × Value)} (r:KV kvs vs) (k:κ):RelO (valV kvs k) (valueAt vs k):=by
 unfold KV at r
 induction r with
 | nil=>exact True.intro
 | @cons p q ps qs h t ih =>
  obtain ⟨h1,h2⟩:=h
  by_cases e:p.1=k
  ·have e':q.1=k:=h1.symm.trans e
   have b:valueAt (q::qs) k=some q.2:=by simp [valueAt,List.find?_cons,e']
   rw [yD e,b];exact h2
  ·have e':¬ q.1=k:=λz=>e (h1.trans z)
   have b:valueAt (q::qs) k=valueAt qs k:=by simp [valueAt,List.find?_cons,e']
   rw [yE e,b];exact ih
theorem KV.any {kvs:List (κ × V)} {vs:List (κ × Value)} (r:KV kvs vs) (k:κ):(kvs.any λkv=>decide (kv.1=k))=vs.any λkv=>decide (kv.1=k):=by
 unfold KV at r
 induction r with
 | nil=>rfl
 | cons h t ih=>rw [List.any_cons,List.any_cons,ih,h.1]
theorem KV.repl {kvs:List (κ × V)} {vs:List (κ × Value)} (r:KV kvs vs) (k:κ) {y:V} {u:Value} (ry:RelV y u) :
  KV (kvs.map λkv=>if kv.1=k then (kv.1,y) else kv) (vs.map λkv=>if kv.1=k then (kv.1,u) else kv):=by
 unfold KV at r ⊢
 induction r with
 | nil=>exact .nil
 | @cons p q ps qs h t ih =>
  rw [wQ,wQ]
  refine .cons ?_ ih
  obtain ⟨h1,h2⟩:=h
  by_cases e:p.1=k
  ·rw [wL e,wL (h1.symm.trans e)];exact ⟨h1,ry⟩
  ·rw [wN e,wN (λz=>e (h1.trans z))];exact ⟨h1,h2⟩
theorem KV.put {kvs:List (κ × V)} {vs:List (κ × Value)} (r:KV kvs vs) (k:κ) {y:V} {u:Value} (ry:RelV y u):KV (putK kvs k y) (stored vs k u):=by
 unfold putK stored
 rw [r.any k]
 by_cases e:(vs.any λkv=>decide (kv.1=k))=true
 ·rw [wL e,wL e];exact r.repl k ry
 ·rw [wN e,wN e];exact Paired.snoc r ⟨rfl,ry⟩
theorem KV.length {kvs:List (κ × V)} {vs:List (κ × Value)} (r:KV kvs vs):kvs.length=vs.length:=Paired.length r
end
theorem qcw {P:Program} {w:World} {k:Key} {u:Value} (r:RelV (kV k) u):(mixKind P w).is k u=true:=by
 cases k with
 | inl i=>obtain ⟨t,e⟩:=(show ∃ t,u=Value.int i t from r);subst e;exact qa3 P w i t
 | inr x=>obtain ⟨t,e⟩:=(show ∃ t,u=Value.str x t from r);subst e;exact qa4 P w x t
theorem qaa {P:Program} {w:World}:∀ {ks:List Key} {us:List Value},Vals (ks.map kV) us→ItemsAre (mixKind P w) ks us
 | [],_,r=>by rw [List.map_nil] at r;cases r;exact .nil
 | k::ks,_,r=>by
  rw [wQ] at r
  cases r with
  | cons h t=>exact .cons (qcw h) (qaa t)
noncomputable abbrev KT (H:Hp):List (List Key × V)→List (List Key × Addr × Value)→Prop:=Paired λp q=>p.1=q.1∧H q.2.1=some (.tup (p.1.map kV))∧RelV p.2 q.2.2
theorem KT.val {H:Hp} {kvs:List (List Key × V)} {xs:List (List Key × Addr × Value)} (r:KT H kvs xs) (k:List Key):RelO (valV kvs k) ((atKey xs k).map (·.2)):=by
 induction r with
 | nil=>exact True.intro
 | @cons p q ps qs h t ih =>
  obtain ⟨h1,_,h2⟩:=h
  by_cases e:p.1=k
  ·have e':q.1=k:=h1.symm.trans e
   have b:atKey (q::qs) k=some q.2:=by simp [atKey,List.find?_cons,e']
   rw [yD e,b];exact h2
  ·have e':¬ q.1=k:=λz=>e (h1.trans z)
   have b:atKey (q::qs) k=atKey qs k:=by simp [atKey,List.find?_cons,e']
   rw [yE e,b];exact ih
theorem KT.repl {H:Hp} {kvs:List (List Key × V)} {xs:List (List Key × Addr × Value)} (r:KT H kvs xs) (k:List Key) {y:V} {u:Value} (ry:RelV y u) :
  KT H (kvs.map λkv=>if kv.1=k then (kv.1,y) else kv) (xs.map (putAt k u)):=by
 induction r with
 | nil=>exact .nil
 | @cons p q ps qs h t ih =>
  rw [wQ,wQ]
  refine .cons ?_ ih
  obtain ⟨h1,h2,h3⟩:=h
  unfold putAt
  by_cases e:p.1=k
  ·rw [wL e,wL (h1.symm.trans e)];exact ⟨h1,h2,ry⟩
  ·rw [wN e,wN (λz=>e (h1.trans z))];exact ⟨h1,h2,h3⟩
theorem KT.put {H:Hp} {kvs:List (List Key × V)} {xs:List (List Key × Addr × Value)} (r:KT H kvs xs) (k:List Key) {b:Addr} {y:V} {u:Value} (hb:H b=some (.tup (k.map kV))) (ry:RelV y u) :
  KT H (putK kvs k y) (storedH xs k b u):=by
 have e:(kvs.any λkv=>decide (kv.1=k))=(atKey xs k).isSome:=by
  rw [qa9,(r.val k).isSome_eq,Option.isSome_map]
 unfold putK storedH
 rw [e]
 by_cases q:(atKey xs k).isSome=true
 ·rw [wL q,wL q];exact r.repl k ry
 ·rw [wN q,wN q];exact Paired.snoc r ⟨rfl,hb,ry⟩
theorem KT.keeps {H H':Hp} {kvs:List (List Key × V)} {xs:List (List Key × Addr × Value)} (r:KT H kvs xs) (ht:∀ b ys,H b=some (.tup ys)→H' b=some (.tup ys)):KT H' kvs xs :=
 Paired.mapP r λ_ _ z=>⟨z.1,ht _ _ z.2.1,z.2.2⟩
section
variable {P:Program} {w:World} {H:Hp} {h:Heap} {a:Addr}
theorem qhw {u:HO} (ok:HOk P w H h) (e:Rd H a u):ObjOk P w H h a u:=e.ok ok
theorem qcx {kvs:List (Key × V)} (ok:HOk P w H h) (e:Rd H a (.dK kvs)):kvs.length≤sizeLine∧(a == sysModules)=false∧∃ vs,KV kvs vs∧h.DictOf (mixKind P w) a vs :=
 show ObjOk P w H h a (.dK kvs) from qhw ok e
theorem qhx {kvs:List (Key × V)} (ok:HOk P w H h) (e:H a=some (.dK kvs)):kvs.length≤sizeLine∧(a == sysModules)=false∧∃ vs,KV kvs vs∧h.DictOf (mixKind P w) a vs:=qcx ok (.inl e)
theorem qb4 {ks:List Key} (ok:HOk P w H h) (e:H a=some (.tup (ks.map kV))):(tupleKind (mixKind P w)).is h ks a:=by
 obtain ⟨_,its,r,o,h1,h2,n,h3⟩:=(show ObjOk P w H h a (.tup (ks.map kV)) from ok a _ e)
 exact ⟨o,its.toArray,n,h1,h2,h3,by simpa using qaa r⟩
theorem qcy {kvs:List (List Key × V)} (ok:HOk P w H h) (e:Rd H a (.dT kvs)):kvs.length≤sizeLine∧(a == sysModules)=false ∧
  ∃ xs,KT H kvs xs∧h.DictOfH (tupleKind (mixKind P w)) a xs:=by
 obtain ⟨z,y,xs,r,o,es,ep,h1,h2,h3,h4,h5⟩:=(show ObjOk P w H h a (.dT kvs) from qhw ok e)
 refine ⟨z,y,xs,r,o,es,ep,h1,h2,h3,h4,λx hx=>?_,h5⟩
 have all:∀ {l:List (List Key × V)} {m:List (List Key × Addr × Value)},KT H l m→∀ x∈m,(tupleKind (mixKind P w)).is h x.1 x.2.1:=by
  intro l m q
  induction q with
  | nil=>intro x hx;exact nomatch hx
  | @cons p q ps qs hq t ih =>
   intro x hx
   rcases wZ.mp hx with e | hx
   ·subst e
    exact qb4 ok (by rw [← hq.1];exact hq.2.1)
   ·exact ih x hx
 exact all r x hx
theorem qjE {kvs:List (List Key × V)} (ok:HOk P w H h) (e:H a=some (.dT kvs)):kvs.length≤sizeLine∧(a == sysModules)=false ∧
  ∃ xs,KT H kvs xs∧h.DictOfH (tupleKind (mixKind P w)) a xs:=qcy ok (.inl e)
end
noncomputable def DGet (H:Hp) (a:Addr) (y:V) (r:Option V):Prop :=
 (∃ kvs k,Rd H a (.dK kvs)∧y=kV k∧r=valV kvs k)∨∃ kvs k b,Rd H a (.dT kvs)∧y=.ref b∧H b=some (.tup (k.map kV))∧r=valV kvs k
noncomputable def DPut (H:Hp) (a:Addr) (y v:V) (H':Hp):Prop :=
 (∃ kvs k,H a=some (.dK kvs)∧y=kV k∧kvs.length<sizeLine∧H'=upd H a (.dK (putK kvs k v))) ∨
 ∃ kvs k b,H a=some (.dT kvs)∧y=.ref b∧H b=some (.tup (k.map kV))∧kvs.length<sizeLine∧H'=upd H a (.dT (putK kvs k v))
theorem DGet.k {H:Hp} {a:Addr} {kvs:List (Key × V)} {k:Key} (e:H a=some (.dK kvs)):DGet H a (kV k) (valV kvs k):=.inl ⟨kvs,k,.inl e,rfl,rfl⟩
theorem DGet.t {H:Hp} {a b:Addr} {kvs:List (List Key × V)} {k:List Key} (e:H a=some (.dT kvs)) (eb:H b=some (.tup (k.map kV))):DGet H a (.ref b) (valV kvs k):=.inr ⟨kvs,k,b,.inl e,rfl,eb,rfl⟩
theorem DPut.k {H:Hp} {a:Addr} {kvs:List (Key × V)} {k:Key} {v:V} (e:H a=some (.dK kvs)) (hl:kvs.length<sizeLine):DPut H a (kV k) v (upd H a (.dK (putK kvs k v))):=.inl ⟨kvs,k,e,rfl,hl,rfl⟩
theorem DPut.t {H:Hp} {a b:Addr} {kvs:List (List Key × V)} {k:List Key} {v:V} (e:H a=some (.dT kvs)) (eb:H b=some (.tup (k.map kV))) (hl:kvs.length<sizeLine) :
  DPut H a (.ref b) v (upd H a (.dT (putK kvs k v))):=.inr ⟨kvs,k,b,e,rfl,eb,hl,rfl⟩
section
variable {X:Cx} {pins:List (Addr × Obj)} {σ:St} {H:Hp} {s:Shared} {a:Addr} {y v:V} {u r:Value} {o:Option V} {A:Around} {E:Value→Shared→Prop}
theorem Inv.big (I:Inv X pins σ H s):sysModules<s.heap.objs.size:=by
 have h:mainGlobals<s.heap.objs.size:=(I.mod.glob.keeps I.bk).lt
 exact Nat.lt_trans (by decide) h
theorem qab {Q:Value→Shared→Prop} (hu:A.units+1<cLine) (I:Inv X pins σ H s) (g:DGet H a y (some v)) (ry:RelV y u) (h:∀ w' s',Inv X pins σ H s'→RelV v w'→Q w' s') :
  wpAny (model X.prog X.w) A (getItem (.ref a) u) Q E s:=by
 rcases g with ⟨kvs,k,e,ey,l⟩ | ⟨kvs,k,b,e,ey,eb,l⟩
 ·subst ey
  obtain ⟨z,hd,vs,rel,dd⟩:=qcx I.hok e
  obtain ⟨w',hw,rw'⟩:=RelO.some_of (v:=v) (o:=valueAt vs k) (by rw [l];exact rel.val k)
  exact wpAny_getItem_of (qcw ry) dd.mapOf hw (h w' _ (I.tok _) rw')
 ·subst ey
  cases (show u=Value.ref b from ry)
  obtain ⟨z,hd,xs,rel,dd⟩:=qcy I.hok e
  obtain ⟨w',hw,rw'⟩:=RelO.some_of (v:=v) (o:=(atKey xs k).map (·.2)) (by rw [l];exact rel.val k)
  obtain ⟨p,hp,hp2⟩:=Option.map_eq_some_iff.mp hw
  refine wpAny_getItem_heap (tupleKind_room_in1 hu) (qb4 I.hok eb) dd hp ?_
  rw [hp2]
  exact h w' _ (I.tok _) rw'
theorem qas {h':Heap} {t':Nat} {ob:HO} (I:Inv X pins σ H s) (mu:Mut (H a)) (hs:Heap.SameBut a s.heap h') (he:∃ q,h'.get? a=some q) (new:ObjOk X.prog X.w (upd H a ob) h' a ob) :
  Inv X pins σ (upd H a ob) { s with heap:=h',toks:=t' } :=
 I.write (x:=a) (e:=a) mu (.inl rfl) (λb q hb z=>(hs.2 b hb).trans z) he new
theorem qei {P:Program} {w:World} {H':Hp} {h':Heap} {kvs:List (Key × V)} {vs:List (Key × Value)} (z:kvs.length≤sizeLine) (hd:(a == sysModules)=false) (rel:KV kvs vs) (dd:h'.DictOf (mixKind P w) a vs) :
  ObjOk P w H' h' a (.dK kvs):=⟨z,hd,vs,rel,dd⟩
theorem qdy {H':Hp} {Q:Unit→Shared→Prop} (hu:A.units+1<cLine) (I:Inv X pins σ H s) (g:DPut H a y v H') (ry:RelV y u) (rv:RelV v r) (h:∀ s',Inv X pins σ H' s'→Q () s') :
  wpAny (model X.prog X.w) A (setItem (.ref a) u r) Q E s:=by
 rcases g with ⟨kvs,k,e,ey,l,eH⟩ | ⟨kvs,k,b,e,ey,eb,l,eH⟩
 ·subst ey eH
  obtain ⟨z,hd,vs,rel,dd⟩:=qhx I.hok e
  have hz:vs.length≤sizeLine:=by rw [← rel.length];exact z
  have hl:(putK kvs k v).length≤sizeLine:=by have:=zv kvs k v;lia
  refine wpAny_setItem_pairs (hsz:=hz) (qcw ry) dd λh' dd' hs=>h _ ?_
  have he:∃ q,h'.get? a=some q:=let ⟨q,_,_,hq,_⟩:=dd';⟨q,hq⟩
  exact qas I (by rw [e];exact True.intro) hs he (qei hl hd (rel.put k rv) dd')
 ·subst ey eH
  cases (show u=Value.ref b from ry)
  obtain ⟨z,hd,xs,rel,dd⟩:=qjE I.hok e
  have hz:xs.length≤sizeLine:=by rw [← Paired.length rel];exact z
  have hl:(putK kvs k v).length≤sizeLine:=by have:=zv kvs k v;lia
  refine wpAny_setItem_heap (hsz:=hz) (tupleKind_room_in1 hu) (qb4 I.hok eb) dd λh' dd' hs=>h _ ?_
  obtain ⟨q,es,ep,hq,h2,h3,h4,_,h5⟩:=dd'
  refine qas I (by rw [e];exact True.intro) hs ⟨q,hq⟩ ⟨hl,hd,_,(rel.put k eb rv).keeps λc ys ec=>?_,q,es,ep,hq,h2,h3,h4,h5⟩
  rw [qk (qjs ec e (λz=>nomatch z))]
  exact ec
end
theorem qba {X:Cx} {pins:List (Addr × Obj)} {σ:St} {H:Hp} {s:Shared} {a:Addr} {y:V} {o:Option V} (I:Inv X pins σ H s) (g:DGet H a y o):s.TypeIs (.ref a) "dict":=by
 rcases g with ⟨kvs,k,e,_,_⟩ | ⟨kvs,k,b,e,_,_,_⟩
 ·obtain ⟨_,_,vs,_,dd⟩:=qcx I.hok e
  exact dd.typeIs
 ·obtain ⟨_,_,xs,_,dd⟩:=qcy I.hok e
  exact dd.typeIs
theorem qbb {P:Program} {w:World} {H:Hp} (h:Heap) (hb:sysModules<h.objs.size):ObjOk P w H (h.push { cls:=.type "dict",data:=.dict #[] }) h.objs.size (.dK []) :=
 ⟨vQ _,vI.mpr (Ne.symm (w6 hb)),[],.nil,Heap.DictOf.new h⟩
theorem qej {P:Program} {w:World} {H:Hp} (h:Heap) (hb:sysModules<h.objs.size):ObjOk P w H (h.push { cls:=.type "dict",data:=.dict #[] }) h.objs.size (.dT []) :=
 ⟨vQ _,vI.mpr (Ne.symm (w6 hb)),[],.nil,_,#[],0,wG _ rfl,⟨rfl,rfl,rfl⟩,rfl,rfl,List.nodup_nil⟩
noncomputable def tDNewK:TE:=λ_ H Q=>∀ p,H p=none→Q (.ref p) (upd H p (.dK []))
noncomputable def tDNewT:TE:=λ_ H Q=>∀ p,H p=none→Q (.ref p) (upd H p (.dT []))
section
variable {X:Cx} {pos:Pos}
theorem qbc:PE X (.Dict [] [] pos) tDNewK:=λpins s σ H Q I h =>
 wpAny_Dict_empty ⟨.ref s.heap.objs.size,_,I.laid (a:=s.heap.objs.size) (o:=.dK []) (t':=s.toks) (λ_ _ q=>wB _ q) (wF _) (qbb s.heap I.big),rfl,h _ (I.hok.fresh (wF _))⟩
theorem qek:PE X (.Dict [] [] pos) tDNewT:=λpins s σ H Q I h =>
 wpAny_Dict_empty ⟨.ref s.heap.objs.size,_,I.laid (a:=s.heap.objs.size) (o:=.dT []) (t':=s.toks) (λ_ _ q=>wB _ q) (wF _) (qej s.heap I.big),rfl,h _ (I.hok.fresh (wF _))⟩
end
noncomputable def IsD (H:Hp) (a:Addr):Prop:=(∃ kvs,Rd H a (.dK kvs))∨∃ kvs,Rd H a (.dT kvs)
theorem qiq {X:Cx} {pins:List (Addr × Obj)} {σ:St} {H:Hp} {s:Shared} {a:Addr} (I:Inv X pins σ H s) (d:IsD H a) :
  s.TypeIs (.ref a) "dict"∧(∀ b,Value.ref a=.ref b→∃ ob,s.heap.get? b=some ob∧ob.dict=none)∧(a == sysModules)=false:=by
 rcases d with ⟨kvs,e⟩ | ⟨kvs,e⟩
 ·obtain ⟨_,hd,vs,_,dd⟩:=qcx I.hok e
  refine ⟨dd.typeIs,λb q=>?_,hd⟩
  cases q
  obtain ⟨ob,_,_,h1,h2,_⟩:=dd
  exact ⟨ob,h1,h2.2.1⟩
 ·obtain ⟨_,hd,xs,_,dd⟩:=qcy I.hok e
  refine ⟨dd.typeIs,λb q=>?_,hd⟩
  cases q
  obtain ⟨ob,_,_,h1,h2,_⟩:=dd
  exact ⟨ob,h1,h2.2.1⟩
end L2
namespace Att
open PySem PySem.W PySem.Calls PyProof.Rows
theorem ja {P:Params} {h:Heap}:∀ (ns:List Int) (vs:List Value),WellAll P h vs (ns.map WData.int)→IntsAre vs ns:=by
 intro ns
 induction ns with
 | nil =>
  intro vs w
  rw [List.map_nil] at w
  cases w
  exact .nil
 | cons n ns ih =>
  intro vs w
  rw [wQ] at w
  cases w with
  | cons a b =>
   cases a
   exact .cons _ _ (ih _ b)
theorem qdz {l:OpenLaw} {n:Nat} (hn:l.most=some n) {P:Params} {h:Heap} {args:List WData} {vals:List Value}
  (hpre:l.row.toRowW.claim.pre args=true) (hwl:WellAll P h vals args) :
  ∃ a vs ns,vals=[Value.ref a]∧args=[WData.list (ns.map WData.int)]∧h.get? a=some { cls:=.type "list",data:=.seq vs.toArray }∧IntsAre vs ns∧ns.length≤n:=by
 have hsh:WShape.hasAll [] args [.list .int]=true:=(pre_splitW hpre).1
 have hc:l.pre.holds [] { args:=args }=true:=(pre_splitW hpre).2
 obtain ⟨d,r,rfl,h1,h2⟩:=hasAllW_cons hsh
 obtain rfl:=hasAllW_nil h2
 obtain ⟨xs,rfl,h3⟩:=hasW_list h1
 obtain ⟨ns,rfl⟩:=items_int h3
 have hlen:ns.length≤n:=by
  unfold OpenLaw.pre at hc
  have h4:(WTm.not (.lt (.lit (.int (n:Int))) (.len (.arg 0)))).holds [] { args:=[.list (ns.map .int)] }=true:=by
   have h4:=(holds_andW hc).1
   rw [hn] at h4
   exact h4
  have h5:=condW_of h4 (w_not (w_lt w_lit (w_len_list (w_arg rfl))))
  rw [wO] at h5
  refine Nat.le_of_not_lt λq=>?_
  have q':(n:Int)<((ns.length:Nat):Int):=by omega
  first
   | (rw [vM q'] at h5;exact absurd h5 (by decide))
   | (simp at h5;omega)
 cases hwl with
 | cons w1 w2 =>
  cases w2
  cases w1 with
  | list ho hall=>exact ⟨_,_,ns,rfl,rfl,ho,ja ns _ hall,hlen⟩
theorem qdA (l:OpenLaw) (args:List WData):l.row.toRowW.claim.post args (.bool true) args=true :=
 postW_of (r:=l.row.toRowW) (X:=(true == true))
  (show WShape.has [] (.bool true) .bool=true by first | rfl | decide | simp [WShape.has,WShape.arms,WShape.armsAll])
  (show (WTm.eq .res (.lit (.bool true))).value [] { args:=args,res:=some (.bool true),after:=args }=some (.bool (true == true)) from w_eq_bool (w_res rfl) w_lit) rfl
theorem attach_call {l:OpenLaw} {n:Nat} {q:Program} {loose:List Str} {XP:(Str→Option Value)→Heap→Prop} {YP:World→Heap→Prop} {d:DefRec}
  (hn:l.most=some n) (hdf:d.params.defaults=[])
  (call:∀ (w:World) (s₀ s₁:Shared) (mg mb:Str→Option Value) (fa:Addr) (o:Obj) (pm cd doc:Value) (a:Addr) (vs:List Value) (ns:List Int),
   Ground q loose [] XP w s₀ mg mb s₁.heap→YP w s₁.heap →
   s₁.heap.get? fa=some o→o.data=.func (docDef d.name d.params d.body d.scope pm cd doc)→s₁.heap.CodeRec cd d.name→mg d.name=some (.ref fa) →
   s₁.heap.get? a=some { cls:=.type "list",data:=.seq vs.toArray }→IntsAre vs ns→ns.length≤n→s₁.gens=#[] →
   codeAny (model l.prog w) callerA (.call (.ref fa) ⟨[.ref a],[]⟩) (λr s'=>r=.ok (.ret (.bool true))∧OldK s₁.heap s'.heap∧s'.os=s₁.os∧AllBare s'.gens) s₁) :
  WalkO q loose XP YP l.row.toRowW d [] (λf vs=>PySem.call f vs):=by
 intro w s₀ s₁ mg mb G Y fa o pm cd doc dV kV ho hd hcd hD hmg hg args vals as hpre hlay hrd hwl hlo
 obtain rfl:dV=.none:=Dflts.none hD hdf
 obtain rfl:kV=.none:=Dflts.noKw hD
 obtain ⟨a,vs,ns,rfl,rfl,hobj,hints,hlen⟩:=qdz hn hpre hwl
 refine enter_call (codeAny_mono (call w s₀ s₁ mg mb fa o pm cd doc a vs ns G Y ho (fd_plain hd) hcd hmg hobj hints hlen hg) λr s' hq=>?_)
 obtain ⟨rfl,h2,h3,h4⟩:=hq
 exact ⟨.inl ⟨.bool true,.bool true,[],rfl,λ_=>rfl,.bool true,qdA l _,λ_=>⟨List.Pairwise.nil,λ_ hm=>(nomatch hm)⟩⟩,h2,h3,h4⟩
end Att
namespace L2
open PySem PySem.Spec PyProof.Rows
theorem qac:∀ {vs:List Value} {ns:List Int},IntsAre vs ns→Vals (ns.map V.int) vs
 | _,_,.nil=>.nil
 | _,_,.cons n t h=>.cons ⟨t,rfl⟩ (qac h)
end L2
namespace L2
open PySem PySem.Spec PyProof.Rows
noncomputable def defArgs (s:Stmt):Arguments:=match s with
 | .FunctionDef _ a _ _ _ _ _ _ _ _=>a
 | _=>{ posonlyargs:=[],args:=[],vararg:=none,kwonlyargs:=[],kw_defaults:=[],kwarg:=none,defaults:=[] }
noncomputable def defBody (s:Stmt):List Stmt:=match s with
 | .FunctionDef _ _ b _ _ _ _ _ _ _=>b
 | _=>[]
noncomputable def defScope (s:Stmt):Scope:=match s with
 | .FunctionDef _ _ _ _ _ _ sc _ _ _=>sc
 | _=>{ kind:=.function,names:=[],isGenerator:=false,isCoroutine:=false }
noncomputable abbrev CX0:CXT:=λ_ _ _ _ _ _=>False
noncomputable abbrev E0:XK:=λ_ _ _=>False
theorem pass0 {X:Cx}:Passes CX0 X E0:=λ_ _ _ _ _ _ _ h=>h.elim
theorem qcz {A:Around} {k:Nat} (hr:Room k A):A.units+1<cLine:=Nat.lt_of_le_of_lt (Nat.add_le_add_left (by decide:1≤64) _) hr.units
end L2
namespace HT
open PySem PySem.Spec PyProof.Rows
section
variable {prog:Program} {w:World} {A:Around} {E:Value→Shared→Prop} {s:Shared}
theorem j0 {t:Addr} {items:Array Value} {Q:Bool→Shared→Prop} (ht:IsTup s.heap t items) (h:Q true s):wpAny (model prog w) A (Builtin.Tuple.tupleIsExact (.ref t)) Q E s:=by
 unfold Builtin.Tuple.tupleIsExact
 refine wA (wpAny_typeOf ht.typeIs ?_)
 exact wC h
theorem ym {t sl:Addr} {items:Array Value} {vl vu:Value} {lo hi:Option Int} {Q:Value→Shared→Prop} (ht:IsTup s.heap t items) (hs:s.heap.IsSliceOf sl vl vu .none) (pl:IsPart vl lo) (pu:IsPart vu hi)
  (hw:sIx items.size 0 lo=0∧sIx items.size items.size hi=items.size) (h:Q (.ref t) s):wpAny (model prog w) A (getItem (.ref t) (.ref sl)) Q E s:=by
 obtain ⟨os,hos,hcs,hds⟩:=id hs
 have hTs:s.TypeIs (.ref sl) "slice":=⟨os,hos,hcs⟩
 unfold getItem
 try with_reducible refine wo ?_
 first | refine wA (wC ?_) | skip
 refine wA (wpAny_sequenceKey ht.typeIs (by decide) ?_)
 refine wA (wf (name:=Str.ofString "__getitem__") ht.typeIs wt
  (wk wt ht.typeIs entry_tuple_getitem ?_ (args_tuple_getitem _ _)))
 show wpAny _ _ (Builtin.Tuple.tupleItemsOf (.ref t) >>= _) _ _ s
 refine wA (tupleItemsOf_ ht ?_)
 refine wA (wpAny_typeOf hTs ?_)
 rw [wL (by decide)]
 refine wA (zB hs pl pu ?_)
 have hyes:(((sIx items.size 0 lo:Nat):Int) == 0&&(1:Int) == 1&&(sIx items.size items.size hi-sIx items.size 0 lo) == items.size)=true:=by
  rw [hw.1,hw.2];simp
 show wpAny _ _ (if (((sIx items.size 0 lo:Nat):Int) == 0&&(1:Int) == 1&&(sIx items.size items.size hi-sIx items.size 0 lo) == items.size)=true then _ else _) _ _ s
 rw [wL hyes]
 refine wA (j0 ht ?_)
 rw [wL rfl]
 refine wA (wpAny_rule ?_)
 exact wA (wC (wC ⟨_,rfl,wC h⟩))
end
end HT
namespace HT
open PySem PySem.Spec PyProof.Rows
theorem yT:fillsNumberSlot (.type "tuple") "mul"=pure false :=
 PySem.fillsNumberSlot_seq (id:="tuple.__mul__") (r:=some (.builtin "tuple.__rmul__")) F.slot_tuple_mul.lookup (by decide +kernel) F.slot_tuple_rmul.lookup (by decide +kernel)
theorem qat:seqRepeat? (.type "tuple")=pure (some (.builtin "tuple.__mul__")):=by
 unfold seqRepeat?
 rw [PySem.seqSlot_of (T:="tuple") (name:="__mul__") (id:="tuple.__mul__") F.slot_tuple_mul.lookup (by decide +kernel),PySem.seqSlot_of (T:="tuple") (name:="__rmul__") (id:="tuple.__rmul__") F.slot_tuple_rmul.lookup (by decide +kernel)]
 rfl
section
variable {prog:Program} {w:World} {A:Around} {E:Value→Shared→Prop} {s:Shared}
theorem qel {a:Int} {t:Tok} {l:Addr} {items:Array Value} {Q:_→Shared→Prop} (ht:IsTup s.heap l items) (h:Q (.done (.ret Value.notImplemented)) s):wpAny (model prog w) A (Builtin.«int.__rmul__» ⟨[.int a t,.ref l],[]⟩) Q E s:=by
 obtain ⟨o,ho,hc,n,hd⟩:=ht
 obtain ⟨hp,g,d,tk,os⟩:=s
 obtain ⟨c,dd,da,sl⟩:=o
 cases hc
 cases hd
 wp_walk
 exact h
theorem qgy {l:Addr} {items:Array Value} {k:Int} {t:Tok} {Q:_→Shared→Prop} (ht:IsTup s.heap l items) (h1:-(2^63)≤k) (h2:k<2^63) (hz:items.size*k.toNat≤sizeLine)
  (hs:(items=#[]∨k=1)→Q (.done (.ret (.ref l))) s)
  (hn:(¬ (items=#[]∨k=1))→Q (.done (.ret (.ref s.heap.objs.size))) { s with heap:=s.heap.push { cls:=.type "tuple",data:=.seq ((List.replicate k.toNat items.toList).flatten).toArray } }) :
  wpAny (model prog w) A (Builtin.«tuple.__mul__» ⟨[.ref l,.int k t],[]⟩) Q E s:=by
 obtain ⟨o,ho,hc,n,hd⟩:=ht
 obtain ⟨hp,g,d,tk,os⟩:=s
 obtain ⟨c,dd,da,sl⟩:=o
 cases hc
 cases hd
 have f0:(decide (k < -(2^63)) || decide (k≥2^63))=false:=by simp;lia
 by_cases z:items=#[]∨k=1
 ·have f1:(items.isEmpty || k == 1)=true:=by
   rcases z with z | z
   ·rw [z];rfl
   ·rw [z];simp
  wp_walk
  rw [wN (by rw [f0];exact wT)]
  wp_walk
  exact hs z
 ·have f1:(items.isEmpty || k == 1)=false:=by
   simp only [Bool.or_eq_false_iff,vI]
   exact ⟨by rw [← Bool.not_eq_true];intro q;exact z (.inl (by simpa using q)),λq=>z (.inr q)⟩
  wp_walk
  rw [wN (by rw [f0];exact wT)]
  wp_walk
  have ne:items.isEmpty=false:=(Bool.or_eq_false_iff.mp f1).1
  by_cases k0:k≤0
  ·have f2:(decide (k≤0) || items.isEmpty)=true:=by rw [vM k0];rfl
   rw [wL f2]
   wp_walk
   have e:k.toNat=0:=by lia
   have:=hn z
   rw [e] at this
   exact this
  ·have f2:(decide (k≤0) || items.isEmpty)=false:=by rw [wj k0,ne];rfl
   rw [wN (by rw [f2];exact wT)]
   have ek:(items.size:Int)*k=((items.size*k.toNat:Nat):Int):=by
    rw [Int.natCast_mul];congr 1;lia
   have f3:¬ ((items.size:Int)*k>(2^63-1) / 8):=by
    rw [ek]
    have:((sizeLine:Nat):Int)≤(2^63-1) / 8:=by decide
    lia
   have f4:Builtin.Tuple.tupleTooMany ((items.size:Int)*k)=false:=by
    unfold Builtin.Tuple.tupleTooMany
    rw [ek,wj]
    lia
   have f5:List.foldl (λx1 x2=>x1++x2) #[] (List.replicate k.toNat items)=(List.replicate k.toNat items.toList).flatten.toArray:=by
    have:=L2.yS items.toList k.toNat []
    rw [List.nil_append] at this
    simpa using this
   rw [wN f3]
   wp_walk
   rw [f5]
   rw [wN (by rw [f4];exact wT)]
   have hl:sizeOk (.seq (List.replicate k.toNat items.toList).flatten.toArray):=by
    show (List.replicate k.toNat items.toList).flatten.toArray.size≤sizeLine
    rw [wH,L2.qar,Array.length_toList,Nat.mul_comm]
    exact hz
   show wpAny _ _ (Builtin.Tuple.tupleExact _ >>= _) _ _ _
   first
    | exact wA (m:=Builtin.Tuple.tupleExact _) (wY (wC (hn z)) hl)
    | exact wA (m:=Builtin.Tuple.tupleExact _) (wY (hn z) hl)
end
end HT
namespace L2
open PySem PySem.Spec PyProof.Rows
section
variable {X:Cx}
noncomputable def rSlW (K:PySem.W.Frag):V→Option Int→Option Int→Hp→VK→Prop:=λx lo hi H Q=>∃ a xs,x=.ref a∧SqT K H a xs ∧
 (HT.sIx xs.length 0 lo=0∧HT.sIx xs.length xs.length hi=xs.length)∧Q x H
theorem qgz:SlR X (rSlW X.K):=by
 intro pins s σ H x v vl vu lo hi sl Q I rx hs pl pu h
 obtain ⟨a,xs,rfl,hx,hw,q⟩:=h
 cases rx
 obtain ⟨its,r,ht,hz⟩:=I.tuple hx
 have hlen:its.toArray.size=xs.length:=by rw [wH];exact r.length.symm
 refine ⟨"tuple",_,wt.lookup,ht.typeIs,?_⟩
 exact HT.ym ht hs pl pu (by rw [hlen];exact hw) ⟨.ref a,H,I,rfl,q⟩
noncomputable def rRepT (K:PySem.W.Frag):R2:=λx y H Q=>∃ a k xs,x=.ref a∧y=.int k∧SqT K H a xs∧-(2^63)≤k∧k<2^63∧xs.length*k.toNat≤sizeLine ∧
 ((xs=[]∨k=1)→Q x H)∧((¬ (xs=[]∨k=1))→∀ p,H p=none→Q (.ref p) (upd H p (.tup (List.replicate k.toNat xs).flatten)))
theorem qgA:OpR X (binaryOp .Mult) (rRepT X.K):=by
 intro pins s σ H x y v u Q I rx ry h
 obtain ⟨a,k,xs,rfl,rfl,hx,h1,h2,hz,q1,q2⟩:=h
 cases rx
 obtain ⟨t,rfl⟩:=ry
 obtain ⟨its,r,ht,hz0⟩:=I.tuple hx
 have hlen:its.length=xs.length:=r.length.symm
 have hiff:(its.toArray=#[]∨k=1) ↔ (xs=[]∨k=1):=by
  constructor
  ·rintro (z | z)
   ·left
    have:its=[]:=by simpa using z
    rw [this] at hlen;exact w8.mp (by simpa using hlen.symm)
   ·exact .inr z
  ·rintro (z | z)
   ·left
    rw [z] at hlen
    have:its=[]:=w8.mp (by simpa using hlen)
    rw [this]
   ·exact .inr z
 refine wpAny_binaryOp_repeat_ref (T:="tuple") (U:="int") (by decide) ht.typeIs (λs'=>typeIs_int s' k t) HT.yT F.fills_int_mul F.slot_int_rmul HT.qat F.slot_int_index.lookup ?_
 refine wk F.slot_int_rmul (typeIs_int s k t) F.entry_int_rmul (HT.qel ht ⟨_,rfl,rfl,ht.typeIs,?_⟩) (F.args_int_rmul_2 _ _)
 refine wk F.slot_tuple_mul ht.typeIs F.entry_tuple_mul (HT.qgy ht h1 h2 (by rw [wH,hlen];exact hz) (λz=>⟨_,rfl,.ref a,H,I,rfl,q1 (hiff.mp z)⟩) λz=>⟨_,rfl,?_⟩) (F.args_tuple_mul_2 _ _)
 refine ⟨.ref s.heap.objs.size,_,I.laid (t':=s.toks) (o:=.tup (List.replicate k.toNat xs).flatten) (λb ob q=>wB _ q) (wF _) ?_,rfl,q2 (λy=>z (hiff.mpr y)) _ (I.hok.fresh (wF _))⟩
 exact ⟨by rw [qar,Nat.mul_comm];exact hz,_,r.rep k.toNat,IsTup.new _ _⟩
end
end L2
namespace HT
open PySem PyProof.Rows
theorem qem (A:Around) (s:Shared) (a:Int) (t:Tok) (c:Int) (u:Tok) (prog:Program) (w:World) (E:Value→Shared→Prop) (Q:Value→Shared→Prop) (h:Q (.bool (decide (c≤a))) s) :
  wpAny (model prog w) A (richCompare .GtE (.int a t) (.int c u)) Q E s :=
 (PyProof.Rows.ge_int h:wpAny (model prog w) A (compareOp .GtE (.int a t) (.int c u)) Q E s)
theorem qen (a c:Int):(!decide (a<c))=decide (c≤a):=by rw [Bool.eq_iff_iff];simp
theorem qeo (a c:Nat):(!decide (a<c))=decide (c≤a):=by rw [Bool.eq_iff_iff];simp
section
open PySem.SeqAt
open PySem.AutoSeq1 (wpAny_loadPart')
open PySem.MeetsSeq PySem.MeetsSeq2 PySem.MeetsSeq3
theorem j3 (l b:Addr) (items items2:Array Value) (n n2:Nat) (dd dd2:Option Addr) (sl sl2:Array (Option Value)) (ns ms:List Int) (hi:IntsAre items.toList ns) (hj:IntsAre items2.toList ms) :
  Meets (Builtin.«tuple.__ge__» ⟨[.ref l,.ref b],[]⟩)
   (λ_ R s=>s.heap.get? l=some { cls:=.type "tuple",dict:=dd,data:=.seq items n,slots:=sl }∧s.heap.get? b=some { cls:=.type "tuple",dict:=dd2,data:=.seq items2 n2,slots:=sl2 } ∧
    R (.ok (.ret (.bool (!lexLt ns ms)))) s) :=
 .of_wp λprog w A R s h=>by
  obtain ⟨hp,g,d,tk,os⟩:=s;obtain ⟨hl,hb,h⟩:=h
  have f2:=AutoSeq1.sub_tuple_tuple
  have z1:items.size=ns.length:=by rw [← hi.length];simp
  have z2:items2.size=ms.length:=by rw [← hj.length];simp
  wp_walk using wpAny_loadPart' hl,wpAny_loadPart' hb,wpAny_forIn_list _ (λrest b s'=>b.1=none∧s'=⟨hp,g,d,tk,os⟩∧∃ (vs ws:List Value) (ns' ms':List Int),rest=vs.zip ws ∧
   IntsAre vs ns'∧IntsAre ws ms'∧ns'.length+items2.size=ms'.length+items.size∧R (.ok (.ret (.bool (!lexLt ns' ms')))) ⟨hp,g,d,tk,os⟩) _
  case turn =>
   rintro ⟨y,x⟩ rest b s' ⟨hb',rfl,vs,ws,ns',ms',hz,hvi,hwi,hlen,hR⟩
   cases hvi with
   | nil=>rw [List.zip_nil_left] at hz;cases hz
   | cons a t hvi' =>
    cases hwi with
    | nil=>rw [List.zip_nil_right] at hz;cases hz
    | cons c u hwi' =>
     rw [List.zip_cons_cons] at hz
     injection hz with hyx hrest
     injection hyx with hy hx
     subst hy hx
     rw [qY] at hR
     simp only [w4] at hlen
     obtain ⟨e,he,hiff⟩:=qa8 A.in1 ⟨hp,g,d,tk,os⟩ a t c u
     refine wA (he prog w _ _ ?_)
     cases e with
     | true =>
      rw [wL (hiff.mp rfl)] at hR
      wp_walk
      exact ⟨rfl,rfl,_,_,_,_,hrest,hvi',hwi',by lia,hR⟩
     | false =>
      rw [wN (λq=>absurd (hiff.mpr q) wT)] at hR
      have hri:=qem A.in1 ⟨hp,g,d,tk,os⟩ a t c u prog w
      rw [qen] at hR
      wp_walk using hri
      exact ⟨_,rfl,by simpa using hR⟩
  case fin =>
   rintro ⟨b1,b2⟩ s' ⟨hb',rfl,vs,ws,ns',ms',hz,hvi,hwi,hlen,hR⟩
   simp only at hb'
   subst hb'
   have hv:lexLt ns' ms'=decide (items.size<items2.size):=by
    cases hvi with
    | nil =>
     cases hwi with
     | nil =>
      simp only [List.length_nil] at hlen
      rw [yn]
      exact (wj (by lia)).symm
     | cons c u hw =>
      simp only [List.length_nil,w4] at hlen
      rw [zP]
      exact (vM (by lia)).symm
    | cons a t hv =>
     cases hwi with
     | nil =>
      simp only [List.length_nil,w4] at hlen
      rw [zQ]
      exact (wj (by lia)).symm
     | cons c u hw =>
      rw [List.zip_cons_cons] at hz
      cases hz
   rw [hv,qeo] at hR
   wp_walk
   exact ⟨_,rfl,by simpa [Builtin.Tuple.tupleCompareSizes] using hR⟩
  case h =>
   exact ⟨rfl,rfl,items.toList,items2.toList,ns,ms,rfl,hi,hj,by lia,h⟩
end
section
variable {prog:Program} {w:World} {A:Around} {E:Value→Shared→Prop} {s:Shared}
theorem qb5 {l b:Addr} {items items2:Array Value} {ns ms:List Int} {Q:Value→Shared→Prop} (hl:IsTup s.heap l items) (hb:IsTup s.heap b items2) (hi:IntsAre items.toList ns) (hj:IntsAre items2.toList ms)
  (hu:A.units<cLine) (h:Q (.bool (!lexLt ns ms)) s):wpAny (model prog w) A (compareOp .GtE (.ref l) (.ref b)) Q E s:=by
 obtain ⟨⟨cls,dd,data,sl⟩,ho,hc,n,hd⟩:=id hl
 obtain ⟨⟨cls2,dd2,data2,sl2⟩,ho2,hc2,n2,hd2⟩:=id hb
 simp only at hc hd hc2 hd2
 subst hc hd hc2 hd2
 exact richCompare_meets_room (op:=.GtE) ⟨_,ho,rfl⟩ ⟨_,ho2,rfl⟩ PySem.F.slot_tuple_ge PySem.F.entry_tuple_ge (PySem.F.args_tuple_ge_2 _ _) (j3 l b items items2 n n2 dd dd2 sl sl2 ns ms hi hj)
  ⟨ho,ho2,show Value.bool (!lexLt ns ms)≠Value.notImplemented∧Q (.bool (!lexLt ns ms)) s from ⟨(λx=>nomatch x),h⟩⟩ hu
end
end HT
namespace L2
open PySem PySem.Spec PyProof.Rows
section
variable {X:Cx} {e:Expr} {te:TE} {pos p2 p3 p4:Pos}
noncomputable def rGeT (K:PySem.W.Frag):R2:=λx y H Q=>∃ a b ns ms,x=.ref a∧y=.ref b∧SqT K H a (ns.map V.int)∧SqT K H b (ms.map V.int)∧Q (.bl (!HT.lexLt ns ms)) H
theorem qir (hu:X.A.units<cLine):OpR X (compareOp .GtE) (rGeT X.K):=by
 intro pins s σ H x y v u Q I rx ry h
 obtain ⟨a,b,ns,ms,rfl,rfl,ha,hb,q⟩:=h
 cases rx
 cases ry
 obtain ⟨its,r1,p1,_⟩:=I.tuple ha
 obtain ⟨its2,r2,p2,_⟩:=I.tuple hb
 have i1:IntsAre its.toArray.toList ns:=qZ r1
 have i2:IntsAre its2.toArray.toList ms:=qZ r2
 exact HT.qb5 p1 p2 i1 i2 hu ⟨.bl (!HT.lexLt ns ms),H,I,rfl,q⟩
end
end L2
namespace HT
open PySem PyProof.Rows
section
variable {prog:Program} {w:World} {A:Around} {E:Value→Shared→Prop} {s:Shared}
noncomputable def Many (h:Heap) (d:Addr) (n:Nat):Prop:=∃ o es ep,h.get? d=some o∧o.data=.dict es ep∧es.size=n
theorem qb6 {d:Addr} {n:Nat} (hd:(d == sysModules)=false) :
  MeetsIn prog w (Builtin.«dict.__len__» ⟨[.ref d],[]⟩) (λ_ R s=>Many s.heap d n∧R (.ok (.ret (.int n s.toks))) { s with toks:=s.toks+1 }):=by
 refine .of_wp λA R s hs=>?_
 obtain ⟨⟨o,es,ep,ho,hdat,rfl⟩,h⟩:=hs
 have size:∀ {A:Around} {E:Value→Shared→Prop},wpAny (model prog w) A (dictSize d) (λk s'=>k=es.size∧s'=s) E s:=by
  intro A E;unfold dictSize;exact wA (wpAny_dictEntries ho hdat (wC ⟨rfl,rfl⟩))
 refine wA (m:=dictSize d) (vC size (λk s' ks=>?_) λ_ _ z=>z)
 obtain ⟨e1,e2⟩:=ks
 subst e1 e2
 exact wA (wpAny_pendingCount_other hd (wpAny_ret_mkInt h))
theorem qdB {d:Addr} {n:Nat} {Q:Value→Shared→Prop} (hd:(d == sysModules)=false) (hm:Many s.heap d n) (ht:s.TypeIs (.ref d) "dict") (hfit:(n:Int)<2^63)
  (h:Q (.int n (s.toks+1)) { s with toks:=s.toks+1+1 }):wpAny (model prog w) A (call (.builtin "len") [.ref d]) Q E s:=by
 have low:¬ ((n:Nat):Int)<0:=by lia
 have high:¬ ((n:Nat):Int)≥2^63:=by lia
 have slot:∀ {A:Around} {Q:Value→Shared→Prop},Q (.int n s.toks) { s with toks:=s.toks+1 }→wpAny (model prog w) A (call (.builtin "dict.__len__") [.ref d]) Q E s:=λq =>
  call_meetsIn F.slot_dict_len ht F.entry_dict_len (F.args_dict_len_1 _) (qb6 (n:=n) hd) ⟨hm,q⟩
 refine Calls.call_function_entry kind_len plain_len entry_len (args_len1 _) ?_
 unfold Builtin.«len»
 refine wA (m:=oneArg "len" _) (wC (wA (wf (name:=Str.ofString "__len__") ht F.slot_dict_len (slot ?_))))
 refine wA (wo (wC (wA (wpAny_letGo ?_))))
 show wpAny _ _ (if ((n:Nat):Int)<0 then _ else if ((n:Nat):Int)≥2^63 then _ else _) _ _ _
 rw [wN low,wN high];exact wA (wpAny_mkInt (wC ⟨_,rfl,h⟩))
end
end HT
namespace L2
open PySem PySem.Spec PyProof.Rows
section
variable {X:Cx}
theorem qdC:CallR X (.builtin "len") (λxs H Q=>∃ a kvs,xs=[V.ref a]∧H a=some (.dT kvs)∧Q (.int kvs.length) H):=by
 intro pins s σ H xs us Q I r h
 obtain ⟨a,kvs,rfl,ha,q⟩:=h
 obtain ⟨u,rfl,ru⟩:=vals1 r
 cases ru
 obtain ⟨z,y,ys,rel,o,es,ep,h1,h2,h3,h4,h5⟩:=(show ObjOk X.prog X.w H s.heap a (.dT kvs) from I.hok a _ ha)
 have hn:es.size=kvs.length:=by
  have e1:=congrArg List.length h4
  rw [wO,Array.length_toList] at e1
  rw [e1,rel.length]
 have hfit:((kvs.length:Nat):Int)<2^63:=by rw [vF] at z;lia
 exact HT.qdB y ⟨o,es,ep,h1,h3,hn⟩ (qiq I (.inr ⟨kvs,.inl ha⟩)).1 hfit ⟨.int kvs.length,H,I.tok _,⟨_,rfl⟩,q⟩
end
end L2
namespace R
open PySem PySem.Spec PyProof.Rows L2
inductive D where
 | non | bl (b:Bool) | int (i:Int) | str (x:Str)
 | tup (l:List D) | lst (l:List D) | emp
 | ref (n:Nat)
mutual
noncomputable def Den (ι:List Addr) (H:Hp):D→V→Prop
 | .non,v=>v=.non
 | .bl b,v=>v=.bl b
 | .int i,v=>v=.int i
 | .str x,v=>v=.str x
 | .tup ds,v=>∃ a xs,v=.ref a∧a ∉ ι∧H a=some (.tup xs)∧Dens ι H ds xs
 | .lst ds,v=>∃ a xs,v=.ref a∧a ∉ ι∧Rd H a (.lst xs)∧Dens ι H ds xs
 | .emp,v=>∃ a,v=.ref a∧a ∉ ι∧H a=some (.dK [])
 | .ref n,v=>∃ a,v=.ref a∧ι[n]?=some a
noncomputable def Dens (ι:List Addr) (H:Hp):List D→List V→Prop
 | [],xs=>xs=[]
 | d::ds,xs=>∃ x r,xs=x::r∧Den ι H d x∧Dens ι H ds r
end
noncomputable def NT:HO→Prop
 | .tbl _=>False
 | _=>True
structure Stp (ι:List Addr) (H:Hp) (ι':List Addr) (H':Hp):Prop where
 pre:ι <+: ι'
 new:∀ a∈ι',a∈ι∨H a=none
 keep:∀ a o,H a=some o→a ∉ ι→NT o→H' a=some o
 there:∀ a,H a≠none→H' a≠none
theorem Stp.refl (ι:List Addr) (H:Hp):Stp ι H ι H:=⟨List.prefix_refl _,λ_ h=>.inl h,λ_ _ h _ _=>h,λ_ h=>h⟩
theorem Stp.notin {ι ι':List Addr} {H H':Hp} (s:Stp ι H ι' H') {a:Addr} {o:HO} (h:H a=some o) (n:a ∉ ι):a ∉ ι':=λm=>by
 rcases s.new a m with z | z
 ·exact n z
 ·rw [h] at z;cases z
theorem Stp.trans {ι ι1 ι2:List Addr} {H H1 H2:Hp} (s:Stp ι H ι1 H1) (t:Stp ι1 H1 ι2 H2):Stp ι H ι2 H2 where
 pre:=s.pre.trans t.pre
 new:=λa m=>by
  rcases t.new a m with z | z
  ·exact s.new a z
  ·cases q:H a with
   | none=>exact .inr rfl
   | some o=>exact absurd z (s.there a (by rw [q];simp))
 keep:=λa o h n z=>t.keep a o (s.keep a o h n z) (s.notin h n) z
 there:=λa h=>t.there a (s.there a h)
theorem Stp.get {ι ι':List Addr} {H H':Hp} (s:Stp ι H ι' H') {n:Nat} {a:Addr} (h:ι[n]?=some a):ι'[n]?=some a:=by
 obtain ⟨t,rfl⟩:=s.pre
 rw [wW (wK.mp h).1]
 exact h
theorem Stp.rd {ι ι':List Addr} {H H':Hp} (s:Stp ι H ι' H') {a:Addr} {u:HO} (h:Rd H a u) (n:a ∉ ι) (z:NT u:=by trivial):Rd H' a u∧a ∉ ι':=by
 rcases h with h | ⟨o,h⟩
 ·exact ⟨.inl (s.keep _ _ h n z),s.notin h n⟩
 ·exact ⟨.inr ⟨o,s.keep _ _ h n trivial⟩,s.notin h n⟩
mutual
theorem Den.mono {ι ι':List Addr} {H H':Hp} (s:Stp ι H ι' H'):∀ (d:D) {v:V},Den ι H d v→Den ι' H' d v
 | .non,_,h=>h
 | .bl _,_,h=>h
 | .int _,_,h=>h
 | .str _,_,h=>h
 | .tup ds,_,h=>by
  obtain ⟨a,xs,e,n,ha,r⟩:=h
  exact ⟨a,xs,e,s.notin ha n,s.keep _ _ ha n trivial,Dens.mono s ds r⟩
 | .lst ds,_,h=>by
  obtain ⟨a,xs,e,n,ha,r⟩:=h
  exact ⟨a,xs,e,(s.rd ha n).2,(s.rd ha n).1,Dens.mono s ds r⟩
 | .emp,_,h=>by
  obtain ⟨a,e,n,ha⟩:=h
  exact ⟨a,e,s.notin ha n,s.keep _ _ ha n trivial⟩
 | .ref _,_,h=>by
  obtain ⟨a,e,ha⟩:=h
  exact ⟨a,e,s.get ha⟩
theorem Dens.mono {ι ι':List Addr} {H H':Hp} (s:Stp ι H ι' H'):∀ (ds:List D) {xs:List V},Dens ι H ds xs→Dens ι' H' ds xs
 | [],_,h=>h
 | d::ds,_,h=>by
  obtain ⟨x,r,e,h1,h2⟩:=h
  exact ⟨x,r,e,Den.mono s d h1,Dens.mono s ds h2⟩
end
theorem Dens.length {ι:List Addr} {H:Hp}:∀ {ds:List D} {xs:List V},Dens ι H ds xs→ds.length=xs.length
 | [],_,h=>by cases (show _=[] from h);rfl
 | d::ds,_,h=>by
  obtain ⟨x,r,rfl,_,h2⟩:=h
  simp [Dens.length h2]
theorem Dens.append {ι:List Addr} {H:Hp}:∀ {ds es:List D} {xs ys:List V},Dens ι H ds xs→Dens ι H es ys→Dens ι H (ds++es) (xs++ys)
 | [],_,_,_,h,k=>by cases (show _=[] from h);exact k
 | d::ds,_,_,_,h,k=>by
  obtain ⟨x,r,rfl,h1,h2⟩:=h
  exact ⟨x,_,rfl,h1,Dens.append h2 k⟩
theorem Dens.get {ι:List Addr} {H:Hp}:∀ {ds:List D} {xs:List V} {i:Nat} {d:D},Dens ι H ds xs→ds[i]?=some d→∃ x,xs[i]?=some x∧Den ι H d x
 | [],_,_,_,_,e=>by simp at e
 | d::ds,_,0,_,h,e=>by
  obtain ⟨x,r,rfl,h1,h2⟩:=h
  simp at e;subst e
  exact ⟨x,rfl,h1⟩
 | d::ds,_,i+1,_,h,e=>by
  obtain ⟨x,r,rfl,h1,h2⟩:=h
  obtain ⟨y,e1,e2⟩:=Dens.get (i:=i) h2 (by simpa using e)
  exact ⟨y,by simpa using e1,e2⟩
theorem Dens.take {ι:List Addr} {H:Hp}:∀ {ds:List D} {xs:List V} (n:Nat),Dens ι H ds xs→Dens ι H (ds.take n) (xs.take n)
 | _,_,0,_=>by simp [Dens]
 | [],_,n+1,h=>by cases (show _=[] from h);simp [Dens]
 | d::ds,_,n+1,h=>by
  obtain ⟨x,r,rfl,h1,h2⟩:=h
  exact ⟨x,_,rfl,h1,Dens.take n h2⟩
theorem Dens.drop {ι:List Addr} {H:Hp}:∀ {ds:List D} {xs:List V} (n:Nat),Dens ι H ds xs→Dens ι H (ds.drop n) (xs.drop n)
 | _,_,0,h=>by simpa using h
 | [],_,n+1,h=>by cases (show _=[] from h);simp [Dens]
 | d::ds,_,n+1,h=>by
  obtain ⟨x,r,rfl,h1,h2⟩:=h
  exact Dens.drop n h2
theorem Dens.set {ι:List Addr} {H:Hp} {d:D} {x:V} (hd:Den ι H d x):∀ {ds:List D} {xs:List V} (i:Nat),Dens ι H ds xs→Dens ι H (ds.set i d) (xs.set i x)
 | [],_,_,h=>by cases (show _=[] from h);simp [Dens]
 | d::ds,_,0,h=>by
  obtain ⟨x,r,rfl,h1,h2⟩:=h
  exact ⟨_,_,rfl,hd,h2⟩
 | d::ds,_,i+1,h=>by
  obtain ⟨x,r,rfl,h1,h2⟩:=h
  exact ⟨_,_,rfl,h1,Dens.set hd i h2⟩
theorem Dens.snoc {ι:List Addr} {H:Hp} {d:D} {x:V} {ds:List D} {xs:List V} (h:Dens ι H ds xs) (hd:Den ι H d x):Dens ι H (ds++[d]) (xs++[x]) :=
 h.append ⟨x,[],rfl,hd,rfl⟩
mutual
noncomputable def refsLt (n:Nat):D→Bool
 | .ref k=>decide (k<n)
 | .tup l=>refsLts n l
 | .lst l=>refsLts n l
 | _=>true
noncomputable def refsLts (n:Nat):List D→Bool
 | []=>true
 | d::r=>refsLt n d&&refsLts n r
end
theorem zS (n:Nat):∀ (a b:List D),refsLts n (a++b)=(refsLts n a&&refsLts n b)
 | [],b=>by simp [refsLts]
 | d::r,b=>by simp only [List.cons_append,refsLts,zS n r b,Bool.and_assoc]
theorem zk {n:Nat}:∀ {l:List D} {d:D},refsLts n l=true→d∈l→refsLt n d=true
 | [],_,_,h=>by cases h
 | x::r,d,h,m=>by
  simp only [refsLts,wU] at h
  rcases wZ.mp m with z | z
  ·rw [z];exact h.1
  ·exact zk h.2 z
theorem zJ {n:Nat}:∀ {l:List D},(∀ d∈l,refsLt n d=true)→refsLts n l=true
 | [],_=>rfl
 | x::r,h=>by
  simp only [refsLts,wU]
  exact ⟨h x wJ,zJ λd m=>h d (wM _ m)⟩
mutual
theorem Den.less {ι:List Addr} {H:Hp} {n:Nat}:∀ (d:D) {v:V},refsLt n d=true→Den ι H d v→Den (ι.take n) H d v
 | .non,_,_,h=>h
 | .bl _,_,_,h=>h
 | .int _,_,_,h=>h
 | .str _,_,_,h=>h
 | .tup ds,_,r,h=>by
  obtain ⟨a,xs,e,m,ha,q⟩:=h
  exact ⟨a,xs,e,λz=>m (List.mem_of_mem_take z),ha,Dens.less ds r q⟩
 | .lst ds,_,r,h=>by
  obtain ⟨a,xs,e,m,ha,q⟩:=h
  exact ⟨a,xs,e,λz=>m (List.mem_of_mem_take z),ha,Dens.less ds r q⟩
 | .emp,_,_,h=>by
  obtain ⟨a,e,m,ha⟩:=h
  exact ⟨a,e,λz=>m (List.mem_of_mem_take z),ha⟩
 | .ref k,_,r,h=>by
  obtain ⟨a,e,ha⟩:=h
  exact ⟨a,e,by rw [List.getElem?_take_of_lt (vG r)];exact ha⟩
theorem Dens.less {ι:List Addr} {H:Hp} {n:Nat}:∀ (ds:List D) {xs:List V},refsLts n ds=true→Dens ι H ds xs→Dens (ι.take n) H ds xs
 | [],_,_,h=>h
 | d::ds,_,r,h=>by
  obtain ⟨x,t,e,h1,h2⟩:=h
  simp only [refsLts,wU] at r
  exact ⟨x,t,e,Den.less d r.1 h1,Dens.less ds r.2 h2⟩
end
mutual
theorem q8 {n:Nat}:∀ (d:D),refsLt 0 d=true→refsLt n d=true
 | .non,_=>rfl
 | .bl _,_=>rfl
 | .int _,_=>rfl
 | .str _,_=>rfl
 | .tup ds,h=>qL ds h
 | .lst ds,h=>qL ds h
 | .emp,_=>rfl
 | .ref k,h=>absurd (vG (show decide (k<0)=true from h)) (Nat.not_lt_zero _)
theorem qL {n:Nat}:∀ (ds:List D),refsLts 0 ds=true→refsLts n ds=true
 | [],_=>rfl
 | d::ds,h=>by
  simp only [refsLts,wU] at h ⊢
  exact ⟨q8 d h.1,qL ds h.2⟩
end
mutual
theorem qdD {m n:Nat} (h:m≤n):∀ (d:D),refsLt m d=true→refsLt n d=true
 | .non,_=>rfl
 | .bl _,_=>rfl
 | .int _,_=>rfl
 | .str _,_=>rfl
 | .tup ds,q=>zK h ds q
 | .lst ds,q=>zK h ds q
 | .emp,_=>rfl
 | .ref k,q=>vM (wX (vG (show decide (k<m)=true from q)) h)
theorem zK {m n:Nat} (h:m≤n):∀ (ds:List D),refsLts m ds=true→refsLts n ds=true
 | [],_=>rfl
 | d::ds,q=>by
  simp only [refsLts,wU] at q ⊢
  exact ⟨qdD h d q.1,zK h ds q.2⟩
end
inductive SO where
 | lst (l:List D)
 | dic (l:List (List Int × D))
 | dis (l:List (Key × D))
noncomputable def keyT (k:List Int):List Key:=k.map Sum.inl
noncomputable def DGs {κ K:Type} (f:κ→K) (ι:List Addr) (H:Hp):List (κ × D)→List (K × V)→Prop
 | [],kvs=>kvs=[]
 | p::l,kvs=>∃ v r,kvs=(f p.1,v)::r∧Den ι H p.2 v∧DGs f ι H l r
theorem DGs.mono {κ K:Type} {f:κ→K} {ι ι':List Addr} {H H':Hp} (s:Stp ι H ι' H'):∀ {l:List (κ × D)} {kvs:List (K × V)},DGs f ι H l kvs→DGs f ι' H' l kvs
 | [],_,h=>h
 | _::_,_,h=>let ⟨v,r,e,h1,h2⟩:=h;⟨v,r,e,Den.mono s _ h1,DGs.mono s h2⟩
theorem DGs.length {κ K:Type} {f:κ→K} {ι:List Addr} {H:Hp}:∀ {l:List (κ × D)} {kvs:List (K × V)},DGs f ι H l kvs→l.length=kvs.length
 | [],_,h=>by cases (show _=[] from h);rfl
 | _::_,_,h=>by obtain ⟨v,r,rfl,_,h2⟩:=h;simp [DGs.length h2]
theorem DGs.less {κ K:Type} {f:κ→K} {ι:List Addr} {H:Hp} {n:Nat}:∀ {l:List (κ × D)} {kvs:List (K × V)},refsLts n (l.map (·.2))=true→DGs f ι H l kvs→DGs f (ι.take n) H l kvs
 | [],_,_,h=>h
 | _::_,_,r,h=>by
  obtain ⟨v,t,e,h1,h2⟩:=h
  simp only [wQ,refsLts,wU] at r
  exact ⟨v,t,e,Den.less _ r.1 h1,DGs.less r.2 h2⟩
noncomputable def SOk (ι:List Addr) (H:Hp) (a:Addr):SO→Prop
 | .lst ds=>(∃ j,ι[j]?=some a∧refsLts j ds=true)∧∃ xs,H a=some (.lst xs)∧Dens ι H ds xs
 | .dic l=>refsLts 0 (l.map (·.2))=true∧∃ kvs,H a=some (.dT kvs)∧DGs keyT ι H l kvs
 | .dis l=>refsLts 0 (l.map (·.2))=true∧∃ kvs,H a=some (.dK kvs)∧DGs id ι H l kvs
structure Sto (ι:List Addr) (H:Hp) (S:List SO):Prop where
 len:ι.length=S.length
 nd:ι.Nodup
 obj:∀ (n:Nat) (a:Addr) (so:SO),ι[n]?=some a→S[n]?=some so→SOk ι H a so
theorem SOk.some {ι:List Addr} {H:Hp} {a:Addr}:∀ {so:SO},SOk ι H a so→H a≠none
 | .lst _,⟨_,_,h,_⟩=>by rw [h];simp
 | .dic _,⟨_,_,h,_⟩=>by rw [h];simp
 | .dis _,⟨_,_,h,_⟩=>by rw [h];simp
theorem Sto.there {ι:List Addr} {H:Hp} {S:List SO} (s:Sto ι H S) {a:Addr} (m:a∈ι):H a≠none:=by
 obtain ⟨n,hn,e⟩:=List.getElem_of_mem m
 have hs:n<S.length:=by rw [← s.len];exact hn
 exact (s.obj n a S[n] (by rw [wD hn,e]) (wD hs)).some
theorem Sto.fresh {ι:List Addr} {H:Hp} {S:List SO} (s:Sto ι H S) {a:Addr} (h:H a=none):a ∉ ι:=λm=>s.there m h
theorem SOk.mono {ι ι':List Addr} {H H':Hp} (s:Stp ι H ι' H') {a:Addr} (hk:H' a=H a):∀ {so:SO},SOk ι H a so→SOk ι' H' a so
 | .lst ds,⟨⟨j,e,f⟩,xs,h,r⟩=>⟨⟨j,s.get e,f⟩,xs,by rw [hk];exact h,Dens.mono s _ r⟩
 | .dic l,⟨f,vs,h,r⟩=>⟨f,vs,by rw [hk];exact h,DGs.mono s r⟩
 | .dis l,⟨f,vs,h,r⟩=>⟨f,vs,by rw [hk];exact h,DGs.mono s r⟩
theorem Stp.laid {ι:List Addr} {H:Hp} {p:Addr} (h:H p=none) (o:HO):Stp ι H ι (upd H p o) where
 pre:=List.prefix_refl _
 new:=λ_ m=>.inl m
 keep:=λa u e _ _=>by rw [qk (ze e h)];exact e
 there:=λa e=>by
  by_cases z:a=p
  ·subst z;rw [qu];simp
  ·rw [qk z];exact e
theorem Sto.laid {ι:List Addr} {H:Hp} {S:List SO} (s:Sto ι H S) {p:Addr} (h:H p=none) (o:HO):Sto ι (upd H p o) S where
 len:=s.len
 nd:=s.nd
 obj:=λn a so e1 e2=>(s.obj n a so e1 e2).mono (Stp.laid h o) (by
  rw [qk];intro z;subst z;exact s.there (wn e1) h)
theorem Stp.grow {ι:List Addr} {H:Hp} {p:Addr} (h:H p=none) (o:HO):Stp ι H (ι++[p]) (upd H p o) where
 pre:=List.prefix_append _ _
 new:=λa m=>by
  rcases vO.mp m with z | z
  ·exact .inl z
  ·rw [w9.mp z];exact .inr h
 keep:=(Stp.laid (ι:=ι) h o).keep
 there:=(Stp.laid (ι:=ι) h o).there
theorem Sto.grow {ι:List Addr} {H:Hp} {S:List SO} (s:Sto ι H S) {p:Addr} (h:H p=none) {o:HO} {so:SO} (k:SOk (ι++[p]) (upd H p o) p so):Sto (ι++[p]) (upd H p o) (S++[so]) where
 len:=by simp [s.len]
 nd:=by
  rw [List.nodup_append]
  refine ⟨s.nd,by simp,λa ha b hb e=>?_⟩
  rw [w9.mp hb] at e;subst e
  exact s.fresh h ha
 obj:=λn a x e1 e2=>by
  by_cases hn:n<ι.length
  ·rw [wW hn] at e1
   rw [wW (by rw [← s.len];exact hn)] at e2
   exact (s.obj n a x e1 e2).mono (Stp.grow h o) (by
    rw [qk];intro z;subst z;exact s.there (wn e1) h)
  ·rw [wS (by lia)] at e1
   rw [wS (by rw [← s.len];lia)] at e2
   have z:n-ι.length=0:=by
    have:=(wK.mp e1).1
    simp at this;lia
   rw [z] at e1
   rw [← s.len,z] at e2
   simp at e1 e2
   subst e1 e2
   exact k
theorem Stp.put {ι:List Addr} {H:Hp} {p:Addr} (m:p∈ι) (o:HO):Stp ι H ι (upd H p o) where
 pre:=List.prefix_refl _
 new:=λ_ m=>.inl m
 keep:=λa u e n _=>by rw [qk (λz=>n (by rw [z];exact m))];exact e
 there:=λa e=>by
  by_cases z:a=p
  ·subst z;rw [qu];simp
  ·rw [qk z];exact e
theorem qR {ι:List Addr} (hN:ι.Nodup) {i j:Nat} {x:Addr} (a:ι[i]?=some x) (b:ι[j]?=some x):i=j:=by
 obtain ⟨h1,e1⟩:=wK.mp a
 obtain ⟨h2,e2⟩:=wK.mp b
 exact (List.getElem_inj hN).mp (e1.trans e2.symm)
theorem Sto.put {ι:List Addr} {H:Hp} {S:List SO} (s:Sto ι H S) {n:Nat} {p:Addr} (hp:ι[n]?=some p) {o:HO} {so:SO} (k:SOk ι (upd H p o) p so):Sto ι (upd H p o) (S.set n so) where
 len:=by rw [List.length_set];exact s.len
 nd:=s.nd
 obj:=λj a x e1 e2=>by
  by_cases hj:j=n
  ·subst hj
   rw [hp] at e1
   obtain rfl:=Option.some.inj e1
   have hl:j<S.length:=by rw [← s.len];exact (wK.mp hp).1
   rw [List.getElem?_set_self hl] at e2
   obtain rfl:=Option.some.inj e2
   exact k
  ·rw [List.getElem?_set_ne (Ne.symm hj)] at e2
   refine (s.obj j a x e1 e2).mono (Stp.put (wn hp) o) ?_
   rw [qk]
   intro z;subst z
   exact hj (qR s.nd e1 hp)
theorem Sto.less {ι:List Addr} {H:Hp} {S:List SO} (s:Sto ι H S) (n:Nat):Sto (ι.take n) H (S.take n) where
 len:=by rw [wq,wq,s.len]
 nd:=s.nd.sublist (List.take_sublist _ _)
 obj:=λj a so e1 e2=>by
  have h1:ι[j]?=some a:=by
   have:=(wK.mp e1).1
   rw [wq] at this
   rw [List.getElem?_take_of_lt (by lia)] at e1;exact e1
  have h2:S[j]?=some so:=by
   have:=(wK.mp e2).1
   rw [wq] at this
   rw [List.getElem?_take_of_lt (by lia)] at e2;exact e2
  have k:=s.obj j a so h1 h2
  cases so with
  | lst ds =>
   obtain ⟨⟨i,ei,f⟩,xs,h,r⟩:=k
   have hj:j<(ι.take n).length:=(wK.mp e1).1
   rw [wq] at hj
   obtain rfl:i=j:=qR s.nd ei h1
   exact ⟨⟨i,e1,f⟩,xs,h,Dens.less ds (zK (by lia) ds f) r⟩
  | dic l =>
   obtain ⟨f,kvs,h,r⟩:=k
   exact ⟨f,kvs,h,DGs.less (qL _ f) r⟩
  | dis l =>
   obtain ⟨f,kvs,h,r⟩:=k
   exact ⟨f,kvs,h,DGs.less (qL _ f) r⟩
theorem Stp.less {ι ι':List Addr} {H H':Hp} (s:Stp ι H ι' H'):Stp ι H (ι'.take ι.length) H':=by
 have e:ι'.take ι.length=ι:=by
  obtain ⟨t,rfl⟩:=s.pre
  simp
 rw [e]
 exact ⟨List.prefix_refl _,λ_ m=>.inl m,s.keep,s.there⟩
theorem Stp.take_eq {ι ι':List Addr} {H H':Hp} (s:Stp ι H ι' H'):ι'.take ι.length=ι:=by
 obtain ⟨t,rfl⟩:=s.pre
 simp
end R
namespace R
open PySem PySem.Spec PyProof.Rows L2
noncomputable abbrev Sr:=List SO
noncomputable abbrev En:=List (Option D)
inductive Res (α:Type) where
 | ok (a:α) (S:Sr) | err (x:D) (S:Sr) | no
@[reducible] noncomputable def Res.bind {α β:Type} (r:Res α) (f:α→Sr→Res β):Res β:=match r with
 | .ok a S=>f a S
 | .err x S=>.err x S
 | .no=>.no
@[simp] theorem Res.bind_ok {α β:Type} (a:α) (S:Sr) (f:α→Sr→Res β):(Res.ok a S).bind f=f a S:=rfl
@[simp] theorem Res.bind_err {α β:Type} (x:D) (S:Sr) (f:α→Sr→Res β):(Res.err x S).bind f=.err x S:=rfl
@[simp] theorem Res.bind_no {α β:Type} (f:α→Sr→Res β):(Res.no:Res α).bind f=.no:=rfl
noncomputable def ofO {α:Type} (o:Option α) (S:Sr):Res α:=match o with
 | some a=>.ok a S
 | none=>.no
@[simp] theorem qjF {α:Type} (a:α) (S:Sr):ofO (some a) S=.ok a S:=rfl
@[simp] theorem qjG {α:Type} (S:Sr):(ofO none S:Res α)=.no:=rfl
inductive BOp where | add | sub | mul | fdiv | mod | pow | shl | shr | band
inductive COp where | eq | ne | lt | le | gt | ge | is | isn | inn | nin
inductive Ty where | int | bool | tuple | list | str | dict
noncomputable def Ty.nm:Ty→String
 | .int=>"int" | .bool=>"bool" | .tuple=>"tuple" | .list=>"list" | .str=>"str" | .dict=>"dict"
noncomputable def mulOk (a b:Int):Bool:=!((decide (Builtin.Int.intBits a>shortFactorBits)&&decide (Builtin.Int.intBits b>shortFactorBits)&&Builtin.Int.intTooBig (Builtin.Int.intBits a+Builtin.Int.intBits b)))
noncomputable def divOk (a b:Int):Bool:=!(b == 0)&&!(Builtin.divisionGoesByPylong a b)
noncomputable def lstOf (S:Sr):D→Option (List D)
 | .lst l=>some l
 | .ref n=>match S[n]? with | some (.lst l)=>some l | _=>none
 | _=>none
noncomputable def binI:BOp→Int→Int→Option Int
 | .add,i,j=>some (i+j)
 | .sub,i,j=>some (i-j)
 | .mul,i,j=>if mulOk i j then some (i*j) else none
 | .fdiv,i,j=>if divOk i j then some (i.fdiv j) else none
 | .mod,i,j=>if j=0 then none else some (i.fmod j)
 | .pow,i,j=>if 0≤j∧j≤1000000∧i.natAbs<2^64 then some (i^j.toNat) else none
 | .shl,i,j=>if 0≤j∧j≤1000000∧i.natAbs<2^64 then some (i*2^j.toNat) else none
 | .shr,i,j=>if 0≤j then some (i / 2^j.toNat) else none
 | .band,i,j=>some (Builtin.bitAnd i j)
noncomputable def catOk {α:Type} (a b:List α):Bool:=decide (a.length+b.length≤sizeLine)
noncomputable def repOk {α:Type} (a:List α) (k:Int):Bool:=decide (-(2^63)≤k∧k<2^63∧a.length*k.toNat≤sizeLine)
noncomputable def rep {α:Type} (a:List α) (k:Int):List α:=(List.replicate k.toNat a).flatten
noncomputable def binD (o:BOp) (x y:D) (S:Sr):Option D :=
 match x,y with
 | .int i,.int j=>(binI o i j).map .int
 | .str a,.str b=>match o with
  | .add=>if a.length+b.length≤sizeLine then some (.str (a++b)) else none
  | _=>none
 | .tup a,.tup b=>match o with
  | .add=>if catOk a b then some (.tup (a++b)) else none
  | _=>none
 | .tup a,.int k=>match o with
  | .mul=>if repOk a k then some (.tup (rep a k)) else none
  | _=>none
 | x,.int k=>match o with
  | .mul=>match lstOf S x with
   | some a=>if repOk a k then some (.lst (rep a k)) else none
   | none=>none
  | _=>none
 | x,y=>match o with
  | .add=>match lstOf S x,lstOf S y with
   | some a,some b=>if catOk a b then some (.lst (a++b)) else none
   | _,_=>none
  | _=>none
noncomputable def eqL (f:D→D→Option Bool):List D→List D→Option Bool
 | [],[]=>some true
 | [],_::_=>some false
 | _::_,[]=>some false
 | a::r,b::t=>match f a b,eqL f r t with
  | some x,some y=>some (x&&y)
  | _,_=>none
noncomputable def eqD:Nat→D→D→Option Bool
 | 0,_,_=>none
 | n+1,x,y=>match x,y with
  | .non,.non=>some true
  | .bl a,.bl b=>some (a == b)
  | .int a,.int b=>some (a == b)
  | .str a,.str b=>some (a == b)
  | .bl a,.int b=>some ((if a then 1 else 0) == b)
  | .int a,.bl b=>some (a == (if b then 1 else 0))
  | .tup a,.tup b=>eqL (eqD n) a b
  | .lst a,.lst b=>if a.length=b.length then eqL (eqD n) a b else some false
  | .emp,_=>none
  | _,.emp=>none
  | .ref _,_=>none
  | _,.ref _=>none
  | _,_=>some false
noncomputable def intsOf:List D→Option (List Int)
 | []=>some []
 | .int i::r=>(intsOf r).map (i::·)
 | _=>none
noncomputable def flatD:D→Bool
 | .non | .bl _ | .int _ | .str _=>true
 | _=>false
noncomputable def eqF:D→D→Bool
 | .non,.non=>true
 | .bl a,.bl b=>decide (a=b)
 | .int i,.int j=>decide (i=j)
 | .bl a,.int j=>decide ((if a then 1 else 0)=j)
 | .int i,.bl b=>decide (i=(if b then 1 else 0))
 | .str a,.str b=>decide (a=b)
 | _,_=>false
noncomputable def inD (x:D) (l:List D):Option Bool:=if flatD x&&l.all flatD then some (l.any λy=>eqF y x) else none
noncomputable def seqOf (S:Sr):D→Option (List D)
 | .tup l=>some l
 | d=>lstOf S d
noncomputable def cmpD (o:COp) (x y:D) (S:Sr):Option Bool:=match o with
 | .eq=>eqD 20 x y
 | .ne=>(eqD 20 x y).map (!·)
 | .lt=>match x,y with
  | .int i,.int j=>some (decide (i<j))
  | .tup a,.tup b=>match intsOf a,intsOf b with
   | some m,some n=>some (HT.lexLt m n)
   | _,_=>none
  | _,_=>none
 | .le=>match x,y with | .int i,.int j=>some (decide (i≤j)) | _,_=>none
 | .gt=>match x,y with | .int i,.int j=>some (decide (j<i)) | _,_=>none
 | .ge=>match x,y with
  | .int i,.int j=>some (decide (j≤i))
  | .tup a,.tup b=>match intsOf a,intsOf b with
   | some m,some n=>some (!HT.lexLt m n)
   | _,_=>none
  | _,_=>none
 | .is=>match y with
  | .non=>some (match x with | .non=>true | _=>false)
  | .bl b=>match x with | .bl a=>some (a == b) | .non=>some false | _=>none
  | _=>none
 | .isn=>match y with
  | .non=>some (match x with | .non=>false | _=>true)
  | .bl b=>match x with | .bl a=>some (!(a == b)) | .non=>some true | _=>none
  | _=>none
 | .inn=>(seqOf S y).bind (inD x)
 | .nin=>(seqOf S y).bind λl=>(inD x l).map (!·)
noncomputable def truD (S:Sr):D→Option Bool
 | .non=>some false
 | .bl b=>some b
 | .int i=>some (i != 0)
 | .str x=>if x.length≤sizeLine then some ((x.length:Int) != 0) else none
 | .tup l=>some (!l.isEmpty)
 | .emp=>some false
 | d=>(lstOf S d).map λl=>!l.isEmpty
noncomputable def isiD (S:Sr) (t:Ty):D→Option Bool
 | .non=>some false
 | .bl _=>some (match t with | .int=>true | .bool=>true | _=>false)
 | .int _=>some (match t with | .int=>true | _=>false)
 | .str _=>some (match t with | .str=>true | _=>false)
 | .tup _=>some (match t with | .tuple=>true | _=>false)
 | .lst _=>some (match t with | .list=>true | _=>false)
 | .emp=>some (match t with | .dict=>true | _=>false)
 | .ref n=>match S[n]? with
  | some (.lst _)=>some (match t with | .list=>true | _=>false)
  | some (.dic _)=>some (match t with | .dict=>true | _=>false)
  | some (.dis _)=>some (match t with | .dict=>true | _=>false)
  | none=>none
noncomputable def keyD:D→Option Key
 | .int i=>some (.inl i)
 | .str x=>some (.inr x)
 | _=>none
noncomputable def lookT {κ:Type} [DecidableEq κ] (k:κ):List (κ × D)→Option D
 | []=>none
 | (j,d)::r=>if j=k then some d else lookT k r
noncomputable def putT {κ:Type} [DecidableEq κ] (k:κ) (d:D) (l:List (κ × D)):List (κ × D) :=
 if l.any (λp=>decide (p.1=k)) then l.map (λp=>if p.1=k then (p.1,d) else p) else l++[(k,d)]
noncomputable def idxD (S:Sr) (x i:D):Option D:=match i with
 | .int k=>(seqOf S x).bind λl=>atI l k
 | .tup ks=>match x with
  | .ref n=>match S[n]? with
   | some (.dic l)=>(intsOf ks).bind λk=>lookT k l
   | _=>none
  | _=>none
 | _=>none
noncomputable def cutD (l:List D) (lo hi:Option Int):List D:=(l.drop (HT.sIx l.length 0 lo)).take (HT.sIx l.length l.length hi-HT.sIx l.length 0 lo)
noncomputable def slcD (S:Sr) (x:D) (lo hi:Option Int):Option D:=match x with
 | .tup l=>some (.tup (cutD l lo hi))
 | d=>(lstOf S d).map λl=>.lst (cutD l lo hi)
noncomputable def rngL (a b s:Int):List D:=(List.range ((b-a+s-1) / s).toNat).map λ(k:Nat)=>D.int (a+s*k)
noncomputable def insI (x:Int):List Int→List Int
 | []=>[x]
 | y::r=>if x≤y then x::y::r else y::insI x r
noncomputable def sortI (l:List Int):List Int:=l.foldr insI []
noncomputable def insT (x:List Int):List (List Int)→List (List Int)
 | []=>[x]
 | y::r=>if HT.lexLt y x then y::insT x r else x::y::r
noncomputable def sortT (l:List (List Int)):List (List Int):=l.foldr insT []
noncomputable def tupsOf:List D→Option (List (List Int))
 | []=>some []
 | .tup a::r=>(intsOf a).bind λm=>(tupsOf r).map (m::·)
 | _=>none
noncomputable def tupI (m:List Int):D:=.tup (m.map .int)
noncomputable def sortL (l:List D):Option (List D) :=
 if l.length<64 then
  match intsOf l with
  | some ns=>some ((sortI ns).map .int)
  | none=>(tupsOf l).bind λts=>if ts.Nodup∧∀ t∈ts,t≠[] then some ((sortT ts).map tupI) else none
 else none
noncomputable def walkD (S:Sr):D→Option (List D)
 | .lst l=>some l
 | .emp=>some []
 | .ref n=>match S[n]? with
  | some (.lst l)=>some l
  | some (.dic l)=>some (l.map λp=>tupI p.1)
  | _=>none
 | _=>none
inductive Blt where | len | abs | min2 | max2 | divmod | list (m:Bool) | tuple | sorted (m:Bool) | all | any | sum | str | int | sortp (m:Bool)
noncomputable def newL (m:Bool) (l:List D) (S:Sr):Res D:=if m then (if refsLts 0 l then .ok (.ref S.length) (S++[.lst l]) else .no) else .ok (.lst l) S
noncomputable def binM (o:BOp) (x y:D) (S:Sr):Res D:=match o with
 | .add=>match lstOf S x,lstOf S y with
  | some a,some b=>if catOk a b then newL true (a++b) S else .no
  | _,_=>.no
 | .mul=>match lstOf S x,y with
  | some a,.int k=>if repOk a k then newL true (rep a k) S else .no
  | _,_=>.no
 | _=>.no
noncomputable def lenD (S:Sr):D→Option Nat
 | .str x=>if x.length≤sizeLine then some x.length else none
 | .ref n=>match S[n]? with
  | some (.lst l)=>some l.length
  | some (.dic l)=>some l.length
  | some (.dis _)=>none
  | none=>none
 | .tup l=>some l.length
 | .lst l=>some l.length
 | _=>none
noncomputable def boolsOf:List D→Option (List Bool)
 | []=>some []
 | .bl b::r=>(boolsOf r).map (b::·)
 | _=>none
noncomputable def one (f:D→Sr→Res D) (xs:List D) (S:Sr):Res D:=match xs with
 | [x]=>f x S
 | _=>.no
noncomputable def two (f:D→D→Sr→Res D) (xs:List D) (S:Sr):Res D:=match xs with
 | [x,y]=>f x y S
 | _=>.no
noncomputable def bLen (x:D) (S:Sr):Res D:=ofO ((lenD S x).map λn=>.int n) S
noncomputable def bAbs (x:D) (S:Sr):Res D:=match x with
 | .int i=>.ok (.int (if i<0 then -i else i)) S
 | _=>.no
noncomputable def bMin (x y:D) (S:Sr):Res D:=match x,y with
 | .int i,.int j=>.ok (.int (if j<i then j else i)) S
 | _,_=>.no
noncomputable def bMax (x y:D) (S:Sr):Res D:=match x,y with
 | .int i,.int j=>.ok (.int (if j>i then j else i)) S
 | _,_=>.no
noncomputable def bDivmod (x y:D) (S:Sr):Res D:=match x,y with
 | .int i,.int j=>if divOk i j then .ok (.tup [.int (i.fdiv j),.int (i.fmod j)]) S else .no
 | _,_=>.no
noncomputable def bList (m:Bool) (x:D) (S:Sr):Res D:=match seqOf S x with
 | some l=>newL m l S
 | none=>.no
noncomputable def bTuple (x:D) (S:Sr):Res D:=ofO ((seqOf S x).map .tup) S
noncomputable def bSorted (m:Bool) (x:D) (S:Sr):Res D:=match (walkD S x).bind sortL with
 | some l=>newL m l S
 | none=>.no
noncomputable def pairsD:List D→Option (List (List Int × Int))
 | []=>some []
 | .tup [.tup a,.int i]::r=>(intsOf a).bind λm=>(pairsD r).map ((m,i)::·)
 | _=>none
noncomputable def pairD (p:List Int × Int):D:=.tup [tupI p.1,.int p.2]
noncomputable def atP (k:List Int):List (List Int × Int)→Int
 | []=>0
 | p::r=>if p.1=k then p.2 else atP k r
noncomputable def sortP (ps:List (List Int × Int)):List (List Int × Int):=(sortT (ps.map (·.1))).map λk=>(k,atP k ps)
noncomputable def bSortp (m:Bool) (x:D) (S:Sr):Res D:=match (lstOf S x).bind pairsD with
 | some ps=>if ps.length<64∧(ps.map (·.1)).Nodup then newL m ((sortP ps).map pairD) S else .no
 | none=>.no
noncomputable def bAll (x:D) (S:Sr):Res D:=ofO (((seqOf S x).bind boolsOf).map λl=>.bl (l.all id)) S
noncomputable def bAny (x:D) (S:Sr):Res D:=ofO (((seqOf S x).bind boolsOf).map λl=>.bl (l.any id)) S
noncomputable def bSum (x:D) (S:Sr):Res D:=ofO (((seqOf S x).bind intsOf).map λl=>.int l.sum) S
noncomputable def bStr (x:D) (S:Sr):Res D:=match x with
 | .int i=>if i.natAbs.log2<1920 then .ok (.str (toString i)) S else .no
 | _=>.no
noncomputable def joinD (x y z:D):Option D:=match x,y,z with
 | .str a,.str b,.str c=>if a.length+b.length+c.length≤sizeLine then some (.str (a++b++c)) else none
 | _,_,_=>none
noncomputable def bInt (x:D) (S:Sr):Res D:=match x with
 | .bl b=>.ok (.int (if b then 1 else 0)) S
 | _=>.no
noncomputable def bltD:Blt→List D→Sr→Res D
 | .len=>one bLen | .abs=>one bAbs | .min2=>two bMin | .max2=>two bMax | .divmod=>two bDivmod | .list m=>one (bList m) | .tuple=>one bTuple
 | .sorted m=>one (bSorted m) | .all=>one bAll | .any=>one bAny | .sum=>one bSum | .str=>one bStr | .int=>one bInt | .sortp m=>one (bSortp m)
noncomputable def walkF:D→Option (List D)
 | .tup l=>some l
 | .lst l=>some l
 | _=>none
inductive GW where | all | any | sum | tuple
mutual
inductive CE where
 | var (i:Nat) | cst (d:D)
 | bin (o:BOp) (a b:CE) | neg (a:CE)
 | cmp (o:COp) (a b:CE) | chain (o o':COp) (a b c:CE)
 | and (a b:CE) | or (a b:CE) | not (a:CE) | ife (c:CB) (a b:CE)
 | tup (es:CEs) | lst (m:Bool) (es:CEs) | dic (m:Bool) | dis | fmt (a:CE) | join3 (a b c:CE)
 | call (f:Nat) (es:CEs) | blt (b:Blt) (es:CEs) | isi (t:Ty) (a:CE)
 | popAt (o i:CE) | neF (a b:CE) | rem (o e:CE) | dcK (d:Int) (e:CE) | idk (a i:CE) | lls (e:CE) | app (o e:CE) | ext (o e:CE) | binM (o:BOp) (a b:CE) | get (o k e:CE)
 | idx (a i:CE) | slc (a:CE) (lo hi:CO) | rev (a:CE)
 | rng (k:Option Bool) (es:CEs)
 | lc (m:Bool) (fr:List Nat) (nt:Nat) (elt:CE) (tg:CT) (it:CI) (ifs:CBs)
 | lcR (m:Bool) (fr:List Nat) (nt:Nat) (elt:CE) (tg:CT) (e:CE) (ifs:CBs)
 | gen (w:GW) (fr:List Nat) (nt:Nat) (elt:CE) (tg:CT) (it:CI) (ifs:CBs)
 | lcX (m:Bool) (fr:List Nat) (nt:Nat) (elt:CE) (tg:CT) (e:CE) (ifs:CBs)
 | genX (w:GW) (fr:List Nat) (nt:Nat) (elt:CE) (tg:CT) (e:CE) (ifs:CBs)
inductive CEs where | nil | cons (e:CE) (r:CEs)
inductive CB where | val (e:CE) | and (a b:CB) | or (a b:CB) | not (a:CB)
inductive CBs where | nil | cons (e:CB) (r:CBs)
inductive CO where | none | some (e:CE)
inductive CI where | seq (e:CE) | rng (es:CEs) | zip (a b:CE)
inductive CT where | var (i:Nat) | tup (r:CTs) | sub (o i:CE)
inductive CTs where | nil | cons (t:CT) (r:CTs)
end
noncomputable abbrev Fs:=Nat→List D→Sr→Res D
noncomputable def varE (ρ:En) (i:Nat) (S:Sr):Res D:=match ρ[i]? with | some (some d)=>.ok d S | _=>.no
noncomputable def putN (S:Sr) (n:Nat) (i v:D):Option Sr:=match S[n]? with
 | some (.lst l)=>match i with
  | .int k=>(ixN l.length k).map λj=>S.set n (.lst (l.set j v))
  | _=>none
 | some (.dic l)=>match i with
  | .tup ks=>(intsOf ks).bind λk=>if l.length<1000 then some (S.set n (.dic (putT k v l))) else none
  | _=>none
 | some (.dis l)=>(keyD i).bind λk=>if l.length<1000 then some (S.set n (.dis (putT k v l))) else none
 | none=>none
noncomputable def putE (S:Sr) (o i v:D):Option Sr:=if refsLt 0 v then (match o with
 | .ref n=>putN S n i v
 | _=>none) else none
noncomputable def isLst (S:Sr):D→Bool
 | .ref n=>match S[n]? with | some (.lst _)=>true | _=>false
 | _=>false
noncomputable def isDic (S:Sr):D→Bool
 | .ref n=>match S[n]? with | some (.dic _)=>true | some (.dis _)=>true | _=>false
 | _=>false
noncomputable def getD (S:Sr) (x y z:D):Option D:=match x,y with
 | .ref n,.tup ks=>match S[n]? with
  | some (.dic l)=>(intsOf ks).map λk=>(lookT k l).getD z
  | _=>none
 | .ref n,.str t=>match S[n]? with
  | some (.dis l)=>some ((lookT (.inr t) l).getD z)
  | _=>none
 | _,_=>none
noncomputable def popD (S:Sr) (o i:D):Res D:=match o,i with
 | .ref n,.int k=>match S[n]? with
  | some (.lst l)=>if 0≤k∧k<2^62 then (match l[k.toNat]? with
   | some d=>.ok d (S.set n (.lst (l.eraseIdx k.toNat)))
   | none=>.no) else .no
  | _=>.no
 | _,_=>.no
noncomputable def appD (S:Sr) (o e:D):Res D:=match o with
 | .ref n=>match S[n]? with
  | some (.lst l)=>if l.length<sizeLine∧refsLt 0 e=true then .ok .non (S.set n (.lst (l++[e]))) else .no
  | _=>.no
 | _=>.no
noncomputable def remD (S:Sr) (o i:D):Res D:=match o,i with
 | .ref n,.int k=>match S[n]? with
  | some (.lst l)=>match intsOf l with
   | some ns=>if k∈ns then .ok .non (S.set n (.lst ((ns.erase k).map .int))) else .no
   | none=>.no
  | _=>.no
 | _,_=>.no
noncomputable def neFD (S:Sr) (x y:D):Option Bool:=match x with
 | .ref n=>match S[n]? with
  | some (.lst l)=>if refsLt n y then (eqD 20 (.lst l) y).map (!·) else none
  | _=>none
 | _=>none
noncomputable def idkD (S:Sr) (x i:D):Option D:=match x with
 | .ref n=>match S[n]? with
  | some (.dis l)=>(keyD i).bind λk=>lookT k l
  | _=>none
 | _=>none
noncomputable def dcKL (d:Int) (ns:List Int):List (Key × D):=ns.foldl (λl k=>putT (.inl k:Key) (.int d) l) []
noncomputable def extD (S:Sr) (o e:D):Res D:=match o,e with
 | .ref n,.lst z=>match S[n]? with
  | some (.lst l)=>if l.length+z.length≤sizeLine∧refsLts 0 z=true then .ok .non (S.set n (.lst (l++z))) else .no
  | _=>.no
 | _,_=>.no
noncomputable def rngD:List D→Option (List D)
 | [.int b]=>if -(2^62)≤b∧b<2^62 then some (rngL 0 b 1) else none
 | [.int a,.int b]=>if -(2^62)≤a∧a<2^62∧-(2^62)≤b∧b<2^62 then some (rngL a b 1) else none
 | [.int a,.int b,.int s]=>if -(2^62)≤a∧a<2^62∧-(2^62)≤b∧b<2^62∧0<s∧s<2^62 then some (rngL a b s) else none
 | _=>none
noncomputable def frE (ρ:En) (fr:List Nat) (nt:Nat):En:=fr.map (λi=>(ρ[i]?).getD none)++List.replicate nt none
noncomputable def lcLoop (n:Nat) (bind:D→En→Sr→Res En) (test:En→Sr→Res Bool) (elt:En→Sr→Res D):List D→En→Sr→Res En
 | [],ρ,S=>.ok ρ S
 | d::r,ρ,S=>(bind d ρ S).bind λρ1 S1=>(test ρ1 S1).bind λb S2 =>
   if b then (elt ρ1 S2).bind λv S3=>(appD S3 (.ref n) v).bind λ_ S4=>lcLoop n bind test elt r ρ1 S4
   else lcLoop n bind test elt r ρ1 S2
noncomputable def lcEnd (m:Bool) (n:Nat) (S:Sr):Res D :=
 if m then .ok (.ref n) S
 else if S.length=n+1 then (match S[n]? with
  | some (.lst l)=>.ok (.lst l) (S.take n)
  | _=>.no) else .no
noncomputable def own (n:Nat) (l:List D) (S:Sr):Prop:=S[n]?=some (.lst l)
noncomputable def grd {α:Type} (gd:Sr→Prop) (S:Sr) (r:Res α):Res α:=@ite _ (gd S) (Classical.propDecidable _) r .no
theorem qV {α:Type} {gd:Sr→Prop} {S:Sr} (h:gd S) (r:Res α):grd gd S r=r:=wL h
theorem zT {α:Type} {gd:Sr→Prop} {S:Sr} (h:¬ gd S) (r:Res α):grd gd S r=.no:=wN h
noncomputable def refX (x:D) (S:Sr):Option (List D × (Sr→Prop)):=match x with
 | .ref n=>match S[n]? with
  | some (.lst l)=>some (l,own n l)
  | _=>none
 | .tup l=>some (l,λ_=>True)
 | .lst l=>some (l,λ_=>True)
 | _=>none
noncomputable def refL (x:D) (S:Sr):Option (Nat × List D):=match x with
 | .ref n=>match S[n]? with
  | some (.lst l)=>some (n,l)
  | _=>none
 | _=>none
noncomputable def genLoop {β:Type} (bind:D→En→Sr→Res En) (test:En→Sr→Res Bool) (elt:En→Sr→Res D) (step:β→D→Option (β ⊕ D)) (fin:β→Option D):List D→En→β→Sr→Res D
 | [],_,b,S=>ofO (fin b) S
 | d::r,ρ,b,S=>(bind d ρ S).bind λρ1 S1=>(test ρ1 S1).bind λt S2 =>
   if t then (elt ρ1 S2).bind λv S3=>match step b v with
    | some (.inl b')=>genLoop bind test elt step fin r ρ1 b' S3
    | some (.inr x)=>.ok x S3
    | none=>.no
   else genLoop bind test elt step fin r ρ1 b S2
noncomputable def genLoopG {β:Type} (gd:Sr→Prop) (bind:D→En→Sr→Res En) (test:En→Sr→Res Bool) (elt:En→Sr→Res D) (step:β→D→Option (β ⊕ D)) (fin:β→Option D):List D→En→β→Sr→Res D
 | [],_,b,S=>grd gd S (ofO (fin b) S)
 | d::r,ρ,b,S=>grd gd S ((bind d ρ S).bind λρ1 S1=>(test ρ1 S1).bind λt S2 =>
   if t then (elt ρ1 S2).bind λv S3=>match step b v with
    | some (.inl b')=>genLoopG gd bind test elt step fin r ρ1 b' S3
    | some (.inr x)=>.ok x S3
    | none=>.no
   else genLoopG gd bind test elt step fin r ρ1 b S2)
theorem zU {β:Type} {bind:D→En→Sr→Res En} {test:En→Sr→Res Bool} {elt:En→Sr→Res D} {step:β→D→Option (β ⊕ D)} {fin:β→Option D}:∀ (l:List D) (ρ:En) (b:β) (S:Sr),genLoopG (λ_=>True) bind test elt step fin l ρ b S=genLoop bind test elt step fin l ρ b S
 | [],_,_,_=>qV trivial _
 | d::r,ρ,b,S=>by
  unfold genLoopG genLoop
  rw [qV trivial]
  congr 1;funext ρ1 S1
  congr 1;funext t S2
  cases t
  ·exact zU r ρ1 b S2
  ·simp only [if_true]
   congr 1;funext v S3
   cases step b v with
   | none=>rfl
   | some x=>cases x with
    | inl b'=>exact zU r ρ1 b' S3
    | inr x=>rfl
noncomputable def newLls (k:Nat) (S:Sr):Res D:=if k≤sizeLine then .ok (.ref (S.length+k)) (S++List.replicate k (.lst [])++[.lst ((List.range k).map λi=>.ref (S.length+i))]) else .no
noncomputable def stepG (w:GW) (b:D) (v:D):Option (D ⊕ D):=match w,b,v with
 | .all,_,.bl true=>some (.inl .non)
 | .all,_,.bl false=>some (.inr (.bl false))
 | .any,_,.bl false=>some (.inl .non)
 | .any,_,.bl true=>some (.inr (.bl true))
 | .sum,.int i,.int j=>some (.inl (.int (i+j)))
 | .tuple,.tup l,v=>if l.length<sizeLine then some (.inl (.tup (l++[v]))) else none
 | _,_,_=>none
noncomputable def startG:GW→D
 | .all=>.non | .any=>.non | .sum=>.int 0 | .tuple=>.tup []
noncomputable def finG (w:GW) (b:D):Option D:=match w with
 | .all=>some (.bl true)
 | .any=>some (.bl false)
 | .sum=>some b
 | .tuple=>some b
mutual
noncomputable def ev (F:Fs):CE→En→Sr→Res D
 | .var i,ρ,S=>varE ρ i S
 | .cst d,_,S=>.ok d S
 | .bin o a b,ρ,S=>(ev F a ρ S).bind λx S1=>(ev F b ρ S1).bind λy S2=>ofO (binD o x y S2) S2
 | .neg a,ρ,S=>(ev F a ρ S).bind λx S1=>match x with | .int i=>.ok (.int (-i)) S1 | _=>.no
 | .cmp o a b,ρ,S=>(ev F a ρ S).bind λx S1=>(ev F b ρ S1).bind λy S2=>ofO ((cmpD o x y S2).map .bl) S2
 | .chain o o' a b c,ρ,S=>(ev F a ρ S).bind λx S1=>(ev F b ρ S1).bind λy S2=>match cmpD o x y S2 with
  | some true=>(ev F c ρ S2).bind λz S3=>ofO ((cmpD o' y z S3).map .bl) S3
  | some false=>.ok (.bl false) S2
  | none=>.no
 | .and a b,ρ,S=>(ev F a ρ S).bind λx S1=>match x with
  | .bl true=>ev F b ρ S1
  | .bl false=>.ok (.bl false) S1
  | _=>.no
 | .or a b,ρ,S=>(ev F a ρ S).bind λx S1=>match x with
  | .bl true=>.ok (.bl true) S1
  | .bl false=>ev F b ρ S1
  | _=>.no
 | .not a,ρ,S=>(ev F a ρ S).bind λx S1=>match x with
  | .bl b=>.ok (.bl (!b)) S1
  | _=>.no
 | .ife c a b,ρ,S=>(tst F c ρ S).bind λt S1=>if t then ev F a ρ S1 else ev F b ρ S1
 | .tup es,ρ,S=>(evs F es ρ S).bind λl S1=>if l.length≤sizeLine then .ok (.tup l) S1 else .no
 | .lst m es,ρ,S=>(evs F es ρ S).bind λl S1=>if l.length≤sizeLine then newL m l S1 else .no
 | .dic m,_,S=>if m then .ok (.ref S.length) (S++[.dic []]) else .ok .emp S
 | .dis,_,S=>.ok (.ref S.length) (S++[.dis []])
 | .fmt a,ρ,S=>(ev F a ρ S).bind λx S1=>bStr x S1
 | .join3 a b c,ρ,S=>(ev F a ρ S).bind λx S1=>(ev F b ρ S1).bind λy S2=>(ev F c ρ S2).bind λz S3=>ofO (joinD x y z) S3
 | .call f es,ρ,S=>(evs F es ρ S).bind λl S1=>F f l S1
 | .blt b es,ρ,S=>(evs F es ρ S).bind λl S1=>bltD b l S1
 | .isi t a,ρ,S=>(ev F a ρ S).bind λx S1=>ofO ((isiD S1 t x).map .bl) S1
 | .binM o a b,ρ,S=>(ev F a ρ S).bind λx S1=>(ev F b ρ S1).bind λy S2=>R.binM o x y S2
 | .popAt o i,ρ,S=>(ev F o ρ S).bind λx S1=>if isLst S1 x then (ev F i ρ S1).bind λy S2=>popD S2 x y else .no
 | .app o e,ρ,S=>(ev F o ρ S).bind λx S1=>if isLst S1 x then (ev F e ρ S1).bind λy S2=>appD S2 x y else .no
 | .ext o e,ρ,S=>(ev F o ρ S).bind λx S1=>if isLst S1 x then (ev F e ρ S1).bind λy S2=>extD S2 x y else .no
 | .get o k e,ρ,S=>(ev F o ρ S).bind λx S1=>if isDic S1 x then (ev F k ρ S1).bind λy S2=>(ev F e ρ S2).bind λz S3=>ofO (getD S3 x y z) S3 else .no
 | .idx a i,ρ,S=>(ev F a ρ S).bind λx S1=>(ev F i ρ S1).bind λy S2=>ofO (idxD S2 x y) S2
 | .slc a lo hi,ρ,S=>(ev F a ρ S).bind λx S1=>(evO F lo ρ S1).bind λl S2=>(evO F hi ρ S2).bind λh S3=>ofO (slcD S3 x l h) S3
 | .rev a,ρ,S=>(ev F a ρ S).bind λx S1=>match x with
  | .tup l=>.ok (.tup l.reverse) S1
  | _=>.no
 | .rng k es,ρ,S=>(evs F es ρ S).bind λl S1=>match rngD l with
  | some ds=>if ds.length≤1000000 then (match k with
   | some m=>newL m ds S1
   | none=>.ok (.tup ds) S1) else .no
  | none=>.no
 | .lc m fr nt elt tg it ifs,ρ,S=>(evI F it ρ S).bind λds S1 =>
   (lcLoop S1.length (λd ρ S=>asg F tg d ρ S) (λρ S=>tsts F ifs ρ S) (λρ S=>ev F elt ρ S) ds (frE ρ fr nt) (S1++[.lst []])).bind λ_ S2=>lcEnd m S1.length S2
 | .lcR m fr nt elt tg e ifs,ρ,S=>(ev F e ρ S).bind λx S1=>match refL x S1 with
  | some p=>(lcLoop S1.length (λd ρ S=>grd (own p.1 p.2) S (asg F tg d ρ S)) (λρ S=>tsts F ifs ρ S) (λρ S=>ev F elt ρ S) p.2 (frE ρ fr nt) (S1++[.lst []])).bind λ_ S2=>grd (own p.1 p.2) S2 (lcEnd m S1.length S2)
  | none=>.no
 | .lcX m fr nt elt tg e ifs,ρ,S=>(ev F e ρ S).bind λx S1=>match refX x S1 with
  | some p=>(lcLoop S1.length (λd ρ S=>grd p.2 S (asg F tg d ρ S)) (λρ S=>tsts F ifs ρ S) (λρ S=>ev F elt ρ S) p.1 (frE ρ fr nt) (S1++[.lst []])).bind λ_ S2=>grd p.2 S2 (lcEnd m S1.length S2)
  | none=>.no
 | .genX w fr nt elt tg e ifs,ρ,S=>(ev F e ρ S).bind λx S1=>match refX x S1 with
  | some p=>genLoopG p.2 (λd ρ S=>asg F tg d ρ S) (λρ S=>tsts F ifs ρ S) (λρ S=>ev F elt ρ S) (stepG w) (finG w) p.1 (frE ρ fr nt) (startG w) S1
  | none=>.no
 | .neF a b,ρ,S=>(ev F a ρ S).bind λx S1=>(ev F b ρ S1).bind λy S2=>ofO ((neFD S2 x y).map .bl) S2
 | .rem o i,ρ,S=>(ev F o ρ S).bind λx S1=>if isLst S1 x then (ev F i ρ S1).bind λy S2=>remD S2 x y else .no
 | .idk a i,ρ,S=>(ev F a ρ S).bind λx S1=>(ev F i ρ S1).bind λy S2=>ofO (idkD S2 x y) S2
 | .dcK d e,ρ,S=>(ev F e ρ S).bind λx S1=>match refX x S1 with
  | some p=>match intsOf p.1 with
   | some ns=>if ns.length<1000 then .ok (.ref S1.length) (S1++[.dis (dcKL d ns)]) else .no
   | none=>.no
  | none=>.no
 | .lls e,ρ,S=>(ev F e ρ S).bind λx S1=>match x with
  | .tup l=>newLls l.length S1
  | _=>.no
 | .gen w fr nt elt tg it ifs,ρ,S=>(evI F it ρ S).bind λds S1 =>
   genLoop (λd ρ S=>asg F tg d ρ S) (λρ S=>tsts F ifs ρ S) (λρ S=>ev F elt ρ S) (stepG w) (finG w) ds (frE ρ fr nt) (startG w) S1
noncomputable def evs (F:Fs):CEs→En→Sr→Res (List D)
 | .nil,_,S=>.ok [] S
 | .cons e r,ρ,S=>(ev F e ρ S).bind λx S1=>(evs F r ρ S1).bind λl S2=>.ok (x::l) S2
noncomputable def evO (F:Fs):CO→En→Sr→Res (Option Int)
 | .none,_,S=>.ok none S
 | .some e,ρ,S=>(ev F e ρ S).bind λx S1=>match x with | .int i=>.ok (some i) S1 | _=>.no
noncomputable def evI (F:Fs):CI→En→Sr→Res (List D)
 | .seq e,ρ,S=>(ev F e ρ S).bind λx S1=>match x with
  | .tup l=>.ok l S1
  | .lst l=>.ok l S1
  | _=>.no
 | .rng es,ρ,S=>(evs F es ρ S).bind λl S1=>ofO (rngD l) S1
 | .zip a b,ρ,S=>(ev F a ρ S).bind λx S1=>(ev F b ρ S1).bind λy S2=>match walkF x,walkF y with
  | some l,some m=>.ok ((l.zip m).map λp=>.tup [p.1,p.2]) S2
  | _,_=>.no
noncomputable def asg (F:Fs):CT→D→En→Sr→Res En
 | .var i,d,ρ,S=>.ok (ρ.set i (some d)) S
 | .tup r,d,ρ,S=>match d with
  | .tup l=>asgs F r l ρ S
  | _=>.no
 | .sub o i,d,ρ,S=>(ev F o ρ S).bind λx S1=>(ev F i ρ S1).bind λy S2=>match putE S2 x y d with
  | some S3=>.ok ρ S3
  | none=>.no
noncomputable def asgs (F:Fs):CTs→List D→En→Sr→Res En
 | .nil,l,ρ,S=>match l with | []=>.ok ρ S | _=>.no
 | .cons t r,l,ρ,S=>match l with
  | d::m=>(asg F t d ρ S).bind λρ1 S1=>asgs F r m ρ1 S1
  | []=>.no
noncomputable def tst (F:Fs):CB→En→Sr→Res Bool
 | .val e,ρ,S=>(ev F e ρ S).bind λx S1=>ofO (truD S1 x) S1
 | .and a b,ρ,S=>(tst F a ρ S).bind λt S1=>if t then tst F b ρ S1 else .ok false S1
 | .or a b,ρ,S=>(tst F a ρ S).bind λt S1=>if t then .ok true S1 else tst F b ρ S1
 | .not a,ρ,S=>(tst F a ρ S).bind λt S1=>.ok (!t) S1
noncomputable def tsts (F:Fs):CBs→En→Sr→Res Bool
 | .nil,_,S=>.ok true S
 | .cons e r,ρ,S=>(tst F e ρ S).bind λt S1=>if t then tsts F r ρ S1 else .ok false S1
end
mutual
inductive CS where
 | expr (e:CE) | ret (e:CE) | retN | set (t:CT) (e:CE) | par (i j:Nat) (a b:CE)
 | aug (i:Nat) (o:BOp) (e:CE) | augK (o i e:CE)
 | ifs (c:CB) (a b:CSs) | forS (t:CT) (it:CI) (body:CSs) | forR (t:CT) (e:CE) (body:CSs) | forX (t:CT) (e:CE) (body:CSs) | whileS (c:CB) (body:CSs)
 | pass | brk | cont | never
inductive CSs where | nil | cons (s:CS) (r:CSs)
end
inductive Fl where | nx (ρ:En) | bk (ρ:En) | ct (ρ:En) | rt (d:D)
noncomputable def forLoop (body:D→En→Sr→Res Fl):List D→En→Sr→Res Fl
 | [],ρ,S=>.ok (.nx ρ) S
 | d::r,ρ,S=>(body d ρ S).bind λf S1=>match f with
  | .nx ρ1=>forLoop body r ρ1 S1
  | .ct ρ1=>forLoop body r ρ1 S1
  | .bk ρ1=>.ok (.nx ρ1) S1
  | .rt d=>.ok (.rt d) S1
noncomputable def endG (gd:Sr→Prop) (r:Res Fl):Res Fl:=r.bind λf S=>match f with
 | .rt d=>.ok (.rt d) S
 | f=>grd gd S (.ok f S)
noncomputable def whileLoop (test:En→Sr→Res Bool) (body:En→Sr→Res Fl):Nat→En→Sr→Res Fl
 | 0,_,_=>.no
 | n+1,ρ,S=>(test ρ S).bind λt S1=>if t then (body ρ S1).bind λf S2=>(match f with
   | .nx ρ1=>whileLoop test body n ρ1 S2
   | .ct ρ1=>whileLoop test body n ρ1 S2
   | .bk ρ1=>.ok (.nx ρ1) S2
   | .rt d=>.ok (.rt d) S2)
  else .ok (.nx ρ) S1
mutual
noncomputable def ex (F:Fs) (N:Nat):CS→En→Sr→Res Fl
 | .expr e,ρ,S=>(ev F e ρ S).bind λ_ S1=>.ok (.nx ρ) S1
 | .ret e,ρ,S=>(ev F e ρ S).bind λd S1=>.ok (.rt d) S1
 | .retN,_,S=>.ok (.rt .non) S
 | .set t e,ρ,S=>(ev F e ρ S).bind λd S1=>(asg F t d ρ S1).bind λρ1 S2=>.ok (.nx ρ1) S2
 | .par i j a b,ρ,S=>(ev F a ρ S).bind λx S1=>(ev F b ρ S1).bind λy S2=>.ok (.nx ((ρ.set i (some x)).set j (some y))) S2
 | .aug i o e,ρ,S=>(varE ρ i S).bind λx S0=>(ev F e ρ S0).bind λy S1=>match x,y with
  | .int a,.int b=>match o with
   | .add=>.ok (.nx (ρ.set i (some (.int (a+b))))) S1
   | .sub=>.ok (.nx (ρ.set i (some (.int (a-b))))) S1
   | _=>.no
  | _,_=>.no
 | .augK o i e,ρ,S=>(ev F o ρ S).bind λx S1=>(ev F i ρ S1).bind λy S2=>match idkD S2 x y with
  | some (.int a)=>(ev F e ρ S2).bind λz S3=>match z with
   | .int b=>match putE S3 x y (.int (a+b)) with
    | some S4=>.ok (.nx ρ) S4
    | none=>.no
   | _=>.no
  | _=>.no
 | .ifs c a b,ρ,S=>(tst F c ρ S).bind λt S1=>if t then exs F N a ρ S1 else exs F N b ρ S1
 | .forS t it body,ρ,S=>(evI F it ρ S).bind λds S1=>forLoop (λd ρ S=>(asg F t d ρ S).bind λρ1 S1=>exs F N body ρ1 S1) ds ρ S1
 | .forX t e body,ρ,S=>(ev F e ρ S).bind λx S1=>match refX x S1 with
  | some p=>endG p.2 (forLoop (λd ρ S=>(grd p.2 S (asg F t d ρ S)).bind λρ1 S1=>exs F N body ρ1 S1) p.1 ρ S1)
  | none=>.no
 | .forR t e body,ρ,S=>(ev F e ρ S).bind λx S1=>match refL x S1 with
  | some p=>endG (own p.1 p.2) (forLoop (λd ρ S=>(grd (own p.1 p.2) S (asg F t d ρ S)).bind λρ1 S1=>exs F N body ρ1 S1) p.2 ρ S1)
  | none=>.no
 | .whileS c body,ρ,S=>whileLoop (λρ S=>tst F c ρ S) (λρ S=>exs F N body ρ S) N ρ S
 | .pass,ρ,S=>.ok (.nx ρ) S
 | .brk,ρ,S=>.ok (.bk ρ) S
 | .cont,ρ,S=>.ok (.ct ρ) S
 | .never,_,_=>.no
noncomputable def exs (F:Fs) (N:Nat):CSs→En→Sr→Res Fl
 | .nil,ρ,S=>.ok (.nx ρ) S
 | .cons s r,ρ,S=>(ex F N s ρ S).bind λf S1=>match f with
  | .nx ρ1=>exs F N r ρ1 S1
  | f=>.ok f S1
end
structure CF where
 np:Nat
 nn:Nat
 keeps:Bool
 body:CSs
mutual
noncomputable def frz (S:Sr) (n:Nat):D→Option D
 | .tup l=>(frzs S n l).map .tup
 | .lst l=>(frzs S n l).map .lst
 | .ref m=>if m<n then some (.ref m) else match S[m]? with
  | some (.lst l)=>if refsLts n l then some (.lst l) else none
  | _=>none
 | .non=>some .non | .bl b=>some (.bl b) | .int i=>some (.int i) | .str x=>some (.str x) | .emp=>some .emp
noncomputable def frzs (S:Sr) (n:Nat):List D→Option (List D)
 | []=>some []
 | d::r=>match frz S n d,frzs S n r with
  | some d',some r'=>some (d'::r')
  | _,_=>none
end
noncomputable def leave (keeps:Bool) (n:Nat) (d:D) (S:Sr):Res D :=
 if keeps then .ok d S
 else if S.length=n then .ok d S
 else if refsLt n d then .ok d (S.take n) else match frz S n d with
  | some d'=>.ok d' (S.take n)
  | none=>.no
noncomputable def callC (F:Fs) (N:Nat) (c:CF) (l:List D) (S:Sr):Res D :=
 if l.length=c.np then
  (exs F N c.body (l.map some++List.replicate (c.nn-c.np) none) S).bind λf S1=>match f with
   | .nx _=>leave c.keeps S.length .non S1
   | .rt d=>leave c.keeps S.length d S1
   | _=>.no
 else .no
noncomputable def run (P:List CF) (N:Nat):Nat→Fs
 | 0,_,_,_=>.no
 | k+1,f,l,S=>match P[f]? with
  | some c=>callC (run P N k) N c l S
  | none=>.no
end R
namespace R
open PySem PySem.Spec L2
open PyProof.Rows hiding St
structure EnR (ι:List Addr) (H:Hp) (ρ:En) (σ:St):Prop where
 len:ρ.length=σ.length
 get:∀ (i:Nat) (d:D),ρ[i]?=some (some d)→∃ v,σ[i]?=some (some v)∧Den ι H d v
theorem EnR.mono {ι ι':List Addr} {H H':Hp} {ρ:En} {σ:St} (e:EnR ι H ρ σ) (s:Stp ι H ι' H'):EnR ι' H' ρ σ :=
 ⟨e.len,λi d h=>let ⟨v,a,b⟩:=e.get i d h;⟨v,a,Den.mono s d b⟩⟩
theorem EnR.set {ι:List Addr} {H:Hp} {ρ:En} {σ:St} (e:EnR ι H ρ σ) {i:Nat} {d:D} {v:V} (h:Den ι H d v):EnR ι H (ρ.set i (some d)) (σ.set i (some v)):=by
 refine ⟨by simp [e.len],λj x q=>?_⟩
 by_cases z:i=j
 ·subst z
  have hl:i<ρ.length:=by
   have:=(wK.mp q).1
   simpa using this
  rw [List.getElem?_set_self hl] at q
  cases q
  exact ⟨v,List.getElem?_set_self (by rw [← e.len];exact hl),h⟩
 ·rw [List.getElem?_set_ne z] at q ⊢
  exact e.get j x q
noncomputable def Pst {α β:Type} (R:List Addr→Hp→α→β→Prop) (r:Res α) (ι:List Addr) (H:Hp) (Q:β→Hp→Prop):Prop:=match r with
 | .ok a S'=>∀ b ι' H',Stp ι H ι' H'→Sto ι' H' S'→R ι' H' a b→Q b H'
 | .err _ _=>False
 | .no=>False
theorem Pst.from {α β:Type} {R:List Addr→Hp→α→β→Prop} {r:Res α} {ι ι':List Addr} {H H':Hp} {Q:β→Hp→Prop} (h:Pst R r ι H Q) (s:Stp ι H ι' H'):Pst R r ι' H' Q:=by
 cases r with
 | ok a S=>exact λb ι2 H2 t st q=>h b ι2 H2 (s.trans t) st q
 | err=>exact h
 | no=>exact h
theorem Pst.bind {α β γ δ:Type} {R:List Addr→Hp→α→β→Prop} {R':List Addr→Hp→γ→δ→Prop} {r:Res α} {f:α→Sr→Res γ} {ι:List Addr} {H:Hp} {Q:δ→Hp→Prop} {K:β→Hp→Prop}
  (h:Pst R' (r.bind f) ι H Q) (k:∀ a S' ι' H' b,Stp ι H ι' H'→Sto ι' H' S'→R ι' H' a b→Pst R' (f a S') ι' H' Q→K b H'):Pst R r ι H K:=by
 cases r with
 | ok a S=>exact λb ι2 H2 t st q=>k a S ι2 H2 b t st q (Pst.from h t)
 | err=>exact h
 | no=>exact h
theorem Pst.ofO {α β:Type} {R:List Addr→Hp→α→β→Prop} {o:Option α} {S:Sr} {ι:List Addr} {H:Hp} {Q:β→Hp→Prop} (h:Pst R (ofO o S) ι H Q) (st:Sto ι H S):∃ a,o=some a∧∀ b ι' H',Stp ι H ι' H'→Sto ι' H' S→R ι' H' a b→Q b H':=by
 cases o with
 | none=>exact h.elim
 | some a=>exact ⟨a,rfl,h⟩
noncomputable def TG {α β:Type} (R:List Addr→Hp→α→β→Prop) (m:En→Sr→Res α):St→Hp→(β→Hp→Prop)→Prop:=λσ H Q=>∃ ι S ρ,EnR ι H ρ σ∧Sto ι H S∧Pst R (m ρ S) ι H Q
noncomputable abbrev T (m:En→Sr→Res D):TE:=TG Den m
noncomputable abbrev TL (m:En→Sr→Res (List D)):TA:=TG Dens m
noncomputable def EqR {α:Type} (_:List Addr) (_:Hp) (a b:α):Prop:=a=b
noncomputable abbrev TB (m:En→Sr→Res Bool):TT:=TG EqR m
noncomputable abbrev TOp (m:En→Sr→Res (Option Int)):TO:=TG EqR m
theorem TG.b1 {α β γ δ:Type} {R:List Addr→Hp→α→β→Prop} {R':List Addr→Hp→γ→δ→Prop} {m:En→Sr→Res α} {f:En→α→Sr→Res γ} {σ:St} {H:Hp} {Q:δ→Hp→Prop} {K:β→Hp→Prop}
  (h:TG R' (λρ S=>(m ρ S).bind λa S1=>f ρ a S1) σ H Q)
  (k:∀ ι S ρ a b H1,EnR ι H1 ρ σ→Sto ι H1 S→R ι H1 a b→Pst R' (f ρ a S) ι H1 Q→K b H1):TG R m σ H K:=by
 obtain ⟨ι,S,ρ,er,st,h⟩:=h
 exact ⟨ι,S,ρ,er,st,Pst.bind h λa S' ι' H' b s st' ra p=>k ι' S' ρ a b H' (er.mono s) st' ra p⟩
theorem Pst.tg {α β γ δ:Type} {R:List Addr→Hp→α→β→Prop} {R':List Addr→Hp→γ→δ→Prop} {m:En→Sr→Res α} {ρ:En} {S:Sr} {f:α→Sr→Res γ} {ι:List Addr} {σ:St} {H:Hp} {Q:δ→Hp→Prop} {K:β→Hp→Prop}
  (h:Pst R' ((m ρ S).bind f) ι H Q) (er:EnR ι H ρ σ) (st:Sto ι H S)
  (k:∀ a S' ι' H' b,Stp ι H ι' H'→EnR ι' H' ρ σ→Sto ι' H' S'→R ι' H' a b→Pst R' (f a S') ι' H' Q→K b H'):TG R m σ H K :=
 ⟨ι,S,ρ,er,st,Pst.bind h λa S' ι' H' b s st' ra p=>k a S' ι' H' b s (er.mono s) st' ra p⟩
theorem PEimp {X:Cx} {e:Expr} {t t':TE} (h:PE X e t) (k:∀ σ H Q,t' σ H Q→t σ H Q):PE X e t':=λpins s σ H Q I hw=>h pins s σ H Q I (k σ H Q hw)
theorem PTimp {X:Cx} {e:Expr} {t t':TT} (h:PT X e t) (k:∀ σ H Q,t' σ H Q→t σ H Q):PT X e t':=λpins s σ H Q I hw=>h pins s σ H Q I (k σ H Q hw)
theorem PAimp {X:Cx} {e:List Expr} {t t':TA} (h:PA X e t) (k:∀ σ H Q,t' σ H Q→t σ H Q):PA X e t':=λpos pins s σ H Q I hw=>h pos pins s σ H Q I (k σ H Q hw)
section
variable {ι:List Addr} {H:Hp} {S:Sr} {v:V}
theorem q9 (st:Sto ι H S):∀ {d:D} {l:List D},lstOf S d=some l→Den ι H d v→∃ a xs,v=.ref a∧Rd H a (.lst xs)∧Dens ι H l xs
 | .lst l',l,h,hd=>by
  cases h
  obtain ⟨a,xs,e,_,r,q⟩:=hd
  exact ⟨a,xs,e,r,q⟩
 | .ref n,l,h,hd=>by
  obtain ⟨a,e,ha⟩:=hd
  simp only [lstOf] at h
  split at h
  ·rename_i l' hs
   cases h
   obtain ⟨_,xs,h1,h2⟩:=st.obj n a _ ha hs
   exact ⟨a,xs,e,.inl h1,h2⟩
  ·cases h
 | .non,_,h,_=>by cases h
 | .bl _,_,h,_=>by cases h
 | .int _,_,h,_=>by cases h
 | .str _,_,h,_=>by cases h
 | .tup _,_,h,_=>by cases h
 | .emp,_,h,_=>by cases h
theorem zq {m:Bool} {l:List D} {xs:List V} {Q:V→Hp→Prop} (st:Sto ι H S) (hl:Dens ι H l xs) (h:Pst Den (newL m l S) ι H Q):∀ p,H p=none→Q (.ref p) (upd H p (.lst xs)):=by
 intro p hp
 unfold newL at h
 cases m with
 | true =>
  rw [wL rfl] at h
  by_cases hf:refsLts 0 l=true
  ·rw [wL hf] at h
   have g:=Stp.grow (ι:=ι) hp (.lst xs)
   have ep:(ι++[p])[ι.length]?=some p:=by simp
   refine h (.ref p) _ _ g (st.grow hp ⟨⟨_,ep,qL l hf⟩,xs,qu,Dens.mono g l hl⟩) ⟨p,rfl,?_⟩
   rw [← st.len];exact ep
  ·rw [wN hf] at h;exact h.elim
 | false =>
  have g:=Stp.laid (ι:=ι) hp (.lst xs)
  exact h (.ref p) _ _ g (st.laid hp _) ⟨p,xs,rfl,st.fresh hp,.inl qu,Dens.mono g l hl⟩
theorem zb {l:List D} {xs:List V} {Q:V→Hp→Prop} (st:Sto ι H S) (hl:Dens ι H l xs) (h:∀ v ι' H',Stp ι H ι' H'→Sto ι' H' S→Den ι' H' (.tup l) v→Q v H'):∀ p,H p=none→Q (.ref p) (upd H p (.tup xs)):=by
 intro p hp
 have g:=Stp.laid (ι:=ι) hp (.tup xs)
 exact h (.ref p) _ _ g (st.laid hp _) ⟨p,xs,rfl,st.fresh hp,qu,Dens.mono g l hl⟩
end
section
variable {X:Cx}
theorem qjH {i:Nat} {x:Str} {pos:Pos} (h:PE X (.Name x pos) (tVar i)):PE X (.Name x pos) (T λρ S=>varE ρ i S):=PEimp h λσ H Q hw=>by
 obtain ⟨ι,S,ρ,er,st,p⟩:=hw
 dsimp only [varE] at p
 split at p
 ·rename_i d hd
  obtain ⟨v,h1,h2⟩:=er.get i d hd
  exact ⟨v,h1,p v ι H (Stp.refl _ _) st h2⟩
 ·exact p.elim
theorem qcA {e:Expr} {d:D} {v:V} (h:PE X e (tC v)) (hd:∀ ι H,Den ι H d v):PE X e (T λ_ S=>.ok d S):=PEimp h λσ H Q hw=>by
 obtain ⟨ι,S,ρ,er,st,p⟩:=hw
 exact p v ι H (Stp.refl _ _) st (hd ι H)
theorem qis {e:Expr} {d:D} {v:V} (h:PE X e (λ_ H Q=>Q v H)) (hd:∀ ι H,Den ι H d v):PE X e (T λ_ S=>.ok d S):=qcA h hd
theorem qjI:PA X [] (TL λ_ S=>.ok [] S):=PAimp qbZ λσ H Q hw=>by
 obtain ⟨ι,S,ρ,er,st,p⟩:=hw
 exact p [] ι H (Stp.refl _ _) st rfl
theorem qit {e:Expr} {es:List Expr} {m:En→Sr→Res D} {ms:En→Sr→Res (List D)} (h1:PE X e (T m)) (h2:PA X es (TL ms)) (hs:starEach (e::es) X.env=(false,eval e X.env)::starEach es X.env) :
  PA X (e::es) (TL λρ S=>(m ρ S).bind λx S1=>(ms ρ S1).bind λl S2=>.ok (x::l) S2):=PAimp (jb h1 h2 hs) λσ H Q hw=>by
 refine TG.b1 hw λι S ρ a b H1 er st ra p=>Pst.tg p er st λl S2 ι2 H2 xs s2 er2 st2 rl p2=>?_
 exact p2 _ ι2 H2 (Stp.refl _ _) st2 ⟨b,xs,rfl,Den.mono s2 a ra,rl⟩
noncomputable def G2 (g:D→D→Sr→Res D):R2:=λx y H Q=>∃ ι S dx dy,Sto ι H S∧Den ι H dx x∧Den ι H dy y∧Pst Den (g dx dy S) ι H Q
theorem T2 {ma mb:En→Sr→Res D} {g:D→D→Sr→Res D} {σ:St} {H:Hp} {Q:VK} (h:T (λρ S=>(ma ρ S).bind λx S1=>(mb ρ S1).bind λy S2=>g x y S2) σ H Q):tOp (G2 g) (T ma) (T mb) σ H Q :=
 TG.b1 h λι S ρ a b H1 er st ra p=>Pst.tg p er st λa2 S2 ι2 H2 b2 s2 er2 st2 ra2 p2=>⟨ι2,S2,a,a2,st2,Den.mono s2 a ra,ra2,p2⟩
theorem qjJ {a b:Expr} {op:Operator} {pos:Pos} {ma mb:En→Sr→Res D} {g:D→D→Sr→Res D} (ho:OpR X (binaryOp op) (G2 g)) (ha:PE X a (T ma)) (hb:PE X b (T mb)) :
  PE X (.BinOp a op b pos) (T λρ S=>(ma ρ S).bind λx S1=>(mb ρ S1).bind λy S2=>g x y S2):=PEimp (qjw ho ha hb) λσ H Q=>T2
theorem qjK {a b:Expr} {op:CmpOp} {pos:Pos} {ma mb:En→Sr→Res D} {g:D→D→Sr→Res D} (ho:OpR X (compareOp op) (G2 g)) (ha:PE X a (T ma)) (hb:PE X b (T mb)) (hm:behindInMarks op b=false) :
  PE X (.Compare a [op] [b] pos) (T λρ S=>(ma ρ S).bind λx S1=>(mb ρ S1).bind λy S2=>g x y S2):=PEimp (qgo ho ha hb hm) λσ H Q=>T2
theorem rd_lst {pins:List (Addr × Obj)} {σ:St} {H:Hp} {s:Shared} {l:Addr} {xs:List V} (I:Inv X pins σ H s) (hH:Rd H l (.lst xs)):xs.length≤sizeLine∧∃ (its:List Value) (n:Nat),Vals xs its∧xs.length=its.length∧s.heap.get? l=some { cls:=.type "list",data:=.seq its.toArray n }:=by
 obtain ⟨z,its,n,r,e⟩:=hH.ok I.hok
 exact ⟨z,its,n,r,r.length,e⟩
theorem qgB:OpR X (binaryOp .Add) (λx y H Q=>∃ l b xs zs,x=.ref l∧y=.ref b∧Rd H l (.lst xs)∧Rd H b (.lst zs)∧xs.length+zs.length≤sizeLine∧∀ p,H p=none→Q (.ref p) (upd H p (.lst (xs++zs)))):=by
 intro pins s σ H x y v u Q I rx ry h
 obtain ⟨l,b,xs,zs,rfl,rfl,hH,hB,hz,q⟩:=h
 cases rx
 cases ry
 obtain ⟨z,its,n,r,hl,e⟩:=rd_lst I hH
 obtain ⟨z2,its2,n2,r2,hl2,e2⟩:=rd_lst I hB
 refine PySem.P.add_list e e2 ?_ (by rw [wH,wH];lia)
 have ea:its.toArray++its2.toArray=(its++its2).toArray:=by simp
 rw [ea]
 exact ⟨.ref _,_,I.lnew (t':=s.toks) (r.append r2) (by rw [wV];lia),rfl,q _ I.fresh⟩
theorem qgC:OpR X (binaryOp .Mult) (λx y H Q=>∃ l k xs,x=.ref l∧y=.int k∧Rd H l (.lst xs)∧-(2^63)≤k∧k<2^63∧xs.length*k.toNat≤sizeLine ∧
 ∀ p,H p=none→Q (.ref p) (upd H p (.lst (List.replicate k.toNat xs).flatten))):=by
 intro pins s σ H x y v u Q I rx ry h
 obtain ⟨l,k,xs,rfl,rfl,hH,h1,h2,hz,q⟩:=h
 cases rx
 obtain ⟨t,rfl⟩:=ry
 obtain ⟨z,its,n,r,hl,e⟩:=rd_lst I hH
 have hlen:its.toArray.size*k.toNat≤sizeLine:=by rw [wH,← hl];exact hz
 have hcap:¬ its.toArray.size*k.toNat>(2^63-1) / 8:=by
  have:(sizeLine:Nat)≤(2^63-1) / 8:=by decide
  lia
 have hfit:¬ (!Builtin.List.listFitsIndex k)=true:=by
  rw [fitsIndex_both h1 h2]
  exact wT
 have hlong:¬ Builtin.List.listTooLong (its.toArray.size*k.toNat)=true:=by
  rw [notLongL hlen]
  exact wT
 have hnew:List.foldl (λx1 x2=>x1++x2) #[] (List.replicate (if its.toArray.isEmpty=true then 0 else k.toNat) its.toArray)=(List.replicate k.toNat its).flatten.toArray:=by
  have f0:∀ m:Nat,List.foldl (λx1 x2=>x1++x2) #[] (List.replicate m its.toArray)=(List.replicate m its).flatten.toArray:=λm=>by
   have:=yS its m []
   rw [List.nil_append] at this
   exact this
  rw [f0]
  cases its with
  | nil=>simp
  | cons a r'=>rw [wN (by simp)]
 refine wpAny_binaryOp_repeat_ref (T:="list") (U:="int") (by decide) ⟨_,e,rfl⟩ (λs'=>typeIs_int s' k t) noFill_list_mul F.fills_int_mul F.slot_int_rmul repeat_list F.slot_int_index.lookup
  (call_meets F.slot_int_rmul (typeIs_int s k t) F.entry_int_rmul (F.args_int_rmul_2 _ _) (int___rmul___int_list k t l its.toArray n)
   ⟨e,rfl,⟨_,e,rfl⟩,call_meets F.slot_list_mul ⟨_,e,rfl⟩ F.entry_list_mul (F.args_list_mul_2 _ _) (AutoListH.list___mul___list_int_3 l its.toArray n k t hfit hcap hlong) ⟨e,?_⟩⟩)
 rw [hnew]
 exact ⟨.ref _,_,I.lnew (t':=s.toks) (r.rep k.toNat) (by rw [qar,Nat.mul_comm];exact hz),rfl,q _ I.fresh⟩
noncomputable def opOf:BOp→Operator
 | .add=>.Add | .sub=>.Sub | .mul=>.Mult | .fdiv=>.FloorDiv | .mod=>.Mod | .pow=>.Pow | .shl=>.LShift | .shr=>.RShift | .band=>.BitAnd
theorem qiu (o:BOp):OpR X (binaryOp (opOf o)) (λx y H Q=>∃ i j r,x=.int i∧y=.int j∧binI o i j=some r∧Q (.int r) H):=by
 intro pins s σ H x y v u Q I rx ry h
 obtain ⟨i,j,r,rfl,rfl,e,q⟩:=h
 have fin:∀ {r':Int} {t:Tok} {tk:Nat},r=r'→EP X pins σ Q (.int r' t) { s with toks:=tk }:=λ{r' t tk} z=>by subst z;exact ⟨.int r,H,I.tok _,⟨_,rfl⟩,q⟩
 obtain ⟨tv,rfl⟩:=rx
 obtain ⟨tu,rfl⟩:=ry
 cases o with
 | add=>exact add_int (fin (by cases e;rfl))
 | sub=>exact sub_int (fin (by cases e;rfl))
 | mul =>
  simp only [binI] at e
  split at e
  ·rename_i hm
   exact mul_int (fin (by cases e;rfl)) (by unfold mulOk at hm;unfold IntMulOk;intro z;rw [z] at hm;exact absurd hm (by decide))
  ·cases e
 | fdiv =>
  simp only [binI] at e
  split at e
  ·rename_i hm
   simp only [divOk,wU,Bool.not_eq_true',vI] at hm
   exact floordiv_int hm.1 (fin (by cases e;rfl)) (.inl hm.2)
  ·cases e
 | mod =>
  simp only [binI] at e
  split at e
  ·cases e
  ·rename_i hm
   exact mod_int' hm (fin (by cases e;rfl))
 | pow =>
  simp only [binI] at e
  split at e
  ·rename_i hm
   exact pow_int_small hm.1 hm.2.1 hm.2.2 (fin (by cases e;rfl))
  ·cases e
 | shl =>
  simp only [binI] at e
  split at e
  ·rename_i hm
   exact lshift_int_small hm.1 hm.2.1 hm.2.2 (fin (by cases e;rfl))
  ·cases e
 | shr =>
  simp only [binI] at e
  split at e
  ·rename_i hm
   exact qid pins s σ H (.int i) (.int j) _ _ Q I ⟨tv,rfl⟩ ⟨tu,rfl⟩ ⟨i,j,rfl,rfl,hm,by cases e;exact q⟩
  ·cases e
 | band=>exact and_int (fin (by cases e;rfl))
end
end R
namespace R
open PySem PySem.Spec L2 SeqAt
open PyProof.Rows hiding St
theorem qbd {f:D→D→Option Bool}:∀ {a b:List D} {r:Bool},eqL f a b=some r →
  (∀ (j:Nat) (x y:D),a[j]?=some x→b[j]?=some y→∃ c,f x y=some c) ∧
  r=((List.range (min a.length b.length)).all (λj=>match a[j]?,b[j]? with | some x,some y=>(f x y).getD false | _,_=>false)&&a.length == b.length)
 | [],[],r,h=>by cases h;exact ⟨λj x y h _=>by simp at h,by simp⟩
 | [],_::_,r,h=>by cases h;exact ⟨λj x y h _=>by simp at h,by simp⟩
 | _::_,[],r,h=>by cases h;exact ⟨λj x y _ h=>by simp at h,by simp⟩
 | a::p,b::q,r,h=>by
  simp only [eqL] at h
  split at h
  ·rename_i x y hx hy
   obtain ⟨ih1,ih2⟩:=qbd hy
   cases h
   refine ⟨λj z w hz hw=>?_,?_⟩
   ·cases j with
    | zero=>simp at hz hw;subst hz hw;exact ⟨x,hx⟩
    | succ j=>exact ih1 j z w (by simpa using hz) (by simpa using hw)
   ·have e:min (a::p).length (b::q).length=min p.length q.length+1:=by simp only [w4];lia
    rw [e,List.range_succ_eq_map,List.all_cons,List.all_map]
    simp only [List.getElem?_cons_zero,hx,Option.getD_some]
    rw [ih2,Bool.and_assoc]
    congr 1
    congr 1
    simp only [w4]
    rw [Bool.eq_iff_iff,beq_iff_eq,beq_iff_eq];lia
  ·cases h
section
variable {ι:List Addr} {H:Hp}
theorem jn {a:Addr} {xs ys:List V} (h:H a=some (.tup xs)) (k:Rd H a (.lst ys)):False:=by
 rcases k with k | ⟨o,k⟩ <;> (rw [h] at k;cases k)
theorem rd_inj {a:Addr} {xs ys:List V} (h:Rd H a (.lst xs)) (k:Rd H a (.lst ys)):xs=ys:=by
 rcases h with h | ⟨o,h⟩ <;> rcases k with k | ⟨o',k⟩ <;> (rw [h] at k;first | (cases k;done) | (cases k;rfl))
theorem jo {f:D→D→Option Bool} (hf:∀ x y v b,Den ι H x v→Den ι H y v→f x y=some b→b=true):∀ {a b:List D} {xs:List V} {r:Bool},Dens ι H a xs→Dens ι H b xs→eqL f a b=some r→r=true
 | [],[],_,r,_,_,h=>by cases h;rfl
 | [],_::_,_,r,h1,h2,h=>by
  cases (show _=[] from h1)
  obtain ⟨x,r,e,_⟩:=h2
  cases e
 | _::_,[],_,r,h1,h2,h=>by
  cases (show _=[] from h2)
  obtain ⟨x,r,e,_⟩:=h1
  cases e
 | a::p,b::q,_,r,h1,h2,h=>by
  obtain ⟨x,t,rfl,d1,e1⟩:=h1
  obtain ⟨x',t',e,d2,e2⟩:=h2
  cases e
  simp only [eqL] at h
  split at h
  ·rename_i y z hy hz
   cases h
   rw [hf a b x y d1 d2 hy,jo hf e1 e2 hz]
   all_goals rfl
  ·cases h
theorem jp:∀ (n:Nat) (x y:D) (v:V) (b:Bool),Den ι H x v→Den ι H y v→eqD n x y=some b→b=true
 | 0,_,_,_,_,_,_,h=>by cases h
 | n+1,x,y,v,b,hx,hy,h=>by
  cases x <;> cases y <;> simp only [eqD,Den] at h hx hy <;> first
   | (cases h;rfl)
   | (cases h;subst hx;first | (cases hy;done) | (cases hy;simp;done))
   | (obtain ⟨a,xs,rfl,_⟩:=hx;cases hy;done)
   | (obtain ⟨a,xs,rfl,_⟩:=hy;cases hx;done)
   | (obtain ⟨a,rfl,_⟩:=hx;cases h;done)
   | (obtain ⟨a,rfl,_⟩:=hy;cases h;done)
   | (obtain ⟨a,xs,rfl,_,ha,r⟩:=hx
      obtain ⟨a',xs',e,_,ha',r'⟩:=hy
      cases e
      first
        | (rw [ha] at ha';cases ha';exact jo (λx y v b=>jp n x y v b) r r' h)
        | (cases rd_inj ha ha'
           have hl:_=_:=r.length.trans r'.length.symm
           rw [wL hl] at h
           exact jo (λx y v b=>jp n x y v b) r r' h)
        | exact (jn ha ha').elim
        | exact (jn ha' ha).elim)
end
section
variable {X:Cx} {pins:List (Addr × Obj)} {σ:St} {H:Hp} {s:Shared} {ι:List Addr}
theorem Vals.at {xs:List V} {us:List Value} (r:Vals xs us) {j:Nat} (h:j<us.length):∃ x,xs[j]?=some x∧RelV x us[j]:=by
 have hl:=r.length
 obtain ⟨u,h1,h2⟩:=r.get (i:=j) (x:=xs[j]'(by lia)) (wD (by lia))
 rw [wD h] at h1
 cases h1
 exact ⟨_,wD (by lia),h2⟩
theorem Dens.at {ds:List D} {xs:List V} {j:Nat} {x:V} (h:Dens ι H ds xs) (e:xs[j]?=some x):∃ d,ds[j]?=some d∧Den ι H d x:=by
 have hl:=h.length
 have hj:=(wK.mp e).1
 obtain ⟨y,h1,h2⟩:=h.get (i:=j) (d:=ds[j]'(by lia)) (wD (by lia))
 rw [e] at h1;cases h1
 exact ⟨_,wD (by lia),h2⟩
theorem jq (I:Inv X pins σ H s) {a:Addr} {xs:List V} (h:H a=some (.tup xs)):∃ its:List Value,Vals xs its∧IsTup s.heap a its.toArray∧xs.length≤sizeLine:=by
 obtain ⟨z,its,r,p⟩:=I.hok a _ h
 exact ⟨its,r,p,z⟩
theorem qau (I:Inv X pins σ H s) {a:Addr} {xs:List V} (h:Rd H a (.lst xs)):∃ its:List Value,Vals xs its∧s.heap.IsList a its.toArray∧xs.length≤sizeLine:=by
 obtain ⟨z,its,n,r,e⟩:=h.ok I.hok
 exact ⟨its,r,⟨_,e,rfl,n,rfl⟩,z⟩
noncomputable def EqAll (A:Around) (s:Shared) (v u:Value) (b:Bool):Prop:=RcAt A s v u b∧RcNeAt A s v u (!b)∧EqAt A s v u b
theorem yr {v:V} {i:Int} {u:Value} (h:Den ι H (.int i) v) (r:RelV v u):∃ t,u=.int i t:=by cases (show v=_ from h);exact r
theorem yt {v:V} {i:Str} {u:Value} (h:Den ι H (.str i) v) (r:RelV v u):∃ t,u=.str i t:=by cases (show v=_ from h);exact r
theorem vs_bl {v:V} {i:Bool} {u:Value} (h:Den ι H (.bl i) v) (r:RelV v u):u=.bool i:=by cases (show v=_ from h);exact r
theorem vs_non {v:V} {u:Value} (h:Den ι H .non v) (r:RelV v u):u=.none:=by cases (show v=_ from h);exact r
theorem yu (I:Inv X pins σ H s) {v:V} {l:List D} {u:Value} (h:Den ι H (.tup l) v) (r:RelV v u):∃ a its xs,v=.ref a∧u=.ref a∧Vals xs its∧Dens ι H l xs∧s.heap.IsTuple a its.toArray∧H a=some (.tup xs):=by
 obtain ⟨a,xs,rfl,_,ha,d⟩:=h
 cases r
 obtain ⟨its,rv,p,_⟩:=jq I ha
 exact ⟨a,its,xs,rfl,rfl,rv,d,p,ha⟩
theorem yv (I:Inv X pins σ H s) {v:V} {l:List D} {u:Value} (h:Den ι H (.lst l) v) (r:RelV v u):∃ a its xs,v=.ref a∧u=.ref a∧Vals xs its∧Dens ι H l xs∧s.heap.IsList a its.toArray∧Rd H a (.lst xs):=by
 obtain ⟨a,xs,rfl,_,ha,d⟩:=h
 cases r
 obtain ⟨its,rv,p,_⟩:=qau I ha
 exact ⟨a,its,xs,rfl,rfl,rv,d,p,ha⟩
theorem qep {f:D→D→Option Bool} {A:Around} {a b:List D} {xs ys:List V} {its its2:List Value} {r:Bool}
  (hf:∀ x y c v u v' u',f x y=some c→Den ι H x v→Den ι H y u→RelV v v'→RelV u u'→EqAt A s v' u' c)
  (h:eqL f a b=some r) (da:Dens ι H a xs) (db:Dens ι H b ys) (va:Vals xs its) (vb:Vals ys its2) :
  ∃ e:Nat→Bool,(∀ j (h1:j<its.toArray.size) (h2:j<its2.toArray.size),EqAt A s its.toArray[j] its2.toArray[j] (e j))∧r=((List.range (min its.toArray.size its2.toArray.size)).all e&&its.toArray.size == its2.toArray.size) ∧
   a.length=its.length∧b.length=its2.length:=by
 obtain ⟨h1,h2⟩:=qbd h
 have la:a.length=its.length:=da.length.trans va.length
 have lb:b.length=its2.length:=db.length.trans vb.length
 refine ⟨_,λj j1 j2=>?_,by rw [wH,wH,← la,← lb];exact h2,la,lb⟩
 simp only [wH] at j1 j2
 obtain ⟨x,e1,r1⟩:=Vals.at va j1
 obtain ⟨y,e2,r2⟩:=Vals.at vb j2
 obtain ⟨d1,g1,k1⟩:=da.at e1
 obtain ⟨d2,g2,k2⟩:=db.at e2
 obtain ⟨c,hc⟩:=h1 j d1 d2 g1 g2
 simp only [g1,g2,hc,Option.getD_some,List.getElem_toArray]
 exact hf d1 d2 c x y _ _ hc k1 k2 r1 r2
theorem qav (I:Inv X pins σ H s):∀ (n:Nat) (A:Around) (x y:D) (b:Bool) (v u:V) (v' u':Value),eqD n x y=some b→Den ι H x v→Den ι H y u→RelV v v'→RelV u u'→A.units+n<cLine→EqAll A s v' u' b
 | 0,_,_,_,_,_,_,_,_,h,_,_,_,_,_=>by cases h
 | n+1,A,x,y,b,v,u,v',u',h,hx,hy,rx,ry,hu=>by
  have hu0:A.units<cLine:=by lia
  have same:=jp (ι:=ι) (H:=H) (n+1) x y
  have ih:∀ x y c v u v' u',eqD n x y=some c→Den ι H x v→Den ι H y u→RelV v v'→RelV u u'→EqAt A.in1 s v' u' c:=λx y c v u v' u' h1 h2 h3 h4 h5 =>
   (qav I n A.in1 x y c v u v' u' h1 h2 h3 h4 h5 (by show A.units+1+n<cLine;lia)).2.2
  cases x with
  | ref k=>cases y <;> cases h
  | emp=>cases y <;> cases h
  | non =>
   cases vs_non hx rx
   cases y with
   | ref k=>cases h
   | emp=>cases h
   | non=>cases vs_non hy ry;cases h;exact ⟨RcAt.none_none,RcNeAt.none_none,EqAt.same _⟩
   | bl c=>cases vs_bl hy ry;cases h;exact ⟨RcAt.none_bool _,RcNeAt.none_bool _,EqAt.none_bool _⟩
   | int c=>obtain ⟨t,rfl⟩:=yr hy ry;cases h;exact ⟨RcAt.none_int _ _,RcNeAt.none_int _ _,EqAt.none_int _ _⟩
   | str c=>obtain ⟨t,rfl⟩:=yt hy ry;cases h;exact ⟨RcAt.none_str _ _,RcNeAt.none_str _ _,EqAt.none_str _ _⟩
   | tup l=>obtain ⟨a,its,xs,_,rfl,_,_,p,_⟩:=yu I hy ry;cases h;exact ⟨RcAt.none_tuple p hu0,RcNeAt.none_tuple p hu0,EqAt.none_tuple p hu0⟩
   | lst l=>obtain ⟨a,its,xs,_,rfl,_,_,p,_⟩:=yv I hy ry;cases h;exact ⟨RcAt.none_list p hu0,RcNeAt.none_list p hu0,EqAt.none_list p hu0⟩
  | bl d =>
   cases vs_bl hx rx
   cases y with
   | ref k=>cases h
   | emp=>cases h
   | non=>cases vs_non hy ry;cases h;exact ⟨RcAt.bool_none _,RcNeAt.bool_none _,EqAt.bool_none _⟩
   | bl c=>cases vs_bl hy ry;cases h;exact ⟨RcAt.bool_bool _ _,RcNeAt.bool_bool _ _,EqAt.bool_bool _ _⟩
   | int c=>obtain ⟨t,rfl⟩:=yr hy ry;cases h;exact ⟨RcAt.bool_int _ _ _,RcNeAt.bool_int _ _ _,EqAt.bool_int _ _ _⟩
   | str c=>obtain ⟨t,rfl⟩:=yt hy ry;cases h;exact ⟨RcAt.bool_str _ _ _,RcNeAt.bool_str _ _ _,EqAt.bool_str _ _ _⟩
   | tup l=>obtain ⟨a,its,xs,_,rfl,_,_,p,_⟩:=yu I hy ry;cases h;exact ⟨RcAt.bool_tuple _ p hu0,RcNeAt.bool_tuple _ p hu0,EqAt.bool_tuple _ p hu0⟩
   | lst l=>obtain ⟨a,its,xs,_,rfl,_,_,p,_⟩:=yv I hy ry;cases h;exact ⟨RcAt.bool_list _ p hu0,RcNeAt.bool_list _ p hu0,EqAt.bool_list _ p hu0⟩
  | int d =>
   obtain ⟨tt,rfl⟩:=yr hx rx
   cases y with
   | ref k=>cases h
   | emp=>cases h
   | non=>cases vs_non hy ry;cases h;exact ⟨RcAt.int_none _ _,RcNeAt.int_none _ _,EqAt.int_none _ _⟩
   | bl c=>cases vs_bl hy ry;cases h;exact ⟨RcAt.int_bool _ _ _,RcNeAt.int_bool _ _ _,EqAt.int_bool _ _ _⟩
   | int c=>obtain ⟨t,rfl⟩:=yr hy ry;cases h;exact ⟨RcAt.int_int _ _ _ _,RcNeAt.int_int _ _ _ _,EqAt.int_int _ _ _ _⟩
   | str c=>obtain ⟨t,rfl⟩:=yt hy ry;cases h;exact ⟨RcAt.int_str _ _ _ _,RcNeAt.int_str _ _ _ _,EqAt.int_str _ _ _ _⟩
   | tup l=>obtain ⟨a,its,xs,_,rfl,_,_,p,_⟩:=yu I hy ry;cases h;exact ⟨RcAt.int_tuple _ _ p hu0,RcNeAt.int_tuple _ _ p hu0,EqAt.int_tuple _ _ p hu0⟩
   | lst l=>obtain ⟨a,its,xs,_,rfl,_,_,p,_⟩:=yv I hy ry;cases h;exact ⟨RcAt.int_list _ _ p hu0,RcNeAt.int_list _ _ p hu0,EqAt.int_list _ _ p hu0⟩
  | str d =>
   obtain ⟨tt,rfl⟩:=yt hx rx
   cases y with
   | ref k=>cases h
   | emp=>cases h
   | non=>cases vs_non hy ry;cases h;exact ⟨RcAt.str_none _ _,RcNeAt.str_none _ _,EqAt.str_none _ _⟩
   | bl c=>cases vs_bl hy ry;cases h;exact ⟨RcAt.str_bool _ _ _,RcNeAt.str_bool _ _ _,EqAt.str_bool _ _ _⟩
   | int c=>obtain ⟨t,rfl⟩:=yr hy ry;cases h;exact ⟨RcAt.str_int _ _ _ _,RcNeAt.str_int _ _ _ _,EqAt.str_int _ _ _ _⟩
   | str c=>obtain ⟨t,rfl⟩:=yt hy ry;cases h;exact ⟨RcAt.str_str _ _ _ _,RcNeAt.str_str _ _ _ _,EqAt.str_str _ _ _ _⟩
   | tup l=>obtain ⟨a,its,xs,_,rfl,_,_,p,_⟩:=yu I hy ry;cases h;exact ⟨RcAt.str_tuple _ _ p hu0,RcNeAt.str_tuple _ _ p hu0,EqAt.str_tuple _ _ p hu0⟩
   | lst l=>obtain ⟨a,its,xs,_,rfl,_,_,p,_⟩:=yv I hy ry;cases h;exact ⟨RcAt.str_list _ _ p hu0,RcNeAt.str_list _ _ p hu0,EqAt.str_list _ _ p hu0⟩
  | tup d =>
   obtain ⟨a',its',xs',e1,rfl,va,da,p',ha⟩:=yu I hx rx
   cases y with
   | ref k=>cases h
   | emp=>cases h
   | non=>cases vs_non hy ry;cases h;exact ⟨RcAt.tuple_none p' hu0,RcNeAt.tuple_none p' hu0,EqAt.tuple_none p' hu0⟩
   | bl c=>cases vs_bl hy ry;cases h;exact ⟨RcAt.tuple_bool _ p' hu0,RcNeAt.tuple_bool _ p' hu0,EqAt.tuple_bool _ p' hu0⟩
   | int c=>obtain ⟨t,rfl⟩:=yr hy ry;cases h;exact ⟨RcAt.tuple_int _ _ p' hu0,RcNeAt.tuple_int _ _ p' hu0,EqAt.tuple_int _ _ p' hu0⟩
   | str c=>obtain ⟨t,rfl⟩:=yt hy ry;cases h;exact ⟨RcAt.tuple_str _ _ p' hu0,RcNeAt.tuple_str _ _ p' hu0,EqAt.tuple_str _ _ p' hu0⟩
   | tup l =>
    obtain ⟨a,its,xs,e2,rfl,vb,db,p,hb⟩:=yu I hy ry
    have h0:eqL (eqD n) d l=some b:=h
    obtain ⟨e,he,er,_⟩:=qep ih h0 da db va vb
    have R1:RcAt A s (.ref a') (.ref a) b:=by rw [er];exact RcAt.tuples p' p hu0 he
    have R2:RcNeAt A s (.ref a') (.ref a) (!b):=by rw [er];exact RcNeAt.tuples p' p hu0 he
    refine ⟨R1,R2,?_⟩
    by_cases z:a'=a
    ·subst z
     rw [same (.ref a') b (e1 ▸ hx) (e2 ▸ hy) h]
     exact EqAt.same _
    ·exact EqAt.of_refs z R1
   | lst l=>obtain ⟨a,its,xs,_,rfl,_,_,p,_⟩:=yv I hy ry;cases h;exact ⟨RcAt.tuple_list p' p hu0,RcNeAt.tuple_list p' p hu0,EqAt.tuple_list p' p hu0⟩
  | lst d =>
   obtain ⟨a',its',xs',e1,rfl,va,da,p',ha⟩:=yv I hx rx
   cases y with
   | ref k=>cases h
   | emp=>cases h
   | non=>cases vs_non hy ry;cases h;exact ⟨RcAt.list_none p' hu0,RcNeAt.list_none p' hu0,EqAt.list_none p' hu0⟩
   | bl c=>cases vs_bl hy ry;cases h;exact ⟨RcAt.list_bool _ p' hu0,RcNeAt.list_bool _ p' hu0,EqAt.list_bool _ p' hu0⟩
   | int c=>obtain ⟨t,rfl⟩:=yr hy ry;cases h;exact ⟨RcAt.list_int _ _ p' hu0,RcNeAt.list_int _ _ p' hu0,EqAt.list_int _ _ p' hu0⟩
   | str c=>obtain ⟨t,rfl⟩:=yt hy ry;cases h;exact ⟨RcAt.list_str _ _ p' hu0,RcNeAt.list_str _ _ p' hu0,EqAt.list_str _ _ p' hu0⟩
   | tup l=>obtain ⟨a,its,xs,_,rfl,_,_,p,_⟩:=yu I hy ry;cases h;exact ⟨RcAt.list_tuple p' p hu0,RcNeAt.list_tuple p' p hu0,EqAt.list_tuple p' p hu0⟩
   | lst l =>
    obtain ⟨a,its,xs,e2,rfl,vb,db,p,hb⟩:=yv I hy ry
    have h0:(if d.length=l.length then eqL (eqD n) d l else some false)=some b:=h
    have la:d.length=its'.length:=da.length.trans va.length
    have lb:l.length=its.length:=db.length.trans vb.length
    have R:RcAt A s (.ref a') (.ref a) b∧RcNeAt A s (.ref a') (.ref a) (!b):=by
     by_cases hl:d.length=l.length
     ·rw [wL hl] at h0
      obtain ⟨e,he,er,_⟩:=qep ih h0 da db va vb
      have hsz:its'.toArray.size=its.toArray.size:=by rw [wH,wH];lia
      have er':b=(List.range its'.toArray.size).all e:=by
       rw [er,hsz];simp
      rw [er']
      exact ⟨RcAt.lists p' p hsz hu0 he,RcNeAt.lists p' p hsz hu0 he⟩
     ·rw [wN hl] at h0
      cases h0
      have hsz:(its'.toArray.size != its.toArray.size)=true:=by
       rw [wH,wH];simp;lia
      exact ⟨RcAt.lists_lengths p' p hsz hu0,RcNeAt.lists_lengths p' p hsz hu0⟩
    refine ⟨R.1,R.2,?_⟩
    by_cases z:a'=a
    ·subst z
     rw [same (.ref a') b (e1 ▸ hx) (e2 ▸ hy) h]
     exact EqAt.same _
    ·exact EqAt.of_refs z R.1
end
end R
namespace R
open PySem PySem.Spec L2 SeqAt
open PyProof.Rows hiding St
section
variable {X:Cx}
theorem Dens.rep {ι:List Addr} {H:Hp} {ds:List D} {xs:List V} (h:Dens ι H ds xs):∀ k:Nat,Dens ι H (List.replicate k ds).flatten (List.replicate k xs).flatten
 | 0=>by simp [Dens]
 | k+1=>by
  simp only [List.replicate_succ,List.flatten_cons]
  exact h.append (Dens.rep h k)
theorem qeq:OpR X (binaryOp .Add) (λx y H Q=>∃ a b xs ys,x=.ref a∧y=.ref b∧H a=some (.tup xs)∧H b=some (.tup ys)∧xs.length+ys.length≤sizeLine ∧
  (xs=[]→Q (.ref b) H)∧(xs≠[]→ys=[]→Q (.ref a) H)∧(xs≠[]→ys≠[]→∀ p,H p=none→Q (.ref p) (upd H p (.tup (xs++ys))))):=by
 intro pins s σ H x y v u Q I rx ry h
 obtain ⟨a,b,xs,ys,rfl,rfl,ha,hb,hz,q0,q1,q2⟩:=h
 by_cases hx:xs=[]
 ·subst hx
  cases rx
  cases ry
  obtain ⟨its,r1,p1,_⟩:=jq I ha
  obtain ⟨its2,r2,p2,_⟩:=jq I hb
  obtain ⟨⟨cls,dd,data,sl⟩,ho,hc,n,hd⟩:=id p1
  obtain ⟨⟨cls2,dd2,data2,sl2⟩,ho2,hc2,n2,hd2⟩:=id p2
  simp only at hc hd hc2 hd2
  subst hc hd hc2 hd2
  have e0:its=[]:=r1.nil_iff.mpr rfl
  subst e0
  exact concat_meets ⟨_,ho,rfl⟩ ⟨_,ho2,rfl⟩ noFill_tuple_add seq_tuple_add PySem.F.slot_tuple_add PySem.F.entry_tuple_add (PySem.F.args_tuple_add_2 _ _)
   (tuple_addW0 a b _ its2.toArray n n2 dd dd2 sl sl2 (by simp)) ⟨ho,ho2,⟨.ref b,H,I,rfl,q0 rfl⟩⟩
 ·exact qgv pins s σ H _ _ v u Q I rx ry ⟨a,b,xs,ys,rfl,rfl,.inl (.inl ha),.inl (.inl hb),hx,hz,q1 hx,q2 hx⟩
theorem qgD (o:BOp):OpR X (binaryOp (opOf o)) (G2 λx y S=>ofO (binD o x y S) S):=by
 intro pins s σ H x y v u Q I rx ry h
 obtain ⟨ι,S,dx,dy,st,hx,hy,p⟩:=h
 obtain ⟨d,e,q⟩:=Pst.ofO p st
 have q0:∀ v,Den ι H d v→Q v H:=λv hv=>q v ι H (Stp.refl _ _) st hv
 unfold binD at e
 split at e
 ·rename_i i j
  cases (show x=_ from hx)
  cases (show y=_ from hy)
  cases hb:binI o i j with
  | none=>rw [hb] at e;cases e
  | some r =>
   rw [hb] at e;cases e
   exact qiu o pins s σ H _ _ v u Q I rx ry ⟨i,j,r,rfl,rfl,hb,q0 _ rfl⟩
 ·rename_i a b
  cases o <;> try (cases e;done)
  dsimp only at e
  split at e
  ·rename_i hc
   cases e
   cases (show x=_ from hx)
   cases (show y=_ from hy)
   exact qbY pins s σ H _ _ v u Q I rx ry ⟨a,b,rfl,rfl,hc,q0 _ rfl⟩
  ·cases e
 ·rename_i a b
  cases o <;> try (cases e;done)
  dsimp only at e
  split at e
  ·rename_i hc
   cases e
   obtain ⟨l,xs,rfl,n1,h1,d1⟩:=hx
   obtain ⟨m,ys,rfl,n2,h2,d2⟩:=hy
   have hz:xs.length+ys.length≤sizeLine:=by
    have:=vG hc
    rw [d1.length,d2.length] at this;exact this
   refine qeq pins s σ H _ _ v u Q I rx ry ⟨l,m,xs,ys,rfl,rfl,h1,h2,hz,λz=>?_,λ_ z=>?_,λ_ _=>zb st (d1.append d2) q⟩
   ·subst z
    have:a=[]:=w8.mp (by rw [d1.length];rfl)
    subst this
    exact q0 _ ⟨m,ys,rfl,n2,h2,by simpa using d2⟩
   ·subst z
    have:b=[]:=w8.mp (by rw [d2.length];rfl)
    subst this
    exact q0 _ ⟨l,xs,rfl,n1,h1,by simpa using d1⟩
  ·cases e
 ·rename_i a k
  cases o <;> try (cases e;done)
  dsimp only at e
  split at e
  ·rename_i hc
   cases e
   obtain ⟨l,xs,rfl,n1,h1,d1⟩:=hx
   cases (show y=_ from hy)
   obtain ⟨c1,c2,c3⟩:=vG hc
   refine qgA pins s σ H _ _ v u Q I rx ry ⟨l,k,xs,rfl,rfl,.inl (.inl h1),c1,c2,by rw [← d1.length];exact c3,λz=>?_,λ_=>zb st (d1.rep _) q⟩
   have e2:rep a k=a:=by
    unfold rep
    rcases z with z | z
    ·subst z
     have:a=[]:=w8.mp (by rw [d1.length];rfl)
     subst this
     simp
    ·subst z;simp
   rw [e2] at q0
   exact q0 _ ⟨l,xs,rfl,n1,h1,d1⟩
  ·cases e
 ·rename_i k _ _
  cases o <;> try (cases e;done)
  dsimp only at e
  split at e
  ·rename_i a ha
   split at e
   ·rename_i hc
    cases e
    obtain ⟨l,xs,rfl,h1,d1⟩:=q9 st ha hx
    cases (show y=_ from hy)
    obtain ⟨c1,c2,c3⟩:=vG hc
    exact qgC pins s σ H _ _ v u Q I rx ry ⟨l,k,xs,rfl,rfl,h1,c1,c2,by rw [← d1.length];exact c3,zq (m:=false) st (d1.rep _) q⟩
   ·cases e
  ·cases e
 ·cases o <;> try (cases e;done)
  dsimp only at e
  split at e
  ·rename_i a b ha hb
   split at e
   ·rename_i hc
    cases e
    obtain ⟨l,xs,rfl,h1,d1⟩:=q9 st ha hx
    obtain ⟨m,ys,rfl,h2,d2⟩:=q9 st hb hy
    have hz:xs.length+ys.length≤sizeLine:=by
     have:=vG hc
     rw [d1.length,d2.length] at this;exact this
    exact qgB pins s σ H _ _ v u Q I rx ry ⟨l,m,xs,ys,rfl,rfl,h1,h2,hz,zq (m:=false) st (d1.append d2) q⟩
   ·cases e
  ·cases e
theorem intsOf_eq:∀ {l:List D} {m:List Int},intsOf l=some m→l=m.map .int
 | [],m,h=>by cases h;rfl
 | .int i::r,m,h=>by
  simp only [intsOf] at h
  cases e:intsOf r with
  | none=>rw [e] at h;cases h
  | some m'=>rw [e] at h;cases h;rw [intsOf_eq e];rfl
 | .non::_,_,h=>by cases h
 | .bl _::_,_,h=>by cases h
 | .str _::_,_,h=>by cases h
 | .tup _::_,_,h=>by cases h
 | .lst _::_,_,h=>by cases h
 | .emp::_,_,h=>by cases h
 | .ref _::_,_,h=>by cases h
theorem dens_ints {ι:List Addr} {H:Hp}:∀ {m:List Int} {xs:List V},Dens ι H (m.map .int) xs→xs=m.map .int
 | [],xs,h=>h
 | i::m,xs,h=>by
  obtain ⟨x,r,rfl,h1,h2⟩:=h
  rw [dens_ints h2,show x=_ from h1];rfl
noncomputable def cOf:COp→CmpOp
 | .eq=>.Eq | .ne=>.NotEq | .lt=>.Lt | .le=>.LtE | .gt=>.Gt | .ge=>.GtE | .is=>.Is | .isn=>.IsNot | .inn=>.In | .nin=>.NotIn
theorem jr {ι:List Addr} {H:Hp}:∀ {d:D} {v:V},flatD d=true→Den ι H d v→flatV v=true
 | .non,_,_,h=>by cases (show _=_ from h);rfl
 | .bl _,_,_,h=>by cases (show _=_ from h);rfl
 | .int _,_,_,h=>by cases (show _=_ from h);rfl
 | .str _,_,_,h=>by cases (show _=_ from h);rfl
 | .tup _,_,h,_=>by cases h
 | .lst _,_,h,_=>by cases h
 | .emp,_,h,_=>by cases h
 | .ref _,_,h,_=>by cases h
theorem qgE {ι:List Addr} {H:Hp} {d e:D} {v u:V} (fd:flatD d=true) (fe:flatD e=true) (h:Den ι H d v) (k:Den ι H e u):eqV v u=eqF d e:=by
 cases d <;> cases e <;> first
  | (cases fd;done)
  | (cases fe;done)
  | (cases (show v=_ from h);cases (show u=_ from k);simp [eqV,eqF,Bool.beq_eq_decide_eq];done)
theorem qb7 {ι:List Addr} {H:Hp} {x:D} {v:V} (fx:flatD x=true) (hx:Den ι H x v):∀ {l:List D} {xs:List V},l.all flatD=true→Dens ι H l xs→xs.all flatV=true∧inV v xs=l.any λy=>eqF y x
 | [],xs,_,h=>by cases (show _=[] from h);exact ⟨rfl,rfl⟩
 | d::l,xs,hf,h=>by
  obtain ⟨y,r,rfl,h1,h2⟩:=h
  simp only [List.all_cons,wU] at hf
  obtain ⟨i1,i2⟩:=qb7 fx hx hf.2 h2
  refine ⟨by simp [jr hf.1 h1,i1],?_⟩
  unfold inV at i2 ⊢
  rw [List.any_cons,List.any_cons,qgE hf.1 fx h1 hx,i2]
theorem zC {ι:List Addr} {H:Hp} {S:Sr} {v:V} (st:Sto ι H S) {d:D} {l:List D} (h:seqOf S d=some l) (hd:Den ι H d v):∃ a xs,v=.ref a∧(Rd H a (.lst xs)∨H a=some (.tup xs))∧Dens ι H l xs:=by
 unfold seqOf at h
 split at h
 ·cases h
  obtain ⟨a,xs,e,_,ha,r⟩:=hd
  exact ⟨a,xs,e,.inr ha,r⟩
 ·obtain ⟨a,xs,e,ha,r⟩:=q9 st h hd
  exact ⟨a,xs,e,.inl ha,r⟩
theorem qgF {a b:Bool} {M:Model} {A:Around} {E:Value→Shared→Prop} {s:Shared} {Q:Value→Shared→Prop} (h:Q (.bool (a == b)) s):wpAny M A (compareOp .Is (.bool a) (.bool b)) Q E s :=
 wpAny_is_plain (by rfl) (by cases a <;> cases b <;> exact h)
theorem qer {a b:Bool} {M:Model} {A:Around} {E:Value→Shared→Prop} {s:Shared} {Q:Value→Shared→Prop} (h:Q (.bool (!(a == b))) s):wpAny M A (compareOp .IsNot (.bool a) (.bool b)) Q E s :=
 wpAny_isNot_plain (by rfl) (by cases a <;> cases b <;> exact h)
theorem yf (o:COp) (hu:X.A.units+30<cLine):OpR X (compareOp (cOf o)) (G2 λx y S=>ofO ((cmpD o x y S).map .bl) S):=by
 intro pins s σ H x y v u Q I rx ry h
 obtain ⟨ι,S,dx,dy,st,hx,hy,p⟩:=h
 obtain ⟨d,e,q⟩:=Pst.ofO p st
 obtain ⟨b,eb,rfl⟩:∃ b,cmpD o dx dy S=some b∧d=.bl b:=by
  cases z:cmpD o dx dy S with
  | none=>rw [z] at e;cases e
  | some b=>rw [z] at e;cases e;exact ⟨b,rfl,rfl⟩
 clear e p
 have e:=eb
 clear eb
 have q0:Q (.bl b) H:=q (.bl b) ι H (Stp.refl _ _) st rfl
 have fin:EP X pins σ Q (.bool b) s:=⟨.bl b,H,I,rfl,q0⟩
 cases o with
 | eq=>exact (qav I 20 X.A dx dy b x y v u e hx hy rx ry (by lia)).1 _ _ _ _ fin
 | ne =>
  cases z:eqD 20 dx dy with
  | none=>simp only [cmpD,z] at e;cases e
  | some c =>
   simp only [cmpD,z] at e;cases e
   exact (qav I 20 X.A dx dy c x y v u z hx hy rx ry (by lia)).2.1 _ _ _ _ fin
 | lt =>
  simp only [cmpD] at e
  split at e
  ·cases (show x=_ from hx);cases (show y=_ from hy);cases e
   exact qjy pins s σ H _ _ v u Q I rx ry ⟨_,_,rfl,rfl,q0⟩
  ·split at e
   ·rename_i m n hm hn
    cases e
    cases intsOf_eq hm
    cases intsOf_eq hn
    obtain ⟨a1,xs,rfl,_,h1,d1⟩:=hx
    obtain ⟨a2,ys,rfl,_,h2,d2⟩:=hy
    cases dens_ints d1
    cases dens_ints d2
    exact qim (by lia) pins s σ H _ _ v u Q I rx ry ⟨a1,a2,m,n,rfl,rfl,.inl (.inl h1),.inl (.inl h2),q0⟩
   ·cases e
  ·cases e
 | le =>
  simp only [cmpD] at e
  split at e
  ·cases (show x=_ from hx);cases (show y=_ from hy);cases e
   exact qjz pins s σ H _ _ v u Q I rx ry ⟨_,_,rfl,rfl,q0⟩
  ·cases e
 | gt =>
  simp only [cmpD] at e
  split at e
  ·cases (show x=_ from hx);cases (show y=_ from hy);cases e
   exact qjA pins s σ H _ _ v u Q I rx ry ⟨_,_,rfl,rfl,q0⟩
  ·cases e
 | ge =>
  simp only [cmpD] at e
  split at e
  ·cases (show x=_ from hx);cases (show y=_ from hy);cases e
   exact qjB pins s σ H _ _ v u Q I rx ry ⟨_,_,rfl,rfl,q0⟩
  ·split at e
   ·rename_i m n hm hn
    cases e
    cases intsOf_eq hm
    cases intsOf_eq hn
    obtain ⟨a1,xs,rfl,_,h1,d1⟩:=hx
    obtain ⟨a2,ys,rfl,_,h2,d2⟩:=hy
    cases dens_ints d1
    cases dens_ints d2
    exact qir (by lia) pins s σ H _ _ v u Q I rx ry ⟨a1,a2,m,n,rfl,rfl,.inl (.inl h1),.inl (.inl h2),q0⟩
   ·cases e
  ·cases e
 | is =>
  simp only [cmpD] at e
  split at e
  ·cases (show y=_ from hy)
   refine qif pins s σ H _ _ v u Q I rx ry ⟨rfl,?_⟩
   cases dx <;> simp only [Option.some.injEq] at e <;> subst e <;> first
    | (cases (show x=_ from hx);exact q0)
    | (obtain ⟨a,_,rfl,_⟩:=hx;exact q0)
    | (obtain ⟨a,rfl,_⟩:=hx;exact q0)
  ·split at e
   ·cases (show x=_ from hx);cases (show y=_ from hy);cases e
    cases rx;cases ry
    exact qgF fin
   ·cases (show x=_ from hx);cases (show y=_ from hy);cases e
    cases rx;cases ry
    exact wpAny_is_other (by rfl) (by intro z;cases z) fin
   ·cases e
  ·cases e
 | isn =>
  simp only [cmpD] at e
  split at e
  ·cases (show y=_ from hy)
   refine qgn pins s σ H _ _ v u Q I rx ry ⟨rfl,?_⟩
   cases dx <;> simp only [Option.some.injEq] at e <;> subst e <;> first
    | (cases (show x=_ from hx);exact q0)
    | (obtain ⟨a,_,rfl,_⟩:=hx;exact q0)
    | (obtain ⟨a,rfl,_⟩:=hx;exact q0)
  ·split at e
   ·cases (show x=_ from hx);cases (show y=_ from hy);cases e
    cases rx;cases ry
    exact qer fin
   ·cases (show x=_ from hx);cases (show y=_ from hy);cases e
    cases rx;cases ry
    exact wpAny_isNot_other (by rfl) (by intro z;cases z) fin
   ·cases e
  ·cases e
 | inn =>
  simp only [cmpD] at e
  cases z:seqOf S dy with
  | none=>rw [z] at e;cases e
  | some l =>
   rw [z] at e
   have e:inD dx l=some b:=e
   unfold inD at e
   split at e
   ·rename_i hf
    simp only [wU] at hf
    cases e
    obtain ⟨a,xs,rfl,hs,dl⟩:=zC st z hy
    obtain ⟨i1,i2⟩:=qb7 hf.1 hx hf.2 dl
    refine qdx pins s σ H _ _ v u Q I rx ry ⟨a,xs,rfl,hs.elim (λz=>.inl (.inl z)) (λz=>.inr (.inl (.inl z))),jr hf.1 hx,i1,?_⟩
    rw [wN (by decide),i2];exact q0
   ·cases e
 | nin =>
  simp only [cmpD] at e
  cases z:seqOf S dy with
  | none=>rw [z] at e;cases e
  | some l =>
   rw [z] at e
   have e:(inD dx l).map (!·)=some b:=e
   unfold inD at e
   split at e
   ·rename_i hf
    simp only [wU] at hf
    cases e
    obtain ⟨a,xs,rfl,hs,dl⟩:=zC st z hy
    obtain ⟨i1,i2⟩:=qb7 hf.1 hx hf.2 dl
    refine qaq pins s σ H _ _ v u Q I rx ry ⟨a,xs,rfl,hs.elim (λz=>.inl (.inl z)) (λz=>.inr (.inl (.inl z))),jr hf.1 hx,i1,?_⟩
    rw [wL (by decide),i2];exact q0
   ·cases e
end
end R
namespace R
open PySem PySem.Spec L2 SeqAt
open PyProof.Rows hiding St
section
variable {X:Cx} {pos:Pos}
theorem qgG {ι:List Addr} {H:Hp} {S:Sr} {K:PySem.W.Frag} (st:Sto ι H S) {d:D} {v:V} {b:Bool} (h:truD S d=some b) (hd:Den ι H d v):TruV K v H b:=by
 have viaL:∀ {l:List D},lstOf S d=some l→b=(!l.isEmpty)→TruV K v H b:=λ{l} hl hb=>by
  obtain ⟨a,xs,rfl,hr,dl⟩:=q9 st hl hd
  refine .inl ⟨xs,.inl hr,?_⟩
  rw [hb];have:=dl.length
  cases l <;> cases xs <;> first | rfl | (simp at this;done)
 cases d with
 | non=>cases h;cases (show v=_ from hd);exact (rfl:false=false)
 | bl c=>cases h;cases (show v=_ from hd);exact (show b=b from rfl)
 | int i=>cases h;cases (show v=_ from hd);exact (rfl:(i != 0)=(i != 0))
 | str x =>
  cases (show v=_ from hd)
  simp only [truD] at h
  split at h
  ·cases h;exact ⟨by assumption,rfl⟩
  ·cases h
 | tup l =>
  cases h
  obtain ⟨a,xs,rfl,_,ha,dl⟩:=hd
  refine .inr (.inl ⟨xs,.inl (.inl ha),?_⟩)
  have:=dl.length
  cases l <;> cases xs <;> first | rfl | (simp at this;done)
 | emp =>
  cases h
  obtain ⟨a,rfl,_,ha⟩:=hd
  exact .inr (.inr ⟨[],ha,rfl⟩)
 | lst l =>
  simp only [truD,lstOf,wa,Option.some.injEq] at h
  exact viaL rfl h.symm
 | ref n =>
  simp only [truD] at h
  cases z:lstOf S (.ref n) with
  | none=>rw [z] at h;cases h
  | some l=>rw [z] at h;cases h;exact viaL z rfl
noncomputable def mVal (m:En→Sr→Res D):En→Sr→Res Bool:=λρ S=>(m ρ S).bind λx S1=>ofO (truD S1 x) S1
theorem qiv {e:Expr} {m:En→Sr→Res D} (h:PE X e (T m)) (he:∀ whole,isTrue e X.env whole=(do let v ← whole;standAt e.pos;holding [v] (truthy v))):PT X e (TB (mVal m)) :=
 PTimp (qd9 h he) λσ H Q hw=>TG.b1 hw λι S ρ a b H1 er st ra p=>by
  obtain ⟨k,e1,q⟩:=Pst.ofO p st
  exact ⟨k,qgG st e1 ra,q k ι H1 (Stp.refl _ _) st rfl⟩
noncomputable def IsB (m:En→Sr→Res D):Prop:=∀ ρ S d S',m ρ S=.ok d S'→∃ c,d=.bl c
theorem toTest {m:En→Sr→Res D} (hb:IsB m) {σ:St} {H:Hp} {Q:Bool→Hp→Prop} (hw:TB (mVal m) σ H Q):tTest (T m) σ H Q:=by
 obtain ⟨ι,S,ρ,er,st,p⟩:=hw
 refine ⟨ι,S,ρ,er,st,?_⟩
 dsimp only [mVal] at p ⊢
 cases z:m ρ S with
 | no=>rw [z] at p;exact p
 | err x S'=>rw [z] at p;exact p
 | ok d S' =>
  rw [z] at p
  obtain ⟨c,rfl⟩:=hb ρ S d S' z
  intro b ι' H' s' st' hb'
  cases (show b=_ from hb')
  exact ⟨c,rfl,p c ι' H' s' st' rfl⟩
theorem qgH {ma mb:En→Sr→Res D} {g:D→D→Sr→Option Bool}:IsB (λρ S=>(ma ρ S).bind λx S1=>(mb ρ S1).bind λy S2=>ofO ((g x y S2).map D.bl) S2):=by
 intro ρ S d S' z
 dsimp only at z
 cases z1:ma ρ S with
 | no=>rw [z1] at z;cases z
 | err=>rw [z1] at z;cases z
 | ok x S1 =>
  rw [z1,Res.bind_ok] at z
  cases z2:mb ρ S1 with
  | no=>rw [z2] at z;cases z
  | err=>rw [z2] at z;cases z
  | ok y S2 =>
   rw [z2,Res.bind_ok] at z
   cases z3:g x y S2 with
   | none=>rw [z3] at z;cases z
   | some c=>rw [z3] at z;cases z;exact ⟨c,rfl⟩
theorem qes {a b:Expr} {op:CmpOp} {ma mb:En→Sr→Res D} {g:D→D→Sr→Option Bool} (ho:OpR X (compareOp op) (G2 λx y S=>ofO ((g x y S).map D.bl) S)) (ha:PE X a (T ma)) (hb:PE X b (T mb)) (hm:behindInMarks op b=false) :
  PT X (.Compare a [op] [b] pos) (TB (mVal λρ S=>(ma ρ S).bind λx S1=>(mb ρ S1).bind λy S2=>ofO ((g x y S2).map D.bl) S2)) :=
 PTimp (qgp ho ha hb hm) λσ H Q hw=>T2 (toTest qgH hw)
noncomputable def mChain (g g':D→D→Sr→Option Bool) (ma mb mc:En→Sr→Res D):En→Sr→Res D:=λρ S=>(ma ρ S).bind λx S1=>(mb ρ S1).bind λy S2=>match g x y S2 with
 | some true=>(mc ρ S2).bind λz S3=>ofO ((g' y z S3).map D.bl) S3
 | some false=>.ok (.bl false) S2
 | none=>.no
theorem qcB {ma mb mc:En→Sr→Res D} {g g':D→D→Sr→Option Bool} {σ:St} {H:Hp} {Q:VK} (h:T (mChain g g' ma mb mc) σ H Q) :
  tChain (G2 λx y S=>ofO ((g x y S).map D.bl) S) (G2 λx y S=>ofO ((g' x y S).map D.bl) S) (T ma) (T mb) (T mc) σ H Q:=by
 refine TG.b1 h λι S ρ a b H1 er st ra p=>Pst.tg p er st λa2 S2 ι2 H2 b2 s2 er2 st2 ra2 p2=>?_
 refine ⟨ι2,S2,a,a2,st2,Den.mono s2 a ra,ra2,?_⟩
 cases z:g a a2 S2 with
 | none=>rw [z] at p2;exact p2.elim
 | some c =>
  rw [z] at p2
  show Pst Den (ofO (Option.map D.bl (g a a2 S2)) S2) _ _ _
  rw [z]
  intro v ι3 H3 s3 st3 hv
  cases (show v=_ from hv)
  refine ⟨c,rfl,?_⟩
  cases c with
  | false=>rw [wN (by decide)];exact p2 _ ι3 H3 s3 st3 rfl
  | true =>
   rw [wL rfl]
   refine Pst.tg (ρ:=ρ) (Pst.from p2 s3) (er2.mono s3) st3 λa4 S4 ι4 H4 b4 s4 er4 st4 ra4 p4=>?_
   exact ⟨ι4,S4,a2,a4,st4,Den.mono (s3.trans s4) a2 ra2,ra4,p4⟩
theorem qdE {ma mb mc:En→Sr→Res D} {g g':D→D→Sr→Option Bool}:IsB (mChain g g' ma mb mc):=by
 intro ρ S d S' z
 dsimp only [mChain] at z
 cases z1:ma ρ S with
 | no=>rw [z1] at z;cases z
 | err=>rw [z1] at z;cases z
 | ok x S1 =>
  rw [z1,Res.bind_ok] at z
  cases z2:mb ρ S1 with
  | no=>rw [z2] at z;cases z
  | err=>rw [z2] at z;cases z
  | ok y S2 =>
   rw [z2,Res.bind_ok] at z
   cases z3:g x y S2 with
   | none=>rw [z3] at z;cases z
   | some c =>
    rw [z3] at z
    cases c with
    | false=>cases z;exact ⟨_,rfl⟩
    | true =>
     dsimp only at z
     cases z4:mc ρ S2 with
     | no=>rw [z4] at z;cases z
     | err=>rw [z4] at z;cases z
     | ok w S3 =>
      rw [z4,Res.bind_ok] at z
      cases z5:g' y w S3 with
      | none=>rw [z5] at z;cases z
      | some c=>rw [z5] at z;cases z;exact ⟨_,rfl⟩
theorem qgI {a b c:Expr} {op op':CmpOp} {ma mb mc:En→Sr→Res D} {g g':D→D→Sr→Option Bool} (ho:OpR X (compareOp op) (G2 λx y S=>ofO ((g x y S).map D.bl) S)) (ho':OpR X (compareOp op') (G2 λx y S=>ofO ((g' x y S).map D.bl) S))
  (ha:PE X a (T ma)) (hb:PE X b (T mb)) (hc:PE X c (T mc)) (hm:lastMarks [op,op'] [b,c]=false):PE X (.Compare a [op,op'] [b,c] pos) (T (mChain g g' ma mb mc)) :=
 PEimp (qd7 ho ho' ha hb hc hm) λσ H Q=>qcB
theorem qet {a b c:Expr} {op op':CmpOp} {ma mb mc:En→Sr→Res D} {g g':D→D→Sr→Option Bool} (ho:OpR X (compareOp op) (G2 λx y S=>ofO ((g x y S).map D.bl) S)) (ho':OpR X (compareOp op') (G2 λx y S=>ofO ((g' x y S).map D.bl) S))
  (ha:PE X a (T ma)) (hb:PE X b (T mb)) (hc:PE X c (T mc)) (hm:lastMarks [op,op'] [b,c]=false):PT X (.Compare a [op,op'] [b,c] pos) (TB (mVal (mChain g g' ma mb mc))) :=
 PTimp (qd8 ho ho' ha hb hc hm) λσ H Q hw=>qcB (toTest qdE hw)
theorem qiw {a:Expr} {b:Expr} {rest:List Expr} {ma mb:En→Sr→Res Bool} (ha:PT X a (TB ma)) (hb:PW X (.BoolOp .And (b::rest) pos) (TB mb)) :
  PW X (.BoolOp .And (a::b::rest) pos) (TB λρ S=>(ma ρ S).bind λt S1=>if t then mb ρ S1 else .ok false S1):=λwh pins s σ H Q I hw=>by
 refine qh0 ha hb wh pins s σ H Q I (TG.b1 hw λι S ρ x y H1 er st ra p=>?_)
 cases (show x=y from ra)
 cases x with
 | true=>rw [wL rfl];exact ⟨ι,S,ρ,er,st,p⟩
 | false=>rw [wN (by decide)];exact p false ι H1 (Stp.refl _ _) st rfl
theorem qjL {a:Expr} {b:Expr} {rest:List Expr} {ma mb:En→Sr→Res Bool} (ha:PT X a (TB ma)) (hb:PW X (.BoolOp .Or (b::rest) pos) (TB mb)) :
  PW X (.BoolOp .Or (a::b::rest) pos) (TB λρ S=>(ma ρ S).bind λt S1=>if t then .ok true S1 else mb ρ S1):=λwh pins s σ H Q I hw=>by
 refine qju ha hb wh pins s σ H Q I (TG.b1 hw λι S ρ x y H1 er st ra p=>?_)
 cases (show x=y from ra)
 cases x with
 | true=>rw [wL rfl];exact p true ι H1 (Stp.refl _ _) st rfl
 | false=>rw [wN (by decide)];exact ⟨ι,S,ρ,er,st,p⟩
theorem qix {a:Expr} {ma:En→Sr→Res Bool} (ha:PT X a (TB ma)):PT X (.UnaryOp .Not a pos) (TB λρ S=>(ma ρ S).bind λt S1=>.ok (!t) S1) :=
 PTimp (qh1 ha) λσ H Q hw=>TG.b1 hw λι S ρ x y H1 er st ra p=>by
  cases (show x=y from ra)
  exact p _ ι H1 (Stp.refl _ _) st rfl
theorem qjM {a:Expr} {b:Expr} {rest:List Expr} {ma mb:En→Sr→Res D} (ha:PE X a (T ma)) (hb:PE X (.BoolOp .And (b::rest) pos) (T mb)) :
  PE X (.BoolOp .And (a::b::rest) pos) (T λρ S=>(ma ρ S).bind λx S1=>match x with | .bl true=>mb ρ S1 | .bl false=>.ok (.bl false) S1 | _=>.no) :=
 PEimp (qh3 ha hb) λσ H Q hw=>TG.b1 hw λι S ρ x y H1 er st ra p=>by
  cases x with
  | bl c =>
   cases (show y=_ from ra)
   refine ⟨c,rfl,?_⟩
   cases c with
   | true=>rw [wL rfl];exact ⟨ι,S,ρ,er,st,p⟩
   | false=>rw [wN (by decide)];exact p _ ι H1 (Stp.refl _ _) st rfl
  | _=>exact p.elim
theorem qjN {a:Expr} {ma:En→Sr→Res D} (ha:PE X a (T ma)):PE X (.UnaryOp .Not a pos) (T λρ S=>(ma ρ S).bind λx S1=>match x with | .bl b=>.ok (.bl (!b)) S1 | _=>.no) :=
 PEimp (qh4 ha) λσ H Q hw=>TG.b1 hw λι S ρ x y H1 er st ra p=>by
  cases x with
  | bl c =>
   cases (show y=_ from ra)
   exact ⟨c,rfl,p _ ι H1 (Stp.refl _ _) st rfl⟩
  | _=>exact p.elim
theorem qjO {a:Expr} {ma:En→Sr→Res D} (ha:PE X a (T ma)):PE X (.UnaryOp .USub a pos) (T λρ S=>(ma ρ S).bind λx S1=>match x with | .int i=>.ok (.int (-i)) S1 | _=>.no) :=
 PEimp (qjx qie ha) λσ H Q hw=>TG.b1 hw λι S ρ x y H1 er st ra p=>by
  cases x with
  | int i =>
   cases (show y=_ from ra)
   exact ⟨i,rfl,p _ ι H1 (Stp.refl _ _) st rfl⟩
  | _=>exact p.elim
theorem qjP {es:List Expr} {k:Nat} {ms:En→Sr→Res (List D)} (h:PA X es (TL ms)):PE X (.Tuple es k pos) (T λρ S=>(ms ρ S).bind λl S1=>if l.length≤sizeLine then .ok (.tup l) S1 else .no) :=
 PEimp (qih h) λσ H Q hw=>TG.b1 hw λι S ρ x y H1 er st ra p=>by
  by_cases hl:x.length≤sizeLine
  ·rw [wL hl] at p
   exact ⟨by rw [← ra.length];exact hl,zb st ra p⟩
  ·rw [wN hl] at p;exact p.elim
theorem qjQ {es:List Expr} {m:Bool} {ms:En→Sr→Res (List D)} (h:PA X es (TL ms)):PE X (.List es pos) (T λρ S=>(ms ρ S).bind λl S1=>if l.length≤sizeLine then newL m l S1 else .no) :=
 PEimp (qii h) λσ H Q hw=>TG.b1 hw λι S ρ x y H1 er st ra p=>by
  by_cases hl:x.length≤sizeLine
  ·rw [wL hl] at p
   exact ⟨by rw [← ra.length];exact hl,zq st ra p⟩
  ·rw [wN hl] at p;exact p.elim
theorem qjR {m:Bool}:PE X (.Dict [] [] pos) (T λ_ S=>if m then .ok (.ref S.length) (S++[.dic []]) else .ok .emp S):=by
 cases m with
 | true =>
  refine PEimp qek λσ H Q hw=>?_
  obtain ⟨ι,S,ρ,er,st,p⟩:=hw
  intro q hq
  have g:=Stp.grow (ι:=ι) hq (.dT [])
  refine p (.ref q) _ _ g (st.grow hq ⟨rfl,[],qu,rfl⟩) ⟨q,rfl,?_⟩
  rw [← st.len];simp
 | false =>
  refine PEimp qbc λσ H Q hw=>?_
  obtain ⟨ι,S,ρ,er,st,p⟩:=hw
  intro q hq
  have g:=Stp.laid (ι:=ι) hq (.dK [])
  exact p (.ref q) _ _ g (st.laid hq _) ⟨q,rfl,st.fresh hq,qu⟩
theorem qjS:PE X (.Dict [] [] pos) (T λ_ S=>.ok (.ref S.length) (S++[.dis []])):=by
 refine PEimp qbc λσ H Q hw=>?_
 obtain ⟨ι,S,ρ,er,st,p⟩:=hw
 intro q hq
 have g:=Stp.grow (ι:=ι) hq (.dK [])
 refine p (.ref q) _ _ g (st.grow hq ⟨rfl,[],qu,rfl⟩) ⟨q,rfl,?_⟩
 rw [← st.len];simp
theorem key_den {ι:List Addr} {H:Hp} {d:D} {v:V} {k:Key} (h:keyD d=some k) (hd:Den ι H d v):v=kV k:=by
 cases d <;> simp only [keyD] at h <;> cases h <;> exact hd
theorem qgJ {ι:List Addr} {H:Hp} {l:List D} {xs:List V} {k:Int} {d:D} (dl:Dens ι H l xs) (h:atI l k=some d):∃ v,atI xs k=some v∧Den ι H d v:=by
 unfold atI at h ⊢
 rw [← dl.length]
 cases z:ixN l.length k with
 | none=>rw [z] at h;cases h
 | some j =>
  rw [z] at h
  exact dl.get h
theorem qbe {a b:List Int}:keyT a=keyT b ↔ a=b:=by
 refine ⟨λh=>?_,λh=>by rw [h]⟩
 unfold keyT at h
 exact (List.map_inj_right (λx y h=>Sum.inl.inj h)).mp h
theorem qcC (k:List Int):(keyT k).map kV=k.map V.int:=by
 unfold keyT;rw [wd];rfl
theorem js {κ K:Type} [DecidableEq κ] [DecidableEq K] {f:κ→K} (hf:∀ {a b},f a=f b ↔ a=b) {ι:List Addr} {H:Hp} {k:κ}:∀ {l:List (κ × D)} {kvs:List (K × V)} {d:D},DGs f ι H l kvs→lookT k l=some d→∃ v,valV kvs (f k)=some v∧Den ι H d v
 | [],_,_,_,h=>by cases h
 | p::l,_,d,hk,h=>by
  obtain ⟨v,r,rfl,h1,h2⟩:=hk
  obtain ⟨j,e⟩:=p
  simp only [lookT] at h
  by_cases z:j=k
  ·rw [wL z] at h;cases h
   exact ⟨v,yD (by simp [z]),h1⟩
  ·rw [wN z] at h
   obtain ⟨w,e1,e2⟩:=js hf h2 h
   exact ⟨w,by rw [yE (by simpa [hf] using z)];exact e1,e2⟩
theorem qcD {κ K:Type} [DecidableEq κ] [DecidableEq K] {f:κ→K} (hf:∀ {a b},f a=f b ↔ a=b) {ι:List Addr} {H:Hp} {k:κ}:∀ {l:List (κ × D)} {kvs:List (K × V)},DGs f ι H l kvs→(kvs.any λkv=>decide (kv.1=f k))=l.any λp=>decide (p.1=k)
 | [],_,h=>by cases (show _=[] from h);rfl
 | p::l,_,h=>by
  obtain ⟨v,r,rfl,h1,h2⟩:=h
  rw [List.any_cons,List.any_cons,qcD hf h2]
  simp [hf]
theorem jt {κ:Type} [DecidableEq κ] {k:κ} {d:D} (hd:refsLt 0 d=true):∀ {l:List (κ × D)},refsLts 0 (l.map (·.2))=true→refsLts 0 ((putT k d l).map (·.2))=true:=by
 intro l hl
 refine zJ λx hx=>?_
 obtain ⟨p,hp,rfl⟩:=vN.mp hx
 unfold putT at hp
 split at hp
 ·obtain ⟨q,hq,e⟩:=vN.mp hp
  have hq2:=zk hl (vN.mpr ⟨q,hq,rfl⟩)
  split at e
  ·subst e;exact hd
  ·subst e;exact hq2
 ·rcases vO.mp hp with z | z
  ·exact zk hl (vN.mpr ⟨p,z,rfl⟩)
  ·rw [w9.mp z];exact hd
theorem qaw {κ K:Type} [DecidableEq κ] [DecidableEq K] {f:κ→K} (hf:∀ {a b},f a=f b ↔ a=b) {ι:List Addr} {H:Hp} {k:κ} {d:D} {v:V} (hd:Den ι H d v) {l:List (κ × D)} {kvs:List (K × V)} (h:DGs f ι H l kvs):DGs f ι H (putT k d l) (putK kvs (f k) v):=by
 unfold putT putK
 rw [qcD hf h]
 split
 ·rename_i hz
  clear hz
  induction l generalizing kvs with
  | nil=>cases (show _=[] from h);exact (rfl:_=_)
  | cons p l ih =>
   obtain ⟨w,r,rfl,h1,h2⟩:=h
   rw [wQ,wQ]
   by_cases z:p.1=k
   ·rw [wL z,wL (by simp [z])]
    exact ⟨v,_,rfl,hd,ih h2⟩
   ·rw [wN z,wN (by simpa [hf] using z)]
    exact ⟨w,_,rfl,h1,ih h2⟩
 ·rename_i hz
  clear hz
  induction l generalizing kvs with
  | nil=>cases (show _=[] from h);exact ⟨v,[],rfl,hd,rfl⟩
  | cons p l ih =>
   obtain ⟨w,r,rfl,h1,h2⟩:=h
   exact ⟨w,_,rfl,h1,ih h2⟩
theorem qcE (hu:X.A.units+1<cLine):IxR X (λx y H Q=>∃ a v,x=.ref a∧DGet H a y (some v)∧Q v H):=by
 intro value slice pins s σ H x y v u Q I rx ry h hs
 obtain ⟨a,z,rfl,g,q⟩:=h
 cases rx
 have hT:=qba I g
 unfold subscriptTail
 refine wA ?_
 rw [getitemInPython_of_ne hT.not_modules]
 refine wA (wpAny_specialOf hT PySem.F.slot_dict_getitem.lookup ?_)
 have fin:wpAny (model X.prog X.w) X.A (subscripted slice false (.ref a) u) (λr s₃=>wpAny (model X.prog X.w) X.A (letTemporaryGo value (.ref a) r >>= λ_=>pure r) (EP X pins σ Q) X.xe s₃) X.xe s:=by
  rw [hs]
  exact wpAny_operating (qab hu I g ry λw' s3 I3 rw'=>wA (wpAny_letTemporaryGo (wC ⟨z,H,I3,rw',q⟩)))
 first
  | exact wC (wA fin)
  | exact wA fin
theorem qjT {a b:Expr} {ma mb:En→Sr→Res D} (hu:X.A.units+1<cLine) (ha:PE X a (T ma)) (hb:PE X b (T mb)) (hs:PlainIx b) :
  PE X (.Subscript a b pos) (T λρ S=>(ma ρ S).bind λx S1=>(mb ρ S1).bind λy S2=>ofO (idxD S2 x y) S2) :=
 PEimp (qhv (qgw.or (qin.or (qcE hu))) ha hb hs) λσ H Q hw=>by
  refine TG.b1 hw λι S ρ a b H1 er st ra p=>Pst.tg p er st λa2 S2 ι2 H2 b2 s2 er2 st2 ra2 p2=>?_
  obtain ⟨d,e,q⟩:=Pst.ofO p2 st2
  unfold idxD at e
  split at e
  ·rename_i k
   cases (show b2=_ from ra2)
   cases z:seqOf S2 a with
   | none=>rw [z] at e;cases e
   | some l =>
    rw [z] at e
    obtain ⟨p,xs,rfl,hs,dl⟩:=zC st2 z (Den.mono s2 a ra)
    obtain ⟨v,e1,e2⟩:=qgJ dl e
    have fin:=q v ι2 H2 (Stp.refl _ _) st2 e2
    rcases hs with hs | hs
    ·exact .inl ⟨p,xs,k,v,rfl,rfl,.inl hs,e1,fin⟩
    ·exact .inr (.inl ⟨p,xs,k,v,rfl,rfl,.inl (.inl hs),e1,fin⟩)
  ·rename_i ks
   split at e
   ·rename_i n
    split at e
    ·rename_i l hl
     cases z:intsOf ks with
     | none=>rw [z] at e;cases e
     | some k =>
      rw [z] at e
      cases intsOf_eq z
      obtain ⟨p,hp,hn⟩:=Den.mono s2 _ ra
      subst hp
      obtain ⟨_,kvs,h1,h2⟩:=st2.obj n p _ hn hl
      obtain ⟨v,e1,e2⟩:=js qbe h2 e
      obtain ⟨b,xs,rfl,_,hb,db⟩:=ra2
      cases dens_ints db
      refine .inr (.inr ⟨p,v,rfl,?_,q v ι2 H2 (Stp.refl _ _) st2 e2⟩)
      rw [← e1]
      exact DGet.t h1 (by rw [qcC];exact hb)
    ·cases e
   ·cases e
  ·cases e
end
end R
namespace R
open PySem PySem.Spec L2 SeqAt
open PyProof.Rows hiding St
section
variable {X:Cx} {pos:Pos}
theorem qiy {ι:List Addr} {H:Hp} {S:Sr} {K:PySem.W.Frag} (st:Sto ι H S) (t:Ty):∀ {d:D} {v:V} {b:Bool},isiD S t d=some b→Den ι H d v→∃ ty,TyOf K H v ty∧PySem.W.kitOne K ty (.type t.nm)=some b
 | .non,v,b,h,hd=>by
  cases (show v=_ from hd);cases h
  exact ⟨_,.non,by cases t <;> (first | rfl | decide +kernel)⟩
 | .bl c,v,b,h,hd=>by
  cases (show v=_ from hd)
  cases t <;> cases h <;> exact ⟨_,.bl c,by first | rfl | decide +kernel⟩
 | .int c,v,b,h,hd=>by
  cases (show v=_ from hd)
  cases t <;> cases h <;> exact ⟨_,.int c,by first | rfl | decide +kernel⟩
 | .str c,v,b,h,hd=>by
  cases (show v=_ from hd)
  cases t <;> cases h <;> exact ⟨_,.str c,by first | rfl | decide +kernel⟩
 | .tup l,v,b,h,hd=>by
  obtain ⟨a,xs,rfl,_,ha,_⟩:=hd
  cases t <;> cases h <;> exact ⟨_,.tup ha,by first | rfl | decide +kernel⟩
 | .lst l,v,b,h,hd=>by
  obtain ⟨a,xs,rfl,_,ha,_⟩:=hd
  rcases ha with ha | ⟨o,ha⟩
  ·cases t <;> cases h <;> exact ⟨_,.lst ha,by first | rfl | decide +kernel⟩
  ·cases t <;> cases h <;> exact ⟨_,.frz ha,by first | rfl | decide +kernel⟩
 | .emp,v,b,h,hd=>by
  obtain ⟨a,rfl,_,ha⟩:=hd
  cases t <;> cases h <;> exact ⟨_,.dK ha,by first | rfl | decide +kernel⟩
 | .ref n,v,b,h,hd=>by
  obtain ⟨a,rfl,ha⟩:=hd
  simp only [isiD] at h
  split at h
  ·rename_i l hl
   obtain ⟨_,xs,h1,_⟩:=st.obj n a _ ha hl
   cases t <;> cases h <;> exact ⟨_,.lst h1,by first | rfl | decide +kernel⟩
  ·rename_i l hl
   obtain ⟨_,xs,h1,_⟩:=st.obj n a _ ha hl
   cases t <;> cases h <;> exact ⟨_,.dT h1,by first | rfl | decide +kernel⟩
  ·rename_i l hl
   obtain ⟨_,xs,h1,_⟩:=st.obj n a _ ha hl
   cases t <;> cases h <;> exact ⟨_,.dK h1,by first | rfl | decide +kernel⟩
  ·cases h
theorem qeu:CallR X (.builtin "isinstance") (λxs H Q=>∃ x n ty b,xs=[x,.ty n]∧TyOf X.K H x ty∧PySem.W.kitOne X.K ty (.type n)=some b∧Q (.bl b) H):=by
 intro pins s σ H xs us Q I r h
 obtain ⟨x,n,ty,b,rfl,h1,h2,q⟩:=h
 obtain ⟨u,w',rfl,r1,r2⟩:=vals2 r
 cases r2
 exact qdu I r1 h1 h2 λtk=>⟨.bl b,H,I.tok _,rfl,q⟩
theorem qgK (t:Ty):bootBuiltins (Str.ofString t.nm)=some (.type t.nm):=by cases t <;> decide +kernel
theorem qev:bootBuiltins "isinstance"=some (.builtin "isinstance"):=by decide +kernel
theorem qjU {a:Expr} {p p':Pos} {m:En→Sr→Res D} {t:Ty} (hg:Gl X "isinstance") (hm:X.mg "isinstance"=none) (hgt:Gl X (Str.ofString t.nm)) (hmt:X.mg (Str.ofString t.nm)=none)
  (ha:PE X a (T m)) (he:starEach [a,.Name (Str.ofString t.nm) p'] X.env=(false,eval a X.env)::starEach [.Name (Str.ofString t.nm) p'] X.env)
  (he2:starEach [.Name (Str.ofString t.nm) p'] X.env=(false,eval (.Name (Str.ofString t.nm) p') X.env)::starEach [] X.env) (hpl:(backTo pos (starEach [.Name (Str.ofString t.nm) p'] X.env)).any (·.1)=false) :
  PE X (.Call (.Name "isinstance" p) [a,.Name (Str.ofString t.nm) p'] [] pos) (T λρ S=>(m ρ S).bind λx S1=>ofO ((isiD S1 t x).map .bl) S1):=by
 have hn:(Str.ofString t.nm)≠"__name__":=by cases t <;> decide
 have hd:((Str.ofString t.nm) == ("__debug__":Str))=false:=by cases t <;> decide
 have ht:PE X (.Name (Str.ofString t.nm) p') (λ_ H Q=>Q (.ty t.nm) H):=qgh (v:=.ty t.nm) hgt hmt (qgK t) rfl hn hd
 refine PEimp (qa7 qeu hg hm qev (jb ha (jb ht qbZ he2) he) (by decide) (by decide) he hpl) λσ H Q hw=>?_
 refine TG.b1 hw λι S ρ a b H1 er st ra p=>?_
 obtain ⟨d,e,q⟩:=Pst.ofO p st
 cases z:isiD S t a with
 | none=>rw [z] at e;cases e
 | some c =>
  rw [z] at e;cases e
  obtain ⟨ty,h1,h2⟩:=qiy (K:=X.K) st t z ra
  exact ⟨b,t.nm,ty,c,rfl,h1,h2,q _ ι H1 (Stp.refl _ _) st rfl⟩
theorem Dens.cut {ι:List Addr} {H:Hp} {l:List D} {xs:List V} (h:Dens ι H l xs) (lo hi:Option Int):Dens ι H (cutD l lo hi) (cutV xs lo hi):=by
 unfold cutD cutV
 rw [h.length]
 exact (h.drop _).take _
theorem qew {e:Expr} {m:En→Sr→Res D} (h:PE X e (T m)):PO X (some e) (TOp λρ S=>(m ρ S).bind λx S1=>match x with | .int i=>.ok (some i) S1 | _=>.no):=by
 intro pins s σ H Q I hw
 refine qgu h pins s σ H Q I (TG.b1 hw λι S ρ a b H1 er st ra p=>?_)
 cases a with
 | int i =>
  cases (show b=_ from ra)
  exact ⟨i,rfl,p _ ι H1 (Stp.refl _ _) st rfl⟩
 | _=>exact p.elim
theorem qex:PO X none (TOp λ_ S=>.ok none S):=by
 intro pins s σ H Q I hw
 obtain ⟨ι,S,ρ,er,st,p⟩:=hw
 exact qgt pins s σ H Q I (p _ ι H (Stp.refl _ _) st rfl)
theorem qjV {e:Expr} {lo hi:Option Expr} {p2:Pos} {m:En→Sr→Res D} {ml mh:En→Sr→Res (Option Int)} (he:PE X e (T m)) (hl:PO X lo (TOp ml)) (hh:PO X hi (TOp mh)) :
  PE X (.Subscript e (.Slice lo hi none p2) pos) (T λρ S=>(m ρ S).bind λx S1=>(ml ρ S1).bind λl S2=>(mh ρ S2).bind λh S3=>ofO (slcD S3 x l h) S3) :=
 PEimp (qee (qgx.or (qil.or qgz)) he hl hh) λσ H Q hw=>by
  refine TG.b1 hw λι S ρ a b H1 er st ra p=>Pst.tg p er st λl1 S2 ι2 H2 l2 s2 er2 st2 ra2 p2=>Pst.tg p2 er2 st2 λh1 S3 ι3 H3 h2 s3 er3 st3 ra3 p3=>?_
  cases (show l1=l2 from ra2)
  cases (show h1=h2 from ra3)
  obtain ⟨d,e,q⟩:=Pst.ofO p3 st3
  have ra':=Den.mono (s2.trans s3) a ra
  unfold slcD at e
  split at e
  ·rename_i l
   cases e
   obtain ⟨c,xs,rfl,nc,hc,dl⟩:=ra'
   by_cases hn:HT.sIx xs.length 0 l1=0∧HT.sIx xs.length xs.length h1=xs.length
   ·refine .inr (.inr ⟨c,xs,rfl,.inl (.inl hc),hn,?_⟩)
    have e2:cutD l l1 h1=l:=by
     unfold cutD
     rw [dl.length,hn.1,hn.2,List.drop_zero,Nat.sub_zero,← dl.length,List.take_length]
    rw [e2] at q
    exact q _ ι3 H3 (Stp.refl _ _) st3 ⟨c,xs,rfl,nc,hc,dl⟩
   ·exact .inr (.inl ⟨c,xs,rfl,.inl (.inl hc),hn,zb st3 (dl.cut _ _) q⟩)
  ·cases z:lstOf S3 a with
   | none=>rw [z] at e;cases e
   | some l =>
    rw [z] at e;cases e
    obtain ⟨c,xs,rfl,hc,dl⟩:=q9 st3 z ra'
    exact .inl ⟨c,xs,rfl,.inl hc,zq (m:=false) st3 (dl.cut _ _) q⟩
noncomputable def Gn (g:List D→Sr→Res D):List V→Hp→VK→Prop:=λxs H Q=>∃ ι S ds,Sto ι H S∧Dens ι H ds xs∧Pst Den (g ds S) ι H Q
theorem qgL {x:Str} {id:String} {e:Expr} {es:List Expr} {p:Pos} {g:List D→Sr→Res D} {ms:En→Sr→Res (List D)} (hc:CallR X (.builtin id) (Gn g)) (hg:Gl X x) (hm:X.mg x=none) (hv:bootBuiltins x=some (.builtin id)) (ha:PA X (e::es) (TL ms))
  (hn:x≠"__name__") (hdb:(x == ("__debug__":Str))=false) (he:starEach (e::es) X.env=(false,eval e X.env)::starEach es X.env) (hpl:(backTo pos (starEach es X.env)).any (·.1)=false) :
  PE X (.Call (.Name x p) (e::es) [] pos) (T λρ S=>(ms ρ S).bind λl S1=>g l S1) :=
 PEimp (qa7 hc hg hm hv ha hn hdb he hpl) λσ H Q hw=>TG.b1 hw λι S ρ a b H1 er st ra p=>⟨ι,S,a,st,ra,p⟩
theorem qey {x:Str} {ty:String} {e:Expr} {es:List Expr} {p:Pos} {g:List D→Sr→Res D} {ms:En→Sr→Res (List D)} (hc:CallR X (.type ty) (Gn g)) (hg:Gl X x) (hm:X.mg x=none) (hv:bootBuiltins x=some (.type ty)) (ha:PA X (e::es) (TL ms))
  (hn:x≠"__name__") (hdb:(x == ("__debug__":Str))=false) (he:starEach (e::es) X.env=(false,eval e X.env)::starEach es X.env) (hpl:(backTo pos (starEach es X.env)).any (·.1)=false) :
  PE X (.Call (.Name x p) (e::es) [] pos) (T λρ S=>(ms ρ S).bind λl S1=>g l S1) :=
 PEimp (qdw hc hg hm hv ha hn hdb he hpl) λσ H Q hw=>TG.b1 hw λι S ρ a b H1 er st ra p=>⟨ι,S,a,st,ra,p⟩
noncomputable def SpD (np:Nat) (g:List D→Sr→Res D):Sp:=λvs H Q _=>vs.length=np∧∃ ι S ds,Sto ι H S∧Dens ι H ds vs∧Pst Den (g ds S) ι H Q
theorem qiz {CX:CXT} {k:Nat} {f:Addr} {fd:FuncData} {ps:List Str} {g:List D→Sr→Res D} {x:Str} {p:Pos} {e:Expr} {es:List Expr} {ms:En→Sr→Res (List D)} {E:XK} (F:FnOk X.prog X.w X.K X.mg X.base CX k f fd ps (SpD ps.length g)) (hr:Room k X.A)
  (hg:Gl X x) (hm:X.mg x=some (.ref f)) (hk:PySem.W.keepIn X.K (.ref f)=true) (hb:Binds X.K fd ps []) (hx:Passes CX X E) (ha:PA X (e::es) (TL ms))
  (hlen:∀ ρ S l S',ms ρ S=.ok l S'→l.length=ps.length)
  (hdb:(x == ("__debug__":Str))=false) (he:starEach (e::es) X.env=(false,eval e X.env)::starEach es X.env) (hpl:(backTo pos (starEach es X.env)).any (·.1)=false) :
  PE X (.Call (.Name x p) (e::es) [] pos) (T λρ S=>(ms ρ S).bind λl S1=>g l S1) :=
 PEimp (qgr F hr hg hm hk hb (dvs:=[]) .nil hx ha hdb he hpl) λσ H Q hw=>by
  obtain ⟨ι,S,ρ,er,st,p⟩:=hw
  refine ⟨ι,S,ρ,er,st,?_⟩
  dsimp only at p ⊢
  cases z:ms ρ S with
  | no=>rw [z] at p;exact p
  | err=>rw [z] at p;exact p
  | ok l S1 =>
   rw [z] at p
   intro xs ι1 H1 s1 st1 hl
   refine ⟨?_,ι1,S1,l,st1,by simpa using hl,Pst.from p s1⟩
   rw [List.append_nil,← hl.length]
   exact hlen ρ S l S1 z
end
end R
namespace R
open PySem PySem.Spec L2 SeqAt
open PyProof.Rows hiding St
section
variable {X:Cx} {pos:Pos}
theorem dens1 {ι:List Addr} {H:Hp} {d:D} {xs:List V} (h:Dens ι H [d] xs):∃ x,xs=[x]∧Den ι H d x:=by
 obtain ⟨x,r,rfl,h1,h2⟩:=h
 cases (show r=[] from h2)
 exact ⟨x,rfl,h1⟩
theorem dens2 {ι:List Addr} {H:Hp} {d e:D} {xs:List V} (h:Dens ι H [d,e] xs):∃ x y,xs=[x,y]∧Den ι H d x∧Den ι H e y:=by
 obtain ⟨x,r,rfl,h1,h2⟩:=h
 obtain ⟨y,rfl,h3⟩:=dens1 h2
 exact ⟨x,y,rfl,h1,h3⟩
theorem CallRimp {f:Value} {r r':List V→Hp→VK→Prop} (h:CallR X f r) (k:∀ xs H Q,r' xs H Q→r xs H Q):CallR X f r':=λpins s σ H xs us Q I rv q=>h pins s σ H xs us Q I rv (k xs H Q q)
theorem qax {g:D→Sr→Res D} {ds:List D} {S:Sr} {ι:List Addr} {H:Hp} {Q:VK} (p:Pst Den (one g ds S) ι H Q):∃ d,ds=[d]∧Pst Den (g d S) ι H Q:=by
 cases ds with
 | nil=>exact (show False from p).elim
 | cons d r =>
  cases r with
  | nil=>exact ⟨d,rfl,p⟩
  | cons e r=>exact (show False from p).elim
theorem qiA {g:D→D→Sr→Res D} {ds:List D} {S:Sr} {ι:List Addr} {H:Hp} {Q:VK} (p:Pst Den (two g ds S) ι H Q):∃ d e,ds=[d,e]∧Pst Den (g d e S) ι H Q:=by
 cases ds with
 | nil=>exact (show False from p).elim
 | cons d r =>
  cases r with
  | nil=>exact (show False from p).elim
  | cons e r =>
   cases r with
   | nil=>exact ⟨d,e,rfl,p⟩
   | cons f r=>exact (show False from p).elim
theorem qez {f:Value} {g:D→Sr→Res D} {r:V→Hp→VK→Prop} (h:CallR X f (λxs H Q=>∃ x,xs=[x]∧r x H Q)) (k:∀ ι S d x H Q,Sto ι H S→Den ι H d x→Pst Den (g d S) ι H Q→r x H Q):CallR X f (Gn (one g)):=CallRimp h λxs H Q hw=>by
 obtain ⟨ι,S,ds,st,hd,p⟩:=hw
 obtain ⟨d,rfl,p⟩:=qax p
 ·skip
  obtain ⟨x,rfl,hx⟩:=dens1 hd
  exact ⟨x,rfl,k ι S d x H Q st hx p⟩
theorem qhy {f:Value} {g:D→D→Sr→Res D} {r:V→V→Hp→VK→Prop} (h:CallR X f (λxs H Q=>∃ x y,xs=[x,y]∧r x y H Q)) (k:∀ ι S d e x y H Q,Sto ι H S→Den ι H d x→Den ι H e y→Pst Den (g d e S) ι H Q→r x y H Q):CallR X f (Gn (two g)):=CallRimp h λxs H Q hw=>by
 obtain ⟨ι,S,ds,st,hd,p⟩:=hw
 obtain ⟨d,e,rfl,p⟩:=qiA p
 ·skip
  obtain ⟨x,y,rfl,hx,hy⟩:=dens2 hd
  exact ⟨x,y,rfl,k ι S d e x y H Q st hx hy p⟩
theorem qjW:CallR X (.builtin "len") (Gn (one bLen)) :=
 qez (r:=λx H Q=>(∃ n,LenV X.K x H n∧Q (.int n) H)∨∃ a kvs,x=V.ref a∧H a=some (.dT kvs)∧Q (.int kvs.length) H) (CallRimp (qeb.or qdC) λxs H Q ⟨x,e,h⟩=>h.elim (λ⟨n,h1,h2⟩=>.inl ⟨x,n,e,h1,h2⟩) λ⟨a,kvs,h1,h2,h3⟩=>.inr ⟨a,kvs,by rw [e,h1],h2,h3⟩) λι S d x H Q st hx p=>by
  obtain ⟨r,e,q⟩:=Pst.ofO p st
  cases z:lenD S d with
  | none=>rw [z] at e;cases e
  | some n =>
   rw [z] at e;cases e
   have fin:=q _ ι H (Stp.refl _ _) st rfl
   cases d with
   | str y =>
    cases (show x=_ from hx)
    simp only [lenD] at z
    split at z
    ·cases z;exact .inl ⟨_,⟨by assumption,rfl⟩,fin⟩
    ·cases z
   | tup l =>
    cases z
    obtain ⟨a,xs,rfl,_,ha,dl⟩:=hx
    exact .inl ⟨_,.inr ⟨xs,.inl (.inl ha),dl.length⟩,fin⟩
   | lst l =>
    cases z
    obtain ⟨a,xs,rfl,_,ha,dl⟩:=hx
    exact .inl ⟨_,.inl ⟨xs,.inl ha,dl.length⟩,fin⟩
   | ref k =>
    simp only [lenD] at z
    split at z
    ·rename_i l hl
     cases z
     obtain ⟨a,rfl,ha⟩:=hx
     obtain ⟨_,xs,h1,dl⟩:=st.obj k a _ ha hl
     exact .inl ⟨_,.inl ⟨xs,.inl (.inl h1),dl.length⟩,fin⟩
    ·rename_i l hl
     cases z
     obtain ⟨a,rfl,ha⟩:=hx
     obtain ⟨_,kvs,h1,dl⟩:=st.obj k a _ ha hl
     exact .inr ⟨a,kvs,rfl,h1,by rw [← dl.length];exact fin⟩
    ·cases z
    ·cases z
   | _=>cases z
theorem qjX:CallR X (.builtin "abs") (Gn (one bAbs)) :=
 qez (r:=λx H Q=>∃ i,x=.int i∧Q (.int (if i<0 then -i else i)) H) (CallRimp qea λxs H Q ⟨x,e,i,h1,h2⟩=>⟨i,by rw [e,h1],h2⟩) λι S d x H Q st hx p=>by
  cases d with
  | int i=>cases (show x=_ from hx);exact ⟨i,rfl,p _ ι H (Stp.refl _ _) st rfl⟩
  | _=>exact p.elim
theorem qjY (hc:X.calm=true):CallR X (.builtin "min") (Gn (two bMin)) :=
 qhy (r:=λx y H Q=>∃ i j,x=.int i∧y=.int j∧Q (.int (if j<i then j else i)) H) (CallRimp (qds hc) λxs H Q ⟨x,y,e,i,j,h1,h2,h3⟩=>⟨i,j,by rw [e,h1,h2],h3⟩) λι S d e x y H Q st hx hy p=>by
  cases d with
  | int i =>
   cases e with
   | int j=>cases (show x=_ from hx);cases (show y=_ from hy);exact ⟨i,j,rfl,rfl,p _ ι H (Stp.refl _ _) st rfl⟩
   | _=>exact p.elim
  | _=>exact p.elim
theorem qay:CallR X (.builtin "divmod") (λxs H Q=>∃ x y,xs=[x,y]∧∃ i j,x=.int i∧y=.int j∧divOk i j=true∧∀ p,H p=none→Q (.ref p) (upd H p (.tup [.int (i.fdiv j),.int (i.fmod j)]))):=by
 intro pins s σ H xs us Q I r h
 obtain ⟨x,y,rfl,i,j,rfl,rfl,hd,q⟩:=h
 obtain ⟨u,w',rfl,⟨t,rfl⟩,⟨t',rfl⟩⟩:=vals2 r
 simp only [divOk,wU,Bool.not_eq_true',vI] at hd
 refine divmod_int hd.1 ?_ (.inl hd.2)
 have hn:H s.heap.objs.size=none:=I.hok.fresh (wF _)
 refine ⟨.ref s.heap.objs.size,_,?_,rfl,q _ hn⟩
 refine I.laid (λb o e=>wB _ e) (wF _) ⟨by simp only [w4,List.length_nil];rw [vF];decide,[.int (i.fdiv j) s.toks,.int (i.fmod j) (s.toks+1)],.cons ⟨_,rfl⟩ (.cons ⟨_,rfl⟩ .nil),?_⟩
 exact ⟨_,wG s.heap rfl,rfl,0,rfl⟩
theorem qeA:CallR X (.builtin "divmod") (Gn (two bDivmod)) :=
 qhy qay λι S d e x y H Q st hx hy p=>by
  cases d with
  | int i =>
   cases e with
   | int j =>
    cases (show x=_ from hx);cases (show y=_ from hy)
    simp only [bDivmod] at p
    split at p
    ·rename_i hd
     exact ⟨i,j,rfl,rfl,hd,zb (l:=[.int (i.fdiv j),.int (i.fmod j)]) (xs:=[.int (i.fdiv j),.int (i.fmod j)]) st ⟨_,_,rfl,rfl,_,_,rfl,rfl,rfl⟩ p⟩
    ·exact p.elim
   | _=>exact p.elim
  | _=>exact p.elim
theorem qgM:CallR X (.type "tuple") (Gn (one bTuple)) :=
 qez (r:=λx H Q=>∃ p ys,x=.ref p∧((SqL X.K H p ys∧∀ l,H l=none→Q (.ref l) (upd H l (.tup ys)))∨(SqT X.K H p ys∧Q (.ref p) H))) (CallRimp jZ λxs H Q ⟨x,e,p,ys,h1,h2⟩=>⟨p,ys,by rw [e,h1],h2⟩) λι S d x H Q st hx p=>by
  obtain ⟨r,e,q⟩:=Pst.ofO p st
  cases z:seqOf S d with
  | none=>rw [z] at e;cases e
  | some l =>
   rw [z] at e;cases e
   cases d with
   | tup l' =>
    cases z
    obtain ⟨a,xs,rfl,hn,ha,dl⟩:=hx
    exact ⟨a,xs,rfl,.inr ⟨.inl (.inl ha),q _ ι H (Stp.refl _ _) st ⟨a,xs,rfl,hn,ha,dl⟩⟩⟩
   | lst l' =>
    cases z
    obtain ⟨a,xs,rfl,hn,ha,dl⟩:=hx
    exact ⟨a,xs,rfl,.inl ⟨.inl ha,zb st dl q⟩⟩
   | ref k =>
    obtain ⟨a,xs,rfl,hs,dl⟩:=q9 st (show lstOf S (.ref k)=some l from z) hx
    exact ⟨a,xs,rfl,.inl ⟨.inl hs,zb st dl q⟩⟩
   | _=>cases z
theorem qbf {pins:List (Addr × Obj)} {σ:St} {H:Hp} {s:Shared} {A:Around} {a:Addr} {xs:List V} (I:Inv X pins σ H s) (hh:A.handled=none) (hs:Rd H a (.lst xs)∨H a=some (.tup xs)) :
  ∃ its:List Value,Vals xs its∧∀ (E:Value→Shared→Prop) (Q:Value→Shared→Prop),
   (∀ (It:Addr) (fp wr:List Addr) (St':Nat→Heap→Prop) (s₂:Shared),Walks X.prog X.w A It fp wr its.length (λi v=>its[i]?=some v) St'→St' 0 s₂.heap→(∀ b∈fp,b<s₂.heap.objs.size) →
    (∀ h' tk,(∀ b o,b ∉ wr→s₂.heap.get? b=some o→h'.get? b=some o)→Inv X pins σ H { s₂ with heap:=h',toks:=tk })→Q (.ref It) s₂) →
   wpAny (model X.prog X.w) A (pyIter (.ref a)) Q E s:=by
 have base:∀ (o:Obj) (h':Heap) (tk:Nat),(∀ b x,b ∉ [s.heap.objs.size]→(s.heap.push o).get? b=some x→h'.get? b=some x)→Inv X pins σ H { s with heap:=h',toks:=tk }:=λo h' tk hk =>
  I.kept λb u e=>hk b u (λhm=>by rw [w9.mp hm] at e;exact vB _ (wI e)) (wB _ e)
 rcases hs with hs | hs
 ·obtain ⟨its,rv,hl,hz⟩:=qau I hs
  refine ⟨its,rv,λE Q k=>wpAny_pyIter_list hl ?_⟩
  have hlt:a<s.heap.objs.size:=by obtain ⟨_,e,_⟩:=hl;exact wI e
  have W:=Walks.list (prog:=X.prog) (w:=X.w) (A:=A) hh s.heap.objs.size a (w6 hlt) its.toArray
  refine k s.heap.objs.size [s.heap.objs.size,a] [s.heap.objs.size] (λi h=>h.IsListIter s.heap.objs.size a i∧h.IsList a its.toArray) _ (by simpa using W) ⟨⟨_,wG _ rfl,rfl,rfl⟩,hl.push _⟩ (λb hb=>?_) (λh' tk hk=>base _ h' tk hk)
  simp only [wZ,List.not_mem_nil,or_false] at hb
  have e1:=Heap.size_push s.heap
  rcases hb with rfl | rfl
  ·exact Nat.lt_of_lt_of_eq (Nat.lt_succ_self _) (e1 _).symm
  ·exact Nat.lt_of_lt_of_eq (Nat.lt_succ_of_lt hlt) (e1 _).symm
 ·obtain ⟨its,rv,hl,hz⟩:=jq I hs
  refine ⟨its,rv,λE Q k=>wpAny_pyIter_tuple hl ?_⟩
  have hlt:a<s.heap.objs.size:=by obtain ⟨_,e,_⟩:=hl;exact wI e
  have W:=Walks.tuple (prog:=X.prog) (w:=X.w) (A:=A) hh s.heap.objs.size a (w6 hlt) its.toArray
  refine k s.heap.objs.size [s.heap.objs.size,a] [s.heap.objs.size] (λi h=>h.IsTupleIter s.heap.objs.size a i∧h.IsTuple a its.toArray) _ (by simpa using W) ⟨⟨_,wG _ rfl,rfl,rfl⟩,hl.push _⟩ (λb hb=>?_) (λh' tk hk=>base _ h' tk hk)
  simp only [wZ,List.not_mem_nil,or_false] at hb
  have e1:=Heap.size_push s.heap
  rcases hb with rfl | rfl
  ·exact Nat.lt_of_lt_of_eq (Nat.lt_succ_self _) (e1 _).symm
  ·exact Nat.lt_of_lt_of_eq (Nat.lt_succ_of_lt hlt) (e1 _).symm
theorem qad {ι:List Addr} {H:Hp}:∀ {l:List D} {xs:List V} {its:List Value} {bs:List Bool},boolsOf l=some bs→Dens ι H l xs→Vals xs its→its=bs.map .bool
 | [],xs,its,b,h,hd,r=>by
  cases h;cases (show xs=[] from hd);cases r;rfl
 | .bl c::l,xs,its,b,h,hd,r=>by
  obtain ⟨x,t,rfl,h1,h2⟩:=hd
  cases (show x=_ from h1)
  simp only [boolsOf] at h
  cases z:boolsOf l with
  | none=>rw [z] at h;cases h
  | some bs =>
   rw [z] at h;cases h
   cases r with
   | cons ra rt=>cases ra;rw [qad z h2 rt];rfl
 | .non::_,_,_,_,h,_,_=>by cases h
 | .int _::_,_,_,_,h,_,_=>by cases h
 | .str _::_,_,_,_,h,_,_=>by cases h
 | .tup _::_,_,_,_,h,_,_=>by cases h
 | .lst _::_,_,_,_,h,_,_=>by cases h
 | .emp::_,_,_,_,h,_,_=>by cases h
 | .ref _::_,_,_,_,h,_,_=>by cases h
theorem qb8 (bs:List Bool):((List.range bs.length).all λi=>(bs[i]?).getD true)=bs.all id:=by
 rw [Bool.eq_iff_iff,List.all_eq_true,List.all_eq_true]
 constructor
 ·intro h b hb
  obtain ⟨i,hi,e⟩:=List.getElem_of_mem hb
  have:=h i (List.mem_range.mpr hi)
  simpa [wD hi,e] using this
 ·intro h i hi
  have hi':=List.mem_range.mp hi
  simpa [wD hi'] using h _ (List.getElem_mem hi')
theorem qbg {prog:Program} {w:World} {A:Around} {bs:List Bool} {its:List Value} (e:its=bs.map .bool) (d:Bool):TruthOf prog w A (λi v=>its[i]?=some v) (λi=>(bs[i]?).getD d):=λi v s Q E hP hQ=>by
 subst e
 rw [w5] at hP
 cases z:bs[i]? with
 | none=>rw [z] at hP;cases hP
 | some b =>
  have hQ':Q ((bs[i]?).getD d) s:=hQ
  rw [z] at hP hQ'
  cases hP
  exact vD hQ'
theorem qjZ (hc:X.calm=true):CallR X (.builtin "all") (Gn (one bAll)):=by
 intro pins s σ H xs us Q I r h
 obtain ⟨ι,S,ds,st,hd,p⟩:=h
 obtain ⟨d,rfl,p⟩:=qax p
 ·skip
  obtain ⟨x,rfl,hx⟩:=dens1 hd
  obtain ⟨u,rfl,ru⟩:=vals1 r
  obtain ⟨r0,e,q⟩:=Pst.ofO p st
  cases z:seqOf S d with
  | none=>rw [z] at e;cases e
  | some l =>
   rw [z] at e
   cases z2:boolsOf l with
   | none=>rw [wP,z2] at e;cases e
   | some bs =>
    rw [wP,z2] at e;cases e
    obtain ⟨a,xs,rfl,hs,dl⟩:=zC st z hx
    cases ru
    obtain ⟨its,rv,w⟩:=qbf (A:=X.A.in1) I (I.ok.hd hc) hs
    have eb:=qad z2 dl rv
    refine call_all_walk (w _ _ λIt fp wr St' s₂ W h0 hf hI=>⟨It,fp,wr,_,_,St',_,rfl,W,h0,qbg eb true,λh' tk hk=>?_⟩)
    have el:its.length=bs.length:=by rw [eb,wO]
    rw [el,qb8]
    exact ⟨.bl (bs.all id),H,hI h' tk hk,rfl,q _ ι H (Stp.refl _ _) st rfl⟩
theorem y4 (ns:List Int):∀ n,n≤ns.length→preSum (λi=>(ns[i]?).getD 0) n=(ns.take n).sum
 | 0,_=>by simp [preSum]
 | n+1,h=>by
  rw [preSum,y4 ns n (by lia),List.take_succ,List.sum_append]
  simp [wD (show n<ns.length by lia)]
theorem qj0 (hc:X.calm=true):CallR X (.builtin "sum") (Gn (one bSum)):=by
 intro pins s σ H xs us Q I r h
 obtain ⟨ι,S,ds,st,hd,p⟩:=h
 obtain ⟨d,rfl,p⟩:=qax p
 ·skip
  obtain ⟨x,rfl,hx⟩:=dens1 hd
  obtain ⟨u,rfl,ru⟩:=vals1 r
  obtain ⟨r0,e,q⟩:=Pst.ofO p st
  cases z:seqOf S d with
  | none=>rw [z] at e;cases e
  | some l =>
   rw [z] at e
   cases z2:intsOf l with
   | none=>rw [wP,z2] at e;cases e
   | some ns =>
    rw [wP,z2] at e;cases e
    obtain ⟨a,xs,rfl,hs,dl⟩:=zC st z hx
    cases ru
    obtain ⟨its,rv,w⟩:=qbf (A:=X.A.in1) I (I.ok.hd hc) hs
    cases intsOf_eq z2
    cases dens_ints dl
    have ia:IntsAre its ns:=qZ rv
    have el:its.length=ns.length:=ia.length
    refine call_sum_walkG (w _ _ λIt fp wr St' s₂ W h0 hf hI=>⟨It,fp,wr,_,_,St',λi=>(ns[i]?).getD 0,rfl,W,h0,hf,λi v hv=>?_,λh' tk t' hk=>?_⟩)
    ·obtain ⟨j,rx⟩:=Vals.at rv (wK.mp hv).1
     obtain ⟨e1,e2⟩:=rx
     rw [(wK.mp hv).2] at e2
     rw [w5] at e1
     cases z3:ns[i]? with
     | none=>rw [z3] at e1;cases e1
     | some n =>
      rw [z3] at e1;cases e1
      obtain ⟨t,rfl⟩:=e2
      exact ⟨t,by simp [z3]⟩
    ·rw [el,y4 ns _ (wF _),List.take_length]
     exact ⟨.int ns.sum,H,hI h' tk hk,⟨_,rfl⟩,q _ ι H (Stp.refl _ _) st rfl⟩
end
end R
namespace R
open PySem PySem.Spec L2 SeqAt
open PyProof.Rows hiding St
section
variable {X:Cx} {pos:Pos}
theorem Dens.erase {ι:List Addr} {H:Hp}:∀ {ds:List D} {xs:List V} (i:Nat),Dens ι H ds xs→Dens ι H (ds.eraseIdx i) (xs.eraseIdx i)
 | [],_,_,h=>by cases (show _=[] from h);exact (rfl:_=_)
 | d::ds,_,0,h=>by
  obtain ⟨x,r,rfl,h1,h2⟩:=h
  exact h2
 | d::ds,_,i+1,h=>by
  obtain ⟨x,r,rfl,h1,h2⟩:=h
  exact ⟨x,_,rfl,h1,Dens.erase i h2⟩
theorem jc {ι:List Addr} {H:Hp} {S:Sr} {n:Nat} {a:Addr} {l:List D} {xs:List V} (st:Sto ι H S) (ha:ι[n]?=some a) (f:refsLts n l=true) (dl:Dens ι H l xs):Stp ι H ι (upd H a (.lst xs))∧Sto ι (upd H a (.lst xs)) (S.set n (.lst l)):=by
 have g:=Stp.put (H:=H) (wn ha) (.lst xs)
 exact ⟨g,st.put ha ⟨⟨n,ha,f⟩,xs,qu,Dens.mono g l dl⟩⟩
theorem qdF {ι:List Addr} {H:Hp} {S:Sr} {x:D} {v:V} {K:PySem.W.Frag} (st:Sto ι H S) (h:isLst S x=true) (hx:Den ι H x v):tyV K "list" v H:=by
 cases x with
 | ref n =>
  obtain ⟨a,rfl,ha⟩:=hx
  simp only [isLst] at h
  split at h
  ·rename_i l hl
   obtain ⟨_,xs,h1,_⟩:=st.obj n a _ ha hl
   exact .inl ⟨rfl,xs,.inl (.inl h1)⟩
  ·cases h
 | _=>cases h
theorem qb9 {o e:Expr} {name:Str} {id:String} {apos:Pos} {mo me:En→Sr→Res D} {g:Sr→D→D→Res D} {r:V→List V→Hp→VK→Prop} (slot:Slot "list" name id) (hty:typeOf (.builtin id)=pure (.type "method_descriptor")) (hm:MtM X id r)
  (hg:∀ ι S x y v u H Q,Sto ι H S→Den ι H x v→Den ι H y u→Pst Den (g S x y) ι H Q→r v [u] H Q) (ho:PE X o (T mo)) (he:PE X e (T me))
  (hst:starEach [e] X.env=(false,eval e X.env)::starEach [] X.env)
  (hbase:attributeBase o name X.env (eval o X.env)=eval o X.env) (hline:(apos.endLine == pos.line)=true)
  (hfew:((backTo pos (starEach [e] X.env)).all (λx=>!x.1)&&(backToKw pos (keywordEach [] X.env)).all (λx=>x.1.isSome)&&decide ([e].length+([]:List Keyword).length+(if ([]:List Keyword).isEmpty then 0 else 1)<30))=true)
  (hplain:(backTo pos (starEach [] X.env)).any (·.1)=false) :
  PE X (.Call (.Attribute o name apos) [e] [] pos) (T λρ S=>(mo ρ S).bind λx S1=>if isLst S1 x then (me ρ S1).bind λy S2=>g S2 x y else .no) :=
 PEimp (qjD PySem.F.plainAttrs_list slot hty hm ho (jb he qbZ hst) hbase hfew hline hst hplain) λσ H Q hw=>by
  refine TG.b1 hw λι S ρ x v H1 er st rx p=>?_
  by_cases hl:isLst S x=true
  ·rw [wL hl] at p
   refine ⟨qdF st hl rx,Pst.tg p er st λy S2 ι2 H2 u s2 er2 st2 ry p2=>?_⟩
   exact hg ι2 S2 x y v u H2 Q st2 (Den.mono s2 x rx) ry p2
  ·rw [wN hl] at p;exact p.elim
theorem qj1 {ι:List Addr} {S:Sr} {x y:D} {v u:V} {H:Hp} {Q:VK} (st:Sto ι H S) (hx:Den ι H x v) (hy:Den ι H y u) (p:Pst Den (popD S x y) ι H Q):rPopAt v [u] H Q:=by
 unfold popD at p
 split at p
 ·rename_i n k
  split at p
  ·rename_i l hl
   split at p
   ·rename_i hk
    split at p
    ·rename_i d hd
     obtain ⟨a,rfl,ha⟩:=hx
     cases (show u=_ from hy)
     obtain ⟨⟨n',en,hf⟩,xs,h1,dl⟩:=st.obj n a _ ha hl
     obtain rfl:n'=n:=qR st.nd en ha
     obtain ⟨z,e1,e2⟩:=dl.get hd
     have hlt:k.toNat<xs.length:=(wK.mp e1).1
     obtain ⟨g,st'⟩:=jc st ha (zJ λd m=>zk hf (List.mem_of_mem_eraseIdx m)) (Dens.erase k.toNat dl)
     refine ⟨a,xs,k,k.toNat,z,rfl,rfl,h1,?_,?_,?_,e1,p z ι _ g st' (Den.mono g d e2)⟩
     ·lia
     ·lia
     ·exact seqIndex_of hk.1 (by lia)
    ·exact p.elim
   ·exact p.elim
  ·exact p.elim
 ·exact p.elim
theorem qhz {ι:List Addr} {S:Sr} {x y:D} {v u:V} {H:Hp} {Q:VK} (st:Sto ι H S) (hx:Den ι H x v) (hy:Den ι H y u) (p:Pst Den (appD S x y) ι H Q):rAppend v [u] H Q:=by
 unfold appD at p
 split at p
 ·rename_i n
  split at p
  ·rename_i l hl
   split at p
   ·rename_i hz
    obtain ⟨a,rfl,ha⟩:=hx
    obtain ⟨⟨n',en,hf⟩,xs,h1,dl⟩:=st.obj n a _ ha hl
    obtain rfl:n'=n:=qR st.nd en ha
    obtain ⟨g,st'⟩:=jc st ha (by rw [zS,hf];simp [refsLts,q8 _ hz.2]) (dl.snoc hy)
    exact ⟨a,xs,u,rfl,rfl,h1,by rw [← dl.length];exact hz.1,p .non ι _ g st' rfl⟩
   ·exact p.elim
  ·exact p.elim
 ·exact p.elim
noncomputable def TGt (m:D→En→Sr→Res En):L2.TG:=λv σ H Q=>∃ ι S ρ d,EnR ι H ρ σ∧Sto ι H S∧Den ι H d v∧Pst EnR (m d ρ S) ι H Q
noncomputable def TGts (m:List D→En→Sr→Res En):TGs:=λvs σ H Q=>∃ ι S ρ ds,EnR ι H ρ σ∧Sto ι H S∧Dens ι H ds vs∧Pst EnR (m ds ρ S) ι H Q
theorem PGimp {tg:Expr} {t t':L2.TG} (h:PG X tg t) (k:∀ v σ H Q,t' v σ H Q→t v σ H Q):PG X tg t':=λpins s σ H v u Q I r hw=>h pins s σ H v u Q I r (k v σ H Q hw)
theorem PGsimp {ts:List Expr} {t t':TGs} (h:PGs X ts t) (k:∀ v σ H Q,t' v σ H Q→t v σ H Q):PGs X ts t':=λpins s σ H v u Q I r hw=>h pins s σ H v u Q I r (k v σ H Q hw)
theorem qj2 {i:Nat} {tg:Expr} (h:PG X tg (gName i)):PG X tg (TGt λd ρ S=>.ok (ρ.set i (some d)) S):=PGimp h λv σ H Q hw=>by
 obtain ⟨ι,S,ρ,d,er,st,hd,p⟩:=hw
 exact p _ ι H (Stp.refl _ _) st (er.set hd)
theorem qj3:PGs X [] (TGts λl ρ S=>match l with | []=>.ok ρ S | _=>.no):=PGsimp qgl λvs σ H Q hw=>by
 obtain ⟨ι,S,ρ,ds,er,st,hd,p⟩:=hw
 cases ds with
 | nil=>exact ⟨hd,p _ ι H (Stp.refl _ _) st er⟩
 | cons=>exact p.elim
theorem qiB {e:Expr} {es:List Expr} {m:D→En→Sr→Res En} {ms:List D→En→Sr→Res En} (h1:PG X e (TGt m)) (h2:PGs X es (TGts ms)) (hs:(assignEach (e::es) X.env).map (·.2)=assign e X.env::(assignEach es X.env).map (·.2)) :
  PGs X (e::es) (TGts λl ρ S=>match l with | d::r=>(m d ρ S).bind λρ1 S1=>ms r ρ1 S1 | []=>.no):=PGsimp (qd3 h1 h2 hs) λvs σ H Q hw=>by
 obtain ⟨ι,S,ρ,ds,er,st,hd,p⟩:=hw
 cases ds with
 | nil=>exact p.elim
 | cons d r =>
  obtain ⟨v,vr,rfl,hv,hr⟩:=hd
  refine ⟨v,vr,rfl,ι,S,ρ,d,er,st,hv,Pst.bind p λρ1 S1 ι1 H1 σ1 s1 st1 er1 p1=>?_⟩
  exact ⟨ι1,S1,ρ1,r,er1,st1,Dens.mono s1 r hr,p1⟩
theorem qj4 {es:List Expr} {k n:Nat} {ms:List D→En→Sr→Res En} (hc:X.calm=true) (h:PGs X es (TGts ms)) (hn:(assignEach es X.env).length=n) (hst:(assignEach es X.env).findIdx? (·.1)=none)
  (hl:∀ l ρ S ρ' S',ms l ρ S=.ok ρ' S'→l.length=n):PG X (.Tuple es k pos) (TGt λd ρ S=>match d with | .tup l=>ms l ρ S | _=>.no):=PGimp (qh6 hc h hn hst) λv σ H Q hw=>by
 obtain ⟨ι,S,ρ,d,er,st,hd,p⟩:=hw
 cases d with
 | tup l =>
  obtain ⟨a,xs,rfl,_,ha,dl⟩:=hd
  refine ⟨a,xs,rfl,.inl (.inl ha),?_,ι,S,ρ,l,er,st,dl,p⟩
  rw [← dl.length]
  cases z:ms l ρ S with
  | ok ρ' S'=>exact hl l ρ S ρ' S' z
  | no=>simp only [z] at p;exact p.elim
  | err=>simp only [z] at p;exact p.elim
 | _=>exact p.elim
theorem qbh (hu:X.A.units+1<cLine):PSet X (λo i v H Q=>∃ a H',o=.ref a∧DPut H a i v H'∧Q H'):=by
 intro pins s σ H o i v ov iv u Q I ro ri rv h
 obtain ⟨a,H',rfl,g,q⟩:=h
 cases ro
 exact qdy hu I g ri rv λs4 I4=>⟨H',I4,q⟩
theorem qeB (hu:X.A.units+1<cLine) {pins:List (Addr × Obj)} {s:Shared} {σ:St} {H:Hp} {a:Addr} {i v:V} {ov iv u:Value} {Q:Hp→Prop} {ι:List Addr} {S S':Sr} {n:Nat} {y d:D} (I:Inv X pins σ H s) (ro:RelV (.ref a) ov) (ri:RelV i iv) (rv:RelV v u)
  (st:Sto ι H S) (ha:ι[n]?=some a) (hfr:refsLt 0 d=true) (hy:Den ι H y i) (hd:Den ι H d v)
  (e:putN S n y d=some S') (q:∀ ι' H',Stp ι H ι' H'→Sto ι' H' S'→Q H'):wpAny (model X.prog X.w) X.A (setItem ov iv u) (λ_ s'=>∃ H',Inv X pins σ H' s'∧Q H') X.xe s:=by
 unfold putN at e
 split at e
 ·rename_i l hl
  obtain ⟨⟨n',en,hf⟩,xs,h1,dl⟩:=st.obj n a _ ha hl
  obtain rfl:n'=n:=qR st.nd en ha
  split at e
  ·rename_i k
   cases (show i=_ from hy)
   cases z:ixN l.length k with
   | none=>rw [z] at e;cases e
   | some j =>
    rw [z] at e;cases e
    obtain ⟨g,st'⟩:=jc st ha (zJ λx m=>(List.mem_or_eq_of_mem_set m).elim (λz=>zk hf z) λz=>z ▸ q8 _ hfr) (dl.set hd j)
    exact qef pins s σ H _ _ v ov iv u Q I ro ri rv ⟨a,xs,k,j,rfl,rfl,h1,by rw [← dl.length];exact z,q ι _ g st'⟩
  ·cases e
 ·rename_i l hl
  obtain ⟨hf,kvs,h1,dl⟩:=st.obj n a _ ha hl
  split at e
  ·rename_i ks
   cases z:intsOf ks with
   | none=>rw [z] at e;cases e
   | some k =>
    rw [z,wP] at e
    split at e
    ·rename_i hlt
     cases e
     cases intsOf_eq z
     obtain ⟨b,ys,rfl,_,hb,db⟩:=hy
     cases dens_ints db
     have g:=Stp.put (H:=H) (wn ha) (.dT (putK kvs (keyT k) v))
     refine qbh hu pins s σ H _ _ v ov iv u Q I ro ri rv ⟨a,_,rfl,DPut.t (k:=keyT k) h1 (by rw [qcC];exact hb) ?_,q ι _ g (st.put ha ⟨jt hfr hf,_,qu,qaw qbe (Den.mono g d hd) (DGs.mono g dl)⟩)⟩
     have e2:kvs.length<1000:=by rw [← dl.length];exact hlt
     exact wX e2 (by rw [vF];decide)
    ·cases e
  ·cases e
 ·rename_i l hl
  obtain ⟨hf,kvs,h1,dl⟩:=st.obj n a _ ha hl
  cases z:keyD y with
  | none=>rw [z] at e;cases e
  | some k =>
   rw [z,wP] at e
   split at e
   ·rename_i hlt
    cases e
    cases key_den z hy
    have g:=Stp.put (H:=H) (wn ha) (.dK (putK kvs k v))
    refine qbh hu pins s σ H _ _ v ov iv u Q I ro ri rv ⟨a,_,rfl,DPut.k (k:=k) h1 ?_,q ι _ g (st.put ha ⟨jt hfr hf,_,qu,qaw (f:=id) Iff.rfl (Den.mono g d hd) (DGs.mono g dl)⟩)⟩
    have e2:kvs.length<1000:=by rw [← dl.length];exact hlt
    exact wX e2 (by rw [vF];decide)
   ·cases e
 ·cases e
theorem qcF (hu:X.A.units+1<cLine):PSet X (λo i v H Q=>∃ ι S x y d S',Sto ι H S∧Den ι H x o∧Den ι H y i∧Den ι H d v∧putE S x y d=some S'∧∀ ι' H',Stp ι H ι' H'→Sto ι' H' S'→Q H'):=by
 intro pins s σ H o i v ov iv u Q I ro ri rv h
 obtain ⟨ι,S,x,y,d,S',st,hx,hy,hd,e,q⟩:=h
 unfold putE at e
 by_cases hfr:refsLt 0 d=true
 ·rw [wL hfr] at e
  split at e
  ·rename_i n
   obtain ⟨a,rfl,ha⟩:=hx
   exact qeB hu I ro ri rv st ha hfr hy hd e q
  ·cases e
 ·rw [wN hfr] at e;cases e
theorem qj5 {o i:Expr} {mo mi:En→Sr→Res D} (hu:X.A.units+1<cLine) (ho:PE X o (T mo)) (hi:PE X i (T mi))
  (ha:∀ v,assign (.Subscript o i pos) X.env v=(do
   let ov ← holding [v] (eval o X.env)
   let iv ← holding [v,ov] (eval i X.env)
   standAt pos
   holding [v,ov,iv] (setItem ov iv v)
   release [v,ov,iv] [])) :
  PG X (.Subscript o i pos) (TGt λd ρ S=>(mo ρ S).bind λx S1=>(mi ρ S1).bind λy S2=>match putE S2 x y d with | some S3=>.ok ρ S3 | none=>.no):=PGimp (qh7 ho hi (qcF hu) ha) λv σ H Q hw=>by
 obtain ⟨ι,S,ρ,d,er,st,hd,p⟩:=hw
 refine Pst.tg (ρ:=ρ) p er st λx S1 ι1 H1 vx s1 er1 st1 rx p1=>Pst.tg (ρ:=ρ) p1 er1 st1 λy S2 ι2 H2 vy s2 er2 st2 ry p2=>?_
 cases z:putE S2 x y d with
 | none=>rw [z] at p2;exact p2.elim
 | some S3 =>
  rw [z] at p2
  exact ⟨ι2,S2,x,y,d,S3,st2,Den.mono s2 x rx,ry,Den.mono (s1.trans s2) d hd,z,λι' H' g st'=>p2 σ ι' H' g st' (er2.mono g)⟩
noncomputable def FlOk (f:Fl) (ι:List Addr) (H:Hp) (D:Ends):Prop:=match f with
 | .nx ρ=>∀ σ,EnR ι H ρ σ→D.nx σ H
 | .bk ρ=>∀ σ,EnR ι H ρ σ→D.bk σ H
 | .ct ρ=>∀ σ,EnR ι H ρ σ→D.ct σ H
 | .rt d=>∀ v,Den ι H d v→D.rt v H
noncomputable def PsF (r:Res Fl) (ι:List Addr) (H:Hp) (D:Ends):Prop:=match r with
 | .ok f S'=>∀ ι' H',Stp ι H ι' H'→Sto ι' H' S'→FlOk f ι' H' D
 | .err _ _=>False
 | .no=>False
theorem PsF.from {r:Res Fl} {ι ι':List Addr} {H H':Hp} {D:Ends} (h:PsF r ι H D) (s:Stp ι H ι' H'):PsF r ι' H' D:=by
 cases r with
 | ok f S=>exact λι2 H2 t st=>h ι2 H2 (s.trans t) st
 | err=>exact h
 | no=>exact h
theorem PsF.bind {α β:Type} {R:List Addr→Hp→α→β→Prop} {r:Res α} {f:α→Sr→Res Fl} {ι:List Addr} {H:Hp} {D:Ends} {K:β→Hp→Prop}
  (h:PsF (r.bind f) ι H D) (k:∀ a S' ι' H' b,Stp ι H ι' H'→Sto ι' H' S'→R ι' H' a b→PsF (f a S') ι' H' D→K b H'):Pst R r ι H K:=by
 cases r with
 | ok a S=>exact λb ι2 H2 t st q=>k a S ι2 H2 b t st q (PsF.from h t)
 | err=>exact h
 | no=>exact h
noncomputable def TSm (m:En→Sr→Res Fl):TS:=λD σ H=>∃ ι S ρ,EnR ι H ρ σ∧Sto ι H S∧PsF (m ρ S) ι H D
theorem PSimp {st:Stmt} {t t':TS} (h:PS X st t) (k:∀ D σ H,t' D σ H→t D σ H):PS X st t':=λpins s σ H D I hw=>h pins s σ H D I (k D σ H hw)
theorem PSsimp {st:List Stmt} {t t':TS} (h:PSs X st t) (k:∀ D σ H,t' D σ H→t D σ H):PSs X st t':=λpins s σ H D I hw=>h pins s σ H D I (k D σ H hw)
theorem qj6:PSs X [] (TSm λρ S=>.ok (.nx ρ) S):=PSsimp qgj λD σ H hw=>by
 obtain ⟨ι,S,ρ,er,st,p⟩:=hw
 exact p ι H (Stp.refl _ _) st σ er
theorem qiC {st:Stmt} {rest:List Stmt} {m ms:En→Sr→Res Fl} (h1:PS X st (TSm m)) (h2:PSs X rest (TSm ms)) :
  PSs X (st::rest) (TSm λρ S=>(m ρ S).bind λf S1=>match f with | .nx ρ1=>ms ρ1 S1 | f=>.ok f S1):=PSsimp (qd1 h1 h2) λD σ H hw=>by
 obtain ⟨ι,S,ρ,er,st,p⟩:=hw
 refine ⟨ι,S,ρ,er,st,?_⟩
 dsimp only at p
 cases z:m ρ S with
 | no=>rw [z] at p;exact p
 | err=>rw [z] at p;exact p
 | ok f S1 =>
  rw [z] at p
  intro ι1 H1 s1 st1
  cases f with
  | nx ρ1=>exact λσ1 er1=>⟨ι1,S1,ρ1,er1,st1,PsF.from p s1⟩
  | bk ρ1=>exact λσ1 er1=>p ι1 H1 s1 st1 σ1 er1
  | ct ρ1=>exact λσ1 er1=>p ι1 H1 s1 st1 σ1 er1
  | rt d=>exact λv hv=>p ι1 H1 s1 st1 v hv
theorem qiD {e:Expr} {m:En→Sr→Res D} (he:PE X e (T m)) (hs:swapsWith e none pos.line X.env=pure false):PS X (.Expr e pos) (TSm λρ S=>(m ρ S).bind λ_ S1=>.ok (.nx ρ) S1):=PSimp (qgk he hs) λD σ H hw=>by
 obtain ⟨ι,S,ρ,er,st,p⟩:=hw
 exact ⟨ι,S,ρ,er,st,PsF.bind p λa S1 ι1 H1 b s1 st1 ra p1=>p1 ι1 H1 (Stp.refl _ _) st1 σ (er.mono s1)⟩
theorem qj7 {e:Expr} {m:En→Sr→Res D} (he:PE X e (T m)):PS X (.Return (some e) pos) (TSm λρ S=>(m ρ S).bind λd S1=>.ok (.rt d) S1):=PSimp (qh5 he) λD σ H hw=>by
 obtain ⟨ι,S,ρ,er,st,p⟩:=hw
 exact ⟨ι,S,ρ,er,st,PsF.bind p λa S1 ι1 H1 b s1 st1 ra p1=>p1 ι1 H1 (Stp.refl _ _) st1 b ra⟩
theorem qgN {st:Stmt}:PS X st (TSm λ_ _=>.no):=PSimp qd2 λD σ H hw=>by
 obtain ⟨ι,S,ρ,er,st,p⟩:=hw
 exact p
theorem s_if {c:Expr} {a b:List Stmt} {mc:En→Sr→Res Bool} {ma mb:En→Sr→Res Fl} (hc:PT X c (TB mc)) (ha:PSs X a (TSm ma)) (hb:PSs X b (TSm mb)) :
  PS X (.If c a b pos) (TSm λρ S=>(mc ρ S).bind λt S1=>if t then ma ρ S1 else mb ρ S1):=PSimp (qjv hc ha hb) λD σ H hw=>by
 obtain ⟨ι,S,ρ,er,st,p⟩:=hw
 refine ⟨ι,S,ρ,er,st,PsF.bind p λa S1 ι1 H1 b s1 st1 ra p1=>?_⟩
 cases (show a=b from ra)
 cases a with
 | true=>rw [wL rfl];exact ⟨ι1,S1,ρ,er.mono s1,st1,p1⟩
 | false=>rw [wN (by decide)];exact ⟨ι1,S1,ρ,er.mono s1,st1,p1⟩
theorem qhA {tg e:Expr} {m:En→Sr→Res D} {g:D→En→Sr→Res En} (h:PS X (.Assign [tg] e pos) (tAsg (T m) (TGt g))) :
  PS X (.Assign [tg] e pos) (TSm λρ S=>(m ρ S).bind λd S1=>(g d ρ S1).bind λρ1 S2=>.ok (.nx ρ1) S2):=PSimp h λD σ H hw=>by
 obtain ⟨ι,S,ρ,er,st,p⟩:=hw
 refine ⟨ι,S,ρ,er,st,PsF.bind p λd S1 ι1 H1 v s1 st1 rd p1=>?_⟩
 refine ⟨ι1,S1,ρ,d,er.mono s1,st1,rd,PsF.bind p1 λρ1 S2 ι2 H2 σ2 s2 st2 er2 p2=>?_⟩
 exact p2 ι2 H2 (Stp.refl _ _) st2 σ2 er2
theorem qgO {c:Expr} {body:List Stmt} {mc:En→Sr→Res Bool} {mb:En→Sr→Res Fl} {N:Nat} (hp:PassesOwn (model X.prog X.w) X.A X.env X.xe) (hc:PT X c (TB mc)) (hb:PSs X body (TSm mb)) :
  PS X (.While c body [] pos) (TSm λρ S=>whileLoop mc mb N ρ S):=PSimp (qd4 hp hc hb) λD σ H hw=>by
 obtain ⟨ι,S,ρ,er,st,p⟩:=hw
 refine ⟨λm σ H=>∃ ι S ρ,EnR ι H ρ σ∧Sto ι H S∧PsF (whileLoop mc mb m ρ S) ι H D,⟨N,ι,S,ρ,er,st,p⟩,?_⟩
 rintro m σ H ⟨ι,S,ρ,er,st,p⟩
 cases m with
 | zero=>exact p.elim
 | succ m =>
  refine ⟨ι,S,ρ,er,st,PsF.bind (show PsF ((mc ρ S).bind _) ι H D from p) λa S1 ι1 H1 b s1 st1 ra p1=>?_⟩
  cases (show a=b from ra)
  cases a with
  | false=>exact p1 ι1 H1 (Stp.refl _ _) st1 σ (er.mono s1)
  | true =>
   refine ⟨λσ' H'=>∃ ι S ρ,EnR ι H' ρ σ'∧Sto ι H' S∧PsF (whileLoop mc mb m ρ S) ι H' D,λσ' H' h'=>⟨m,Nat.lt_succ_self _,h'⟩,ι1,S1,ρ,er.mono s1,st1,?_⟩
   cases z:mb ρ S1 with
   | no=>simp only [z,if_true] at p1;exact p1
   | err=>simp only [z,if_true] at p1;exact p1
   | ok f S2 =>
    simp only [z,if_true,Res.bind_ok] at p1
    intro ι2 H2 s2 st2
    cases f with
    | nx ρ1=>exact λσ1 er1=>⟨ι2,S2,ρ1,er1,st2,PsF.from p1 s2⟩
    | ct ρ1=>exact λσ1 er1=>⟨ι2,S2,ρ1,er1,st2,PsF.from p1 s2⟩
    | bk ρ1=>exact λσ1 er1=>p1 ι2 H2 s2 st2 σ1 er1
    | rt d=>exact λv hv=>p1 ι2 H2 s2 st2 v hv
end
end R
namespace R
open PySem PySem.Spec L2 SeqAt
open PyProof.Rows hiding St
structure ItOk (ι:List Addr) (H:Hp) (J:It) (ds:List D):Prop where
 go:∀ (i:Nat) (d:D) (ι2:List Addr) (H2:Hp),Stp ι H ι2 H2→ds[i]?=some d→J.go i H2∧∀ x H3,J.yld i H2 x H3→Stp ι2 H2 ι2 H3∧∀ S,Sto ι2 H2 S→Sto ι2 H3 S∧Den ι2 H3 d x
 stop:∀ (ι2:List Addr) (H2:Hp),Stp ι H ι2 H2→J.stop ds.length H2
theorem qeC {ι:List Addr} {H:Hp} {K:PySem.W.Frag} {a:Addr} {xs:List V} {ds:List D} (n:a ∉ ι) (h:Rd H a (.lst xs)) (dl:Dens ι H ds xs):ItOk ι H (Itl K a) ds where
 go:=λi d ι2 H2 s e=>by
  obtain ⟨x,e1,e2⟩:=(Dens.mono s ds dl).get e
  obtain ⟨r2,n2⟩:=s.rd h n
  refine ⟨⟨xs,x,.inl r2,e1⟩,λy H3 hy=>?_⟩
  obtain ⟨rfl,hy⟩:=hy
  have:=hy xs (.inl r2)
  rw [e1] at this;cases this
  exact ⟨Stp.refl _ _,λ_ z=>⟨z,e2⟩⟩
 stop:=λι2 H2 s=>⟨xs,.inl (s.rd h n).1,Nat.le_of_eq dl.length.symm⟩
theorem qeD {ι:List Addr} {H:Hp} {K:PySem.W.Frag} {a:Addr} {xs:List V} {ds:List D} (n:a ∉ ι) (h:H a=some (.tup xs)) (dl:Dens ι H ds xs):ItOk ι H (Itt K a) ds where
 go:=λi d ι2 H2 s e=>by
  obtain ⟨x,e1,e2⟩:=(Dens.mono s ds dl).get e
  have r2:=s.keep _ _ h n trivial
  refine ⟨⟨xs,x,.inl (.inl r2),e1⟩,λy H3 hy=>?_⟩
  obtain ⟨rfl,hy⟩:=hy
  have:=hy xs (.inl (.inl r2))
  rw [e1] at this;cases this
  exact ⟨Stp.refl _ _,λ_ z=>⟨z,e2⟩⟩
 stop:=λι2 H2 s=>⟨xs,.inl (.inl (s.keep _ _ h n trivial)),Nat.le_of_eq dl.length.symm⟩
structure ItG (ι:List Addr) (H:Hp) (J:It) (ds:List D) (gd:Sr→Prop):Prop where
 go:∀ (i:Nat) (d:D) (ι2:List Addr) (H2:Hp) (S2:Sr),Stp ι H ι2 H2→Sto ι2 H2 S2→gd S2→ds[i]?=some d→J.go i H2∧∀ x H3,J.yld i H2 x H3→Stp ι2 H2 ι2 H3∧∀ S,Sto ι2 H2 S→Sto ι2 H3 S∧Den ι2 H3 d x
 stop:∀ (ι2:List Addr) (H2:Hp) (S2:Sr),Stp ι H ι2 H2→Sto ι2 H2 S2→gd S2→J.stop ds.length H2
theorem ItG.mono {ι ι':List Addr} {H H':Hp} {J:It} {ds:List D} {gd:Sr→Prop} (h:ItG ι H J ds gd) (s:Stp ι H ι' H'):ItG ι' H' J ds gd :=
 ⟨λi d ι2 H2 S2 t st g e=>h.go i d ι2 H2 S2 (s.trans t) st g e,λι2 H2 S2 t st g=>h.stop ι2 H2 S2 (s.trans t) st g⟩
theorem ItOk.g {ι:List Addr} {H:Hp} {J:It} {ds:List D} (h:ItOk ι H J ds):ItG ι H J ds λ_=>True :=
 ⟨λi d ι2 H2 _ t _ _ e=>h.go i d ι2 H2 t e,λι2 H2 _ t _ _=>h.stop ι2 H2 t⟩
theorem qgP {ι:List Addr} {H:Hp} {K:PySem.W.Frag} {a:Addr} {n:Nat} {l:List D} (h:ι[n]?=some a):ItG ι H (Itl K a) l (own n l) where
 go:=λi d ι2 H2 S2 s st g e=>by
  obtain ⟨_,xs,ha,dl⟩:=st.obj n a _ (s.get h) g
  obtain ⟨x,e1,e2⟩:=dl.get e
  refine ⟨⟨xs,x,.inl (.inl ha),e1⟩,λy H3 hy=>?_⟩
  obtain ⟨rfl,hy⟩:=hy
  have:=hy xs (.inl (.inl ha))
  rw [e1] at this;cases this
  exact ⟨Stp.refl _ _,λ_ z=>⟨z,e2⟩⟩
 stop:=λι2 H2 S2 s st g=>by
  obtain ⟨_,xs,ha,dl⟩:=st.obj n a _ (s.get h) g
  exact ⟨xs,.inl (.inl ha),Nat.le_of_eq dl.length.symm⟩
noncomputable def TIg (m:En→Sr→Res (List D × (Sr→Prop))):TI:=λσ H R=>∃ ι S ρ,EnR ι H ρ σ∧Sto ι H S∧match m ρ S with
 | .ok p S'=>∀ ι' H' J,Stp ι H ι' H'→Sto ι' H' S'→ItG ι' H' J p.1 p.2→R J H'
 | .err _ _=>False
 | .no=>False
noncomputable def TIt (m:En→Sr→Res (List D)):TI:=λσ H R=>∃ ι S ρ,EnR ι H ρ σ∧Sto ι H S∧match m ρ S with
 | .ok ds S'=>∀ ι' H' J,Stp ι H ι' H'→Sto ι' H' S'→ItOk ι' H' J ds→R J H'
 | .err _ _=>False
 | .no=>False
section
variable {X:Cx} {pos:Pos} {tg:Expr}
theorem PIimp {iter:Expr} {t t':TI} (h:PI X tg iter t) (k:∀ σ H R,t' σ H R→t σ H R):PI X tg iter t':=λpins s σ H R I hw=>h pins s σ H R I (k σ H R hw)
theorem qca {l:Expr} {tl:TE} (hl:PE X l tl):PI X tg l (λσ H R=>tl σ H λx H1=>(∃ a,x=.ref a∧(∃ xs,SqL X.K H1 a xs)∧R (Itl X.K a) H1)∨(∃ a,x=.ref a∧(∃ xs,SqT X.K H1 a xs)∧R (Itt X.K a) H1)):=by
 intro pins s σ H R I h
 refine thn (hl pins s σ H _ I h) λv s1 ⟨x,H1,I1,r1,q1⟩=>?_
 rcases q1 with ⟨a,e,⟨xs,hq⟩,q⟩ | ⟨a,e,⟨xs,hq⟩,q⟩
 ·subst e
  cases r1
  obtain ⟨its,rv,p,hz⟩:=I1.list hq
  refine wpAny_pyIter_list p.isList ?_
  refine ⟨s1.heap.objs.size,[s1.heap.objs.size],_,_,H1,rfl,I1.kept (t':=s1.toks) λb o e=>wB _ e,qdq a _,⟨_,wG _ rfl,rfl,rfl⟩,λb hb=>?_,q⟩
  have e:b=s1.heap.objs.size:=by simpa using hb
  subst e
  exact I1.fpOk (wF _) (I1.hok.fresh (wF _))
 ·subst e
  cases r1
  obtain ⟨its,rv,p,hz⟩:=I1.tuple hq
  refine wpAny_pyIter_tuple (show s1.heap.IsTuple a its.toArray from p) ?_
  refine ⟨s1.heap.objs.size,[s1.heap.objs.size],_,_,H1,rfl,I1.kept (t':=s1.toks) λb o e=>wB _ e,qbV a _,⟨_,wG _ rfl,rfl,rfl⟩,λb hb=>?_,q⟩
  have e:b=s1.heap.objs.size:=by simpa using hb
  subst e
  exact I1.fpOk (wF _) (I1.hok.fresh (wF _))
noncomputable def mSeq (m:En→Sr→Res D):En→Sr→Res (List D):=λρ S=>(m ρ S).bind λx S1=>match x with
 | .tup l=>.ok l S1
 | .lst l=>.ok l S1
 | _=>.no
theorem qj8 {e:Expr} {m:En→Sr→Res D} (h:PE X e (T m)):PI X tg e (TIt (mSeq m)):=PIimp (qca h) λσ H R hw=>by
 obtain ⟨ι,S,ρ,er,st,p⟩:=hw
 refine ⟨ι,S,ρ,er,st,?_⟩
 dsimp only [mSeq] at p
 cases z:m ρ S with
 | no=>rw [z] at p;exact p
 | err=>rw [z] at p;exact p
 | ok d S1 =>
  rw [z,Res.bind_ok] at p
  intro v ι1 H1 s1 st1 hv
  cases d with
  | tup l =>
   obtain ⟨a,xs,rfl,hn,ha,dl⟩:=hv
   exact .inr ⟨a,rfl,⟨xs,.inl (.inl ha)⟩,p ι1 H1 _ s1 st1 (qeD hn ha dl)⟩
  | lst l =>
   obtain ⟨a,xs,rfl,hn,ha,dl⟩:=hv
   exact .inl ⟨a,rfl,⟨xs,.inl ha⟩,p ι1 H1 _ s1 st1 (qeC hn ha dl)⟩
  | _=>exact p.elim
theorem qeE {iter:Expr} {body:List Stmt} {mi:En→Sr→Res (List D × (Sr→Prop))} {g:D→En→Sr→Res En} {mb:En→Sr→Res Fl} (hp:PassesOwn (model X.prog X.w) X.A X.env X.xe) (hc:X.calm=true) (hi:PI X tg iter (TIg mi)) (hg:PG X tg (TGt g)) (hb:PSs X body (TSm mb))
  (hs:∀ x,foldedSetIterable iter X.env x=pure x) :
  PS X (.For tg iter body [] pos) (TSm λρ S=>(mi ρ S).bind λp S1=>endG p.2 (forLoop (λd ρ S=>(grd p.2 S (g d ρ S)).bind λρ1 S1=>mb ρ1 S1) p.1 ρ S1)):=PSimp (qic hp hc hi hg hb hs) λD σ H hw=>by
 obtain ⟨ι,S,ρ,er,st,p⟩:=hw
 refine ⟨ι,S,ρ,er,st,?_⟩
 dsimp only at p
 cases z:mi ρ S with
 | no=>rw [z] at p;exact p
 | err=>rw [z] at p;exact p
 | ok dg S1 =>
  obtain ⟨ds,gd⟩:=dg
  rw [z,Res.bind_ok] at p
  dsimp only at p
  intro ι1 H1 J s1 st1 ok1
  refine ⟨λi m σ H=>m=ds.length-i∧i≤ds.length∧∃ ι S ρ,Stp ι1 H1 ι H∧EnR ι H ρ σ∧Sto ι H S∧PsF (endG gd (forLoop (λd ρ S=>(grd gd S (g d ρ S)).bind λρ1 S1=>mb ρ1 S1) (ds.drop i) ρ S)) ι H D,
   ⟨_,rfl,vQ _,ι1,S1,ρ,Stp.refl _ _,er.mono s1,st1,by simpa using PsF.from p s1⟩,?_⟩
  rintro i m σ H ⟨rfl,hi,ι,S,ρ,s2,er2,st2,p2⟩
  by_cases hlt:i<ds.length
  ·have hd:ds[i]?=some ds[i]:=wD hlt
   rw [List.drop_eq_getElem_cons hlt] at p2
   have hgd:gd S:=by
    apply Classical.byContradiction
    intro hn
    simp only [forLoop,zT hn,Res.bind_no,endG] at p2
    exact p2
   obtain ⟨go,yl⟩:=ok1.go i _ ι H S s2 st2 hgd hd
   refine .inr ⟨go,λσ' H'=>∃ ι S ρ,Stp ι1 H1 ι H'∧EnR ι H' ρ σ'∧Sto ι H' S∧PsF (endG gd (forLoop (λd ρ S=>(grd gd S (g d ρ S)).bind λρ1 S1=>mb ρ1 S1) (ds.drop (i+1)) ρ S)) ι H' D,λσ' H' h'=>⟨_,by omega,rfl,hlt,h'⟩,λx H3 hy=>?_⟩
   obtain ⟨s3,kd3⟩:=yl x H3 hy
   obtain ⟨k3,d3⟩:=kd3 S st2
   refine ⟨ι,S,ρ,ds[i],er2.mono s3,k3,d3,?_⟩
   have p3:=PsF.from p2 s3
   simp only [forLoop,qV hgd] at p3
   cases z2:g ds[i] ρ S with
   | no=>simp only [z2,endG,Res.bind_no] at p3;exact p3
   | err=>simp only [z2,endG,Res.bind_err] at p3;exact p3
   | ok ρ4 S4 =>
    rw [z2,Res.bind_ok] at p3
    intro σ4 ι4 H4 s4 st4 er4
    refine ⟨ι4,S4,ρ4,er4,st4,?_⟩
    have p4:=PsF.from p3 s4
    cases z3:mb ρ4 S4 with
    | no=>simp only [z3,endG,Res.bind_no] at p4;exact p4
    | err=>simp only [z3,endG,Res.bind_err] at p4;exact p4
    | ok f S5 =>
     rw [z3,Res.bind_ok] at p4
     intro ι5 H5 s5 st5
     have tot:=((s2.trans s3).trans s4).trans s5
     cases f with
     | nx ρ5=>exact λσ5 er5=>⟨ι5,S5,ρ5,tot,er5,st5,PsF.from p4 s5⟩
     | ct ρ5=>exact λσ5 er5=>⟨ι5,S5,ρ5,tot,er5,st5,PsF.from p4 s5⟩
     | bk ρ5 =>
      by_cases hg5:gd S5
      ·simp only [endG,Res.bind_ok,qV hg5] at p4
       exact λσ5 er5=>p4 ι5 H5 s5 st5 σ5 er5
      ·simp only [endG,Res.bind_ok,zT hg5] at p4
       exact p4.elim
     | rt d=>exact λv hv=>p4 ι5 H5 s5 st5 v hv
  ·have e:i=ds.length:=by omega
   subst e
   rw [List.drop_of_length_le (wF _)] at p2
   have hgd:gd S:=by
    apply Classical.byContradiction
    intro hn
    simp only [forLoop,Res.bind_ok,endG,zT hn] at p2
    exact p2
   simp only [forLoop,Res.bind_ok,endG,qV hgd] at p2
   refine .inl ⟨ok1.stop ι H S s2 st2 hgd,?_⟩
   exact p2 ι H (Stp.refl _ _) st2 σ er2
theorem pi_g {iter:Expr} {mi:En→Sr→Res (List D)} (h:PI X tg iter (TIt mi)):PI X tg iter (TIg λρ S=>(mi ρ S).bind λds S1=>.ok (ds,λ_=>True) S1):=PIimp h λσ H R hw=>by
 obtain ⟨ι,S,ρ,er,st,p⟩:=hw
 refine ⟨ι,S,ρ,er,st,?_⟩
 dsimp only at p
 cases z:mi ρ S with
 | no=>rw [z] at p;exact p
 | err=>rw [z] at p;exact p
 | ok ds S1 =>
  rw [z,Res.bind_ok] at p
  exact λι' H' J s1 st1 ok=>p ι' H' J s1 st1 ok.g
theorem qcb {α:Type} (S:Sr) (r:Res α):grd (λ_=>True) S r=r:=qV (gd:=λ_=>True) trivial r
theorem qgQ (r:Res Fl):endG (λ_=>True) r=r:=by
 cases r with
 | ok f S=>cases f <;> simp only [endG,Res.bind_ok,qcb]
 | err=>rfl
 | no=>rfl
theorem qj9 {iter:Expr} {body:List Stmt} {mi:En→Sr→Res (List D)} {g:D→En→Sr→Res En} {mb:En→Sr→Res Fl} (hp:PassesOwn (model X.prog X.w) X.A X.env X.xe) (hc:X.calm=true) (hi:PI X tg iter (TIt mi)) (hg:PG X tg (TGt g)) (hb:PSs X body (TSm mb))
  (hs:∀ x,foldedSetIterable iter X.env x=pure x) :
  PS X (.For tg iter body [] pos) (TSm λρ S=>(mi ρ S).bind λds S1=>forLoop (λd ρ S=>(g d ρ S).bind λρ1 S1=>mb ρ1 S1) ds ρ S1):=by
 have h:=qeE (pos:=pos) hp hc (pi_g hi) hg hb hs
 have e:(λ(ρ:En) (S:Sr)=>((mi ρ S).bind λds S1=>.ok (ds,λ_=>True) S1:Res (List D × (Sr→Prop))).bind λp S1=>endG p.2 (forLoop (λd ρ S=>(grd p.2 S (g d ρ S)).bind λρ1 S1=>mb ρ1 S1) p.1 ρ S1))=λρ S=>(mi ρ S).bind λds S1=>forLoop (λd ρ S=>(g d ρ S).bind λρ1 S1=>mb ρ1 S1) ds ρ S1:=by
  funext ρ S
  cases mi ρ S with
  | ok ds S1 =>
   show endG (λ_=>True) (forLoop (λd ρ S=>(grd (λ_=>True) S (g d ρ S)).bind λρ1 S1=>mb ρ1 S1) ds ρ S1)=_
   rw [qgQ]
   simp only [qcb]
  | err=>rfl
  | no=>rfl
 rw [← e];exact h
end
end R
namespace R
open PySem PySem.Spec L2 SeqAt
open PyProof.Rows hiding St
noncomputable def compCx (X:Cx) (sc:Scope) (cl:List (Str × Addr)) (C:Addr) (N':List Str) (fp:List Addr) (s:Shared) (H:Hp):Cx :=
 { X with N:=N',s₀:=s,H₀:=H,env:=compEnvC sc cl C X.env,outer:=X.stack,ex:=fp,fn:=λ_=>false,pn:=[],xe:=λ_ _=>False }
structure Clos (X:Cx) (sc:Scope) (cl:List (Str × Addr)):Prop where
 eq:closureFor sc X.env=pure cl
 sub:∀ x c,cl.lookup x=some c→X.env.cells.lookup x=some c
 all:∀ x,sc.names.lookup x=some .free→∃ c,cl.lookup x=some c
theorem qaz {env:Env}:∀ (names:List (Str × NameKind)) (acc:List (Str × Addr)),(∀ x∈names,x.2=.free→∃ c,env.cells.lookup x.1=some c) →
  ∃ cl,(forIn names acc λ(p:Str × NameKind) (cs:List (Str × Addr))=>(if p.2 == NameKind.free then (do let a ← cellOf env p.1;pure (ForInStep.yield ((p.1,a)::cs))) else pure (ForInStep.yield cs):Sem (ForInStep (List (Str × Addr)))))=pure cl ∧
   (∀ x c,cl.lookup x=some c→env.cells.lookup x=some c∨acc.lookup x=some c)∧(∀ x c,acc.lookup x=some c→(∃ c',cl.lookup x=some c'))∧(∀ x∈names,x.2=.free→∃ c,cl.lookup x.1=some c)
 | [],acc,_=>⟨acc,rfl,λx c h=>.inr h,λx c h=>⟨c,h⟩,λx h=>by cases h⟩
 | (n,k)::r,acc,h=>by
  by_cases hk:k=.free
  ·subst hk
   obtain ⟨c,hc⟩:=h (n,.free) wJ rfl
   obtain ⟨cl,e,i1,i2,i3⟩:=qaz r ((n,c)::acc) λx hx=>h x (wM _ hx)
   have e1:cellOf env n=pure c:=by unfold cellOf;rw [hc]
   refine ⟨cl,?_,λx c' hx=>?_,λx c' hx=>?_,λx hx hf=>?_⟩
   ·rw [List.forIn_cons]
    simp only [beq_self_eq_true,if_true,e1,pure_bind]
    exact e
   ·rcases i1 x c' hx with z | z
    ·exact .inl z
    ·rw [vR] at z
     cases q:x == n with
     | true=>rw [q] at z;cases z;rw [beq_iff_eq.mp q];exact .inl hc
     | false=>rw [q] at z;exact .inr z
   ·cases q:x == n with
    | true=>exact i2 x c (by rw [vR,q])
    | false=>exact i2 x c' (by rw [vR,q];exact hx)
   ·rcases wZ.mp hx with z | z
    ·subst z;exact i2 n c (by simp [vR])
    ·exact i3 x z hf
  ·have hb:(k == NameKind.free)=false:=by simpa using hk
   obtain ⟨cl,e,i1,i2,i3⟩:=qaz r acc λx hx=>h x (wM _ hx)
   refine ⟨cl,?_,i1,i2,λx hx hf=>?_⟩
   ·rw [List.forIn_cons]
    simp only [hb,vP,if_false,pure_bind]
    exact e
   ·rcases wZ.mp hx with z | z
    ·subst z;exact absurd hf hk
    ·exact i3 x z hf
theorem qaA {X:Cx} {sc:Scope} (h:∀ x∈sc.names,x.2=.free→∃ c,X.env.cells.lookup x.1=some c):∃ cl,Clos X sc cl:=by
 obtain ⟨cl,e,i1,i2,i3⟩:=qaz (env:=X.env) sc.names [] h
 refine ⟨cl,⟨?_,λx c hx=>?_,λx hx=>?_⟩⟩
 ·unfold closureFor
  show (forIn sc.names [] _ >>= λr=>pure r)=_
  rw [bind_pure]
  exact e
 ·rcases i1 x c hx with z | z
  ·exact z
  ·cases z
 ·exact i3 (x,.free) (vJ hx) rfl
theorem zr {env:Env}:∀ {names:List (Str × NameKind)} {x:Str},(names.map λ(n,k)=>if (k == NameKind.free&&env.scope.kind == .function&&env.kindOf n == some .cell) then (n,NameKind.cell) else (n,k)).lookup x =
  (names.lookup x).map λk=>if (k == NameKind.free&&env.scope.kind == .function&&env.kindOf x == some .cell) then NameKind.cell else k
 | [],_=>rfl
 | (n,k)::r,x=>by
  show List.lookup x ((if (k == NameKind.free&&env.scope.kind == .function&&env.kindOf n == some .cell)=true then (n,NameKind.cell) else (n,k))::_)=_
  have ih:=@zr env r x
  cases hx:x == n with
  | true =>
   have hxn:=beq_iff_eq.mp hx
   subst hxn
   by_cases hc:(k == NameKind.free&&env.scope.kind == .function&&env.kindOf x == some .cell)=true
   ·rw [wL hc];simp only [vR,hx,wa,wL hc]
   ·rw [wN hc];simp only [vR,hx,wa,wN hc]
  | false =>
   by_cases hc:(k == NameKind.free&&env.scope.kind == .function&&env.kindOf n == some .cell)=true
   ·rw [wL hc];simp only [vR,hx];exact ih
   ·rw [wN hc];simp only [vR,hx];exact ih
section
variable {X:Cx} {pos:Pos}
theorem qdG {sc:Scope} {cl:List (Str × Addr)} {N':List Str} {fp:List Addr} {pins:List (Addr × Obj)} {σ:St} {H:Hp} {s:Shared} (I:Inv X pins σ H s) (hk:sc.kind=.function) (hcell:∀ y∈sc.names,y.2≠.cell) (CL:Clos X sc cl)
  (hf:∀ b∈fp,FpOk X pins H b) (ho:∀ b∈fp,b<s.heap.objs.size):(compCx X sc cl s.heap.objs.size N' fp s H).Ok where
 mod:=I.ok.mod
 kind:=hk
 glob:=I.ok.glob
 blt:=I.ok.blt
 above:=wF _
 inj:=λx y c h1 h2=>I.ok.inj x y c (CL.sub x c h1) (CL.sub y c h2)
 has:=λx hx=>by
  have hx:(relabel sc X.env).names.lookup x=some .cell∨(relabel sc X.env).names.lookup x=some .free:=hx
  have e:(relabel sc X.env).names.lookup x=_:=zr (env:=X.env) (names:=sc.names) (x:=x)
  rw [e] at hx
  cases z:sc.names.lookup x with
  | none=>rw [z] at hx;simp at hx
  | some k =>
   cases k with
   | free=>exact CL.all x z
   | cell=>exact absurd rfl (hcell _ (vJ z))
   | _=>rw [z] at hx;simp at hx
 cab:=λx c h _=>by cases h
 hd:=I.ok.hd
 frames:=I.ok.frames
 stk:=.inl rfl
 exf:=λb hb=>⟨w6 (ho b hb),λx c h=>(hf b hb).2.2.2.2.1 x c (CL.sub x c h)⟩
 bs:=I.bs
 bsz:=wv I.ok.bsz I.sz
 noex:=λb o e hb=>by
  rcases (hf b hb).2.2.2.1 with z | z
  ·exact I.ok.noex b o e z
  ·exact absurd (wX (wI e) (wv I.ok.bsz z)) (vB _)
 exfs:=λb hb hs=>by
  rcases wZ.mp (I.stkSub b hs) with z | z
  ·exact (hf b hb).2.1 z
  ·exact (hf b hb).2.2.1 z
 funs:=I.stack
 frf:=I.stkFree
 tab:=λc T z=>let ⟨ps,e⟩:=I.ok.tab c T z;let ⟨m,e'⟩:=I.base.tbls _ _ e;⟨_,e'⟩
structure Frs (X:Cx) (sc:Scope) (fr:List Nat) (xs ts:List Str):Prop where
 len:fr.length=xs.length
 at':∀ (i j:Nat) (x:Str),fr[i]?=some j→xs[i]?=some x→X.N[j]?=some x
 kd:∀ x∈xs,sc.names.lookup x=some .free∧(X.env.kindOf x=some .cell∨X.env.kindOf x=some .free)
 tl:∀ x∈ts,sc.names.lookup x=some .local
 nd:(xs++ts).Nodup
noncomputable def frS (σ:St) (fr:List Nat) (nt:Nat):St:=fr.map (λi=>(σ[i]?).getD none)++List.replicate nt none
theorem qcG {ι:List Addr} {H:Hp} {ρ:En} {σ:St} (e:EnR ι H ρ σ) (fr:List Nat) (nt:Nat):EnR ι H (frE ρ fr nt) (frS σ fr nt):=by
 refine ⟨by simp [frE,frS],λi d h=>?_⟩
 unfold frE at h
 unfold frS
 by_cases hi:i<fr.length
 ·rw [wW (by simpa using hi),w5,wD hi] at h
  rw [wW (by simpa using hi),w5,wD hi]
  simp only [wa,Option.some.injEq] at h ⊢
  cases z:ρ[fr[i]]? with
  | none=>rw [z] at h;cases h
  | some o =>
   rw [z] at h
   cases h
   obtain ⟨v,h1,h2⟩:=e.get _ d z
   exact ⟨v,by rw [h1];rfl,h2⟩
 ·rw [wS (by simpa using hi),List.getElem?_replicate] at h
  split at h <;> cases h
theorem ju {sc:Scope} {cl:List (Str × Addr)} {fp:List Addr} {pins:List (Addr × Obj)} {σ:St} {H:Hp} {s:Shared} {fr:List Nat} {xs ts:List Str} (I:Inv X pins σ H s) (hk:sc.kind=.function) (hcell:∀ y∈sc.names,y.2≠.cell) (CL:Clos X sc cl)
  (hf:∀ b∈fp,FpOk X pins H b) (ho:∀ b∈fp,b<s.heap.objs.size) (F:Frs X sc fr xs ts) {h':Heap} {m:Str→Option Value} {tk:Nat} (hn:h'.Ns s.heap.objs.size m) (hkeep:∀ b o,s.heap.get? b=some o→h'.get? b=some o) :
  Inv (compCx X sc cl s.heap.objs.size (xs++ts) fp s H) [] (frS σ fr ts.length) H { s with heap:=h',toks:=tk }:=by
 refine ⟨qdG I hk hcell CL hf ho,rfl,GK.refl I.bare.bare,Un.kept hkeep,⟨m,hn,λi x v h1 h2 h3=>?_⟩,λx c e=>?_,I.hok.fresh (wF _),λx c e=>I.freeC x c (CL.sub x c e),λp hp=>absurd (show p∈([]:List (Addr × Obj)) from hp) (by simp),I.hok.kept hkeep,?_⟩
 ·have h1:(xs++ts)[i]?=some x:=h1
  have h2:(frS σ fr ts.length)[i]?=some (some v):=h2
  unfold frS at h2
  by_cases hi:i<fr.length
  ·rw [wW (by simpa using hi),w5,wD hi] at h2
   rw [wW (by rw [← F.len];exact hi)] at h1
   simp only [wa,Option.some.injEq] at h2
   have hN:=F.at' i fr[i] x (wD hi) h1
   have hσ:σ[fr[i]]?=some (some v):=by
    cases z:σ[fr[i]]? with
    | none=>rw [z] at h2;cases h2
    | some o=>rw [z] at h2;simp at h2;rw [h2]
   obtain ⟨kf,ko⟩:=F.kd x (wn h1)
   obtain ⟨m0,hn0,hl0⟩:=I.loc
   have hvis:Vis X.env.scope x:=by
    rcases ko with z | z
    ·exact .inr (.inl z)
    ·exact .inr (.inr z)
   obtain ⟨u,r,l⟩:=hl0 fr[i] x v hN hσ hvis
   refine ⟨u,r,.inr ?_⟩
   have hc:∃ c,X.env.cells.lookup x=some c∧s.heap.IsCell c (some u):=by
    rcases l with ⟨z,_⟩ | ⟨_,c,e1,e2⟩
    ·rcases ko with q | q <;> (rw [z] at q;cases q)
    ·exact ⟨c,e1,e2⟩
   obtain ⟨c,e1,o,e2,e3⟩:=hc
   obtain ⟨c',e4⟩:=CL.all x kf
   have e5:=CL.sub x c' e4
   rw [e1] at e5;cases e5
   refine ⟨?_,c,e4,o,hkeep _ _ e2,e3⟩
   have e:(relabel sc X.env).names.lookup x=_:=zr (env:=X.env) (names:=sc.names) (x:=x)
   show (relabel sc X.env).names.lookup x=some .cell∨(relabel sc X.env).names.lookup x=some .free
   rw [e,kf]
   simp only [wa]
   split
   ·exact .inl rfl
   ·exact .inr rfl
  ·rw [wS (by simpa using hi),List.getElem?_replicate] at h2
   split at h2 <;> cases h2
 ·obtain ⟨v,o,e1,e2⟩:=I.cell x c (CL.sub x c e)
  exact ⟨v,o,hkeep _ _ e1,e2⟩
 ·show (frS σ fr ts.length).length=(xs++ts).length
  simp [frS,F.len]
theorem jv {sc:Scope} {cl:List (Str × Addr)} {N':List Str} {fp:List Addr} {pins:List (Addr × Obj)} {σ σ':St} {H H':Hp} {s s':Shared} {h':Heap} (I:Inv X pins σ H s) (hf:∀ b∈fp,FpOk X pins H b)
  (J:Inv (compCx X sc cl s.heap.objs.size N' fp s H) [] σ' H' s') (hs:Heap.SameBut s.heap.objs.size s'.heap h'):Inv X pins σ H' { s' with heap:=h' }:=by
 have hC:H' s.heap.objs.size=none:=J.free
 have u:=J.base
 have kb:∀ b o,b≠s.heap.objs.size→s'.heap.get? b=some o→h'.get? b=some o:=λb o hb e=>hs.extBut b o hb e
 have ne:∀ b o,s.heap.get? b=some o→b≠s.heap.objs.size:=λb o e=>w6 (wI e)
 have un:Un (frs X.stack) fp H H' s.heap h':=⟨λb o e n hb hx=>kb b o (ne b o e) (u.keep b o e n hb hx),λb o e n hb hx=>by
   obtain ⟨sl,q⟩:=u.slot b o e n hb hx
   exact ⟨sl,kb b _ (ne b o e) q⟩,λb o e n hx=>u.free b o e n hx,λb o e hx=>by
   obtain ⟨o',q⟩:=u.there b o e hx
   exact ⟨o',kb b o' (ne b o e) q⟩,u.tups,u.frzs,u.tbls⟩
 have hok:HOk X.prog X.w H' h':=λb o e=>(J.hok b o e).stay (λc w hc q=>kb c w (λz=>by
   subst z
   rcases hc with q' | q'
   ·rw [← q',hC] at e;cases e
   ·rw [hC] at q';cases q') q) (λ_ q=>q) λ_ _ q=>q
 exact I.call' (s':={ s' with heap:=h' }) (ch:=fp) J.os un hok J.bare λb hb=>⟨(hf b hb).2.2.2.1,(hf b hb).2.1,(hf b hb).2.2.2.2.1,(hf b hb).2.2.2.2.2⟩
end
end R
namespace R
open PySem PySem.Spec L2 SeqAt
open PyProof.Rows hiding St
theorem thnF {α:Type} {t:Sem α} {Q Q':α→Shared→Prop} {M:Model} {A:Around} {E:Value→Shared→Prop} {s:Shared} (h:wpAny M A t Q (λ_ _=>False) s) (hQ:∀ a s,Q a s→Q' a s):wpAny M A t Q' E s:=vC h hQ λ_ _ x=>x.elim
section
variable {X:Cx} {pos:Pos}
noncomputable def PTl (X:Cx) (ifs:List Expr) (t:TT):Prop:=∀ (pins:List (Addr × Obj)) (s:Shared) (σ:St) (H:Hp) (Q:Bool→Hp→Prop),Inv X pins σ H s→t σ H Q →
 wpAny (model X.prog X.w) X.A (forIn ifs true λc r=>(if r=true then do let ok ← isTrue c X.env (eval c X.env);pure (ForInStep.yield ok) else pure (ForInStep.yield r):Sem (ForInStep Bool))) (TP X pins σ Q) X.xe s
theorem qiE:PTl X [] (TB λ_ S=>.ok true S):=λpins s σ H Q I h=>by
 obtain ⟨ι,S,ρ,er,st,p⟩:=h
 exact wC ⟨H,I,p true ι H (Stp.refl _ _) st rfl⟩
theorem qbi {M:Model} {A:Around} {E:Value→Shared→Prop} {s:Shared} {env:Env} {Q:Bool→Shared→Prop}:∀ (ifs:List Expr),Q false s→wpAny M A (forIn ifs false λc r=>(if r=true then do let ok ← isTrue c env (eval c env);pure (ForInStep.yield ok) else pure (ForInStep.yield r):Sem (ForInStep Bool))) Q E s
 | [],h=>wC h
 | c::r,h=>by
  rw [List.forIn_cons]
  refine wA ?_
  rw [wN (by decide)]
  exact wC (qbi r h)
theorem qgR {c:Expr} {ifs:List Expr} {m ms:En→Sr→Res Bool} (h1:PT X c (TB m)) (h2:PTl X ifs (TB ms)):PTl X (c::ifs) (TB λρ S=>(m ρ S).bind λt S1=>if t then ms ρ S1 else .ok false S1):=λpins s σ H Q I hw=>by
 rw [List.forIn_cons]
 refine wA ?_
 rw [wL rfl]
 obtain ⟨ι,S,ρ,er,st,p⟩:=hw
 refine wA (thn (h1 pins s σ H _ I (Pst.tg (ρ:=ρ) p er st (K:=λb H1=>if b=true then TB ms σ H1 Q else Q false H1) λa S1 ι1 H1 b s1 er1 st1 ra p1=>?_)) λb s1 ⟨H1,I1,q1⟩=>?_)
 ·cases (show a=b from ra)
  cases a with
  | true=>rw [wL rfl];exact ⟨ι1,S1,ρ,er1,st1,p1⟩
  | false=>rw [wN (by decide)];exact p1 false ι1 H1 (Stp.refl _ _) st1 rfl
 ·refine wC ?_
  cases b with
  | true=>rw [wL rfl] at q1;exact h2 pins s1 σ H1 Q I1 q1
  | false=>rw [wN (by decide)] at q1;exact qbi ifs ⟨H1,I1,q1⟩
theorem qgS {tg elt iter:Expr} {ifs:List Expr} {sc:Scope} {J:It} {fp:List Addr} {it Dl:Addr} {tn:Nat→Heap→Prop} {g:D→En→Sr→Res En} {mt:En→Sr→Res Bool} {me:En→Sr→Res D} {n:Nat} {ds:List D} {gd:Sr→Prop} {R:Result→Shared→Prop}
  (hxe:X.xe=λ_ _=>False) (hc:X.calm=true) (hex:X.ex=fp) (hpn:X.pn=[]) (T':Turn X.prog X.w X.K tg J fp it tn) (hg:PG X tg (TGt g)) (ht:PTl X ifs (TB mt)) (he:PE X elt (T me)) (hgg:∀ d ρ S,¬ gd S→g d ρ S=.no)
  {ι:List Addr} {H:Hp} {S:Sr} {ρ ρf:En} {Sf:Sr} {σ:St} {s:Shared} (hD:ι[n]?=some Dl) (ok:ItG ι H J ds gd) (I:Inv X [] σ H s) (h0:tn 0 s.heap) (hfp:∀ b∈fp,H b=none) (er:EnR ι H ρ σ) (st:Sto ι H S) (e:lcLoop n g mt me ds ρ S=.ok ρf Sf) (hSf:gd Sf)
  (fin:∀ (σ':St) (H':Hp) (ι':List Addr) (s':Shared),Inv X [] σ' H' s'→Stp ι H ι' H'→Sto ι' H' Sf→R (.ok .next) s') :
  codeAny (model X.prog X.w) X.A (.compLoop (.ListComp elt [⟨tg,iter,ifs,0⟩] sc pos) 0 (.ref it) (.ref Dl) X.env) R s:=by
 refine codeAny_loop rfl (λk s'=>∃ (i:Nat) (σ':St) (H':Hp) (ι':List Addr) (S':Sr) (ρ':En),k=ds.length-i∧i≤ds.length∧Inv X [] σ' H' s'∧tn i s'.heap∧(∀ b∈fp,H' b=none)∧Stp ι H ι' H'∧EnR ι' H' ρ' σ'∧Sto ι' H' S'∧lcLoop n g mt me (ds.drop i) ρ' S'=.ok ρf Sf) ?_
  ds.length ⟨0,σ,H,ι,S,ρ,by simp,vQ _,I,h0,hfp,Stp.refl _ _,er,st,by simpa using e⟩
 rintro k s1 ⟨i,σ1,H1,ι1,S1,ρ1,rfl,hi,I1,t1,f1,p1,er1,st1,e1⟩
 have stat:∀ {H':Hp},(∀ b∈fp,H' b=none)→∀ b∈fp,FpOk X [] H' b:=λhn b hb=>by
  have hb':b∈X.ex:=by rw [hex];exact hb
  exact ⟨hn b hb,(I.ok.exf b hb').1,λz=>I.ok.exfs b hb' z,.inl hb',(I.ok.exf b hb').2,λp hp=>by rw [hpn] at hp;exact absurd hp (by simp)⟩
 show wpAny _ X.A ((compTurn (.ListComp elt [⟨tg,iter,ifs,0⟩] sc pos) 0 (.ref it) (.ref Dl) X.env).onRaise (λx=>do noteFrame x X.env;theTreesLotGoes x)) _ _ s1
 refine wpAny_noted ?_
 rw [compTurn_list]
 refine wA (vL (wA ?_))
 by_cases hlt:i<ds.length
 ·have hd:ds[i]?=some ds[i]:=wD hlt
  rw [List.drop_eq_getElem_cons hlt] at e1
  have hgd:gd S1:=by
   apply Classical.byContradiction
   intro hn
   simp only [lcLoop,hgg _ _ _ hn,Res.bind_no] at e1
   cases e1
  obtain ⟨go,yl⟩:=ok.go i _ ι1 H1 S1 p1 st1 hgd hd
  refine thnF (T'.item X rfl rfl rfl hc i [] s1 σ1 H1 _ I1 (stat f1) t1 go) λr s2 ⟨u,hr,h2⟩=>?_
  subst hr
  refine wA (thnF h2 λ_ s3 ⟨x,H3,I3,r3,y3,t3,f3⟩=>?_)
  obtain ⟨q3,kd3⟩:=yl x H3 y3
  obtain ⟨k3,d3⟩:=kd3 S1 st1
  have I3':=I3.pinned (stat f3) (T'.obj _ _ t3)
  simp only [lcLoop] at e1
  cases z1:g ds[i] ρ1 S1 with
  | no=>rw [z1] at e1;cases e1
  | err=>rw [z1] at e1;cases e1
  | ok ρ2 S2 =>
   rw [z1,Res.bind_ok] at e1
   refine wA (vC (hg _ s3 σ1 H3 x u (λσ4 H4=>∃ ι4,Stp ι1 H3 ι4 H4∧Sto ι4 H4 S2∧EnR ι4 H4 ρ2 σ4) I3' r3 ⟨ι1,S1,ρ1,ds[i],er1.mono q3,k3,d3,?_⟩) (λ_ s4 ⟨σ4,H4,I4,ι4,q4,st4,er4⟩=>?_) λ_ _ z=>by rw [hxe] at z;exact z.elim)
   ·rw [z1];exact λσ4 ι4 H4 q4 st4 er4=>⟨ι4,q4,st4,er4⟩
   cases z2:mt ρ2 S2 with
   | no=>rw [z2] at e1;cases e1
   | err=>rw [z2] at e1;cases e1
   | ok b S3 =>
    rw [z2,Res.bind_ok] at e1
    refine wA (vC (ht _ s4 σ4 H4 (λb' H5=>b'=b∧∃ ι5,Stp ι4 H4 ι5 H5∧Sto ι5 H5 S3) I4 ⟨ι4,S2,ρ2,er4,st4,?_⟩) (λb' s5 ⟨H5,I5,eb,ι5,q5,st5⟩=>?_) λ_ _ z=>by rw [hxe] at z;exact z.elim)
    ·rw [z2];exact λb' ι5 H5 q5 st5 eb=>⟨(show b=b' from eb).symm,ι5,q5,st5⟩
    subst eb
    have again:∀ {σ7:St} {H7:Hp} {s7:Shared} {ι7:List Addr} {S7:Sr},Inv X ([]++pinsAt fp s3.heap) σ7 H7 s7→Stp ι1 H1 ι7 H7→EnR ι7 H7 ρ2 σ7→Sto ι7 H7 S7→lcLoop n g mt me (ds.drop (i+1)) ρ2 S7=.ok ρf Sf →
      ∃ m,m<ds.length-i∧∃ (i:Nat) (σ':St) (H':Hp) (ι':List Addr) (S':Sr) (ρ':En),m=ds.length-i∧i≤ds.length∧Inv X [] σ' H' s7∧tn i s7.heap∧(∀ b∈fp,H' b=none)∧Stp ι H ι' H'∧EnR ι' H' ρ' σ'∧Sto ι' H' S'∧lcLoop n g mt me (ds.drop i) ρ' S'=.ok ρf Sf:=by
     intro σ7 H7 s7 ι7 S7 I7 q7 er7 st7 e7
     refine ⟨ds.length-(i+1),by omega,i+1,σ7,H7,ι7,S7,ρ2,rfl,hlt,I7.unpinned,T'.keep _ _ _ t3 λb hb o eo=>(I7.pin (b,o) (wR _ (wR _ (qX hb eo)))).1,λb hb=>?_,p1.trans q7,er7,st7,e7⟩
     obtain ⟨o,eo,_⟩:=T'.obj _ _ t3 b hb
     exact (I7.pin (b,o) (wR _ (wR _ (qX hb eo)))).2.1
    cases b' with
    | false =>
     rw [wN (by decide)] at e1
     exact wC ⟨rfl,again I5 ((q3.trans q4).trans q5) (er4.mono q5) st5 e1⟩
    | true =>
     rw [wL rfl] at e1
     cases z3:me ρ2 S3 with
     | no=>rw [z3] at e1;cases e1
     | err=>rw [z3] at e1;cases e1
     | ok v S4 =>
      rw [z3,Res.bind_ok] at e1
      refine wA (wA (vC (he _ s5 σ4 H5 (λy H6=>∃ ι6,Stp ι5 H5 ι6 H6∧Sto ι6 H6 S4∧Den ι6 H6 v y) I5 ⟨ι5,S3,ρ2,er4.mono q5,st5,?_⟩) (λy' s6 ⟨y,H6,I6,ry,ι6,q6,st6,dv⟩=>?_) λ_ _ z=>by rw [hxe] at z;exact z.elim))
      ·rw [z3];exact λy ι6 H6 q6 st6 dv=>⟨ι6,q6,st6,dv⟩
      cases z4:appD S4 (.ref n) v with
      | no=>rw [z4] at e1;cases e1
      | err=>rw [z4] at e1;cases e1
      | ok w S5 =>
       rw [z4,Res.bind_ok] at e1
       have tot:=((q3.trans q4).trans q5).trans q6
       have hD6:ι6[n]?=some Dl:=(p1.trans tot).get hD
       refine wA (vC (j9 (X:=X) _ s6 σ4 H6 (.ref Dl) [y] (.ref Dl) [y'] (λ_ H7=>∃ ι7,Stp ι6 H6 ι7 H7∧Sto ι7 H7 S5) I6 rfl (.cons ry .nil) (qhz (x:=.ref n) st6 ⟨Dl,rfl,hD6⟩ dv ?_)) (λ_ s7 ⟨_,H7,I7,_,ι7,q7,st7⟩=>?_) λ_ _ z=>by rw [hxe] at z;exact z.elim)
       ·rw [z4];exact λb ι' H' s' st' _=>⟨ι',s',st'⟩
       ·exact wC (wC ⟨rfl,again I7 (tot.trans q7) ((er4.mono (q5.trans q6)).mono q7) st7 e1⟩)
 ·have hi':i=ds.length:=by omega
  subst hi'
  rw [List.drop_of_length_le (wF _)] at e1
  cases e1
  refine thnF (T'.done X rfl rfl rfl hc _ [] s1 σ1 H1 _ I1 (stat f1) t1 (ok.stop ι1 H1 _ p1 st1 hSf)) λr s2 ⟨hr,I2⟩=>?_
  subst hr
  exact wC (fin σ1 H1 ι1 s2 I2 p1 st1)
structure Blk (X:Cx) (sc:Scope) (N':List Str) (tg:Expr) (ifs:List Expr) (elt:Expr) (g:D→En→Sr→Res En) (mt:En→Sr→Res Bool) (me:En→Sr→Res D):Prop where
 tg:∀ cl C fp s H,PG (compCx X sc cl C N' fp s H) tg (TGt g)
 ifs:∀ cl C fp s H,PTl (compCx X sc cl C N' fp s H) ifs (TB mt)
 elt:∀ cl C fp s H,PE (compCx X sc cl C N' fp s H) elt (T me)
structure CSc (X:Cx) (sc:Scope) (fr:List Nat) (xs ts:List Str):Prop where
 kind:sc.kind=.function
 nocell:∀ y∈sc.names,y.2≠.cell
 names:∀ x∈sc.names,x.2=.local→sc.names.lookup x.1=some .local
 frees:∀ x∈sc.names,x.2=.free→X.env.kindOf x.1=some .cell∨X.env.kindOf x.1=some .free
 frs:Frs X sc fr xs ts
noncomputable def mLc (m:Bool) (fr:List Nat) (nt:Nat) (mi:En→Sr→Res (List D)) (g:D→En→Sr→Res En) (mt:En→Sr→Res Bool) (me:En→Sr→Res D):En→Sr→Res D:=λρ S=>(mi ρ S).bind λds S1 =>
 (lcLoop S1.length g mt me ds (frE ρ fr nt) (S1++[.lst []])).bind λ_ S2=>lcEnd m S1.length S2
noncomputable def mLcG (m:Bool) (fr:List Nat) (nt:Nat) (mi:En→Sr→Res (List D × (Sr→Prop))) (g:D→En→Sr→Res En) (mt:En→Sr→Res Bool) (me:En→Sr→Res D):En→Sr→Res D:=λρ S=>(mi ρ S).bind λp S1 =>
 (lcLoop S1.length (λd ρ S=>grd p.2 S (g d ρ S)) mt me p.1 (frE ρ fr nt) (S1++[.lst []])).bind λ_ S2=>grd p.2 S2 (lcEnd m S1.length S2)
theorem qhB {m:Bool} {fr:List Nat} {nt:Nat} {mi:En→Sr→Res (List D)} {g:D→En→Sr→Res En} {mt:En→Sr→Res Bool} {me:En→Sr→Res D}:mLcG m fr nt (λρ S=>(mi ρ S).bind λds S1=>.ok (ds,λ_=>True) S1) g mt me=mLc m fr nt mi g mt me:=by
 funext ρ S
 unfold mLcG mLc
 dsimp only
 cases mi ρ S with
 | ok ds S1 =>
  show ((lcLoop S1.length (λd ρ S=>grd (λ_=>True) S (g d ρ S)) mt me ds (frE ρ fr nt) (S1++[.lst []])).bind λ_ S2=>grd (λ_=>True) S2 (lcEnd m S1.length S2))=_
  simp only [qcb]
 | err=>rfl
 | no=>rfl
theorem qiF {tg:Expr} {g:D→En→Sr→Res En} {gd:Sr→Prop} (h:PG X tg (TGt g)):PG X tg (TGt λd ρ S=>grd gd S (g d ρ S)):=PGimp h λv σ H Q hw=>by
 obtain ⟨ι,S,ρ,d,er,st,hd,p⟩:=hw
 refine ⟨ι,S,ρ,d,er,st,hd,?_⟩
 dsimp only at p
 by_cases hg:gd S
 ·rw [qV hg] at p;exact p
 ·rw [zT hg] at p;exact p.elim
theorem qcH {tg elt iter:Expr} {ifs:List Expr} {sc:Scope} {fr:List Nat} {xs ts:List Str} {mi:En→Sr→Res (List D × (Sr→Prop))} {g:D→En→Sr→Res En} {mt:En→Sr→Res Bool} {me:En→Sr→Res D} {mm:Bool} (hc:X.calm=true)
  (hi:PI X tg iter (TIg mi)) (hs:∀ x,foldedSetIterable iter X.env x=pure x) (C':CSc X sc fr xs ts) (B:Blk X sc (xs++ts) tg ifs elt g mt me)
  {pins:List (Addr × Obj)} {s:Shared} {σ:St} {H:Hp} {Q:VK} {use:Option (Value→Sem Unit)} {Q':Value→Shared→Prop} (I:Inv X pins σ H s) (hw:T (mLcG mm fr ts.length mi g mt me) σ H Q)
  (fin:∀ (D C:Addr) (H':Hp) (s':Shared) (m:Str→Option Value),s'.heap.Ns C m→C≠X.env.locals→(∀ x c,X.env.cells.lookup x=some c→c≠C)→(H' C=none∧X.s₀.heap.objs.size≤C∧∀ p∈X.pn++pins,p.1≠C)→(∀ h',Heap.SameBut C s'.heap h'→Inv X pins σ H' { s' with heap:=h' })→Q (.ref D) H'→compPost (model X.prog X.w) X.A X.xe use Q' (.ref D) C (.ok .next) s') :
  wpAny (model X.prog X.w) X.A (comprehension (.ListComp elt [⟨tg,iter,ifs,0⟩] sc pos) sc X.env (firstIterPos [⟨tg,iter,ifs,0⟩] pos) (newList []) false (eval iter X.env) use) Q' X.xe s:=by
 obtain ⟨ι,S,ρ,er,st,p⟩:=hw
 dsimp only [mLcG] at p
 cases z:mi ρ S with
 | no=>rw [z] at p;exact p.elim
 | err=>rw [z] at p;exact p.elim
 | ok dg S1 =>
 obtain ⟨ds,gd⟩:=dg
 rw [z,Res.bind_ok] at p
 dsimp only at p
 cases z2:lcLoop S1.length (λd ρ S=>grd gd S (g d ρ S)) mt me ds (frE ρ fr ts.length) (S1++[.lst []]) with
 | no=>rw [z2] at p;exact p.elim
 | err=>rw [z2] at p;exact p.elim
 | ok ρf Sf =>
 rw [z2,Res.bind_ok] at p
 have hSf:gd Sf:=by
  apply Classical.byContradiction
  intro hn
  rw [zT hn] at p
  exact p
 rw [qV hSf] at p
 obtain ⟨cl,CL⟩:=qaA (X:=X) (sc:=sc) λx hx hf=>I.ok.has x.1 (C'.frees x hx hf)
 refine wpAny_comprehension_free rfl hs CL.eq C'.kind C'.names ?_
 refine thn (hi pins s σ H (λJ H2=>∃ ι2,Stp ι H ι2 H2∧Sto ι2 H2 S1∧ItG ι2 H2 J ds gd) I ⟨ι,S,ρ,er,st,?_⟩) λxv s1 h1=>thn h1 λitv s2 h2=>?_
 ·rw [z];exact λι' H' J q st' ok=>⟨ι',q,st',ok⟩
 obtain ⟨it,fp,tn,J,H2,e,I2,T',t2,f2,ι2,q2,st2,ok2⟩:=h2
 subst e
 refine wY ?_
 have hfD:H2 s2.heap.objs.size=none:=I2.hok.fresh (wF _)
 have fpl:∀ b∈fp,b<s2.heap.objs.size:=λb hb=>by
  obtain ⟨o,eo,_⟩:=T'.obj _ _ t2 b hb
  exact wI eo
 have I3:Inv X pins σ (upd H2 s2.heap.objs.size (.lst [])) { s2 with heap:=s2.heap.push { cls:=.type "list",dict:=none,data:=.seq ([]:List Value).toArray } } :=
  I2.laid (t':=s2.toks) (λb o e=>wB _ e) (wF _) ⟨vQ _,[],0,.nil,wG _ rfl⟩
 have f3:∀ b∈fp,FpOk X pins (upd H2 s2.heap.objs.size (.lst [])) b:=λb hb=>⟨by rw [qk (w6 (fpl b hb))];exact (f2 b hb).1,(f2 b hb).2⟩
 have g3:=Stp.grow (ι:=ι2) hfD (.lst [])
 have st3:Sto (ι2++[s2.heap.objs.size]) (upd H2 s2.heap.objs.size (.lst [])) (S1++[.lst []]):=st2.grow hfD ⟨⟨ι2.length,by simp,rfl⟩,[],qu,rfl⟩
 have hD3:(ι2++[s2.heap.objs.size])[S1.length]?=some s2.heap.objs.size:=by rw [← st2.len];simp
 generalize hs3:({ s2 with heap:=s2.heap.push { cls:=.type "list",dict:=none,data:=.seq ([]:List Value).toArray } }:Shared)=s3 at I3 ⊢
 have fpl3:∀ b∈fp,b<s3.heap.objs.size:=λb hb=>by
  rw [← hs3]
  show b<(s2.heap.push _).objs.size
  rw [Heap.size_push];exact Nat.lt_succ_of_lt (fpl b hb)
 have t3:tn 0 s3.heap:=T'.keep _ _ _ t2 λb hb o eo=>by rw [← hs3];exact wB _ eo
 refine wpAny_newFunctionEnv C'.nocell (by intro y hy;simp at hy) (λh4 hn4 hs4=>?_) C'.kind
 have keep4:∀ b o,s3.heap.get? b=some o→h4.get? b=some o:=λb o eo=>hs4.extBut b o (w6 (wI eo)) (wB _ eo)
 have I4:=ju (tk:=s3.toks+([]:List (Str × Value)).length) I3 C'.kind C'.nocell CL f3 fpl3 C'.frs hn4 keep4
 have t4:tn 0 h4:=T'.keep _ _ _ t3 λb hb o eo=>keep4 b o eo
 have er3:EnR (ι2++[s2.heap.objs.size]) (upd H2 s2.heap.objs.size (.lst [])) (frE ρ fr ts.length) (frS σ fr ts.length):=(qcG er fr ts.length).mono (q2.trans g3)
 have loop:codeAny (model X.prog X.w) X.A (.compLoop (.ListComp elt [⟨tg,iter,ifs,0⟩] sc pos) 0 (.ref it) (.ref s2.heap.objs.size) (compEnvC sc cl s3.heap.objs.size X.env)) (compPost (model X.prog X.w) X.A X.xe use Q' (.ref s2.heap.objs.size) s3.heap.objs.size) { s3 with heap:=h4,toks:=s3.toks+([]:List (Str × Value)).length }:=by
  refine qgS (X:=compCx X sc cl s3.heap.objs.size (xs++ts) fp s3 (upd H2 s2.heap.objs.size (.lst []))) (pos:=pos) rfl hc rfl rfl T' (qiF (gd:=gd) (B.tg _ _ _ _ _)) (B.ifs _ _ _ _ _) (B.elt _ _ _ _ _) (λd ρ S hn=>zT hn _) hD3 (ok2.mono g3) I4 t4 (λb hb=>(f3 b hb).1) er3 st3 z2 hSf λσ' H' ι' s' J' q' st'=>?_
  obtain ⟨m',hn',_⟩:=J'.loc
  refine fin s2.heap.objs.size s3.heap.objs.size H' s' m' hn' (Nat.ne_of_gt I3.lt) (λx c ec ez=>?_) ⟨J'.free,I3.sz,λq hq ez=>by have:=wI (I3.pin q hq).1;rw [ez] at this;exact absurd this (vB _)⟩ (λh5 hs5=>jv I3 f3 J' hs5) ?_
  ·obtain ⟨v,o,eo,_⟩:=I3.cell x c ec
   rw [ez] at eo
   exact absurd (wI eo) (vB _)
  ·have hDf:ι'[S1.length]?=some s2.heap.objs.size:=q'.get hD3
   unfold lcEnd at p
   cases mm with
   | true =>
    rw [wL rfl] at p
    exact p _ ι' H' ((q2.trans g3).trans q') st' ⟨_,rfl,hDf⟩
   | false =>
    rw [wN (by decide)] at p
    by_cases hl:Sf.length=S1.length+1
    ·rw [wL hl] at p
     split at p
     ·rename_i l hl2
      obtain ⟨⟨n',en',fr'⟩,ys,h1,dl⟩:=st'.obj _ _ _ hDf hl2
      obtain rfl:n'=S1.length:=qR st'.nd en' hDf
      have en:S1.length=ι2.length:=st2.len.symm
      have qq:Stp ι H (ι'.take S1.length) H':=by rw [en];exact q2.trans (g3.trans q').less
      have st'':=st'.less S1.length
      refine p (.ref s2.heap.objs.size) _ H' qq st'' ⟨_,ys,rfl,λhm=>?_,.inl h1,Dens.less l fr' dl⟩
      obtain ⟨j,hj,ej⟩:=List.getElem_of_mem hm
      rw [wq] at hj
      have ej':ι'[j]?=some s2.heap.objs.size:=by
       rw [List.getElem_take] at ej
       rw [wD (by omega),ej]
      have:=qR st'.nd ej' hDf
      omega
     ·exact p.elim
    ·rw [wN hl] at p;exact p.elim
 exact codeAny_compStart_list loop (T'.self _ 0 _ _ _ t4 loop)
theorem qhC {tg elt iter:Expr} {ifs:List Expr} {sc:Scope} {fr:List Nat} {xs ts:List Str} {mi:En→Sr→Res (List D × (Sr→Prop))} {g:D→En→Sr→Res En} {mt:En→Sr→Res Bool} {me:En→Sr→Res D} {mm:Bool} (hc:X.calm=true)
  (hi:PI X tg iter (TIg mi)) (hs:∀ x,foldedSetIterable iter X.env x=pure x) (C':CSc X sc fr xs ts) (B:Blk X sc (xs++ts) tg ifs elt g mt me) :
  PE X (.ListComp elt [⟨tg,iter,ifs,0⟩] sc pos) (T (mLcG mm fr ts.length mi g mt me)):=λpins s σ H Q I hw=>by
 rw [eval_ListComp]
 refine qcH hc hi hs C' B I hw λD C H' s' m hn _ _ _ hI q=>⟨m,hn,λh' hs'=>⟨.ref D,H',hI h' hs',rfl,q⟩⟩
theorem qeF {tg elt iter:Expr} {ifs:List Expr} {sc:Scope} {fr:List Nat} {xs ts:List Str} {mi:En→Sr→Res (List D × (Sr→Prop))} {g:D→En→Sr→Res En} {mt:En→Sr→Res Bool} {me:En→Sr→Res D} {mm:Bool} {i:Nat} {y:Str} {py spos:Pos} (hc:X.calm=true)
  (hi:PI X tg iter (TIg mi)) (hs:∀ x,foldedSetIterable iter X.env x=pure x) (C':CSc X sc fr xs ts) (B:Blk X sc (xs++ts) tg ifs elt g mt me)
  (hN:X.N.Nodup) (hy:X.N[i]?=some y) (hl:X.env.scope.names.lookup y=some .local) (hsw:swapsWith (.ListComp elt [⟨tg,iter,ifs,0⟩] sc pos) (some (.Name y py)) spos.line X.env=pure true) :
  PS X (.Assign [.Name y py] (.ListComp elt [⟨tg,iter,ifs,0⟩] sc pos) spos) (TSm λρ S=>(mLcG mm fr ts.length mi g mt me ρ S).bind λd S1=>.ok (.nx (ρ.set i (some d))) S1):=λpins s σ H D I hw=>by
 obtain ⟨ι,S,ρ,er,st,p⟩:=hw
 rw [exec_Assign_Name_used _ _ _ _ hsw]
 refine wA (vL (wA ?_))
 show wpAny _ X.A (do let _ ← comprehension (.ListComp elt [⟨tg,iter,ifs,0⟩] sc pos) sc X.env _ (newList []) false (eval iter X.env) (some (assign (.Name y py) X.env))) _ _ s
 have hT:T (mLcG mm fr ts.length mi g mt me) σ H (λv H1=>D.nx (σ.set i (some v)) H1):=⟨ι,S,ρ,er,st,PsF.bind p λa S1 ι1 H1 b s1 st1 ra p1=>p1 ι1 H1 (Stp.refl _ _) st1 _ ((er.mono s1).set ra)⟩
 refine wA (vC (qcH (use:=some (assign (.Name y py) X.env)) (Q':=λ_ s'=>SP X pins D .next s') hc hi hs C' B I hT λDl C H' s' m hn hCL hCc hCx hI q=>?_) (λ_ s' hq=>wC (wC hq)) λ_ _ e=>e)
 show wpAny _ X.A (assign (.Name y py) X.env (.ref Dl)) _ _ _
 have I0:Inv X pins σ H' s':=by
  have:=hI s'.heap (Heap.SameBut.refl ..)
  exact this
 refine wpAny_assign_Name (yR I0 hN hy (.inl hl) (v:=.ref Dl) rfl (λs'' I'' hsb=>?_) (.inr hl))
 obtain ⟨a,sb,ha⟩:=hsb
 have hCa:C≠a:=by
  rcases ha with z | z
  ·rw [z];exact hCL
  ·exact λq=>hCc y a z q.symm
 refine ⟨m,hn.sameBut sb hCa,λh' hs'=>?_⟩
 have I3:=I''.turned (h':=h') (t':=s''.toks) (it:=C) (λb o hb e=>hs'.extBut b o hb e) hCx.1 hCL (.inr hCx.2.1) hCc hCx.2.2
 exact ⟨_,H',I3,q⟩
theorem r_lc {tg elt iter:Expr} {ifs:List Expr} {sc:Scope} {fr:List Nat} {xs ts:List Str} {mi:En→Sr→Res (List D)} {g:D→En→Sr→Res En} {mt:En→Sr→Res Bool} {me:En→Sr→Res D} {mm:Bool} (hc:X.calm=true)
  (hi:PI X tg iter (TIt mi)) (hs:∀ x,foldedSetIterable iter X.env x=pure x) (C':CSc X sc fr xs ts) (B:Blk X sc (xs++ts) tg ifs elt g mt me) :
  PE X (.ListComp elt [⟨tg,iter,ifs,0⟩] sc pos) (T (mLc mm fr ts.length mi g mt me)):=by
 rw [← qhB];exact qhC hc (pi_g hi) hs C' B
theorem qgT {tg elt iter:Expr} {ifs:List Expr} {sc:Scope} {fr:List Nat} {xs ts:List Str} {mi:En→Sr→Res (List D)} {g:D→En→Sr→Res En} {mt:En→Sr→Res Bool} {me:En→Sr→Res D} {mm:Bool} {i:Nat} {y:Str} {py spos:Pos} (hc:X.calm=true)
  (hi:PI X tg iter (TIt mi)) (hs:∀ x,foldedSetIterable iter X.env x=pure x) (C':CSc X sc fr xs ts) (B:Blk X sc (xs++ts) tg ifs elt g mt me)
  (hN:X.N.Nodup) (hy:X.N[i]?=some y) (hl:X.env.scope.names.lookup y=some .local) (hsw:swapsWith (.ListComp elt [⟨tg,iter,ifs,0⟩] sc pos) (some (.Name y py)) spos.line X.env=pure true) :
  PS X (.Assign [.Name y py] (.ListComp elt [⟨tg,iter,ifs,0⟩] sc pos) spos) (TSm λρ S=>(mLc mm fr ts.length mi g mt me ρ S).bind λd S1=>.ok (.nx (ρ.set i (some d))) S1):=by
 rw [← qhB];exact qeF hc (pi_g hi) hs C' B hN hy hl hsw
end
end R
namespace R
open PySem PySem.Spec L2 SeqAt
open PyProof.Rows hiding St
noncomputable def Sg (M:Model) (B:Around) (Φ:End→Shared→Prop) (k:Code) (t:Sem Fin) (l:List Frame) (s:Shared):Prop:=∀ G p,G.code=k→G.Woken B→∃ x z,Runs M G p t l s x z∧Φ x z
section
variable {M:Model} {B:Around} {Φ:End→Shared→Prop} {k:Code} {l:List Frame} {s:Shared}
theorem qaB {α:Type} {m:Sem α} {f:α→Sem Fin} {e:Value→Sem Fin} {gd:Bool→Bool} {lv:List Value→List Value}
  (h:wpAny M (B.over k l) m (λa z=>Sg M B Φ k (f a) l z) (λx z=>Sg M B Φ k (e x) l z) s):Sg M B Φ k (m.wrap f e gd lv) l s:=λG p hk hw=>by
 subst hk
 exact runs_wrap_of_wp f e gd lv m (h _ p (hw.over l)) (λ_ q _ z=>z G q rfl hw) λ_ q _ z=>z G q rfl hw
theorem zD {α β:Type} {m:Sem α} {f:α→Sem β} {f':β→Sem Fin} {e':Value→Sem Fin} {gd:Bool→Bool} {lv:List Value→List Value}
  (h:wpAny M (B.over k l) m (λa z=>Sg M B Φ k ((f a).wrap f' e' gd lv) l z) (λx z=>Sg M B Φ k (e' x) l z) s):Sg M B Φ k ((m >>= f).wrap f' e' gd lv) l s:=by
 have q:=qaB (f:=λa=>(f a).wrap f' e' gd lv) (e:=λx=>(Sem.raise x).wrap f' e' gd lv) (gd:=λb=>gd (id b)) (lv:=λb=>lv (id b)) h
 rwa [Sem.bind_eq_wrap',Sem.wrap_wrap]
theorem zV {k':Code} (hq:k'.quiet=true) (h:Sg M B Φ k' (M.den k') l s):Sg M B Φ k (.pure (.again k')) l s:=λG p hk hw=>by
 subst hk
 have ⟨x,z,r,q⟩:=h (G.goto k') p rfl (hw.goto k')
 exact ⟨x,z,Runs.head (c₁:=k') (λ_ _ y=>.again hq y) r,q⟩
theorem qiG (r:Result) (h:Φ (.ret r) s):Sg M B Φ k (leafOf r) [] s:=λG p hk hw=>⟨_,s,Runs.leaf r,h⟩
theorem qka {p':Pos} {f:Unit→Sem Fin} (h:Sg M B Φ k (f ()) l s):Sg M B Φ k (.at p' f) l s:=by
 have q:Sg M B Φ k ((standAt p').wrap f .raise id id) l s:=qaB (vL h)
 exact q
theorem qeG {v:Value} {vs:List Value} {f:Resume→Sem Fin} (h:∀ p,Φ (.susp v false vs f k p []) s):Sg M B Φ k (.yield v false vs f) [] s:=λG p hk hw=>by
 subst hk
 exact ⟨_,s,Runs.yield' [] rfl,h p⟩
end
noncomputable def Go (M:Model) (B:Around) (Φ:End→Shared→Prop) (s:Shared):GenState→Prop
 | .fresh k=>Sg M B Φ k (M.den k) [] s
 | .suspended f _ k _ l _=>Sg M B Φ k (f (.send .none)) l s
 | _=>False
theorem qeH {prog:Program} {w:World} {A:Around} {E:Value→Shared→Prop} {s:Shared} {a:Addr} {n:Nat} {gs:GenState} {Φ:End→Shared→Prop} {Q:Option Value→Shared→Prop} (hh:A.handled=none) (hl:s.heap.NoLimit) (hd:A.depth<recursionLimit)
  (ha:s.heap.IsGen a n) (hs:s.gens[n]?=some gs) (hg:Go (model prog w) A.in1 Φ (s.setGen n .running) gs)
  (hx:∀ x z,Φ x z→match x with
   | .ret r=>r=.ok .next∧∀ h',(∀ b o,z.heap.get? b=some o→h'.get? b=some o)→Q none { z.setGen n .finished with heap:=h' }
   | .susp v g vs f k p l=>(End.susp v g vs f k p l).quiet=true∧Q (some v) (z.setGen n (End.susp v g vs f k p l).genState)) :
  wpAny (model prog w) A (pyNext (.ref a)) Q E s:=by
 have wake:∀ {α:Type} {l:List Value} {f:GenResult→Sem α} {R:α→Shared→Prop} {E':Value→Shared→Prop},(∀ x z,Φ x z→x.quiet=true∧wpAny (model prog w) A.in1 (f x.result) R E' (z.setGen n x.genState))→wpAny (model prog w) A.in1 (.resume n (.send .none) l f) R E' s:=by
  intro α l f R E' hf G p hG
  rw [Sem.wp_resume]
  cases gs with
  | fresh k =>
   obtain ⟨x,z,r,q⟩:=hg (G.wake k p) p rfl (hG.wake k p)
   exact ⟨x.result,z.setGen n x.genState,by unfold Wakes;rw [hs];exact ⟨x,z,r,(hf x z q).1,rfl,rfl⟩,(hf x z q).2 G p hG⟩
  | suspended f0 l0 k p0 fs0 cl =>
   obtain ⟨x,z,r,q⟩:=hg (G.wake k p) p0 rfl (hG.wake k p)
   exact ⟨x.result,z.setGen n x.genState,by unfold Wakes;rw [hs];exact ⟨x,z,r,(hf x z q).1,rfl,rfl⟩,(hf x z q).2 G p hG⟩
  | running=>exact hg.elim
  | finished=>exact hg.elim
 unfold pyNext
 refine wA (wpAny_attempt ?_)
 refine wf (name:=Str.ofString "__next__") ha.typeIs slot_gen_next ?_
 refine wk slot_gen_next ha.typeIs entry_gen_next (?_:wpAny _ A.in1 (Builtin.Generator.genWake (.ref a) (.send .none)) _ _ s) (args_gen_next _)
 unfold Builtin.Generator.genWake
 refine wA (wo (wpAny_genNumber ha ?_))
 refine wA (wpAny_genState hs ?_)
 have go:∀ x z,Φ x z→x.quiet=true:=λx z q=>by
  cases x with
  | ret r=>rfl
  | susp v g vs f k p l=>exact (hx _ _ q).1
 cases gs with
 | running=>exact hg.elim
 | finished=>exact hg.elim
 | _ =>
  refine wA (wpAny_roomToWake hl hd (wake λx z q=>⟨go x z q,?_⟩))
  cases x with
  | susp v g vs f k p l=>exact wC ⟨v,rfl,wC (hx _ _ q).2⟩
  | ret r =>
   obtain ⟨e,q'⟩:=hx _ _ q
   subst e
   show wpAny _ A.in1 (newExc (.type "StopIteration") [] >>= _) _ _ (z.setGen n .finished)
   refine wA ?_
   unfold newExc newTuple
   refine wA (wY ?_ (by size_fits))
   refine wA (wpAny_of_eq (t:=firstArgMember _ _) (a:=Value.none) (by first | rfl | (simp only [firstArgMember];rfl)) ?_)
   refine wY ?_ (by size_fits)
   unfold raiseNew
   refine wA (wA (wpAny_handled ?_))
   rw [show A.in1.handled=none from hh]
   refine wpAny_throw (wA (wpAny_isInstance (T:="StopIteration") (b:=true) ⟨_,wG _ rfl,rfl⟩ isSubtype_stop ?_))
   exact wC (q' _ λb o hb=>wB _ (wB _ hb))
end R
namespace R
open PySem PySem.Spec L2 SeqAt
open PyProof.Rows hiding St
inductive GN where
 | fin (S:Sr) | yl (i:Nat) (ρ:En) (v:D) (S:Sr) | bad
noncomputable def grdN (gu:Sr→Prop) (S:Sr) (r:GN):GN:=@ite _ (gu S) (Classical.propDecidable _) r .bad
theorem yg {gu:Sr→Prop} {S:Sr} (h:gu S) (r:GN):grdN gu S r=r:=wL h
theorem yF {gu:Sr→Prop} {S:Sr} {r:GN} (h:grdN gu S r≠.bad):gu S:=Classical.byContradiction λn=>h (wN n)
noncomputable def gnx (gu:Sr→Prop) (g:D→En→Sr→Res En) (mt:En→Sr→Res Bool) (me:En→Sr→Res D):Nat→List D→En→Sr→GN
 | _,[],_,S=>grdN gu S (.fin S)
 | i,d::r,ρ,S=>grdN gu S <| match g d ρ S with
  | .ok ρ1 S1=>match mt ρ1 S1 with
   | .ok true S2=>match me ρ1 S2 with
    | .ok v S3=>.yl (i+1) ρ1 v S3
    | _=>.bad
   | .ok false S2=>gnx gu g mt me (i+1) r ρ1 S2
   | _=>.bad
  | _=>.bad
section
variable {X:Cx} {pos:Pos}
structure Sus (X:Cx) (J:It) (tn:Nat→Heap→Prop) (fp:List Addr) (ds:List D) (gu:Sr→Prop) (i:Nat) (ρ:En) (S:Sr) (ι:List Addr) (H:Hp) (pins:List (Addr × Obj)) (s:Shared):Prop where
 inv:∃ σ,Inv X pins σ H s∧EnR ι H ρ σ
 sto:Sto ι H S
 at':tn i s.heap
 le:i≤ds.length
 fz:∀ b∈fp,H b=none
 it:ItG ι H J ds gu
 pf:∀ p∈pins,p.1 ∉ fp
noncomputable def Pw (X:Cx) (J:It) (tn:Nat→Heap→Prop) (fp:List Addr) (ds:List D) (gu:Sr→Prop) (M:Model) (B:Around) (g:D→En→Sr→Res En) (mt:En→Sr→Res Bool) (me:En→Sr→Res D):Nat→GenState→Nat→En→Sr→Prop
 | 0,_,_,_,_=>True
 | n+1,gs,i,ρ,S=>∀ pins ι H s,Sus X J tn fp ds gu i ρ S ι H pins s→gnx gu g mt me i (ds.drop i) ρ S≠.bad→Go M B (λx z=>match x with
  | .ret r=>r=.ok .next∧∃ S' ι' H' σ',gnx gu g mt me i (ds.drop i) ρ S=.fin S'∧Inv X pins σ' H' z∧Stp ι H ι' H'∧Sto ι' H' S'
  | .susp v gd vs f k p l=>(End.susp v gd vs f k p l).quiet=true∧∃ i' ρ' d S' ι' H' y,gnx gu g mt me i (ds.drop i) ρ S=.yl i' ρ' d S'∧Stp ι H ι' H'∧Den ι' H' d y∧RelV y v∧Sus X J tn fp ds gu i' ρ' S' ι' H' pins z ∧
   Pw X J tn fp ds gu M B g mt me n (End.susp v gd vs f k p l).genState i' ρ' S') s gs
noncomputable def Pz (X:Cx) (J:It) (tn:Nat→Heap→Prop) (fp:List Addr) (ds:List D) (gu:Sr→Prop) (M:Model) (B:Around) (g:D→En→Sr→Res En) (mt:En→Sr→Res Bool) (me:En→Sr→Res D) (n:Nat) (r0:GN) (pins:List (Addr × Obj)) (ι:List Addr) (H:Hp):End→Shared→Prop:=λx z=>match x with
  | .ret r=>r=.ok .next∧∃ S' ι' H' σ',r0=.fin S'∧Inv X pins σ' H' z∧Stp ι H ι' H'∧Sto ι' H' S'
  | .susp v gd vs f k p l=>(End.susp v gd vs f k p l).quiet=true∧∃ i' ρ' d S' ι' H' y,r0=.yl i' ρ' d S'∧Stp ι H ι' H'∧Den ι' H' d y∧RelV y v∧Sus X J tn fp ds gu i' ρ' S' ι' H' pins z ∧
   Pw X J tn fp ds gu M B g mt me n (End.susp v gd vs f k p l).genState i' ρ' S'
theorem qeI {tg elt iter:Expr} {ifs:List Expr} {sc:Scope} {J:It} {fp:List Addr} {it:Addr} {tn:Nat→Heap→Prop} {g:D→En→Sr→Res En} {mt:En→Sr→Res Bool} {me:En→Sr→Res D} {ds:List D} {gu:Sr→Prop} {B:Around}
  (hxe:X.xe=λ_ _=>False) (hc:X.calm=true) (hex:X.ex=fp) (hpf:∀ p∈X.pn,p.1 ∉ fp) (hA:X.A=B.over (.compLoop (.GeneratorExp elt [⟨tg,iter,ifs,0⟩] sc pos) 0 (.ref it) .none X.env) []) (hco:X.env.scope.isCoroutine=false)
  (T':Turn X.prog X.w X.K tg J fp it tn) (hg:PG X tg (TGt g)) (ht:PTl X ifs (TB mt)) (he:PE X elt (T me)):∀ (n m i:Nat) (ρ:En) (S:Sr) (pins:List (Addr × Obj)) (ι0:List Addr) (H0:Hp) (ι:List Addr) (H:Hp) (s:Shared),ds.length-i=m →
   Sus X J tn fp ds gu i ρ S ι H pins s→Stp ι0 H0 ι H→gnx gu g mt me i (ds.drop i) ρ S≠.bad →
   Sg (model X.prog X.w) B (Pz X J tn fp ds gu (model X.prog X.w) B g mt me n (gnx gu g mt me i (ds.drop i) ρ S) pins ι0 H0) (.compLoop (.GeneratorExp elt [⟨tg,iter,ifs,0⟩] sc pos) 0 (.ref it) .none X.env)
    ((model X.prog X.w).den (.compLoop (.GeneratorExp elt [⟨tg,iter,ifs,0⟩] sc pos) 0 (.ref it) .none X.env)) [] s:=by
 intro n
 induction n using Nat.strongRecOn with
 | ind n ihn =>
 intro m
 induction m with
 | zero =>
  intro i ρ S pins ι0 H0 ι H s hm U q0 hb
  obtain ⟨⟨σ,I,er⟩,st,t1,le,f1,ok,pf⟩:=U
  have hi:i=ds.length:=by omega
  subst hi
  have stat:∀ {H':Hp},(∀ b∈fp,H' b=none)→∀ b∈fp,FpOk X pins H' b:=λhn b hb=>by
   have hb':b∈X.ex:=by rw [hex];exact hb
   exact ⟨hn b hb,(I.ok.exf b hb').1,λz=>I.ok.exfs b hb' z,.inl hb',(I.ok.exf b hb').2,λp hp z=>(vO.mp hp).elim (λy=>hpf p y (z ▸ hb)) λy=>pf p y (z ▸ hb)⟩
  show Sg _ B _ _ ((compTurn (.GeneratorExp elt [⟨tg,iter,ifs,0⟩] sc pos) 0 (.ref it) .none X.env).onRaise (leaving X.env)) [] s
  rw [compTurn_gen,Sem.onRaise_eq_wrap]
  refine zD (vL (zD ?_))
  rw [← hA]
  have hg0:gu S:=by
   rw [List.drop_of_length_le (wF _)] at hb
   exact yF hb
  refine thnF (T'.done X rfl rfl rfl hc _ pins s σ H _ I (stat f1) t1 (ok.stop ι H S (Stp.refl _ _) st hg0)) λr s2 ⟨hr,I2⟩=>?_
  subst hr
  refine qiG (.ok .next) ⟨rfl,S,ι,H,σ,?_,I2,q0,st⟩
  rw [List.drop_of_length_le (wF _)];exact yg hg0 _
 | succ m ihm =>
  intro i ρ S pins ι0 H0 ι H s hm U q0 hb
  obtain ⟨⟨σ,I,er⟩,st,t1,le,f1,ok,pf⟩:=U
  have hlt:i<ds.length:=by omega
  have stat:∀ {H':Hp},(∀ b∈fp,H' b=none)→∀ b∈fp,FpOk X pins H' b:=λhn b hb=>by
   have hb':b∈X.ex:=by rw [hex];exact hb
   exact ⟨hn b hb,(I.ok.exf b hb').1,λz=>I.ok.exfs b hb' z,.inl hb',(I.ok.exf b hb').2,λp hp z=>(vO.mp hp).elim (λy=>hpf p y (z ▸ hb)) λy=>pf p y (z ▸ hb)⟩
  have hd:ds[i]?=some ds[i]:=wD hlt
  have ed:ds.drop i=ds[i]::ds.drop (i+1):=List.drop_eq_getElem_cons hlt
  have hg0:gu S:=by
   rw [ed] at hb
   exact yF hb
  obtain ⟨go,yl⟩:=ok.go i _ ι H S (Stp.refl _ _) st hg0 hd
  show Sg _ B _ _ ((compTurn (.GeneratorExp elt [⟨tg,iter,ifs,0⟩] sc pos) 0 (.ref it) .none X.env).onRaise (leaving X.env)) [] s
  rw [compTurn_gen,Sem.onRaise_eq_wrap]
  refine zD (vL (zD ?_))
  rw [← hA]
  refine thnF (T'.item X rfl rfl rfl hc i pins s σ H _ I (stat f1) t1 go) λr s2 ⟨u,hr,h2⟩=>?_
  subst hr
  refine zD ?_
  rw [← hA]
  refine thnF h2 λ_ s3 ⟨x,H3,I3,r3,y3,t3,f3⟩=>?_
  obtain ⟨q3,kd3⟩:=yl x H3 y3
  obtain ⟨k3,d3⟩:=kd3 S st
  have I3':=I3.pinned (stat f3) (T'.obj _ _ t3)
  rw [ed] at hb ⊢
  unfold gnx at hb ⊢
  rw [yg hg0] at hb ⊢
  cases z1:g ds[i] ρ S with
  | no=>rw [z1] at hb;exact absurd rfl hb
  | err=>rw [z1] at hb;exact absurd rfl hb
  | ok ρ2 S2 =>
   rw [z1] at hb
   dsimp only at hb ⊢
   refine zD ?_
   rw [← hA]
   refine vC (hg _ s3 σ H3 x u (λσ4 H4=>∃ ι4,Stp ι H3 ι4 H4∧Sto ι4 H4 S2∧EnR ι4 H4 ρ2 σ4) I3' r3 ⟨ι,S,ρ,ds[i],er.mono q3,k3,d3,?_⟩) (λ_ s4 ⟨σ4,H4,I4,ι4,q4,st4,er4⟩=>?_) λ_ _ z=>by rw [hxe] at z;exact z.elim
   ·rw [z1];exact λσ4 ι4 H4 q4 st4 er4=>⟨ι4,q4,st4,er4⟩
   cases z2:mt ρ2 S2 with
   | no=>rw [z2] at hb;exact absurd rfl hb
   | err=>rw [z2] at hb;exact absurd rfl hb
   | ok b S3 =>
    rw [z2] at hb
    refine zD ?_
    rw [← hA]
    refine vC (ht _ s4 σ4 H4 (λb' H5=>b'=b∧∃ ι5,Stp ι4 H4 ι5 H5∧Sto ι5 H5 S3) I4 ⟨ι4,S2,ρ2,er4,st4,?_⟩) (λb' s5 ⟨H5,I5,eb,ι5,q5,st5⟩=>?_) λ_ _ z=>by rw [hxe] at z;exact z.elim
    ·rw [z2];exact λb' ι5 H5 q5 st5 eb=>⟨(show b=b' from eb).symm,ι5,q5,st5⟩
    subst eb
    have sus:∀ {σ7:St} {H7:Hp} {s7:Shared} {ι7:List Addr} {S7:Sr},Inv X (pins++pinsAt fp s3.heap) σ7 H7 s7→Stp ι H ι7 H7→EnR ι7 H7 ρ2 σ7→Sto ι7 H7 S7→Sus X J tn fp ds gu (i+1) ρ2 S7 ι7 H7 pins s7:=by
     intro σ7 H7 s7 ι7 S7 I7 q7 er7 st7
     refine ⟨⟨σ7,I7.unpinned,er7⟩,st7,T'.keep _ _ _ t3 λb hb o eo=>(I7.pin (b,o) (wR _ (wR _ (qX hb eo)))).1,hlt,λb hb=>?_,ok.mono q7,pf⟩
     obtain ⟨o,eo,_⟩:=T'.obj _ _ t3 b hb
     exact (I7.pin (b,o) (wR _ (wR _ (qX hb eo)))).2.1
    cases b' with
    | false =>
     dsimp only at hb ⊢
     exact zV rfl (ihm (i+1) ρ2 S3 pins ι0 H0 ι5 H5 s5 (by omega) (sus I5 ((q3.trans q4).trans q5) (er4.mono q5) st5) (q0.trans ((q3.trans q4).trans q5)) hb)
    | true =>
     dsimp only at hb ⊢
     cases z3:me ρ2 S3 with
     | no=>rw [z3] at hb;exact absurd rfl hb
     | err=>rw [z3] at hb;exact absurd rfl hb
     | ok v S4 =>
      dsimp only
      have hy:∀ v,yieldOut X.env v=yieldValue v:=λv=>by simp only [yieldOut,hco,vP,if_false]
      simp only [hy,if_true]
      rw [Sem.bind_eq_wrap',Sem.bind_eq_wrap',Sem.wrap_wrap,Sem.wrap_wrap]
      refine qaB ?_
      rw [← hA]
      refine vC (he _ s5 σ4 H5 (λy H6=>∃ ι6,Stp ι5 H5 ι6 H6∧Sto ι6 H6 S4∧Den ι6 H6 v y) I5 ⟨ι5,S3,ρ2,er4.mono q5,st5,?_⟩) (λy' s6 ⟨y,H6,I6,ry,ι6,q6,st6,dv⟩=>?_) λ_ _ z=>by rw [hxe] at z;exact z.elim
      ·rw [z3];exact λy ι6 H6 q6 st6 dv=>⟨ι6,q6,st6,dv⟩
      have tot:=((q3.trans q4).trans q5).trans q6
      refine qka (qeG λp=>⟨rfl,i+1,ρ2,v,S4,ι6,H6,y,rfl,q0.trans tot,dv,ry,sus I6 tot (er4.mono (q5.trans q6)) st6,?_⟩)
      cases n with
      | zero=>trivial
      | succ n' =>
       intro pins' ι' H' s' U' hb'
       exact zV rfl (ihn n' (Nat.lt_succ_self _) _ (i+1) ρ2 S4 pins' ι' H' ι' H' s' rfl U' (Stp.refl _ _) hb')
end
end R
namespace R
open PySem PySem.Spec L2 SeqAt
open PyProof.Rows hiding St
section
variable {gu:Sr→Prop} {g:D→En→Sr→Res En} {mt:En→Sr→Res Bool} {me:En→Sr→Res D}
theorem yU:∀ (l:List D) (i:Nat) (ρ:En) (S:Sr) {i':Nat} {ρ':En} {v:D} {S':Sr},gnx gu g mt me i l ρ S=.yl i' ρ' v S'→i<i'∧i'≤i+l.length
 | [],_,_,S,_,_,_,_,h=>by
  rw [show gnx gu g mt me _ [] _ S=grdN gu S (.fin S) from rfl,yg (yF (by rw [show grdN gu S (.fin S)=_ from h];intro z;cases z))] at h
  cases h
 | d::r,i,ρ,S,i',ρ',v,S',h=>by
  unfold gnx at h
  rw [yg (yF (by rw [h];intro z;cases z))] at h
  split at h
  ·split at h
   ·split at h
    ·cases h;simp
    ·cases h
   ·have:=yU r (i+1) _ _ h
    simp only [w4]
    lia
   ·cases h
  ·cases h
noncomputable def gen1 {β:Type} (step:β→D→Option (β ⊕ D)) (fin:β→Option D) (rest:Nat→En→β→Sr→Res D) (b:β):GN→Res D
 | .fin S=>ofO (fin b) S
 | .yl i ρ v S=>match step b v with
  | some (.inl b')=>rest i ρ b' S
  | some (.inr x)=>.ok x S
  | none=>.no
 | .bad=>.no
theorem qcI {β:Type} {step:β→D→Option (β ⊕ D)} {fin:β→Option D}:∀ (l:List D) (i:Nat) (ρ:En) (b:β) (S:Sr) {d:D} {S':Sr},genLoopG gu g mt me step fin l ρ b S=.ok d S' →
  gen1 step fin (λj ρ b S=>genLoopG gu g mt me step fin (l.drop (j-i)) ρ b S) b (gnx gu g mt me i l ρ S)=.ok d S'
 | [],_,_,_,S,d,S',h=>by
  have hg:gu S:=Classical.byContradiction λn=>by
   unfold genLoopG at h
   rw [zT n] at h;cases h
  unfold genLoopG at h
  rw [qV hg] at h
  unfold gnx
  rw [yg hg]
  exact h
 | x::r,i,ρ,b,S,d,S',h=>by
  have hg:gu S:=Classical.byContradiction λn=>by
   unfold genLoopG at h
   rw [zT n] at h;cases h
  unfold genLoopG at h
  rw [qV hg] at h
  unfold gnx
  rw [yg hg]
  cases z1:g x ρ S with
  | no=>rw [z1] at h;cases h
  | err=>rw [z1] at h;cases h
  | ok ρ1 S1 =>
   rw [z1,Res.bind_ok] at h
   dsimp only
   cases z2:mt ρ1 S1 with
   | no=>rw [z2] at h;cases h
   | err=>rw [z2] at h;cases h
   | ok t S2 =>
    rw [z2,Res.bind_ok] at h
    cases t with
    | true =>
     rw [wL rfl] at h
     dsimp only
     cases z3:me ρ1 S2 with
     | no=>rw [z3] at h;cases h
     | err=>rw [z3] at h;cases h
     | ok v S3 =>
      rw [z3,Res.bind_ok] at h
      have e:i+1-i=1:=by lia
      simp only [gen1,e,List.drop_succ_cons,List.drop_zero]
      exact h
    | false =>
     rw [wN (by decide)] at h
     dsimp only
     have q:=qcI r (i+1) ρ1 b S2 h
     cases z4:gnx gu g mt me (i+1) r ρ1 S2 with
     | fin S3=>rw [z4] at q;exact q
     | bad=>rw [z4] at q;cases q
     | yl j ρ' v S3 =>
      rw [z4] at q
      have:=yU r (i+1) ρ1 S2 z4
      have e:j-i=j-(i+1)+1:=by lia
      simp only [gen1] at q ⊢
      rw [e,List.drop_succ_cons]
      exact q
theorem zt {β:Type} {step:β→D→Option (β ⊕ D)} {fin:β→Option D} {ds:List D} {gu:Sr→Prop} {i:Nat} {ρ:En} {b:β} {S:Sr} {d:D} {S':Sr} (h:genLoopG gu g mt me step fin (ds.drop i) ρ b S=.ok d S') :
  gen1 step fin (λj ρ b S=>genLoopG gu g mt me step fin (ds.drop j) ρ b S) b (gnx gu g mt me i (ds.drop i) ρ S)=.ok d S':=by
 have q:=qcI _ i ρ b S h
 cases z:gnx gu g mt me i (ds.drop i) ρ S with
 | fin S3=>rw [z] at q;exact q
 | bad=>rw [z] at q;cases q
 | yl j ρ' v S3 =>
  rw [z] at q
  have:=yU _ i ρ S z
  simp only [gen1] at q ⊢
  rw [List.drop_drop] at q
  have e:i+(j-i)=j:=by lia
  rw [e] at q
  exact q
end
theorem qgU {s:Shared} {n:Nat} {x y:GenState}:(s.setGen n x).setGen n y=s.setGen n y:=by
 unfold Shared.setGen
 simp
theorem GK.done {g0 g:Array GenState} {x:GenState} (h:GK (g0.push .running) (g.setIfInBounds g0.size .running)) (e:g[g0.size]?=some x) (hx:x.bare=true):GK g0 g:=by
 refine ⟨λy hy=>?_,?_,λi hi=>?_⟩
 ·obtain ⟨i,hi,rfl⟩:=Array.mem_iff_getElem.mp hy
  by_cases q:i=g0.size
  ·subst q
   rw [Array.getElem?_eq_getElem hi] at e
   cases e;exact hx
  ·refine h.bare _ ?_
   have:(g.setIfInBounds g0.size .running)[i]'(by simpa using hi)=g[i]:=by
    rw [Array.getElem_setIfInBounds]
    rw [wN (Ne.symm q)]
   rw [← this]
   exact Array.getElem_mem _
 ·have:=h.sz
  simp at this
  lia
 ·have:=h.old i (by simp;lia)
  rw [Array.getElem?_setIfInBounds_ne (by lia)] at this
  rw [this,Array.getElem?_push_lt hi]
  exact (Array.getElem?_eq_getElem hi).symm
theorem qeJ {X:Cx} {pins:List (Addr × Obj)} {σ:St} {H:Hp} {s:Shared} (I:Inv X pins σ H s) {g':Array GenState} (h:GK X.s₀.gens g'):Inv X pins σ H { s with gens:=g' } :=
 ⟨I.ok,I.os,h,I.base,I.loc,I.cell,I.free,I.freeC,I.pin,I.hok,I.len⟩
section
variable {X:Cx}
structure Cs (X:Cx) (J:It) (tn:Nat→Heap→Prop) (fp:List Addr) (ds:List D) (gu:Sr→Prop) (B:Around) (g:D→En→Sr→Res En) (mt:En→Sr→Res Bool) (me:En→Sr→Res D) (n k i:Nat) (ρ:En) (S:Sr) (ι:List Addr) (H:Hp) (pins:List (Addr × Obj)) (s:Shared):Prop where
 sus:Sus X J tn fp ds gu i ρ S ι H pins (s.setGen n .running)
 st:∃ gs,s.gens[n]?=some gs∧gs.bare=true∧Pw X J tn fp ds gu (model X.prog X.w) B g mt me k gs i ρ S
theorem qaC {J:It} {tn:Nat→Heap→Prop} {fp:List Addr} {ds:List D} {gu:Sr→Prop} {A:Around} {g:D→En→Sr→Res En} {mt:En→Sr→Res Bool} {me:En→Sr→Res D} {n k i:Nat} {ρ:En} {S:Sr} {ι:List Addr} {H:Hp} {pins:List (Addr × Obj)} {s:Shared} {a:Addr} {o:Obj} {g0:Array GenState} {Q:Option Value→Shared→Prop} {E:Value→Shared→Prop}
  (hh:A.handled=none) (hd:A.depth<recursionLimit) (ho:(a,o)∈X.pn) (hg:∀ h:Heap,h.get? a=some o→h.IsGen a n) (h0:X.s₀.gens=g0.push .running) (hn:n=g0.size)
  (C:Cs X J tn fp ds gu A.in1 g mt me n (k+1) i ρ S ι H pins s) (hb:gnx gu g mt me i (ds.drop i) ρ S≠.bad)
  (fin:∀ S' ι' H' σ' z,gnx gu g mt me i (ds.drop i) ρ S=.fin S'→Inv X pins σ' H' (z.setGen n .running)→GK g0 z.gens→Stp ι H ι' H'→Sto ι' H' S'→Q none z)
  (yl:∀ i' ρ' d S' ι' H' y v z,gnx gu g mt me i (ds.drop i) ρ S=.yl i' ρ' d S'→Stp ι H ι' H'→Den ι' H' d y→RelV y v→Cs X J tn fp ds gu A.in1 g mt me n k i' ρ' S' ι' H' pins z→Q (some v) z) :
  wpAny (model X.prog X.w) A (pyNext (.ref a)) Q E s:=by
 obtain ⟨U,gs,hs,hbr,pw⟩:=C
 obtain ⟨⟨σ,I,er⟩,_⟩:=id U
 have hp:s.heap.get? a=some o:=(I.pin (a,o) (wu _ ho)).1
 refine qeH hh I.nolimit hd (hg _ hp) hs (pw pins ι H _ U hb) λx z q=>?_
 have hsz:∀ {σ':St} {H':Hp},Inv X pins σ' H' z→z.gens[n]?=some .running∧n<z.gens.size:=λ{σ' H'} J=>by
  have e:=J.bare.old n (by rw [h0,hn];simp)
  rw [h0,hn] at e
  rw [hn]
  have e2:(g0.push GenState.running)[g0.size]?=some .running:=by simp
  rw [e2] at e
  exact ⟨e,by
   rcases Nat.lt_or_ge g0.size z.gens.size with z' | z'
   ·exact z'
   ·rw [Array.getElem?_eq_none z'] at e;cases e⟩
 have bk:∀ {σ':St} {H':Hp} (y:GenState),Inv X pins σ' H' z→Inv X pins σ' H' ((z.setGen n y).setGen n .running):=λ{σ' H'} y J=>by
  rw [qgU]
  have e:(z.gens.setIfInBounds n .running)=z.gens:=by
   obtain ⟨e1,e2⟩:=hsz J
   apply Array.ext
   ·simp
   ·intro j h1 h2
    rw [Array.getElem_setIfInBounds]
    split
    ·rename_i q
     subst q
     rw [Array.getElem?_eq_getElem e2] at e1
     exact (Option.some.inj e1).symm
    ·rfl
  have:=qeJ J (g':=z.gens.setIfInBounds n .running) (by rw [e];exact J.bare)
  exact this
 cases x with
 | ret r =>
  obtain ⟨e,S',ι',H',σ',e1,J,s1,st1⟩:=q
  refine ⟨e,λh' hk=>fin S' ι' H' σ' _ e1 ?_ ?_ s1 st1⟩
  ·have:=(bk .finished J).kept (h':=h') (t':=z.toks) hk
   exact this
  ·refine GK.done (x:=.finished) (g:=(z.gens.setIfInBounds n .finished)) ?_ ?_ rfl
   ·have:=(bk .finished J).bare
    rw [h0] at this
    rw [← hn]
    exact this
   ·rw [← hn]
    obtain ⟨_,e2⟩:=hsz J
    simp [e2]
 | susp v gd vs f k' p l =>
  obtain ⟨qt,i',ρ',d,S',ι',H',y,e1,s1,dv,ry,U',pw'⟩:=q
  refine ⟨qt,yl i' ρ' d S' ι' H' y v _ e1 s1 dv ry ⟨?_,_,?_,End.bare_of_quiet qt,pw'⟩⟩
  ·obtain ⟨⟨σ',J,er'⟩,a1,a2,a3,a4,a5,a6⟩:=U'
   exact ⟨⟨σ',bk _ J,er'⟩,a1,a2,a3,a4,a5,a6⟩
  ·obtain ⟨⟨σ',J,er'⟩,_⟩:=U'
   obtain ⟨_,e2⟩:=hsz J
   show (z.gens.setIfInBounds n _)[n]?=_
   simp [e2]
end
end R
namespace R
open PySem PySem.Spec L2 SeqAt
open PyProof.Rows hiding St
section
variable {X:Cx} {pos:Pos}
theorem qcc {K:PySem.W.Frag} {h:Heap} (kin:K.In h) {c T:Addr} {ps:Array Value} (e:codeTab K c T=true) (hT:h.get? T=some { cls:=.none,data:=.fields ps }) (tr:TriplesOk ps.toList):h.IsCode c T ps∧h.TableAt c T ps:=by
 unfold codeTab at e
 split at e
 ·rename_i cls d vs sl hl
  simp only [wU,beq_iff_eq] at e
  obtain ⟨e1,e2⟩:=e
  split at e2
  ·rename_i a b x1 x2 x3 x4 x5 x6 x7 h11 h11' h18 h7 h9 h10
   simp only [wU,beq_iff_eq,bne_iff_ne] at e2
   obtain ⟨⟨ea,eb⟩,ne⟩:=e2
   subst ea
   subst eb
   have ho:=kin _ _ hl
   exact ⟨⟨_,vs,_,_,_,_,_,_,_,_,ho,rfl,h11,h18,h7,h9,h10,hT,rfl,tr,ne⟩,⟨_,vs,ho,e1,rfl,h11'⟩,hT⟩
  ·cases e2
 ·cases e
theorem qeK {M:Model} {A:Around} {E:Value→Shared→Prop} {pins:List (Addr × Obj)} {σ:St} {H:Hp} {s:Shared} {c T:Addr} {q:Str} {sc:Scope} (I:Inv X pins σ H s) (hc:X.env.code=.ref c) (ht:codeTab X.K c T=true) :
  wpAny M A (genexprCode X.env pos q sc) (λ_ s'=>∃ H',Inv X pins σ H' s'∧s'.gens=s.gens∧(∀ ι,Stp ι H ι H')∧(∀ ι S,Sto ι H S→Sto ι H' S)∧∀ b o,s.heap.get? b=some o→H b=none→s'.heap.get? b=some o∧H' b=none) E s:=by
 obtain ⟨ps0,h0⟩:=I.ok.tab c T ht
 obtain ⟨mo,hT⟩:=I.base.tbls T ps0 h0
 generalize ps0++mo=ps at hT
 obtain ⟨eT,tr⟩:=I.hok T _ hT
 obtain ⟨ic,ta⟩:=qcc I.kIn ht eT tr
 cases z:codeAmong pos ps.toList with
 | some v=>exact wpAny_genexprCode_hit hc ic z ⟨H,I,rfl,λ_=>Stp.refl _ _,λ_ _ x=>x,λb o e n=>⟨e,n⟩⟩
 | none =>
  refine wpAny_genexprCodeX hc ic ta z λc' h' tk hx _ _ ic' _ ta' _=>?_
  generalize hps:ps++#[rawInt pos.line,rawInt pos.col,.ref c']=ps' at ic' ta'
  have nT:∀ {b:Addr} {u:HO},H b=some u→(∀ x,u≠.tbl x)→b≠T:=λ{b u} e n z=>by
   subst z;rw [hT] at e;cases e;exact n _ rfl
  have fT:∀ {b:Addr},H b=none→b≠T:=λ{b} e z=>by subst z;rw [hT] at e;cases e
  have tr':TriplesOk ps'.toList:=by
   obtain ⟨_,_,_,_,_,_,_,_,_,_,_,_,_,_,_,_,_,e1,e2,t,_⟩:=ic'
   exact t
  have ok':HOk X.prog X.w (upd H T (.tbl ps')) h':=λb u e=>by
   by_cases q:b=T
   ·subst q
    rw [qu] at e;cases e
    exact ⟨ta'.2,tr'⟩
   ·rw [qk q] at e
    refine (I.hok b u e).stay (λd v hd eo=>hx d v ?_ eo) (λd e'=>by rw [qk (nT e' (by intro _ z;cases z))];exact e') λd xs e'=>by rw [qk (nT e' (by intro _ z;cases z))];exact e'
    rcases hd with y | y
    ·subst y;exact q
    ·exact nT y (by intro _ z;cases z)
  have I':Inv X pins σ (upd H T (.tbl ps')) { s with heap:=h',toks:=tk }:=by
   refine I.step (g':=s.gens) (d':=s.drawn) (ch:=[]) (λ_ z=>nomatch z) (λb o _ _ _ e n=>hx b o (fT n) e) (λb o _ _ _ e n=>⟨o.slots,hx b o (fT n) e⟩) (λb o _ e n=>by rw [qk (fT n)];exact n)
    (λb o _ e=>?_) (λb xs e=>by rw [qk (nT e (by intro _ z;cases z))];exact e) (λb o u e=>by rw [qk (nT e (by intro _ z;cases z))];exact e) (λb qs e=>?_) (λm hm=>?_) ok' I.bare.self
   ·by_cases q:b=T
    ·subst q;exact ⟨_,ta'.2⟩
    ·exact ⟨o,hx b o q e⟩
   ·by_cases q:b=T
    ·subst q
     rw [hT] at e;cases e
     exact ⟨#[rawInt pos.line,rawInt pos.col,.ref c'],by rw [qu,← hps]⟩
    ·exact ⟨#[],by rw [qk q,e];simp⟩
   ·obtain ⟨o,es,ep,ho,r⟩:=hm
    exact ⟨o,es,ep,hx _ o (fT I.free) ho,r⟩
  have sp:∀ ι,Stp ι H ι (upd H T (.tbl ps')):=λι=>⟨List.prefix_refl _,λ_ m=>.inl m,λa u e _ nt=>by
    rw [qk (nT e (by intro x z;subst z;exact nt))];exact e,λa e=>by
    by_cases q:a=T
    ·subst q;rw [qu];simp
    ·rw [qk q];exact e⟩
  refine ⟨_,I',rfl,sp,λι S st=>⟨st.len,st.nd,λn a so e1 e2=>(st.obj n a so e1 e2).mono (sp ι) ?_⟩,λb o e n=>⟨hx b o (fT n) e,by rw [qk (fT n)];exact n⟩⟩
  have k:=st.obj n a so e1 e2
  cases so with
  | lst l=>obtain ⟨_,xs,e,_⟩:=k;rw [qk (nT e (by intro _ z;cases z))]
  | dic l=>obtain ⟨_,xs,e,_⟩:=k;rw [qk (nT e (by intro _ z;cases z))]
  | dis l=>obtain ⟨_,xs,e,_⟩:=k;rw [qk (nT e (by intro _ z;cases z))]
theorem qgV {M:Model} {A:Around} {E:Value→Shared→Prop} {pins:List (Addr × Obj)} {σ:St} {H:Hp} {s:Shared} {Q:Addr→Shared→Prop} (I:Inv X pins σ H s) (h:Q builtinsNs s):wpAny M A (builtinsFor X.env.globals X.env.builtins) Q E s:=by
 obtain ⟨bm,ob,e1,e2,e3,e4,e5,e6⟩:=I.ok.mod.bmod
 rw [I.ok.glob]
 exact wpAny_builtinsFor (I.ok.mod.glob.keeps I.bk) e1 e2 (I.bk _ _ e3) e4 e5 e6 h
noncomputable def genCx (X:Cx) (sc:Scope) (cl:List (Str × Addr)) (C:Addr) (code:Value) (N':List Str) (fp:List Addr) (ge:Expr) (it:Addr) (o:Addr × Obj) (s:Shared) (H:Hp):Cx :=
 { X with A:=X.A.in4.in1.over (.compLoop ge 0 (.ref it) .none (genEnv sc cl C code builtinsNs X.env)) [],N:=N',s₀:={ s with gens:=s.gens.push .running },H₀:=H,env:=genEnv sc cl C code builtinsNs X.env,outer:=X.stack,stack:=genEnv sc cl C code builtinsNs X.env::X.stack,ex:=fp,fn:=λ_=>false,pn:=[o],xe:=λ_ _=>False }
theorem qeL {sc:Scope} {cl:List (Str × Addr)} {code:Value} {N':List Str} {fp:List Addr} {tg elt iter:Expr} {ifs:List Expr} {it:Addr} {o:Addr × Obj} {pins:List (Addr × Obj)} {σ:St} {H:Hp} {s:Shared} (I:Inv X pins σ H s) (hk:sc.kind=.function) (hcell:∀ y∈sc.names,y.2≠.cell) (CL:Clos X sc cl)
  (hf:∀ b∈fp,FpOk X pins H b) (ho:∀ b∈fp,b<s.heap.objs.size):(genCx X sc cl s.heap.objs.size code N' fp (.GeneratorExp elt [⟨tg,iter,ifs,0⟩] sc pos) it o s H).Ok where
 mod:=I.ok.mod
 kind:=hk
 glob:=I.ok.glob
 blt:=rfl
 above:=wF _
 inj:=λx y c h1 h2=>I.ok.inj x y c (CL.sub x c h1) (CL.sub y c h2)
 has:=λx hx=>by
  have hx:sc.names.lookup x=some .cell∨sc.names.lookup x=some .free:=hx
  rcases hx with z | z
  ·exact absurd rfl (hcell _ (vJ z))
  ·exact CL.all x z
 cab:=λx c h _=>by cases h
 hd:=λh=>I.ok.hd h
 frames:=by
  unfold genCx Around.over
  dsimp only [List.map_nil,envsOf,List.filter_nil,List.filterMap_nil,pushEnvs]
  rw [I.ok.frames]
  rfl
 stk:=.inr ⟨rfl,rfl⟩
 exf:=λb hb=>⟨w6 (ho b hb),λx c h=>(hf b hb).2.2.2.2.1 x c (CL.sub x c h)⟩
 bs:=I.bs
 bsz:=wv I.ok.bsz I.sz
 noex:=λb o e hb=>by
  rcases (hf b hb).2.2.2.1 with z | z
  ·exact I.ok.noex b o e z
  ·exact absurd (wX (wI e) (wv I.ok.bsz z)) (vB _)
 exfs:=λb hb hs=>by
  rcases wZ.mp (I.stkSub b hs) with z | z
  ·exact (hf b hb).2.1 z
  ·exact (hf b hb).2.2.1 z
 funs:=I.stack
 frf:=I.stkFree
 tab:=λc T z=>let ⟨ps,e⟩:=I.ok.tab c T z;let ⟨m,e'⟩:=I.base.tbls _ _ e;⟨_,e'⟩
end
end R
namespace R
open PySem PySem.Spec L2 SeqAt
open PyProof.Rows hiding St
section
variable {X:Cx} {pos:Pos}
theorem qdH {tg elt iter:Expr} {ifs:List Expr} {sc:Scope} {J:It} {fp:List Addr} {it:Addr} {tn:Nat→Heap→Prop} {g:D→En→Sr→Res En} {mt:En→Sr→Res Bool} {me:En→Sr→Res D} {ds:List D} {gu:Sr→Prop} {B:Around}
  (hxe:X.xe=λ_ _=>False) (hc:X.calm=true) (hex:X.ex=fp) (hpf:∀ p∈X.pn,p.1 ∉ fp) (hA:X.A=B.over (.compLoop (.GeneratorExp elt [⟨tg,iter,ifs,0⟩] sc pos) 0 (.ref it) .none X.env) []) (hco:X.env.scope.isCoroutine=false)
  (T':Turn X.prog X.w X.K tg J fp it tn) (hg:PG X tg (TGt g)) (ht:PTl X ifs (TB mt)) (he:PE X elt (T me)) (ρ:En) (S:Sr):∀ k,Pw X J tn fp ds gu (model X.prog X.w) B g mt me k (.fresh (.compStart (.GeneratorExp elt [⟨tg,iter,ifs,0⟩] sc pos) 0 (.ref it) .none X.env)) 0 ρ S
 | 0=>trivial
 | k+1=>by
  intro pins ι H s U hb
  have loop:=qeI hxe hc hex hpf hA hco T' hg ht he k _ 0 ρ S pins ι H ι H s rfl U (Stp.refl _ _) hb
  have t0:=U.at'
  show Sg _ B (Pz X J tn fp ds gu _ B g mt me k _ pins ι H) _ ((compStart (.GeneratorExp elt [⟨tg,iter,ifs,0⟩] sc pos) 0 (.ref it) .none X.env).onRaise (leaving X.env)) [] s
  unfold compStart
  rw [Sem.onRaise_eq_wrap]
  refine zD (m:=ask) (wpAny_askSetting ?_)
  split
  ·exact zV rfl loop
  ·refine zD (wpAny_rule ?_)
   first
    | exact zD (vL (zD (T'.self _ 0 s _ _ t0 (zV rfl loop))))
    | (show Sg _ B _ _ ((standAt iter.pos >>= _).wrap _ _ _ _) [] s
       exact zD (vL (zD (T'.self _ 0 s _ _ t0 (zV rfl loop)))))
structure BlkG (X:Cx) (sc:Scope) (N':List Str) (tg iter:Expr) (ifs:List Expr) (elt:Expr) (pos:Pos) (g:D→En→Sr→Res En) (mt:En→Sr→Res Bool) (me:En→Sr→Res D):Prop where
 rt:∀ cl C code fp it o s H,PG (genCx X sc cl C code N' fp (.GeneratorExp elt [⟨tg,iter,ifs,0⟩] sc pos) it o s H) tg (TGt g)
 ri:∀ cl C code fp it o s H,PTl (genCx X sc cl C code N' fp (.GeneratorExp elt [⟨tg,iter,ifs,0⟩] sc pos) it o s H) ifs (TB mt)
 re:∀ cl C code fp it o s H,PE (genCx X sc cl C code N' fp (.GeneratorExp elt [⟨tg,iter,ifs,0⟩] sc pos) it o s H) elt (T me)
noncomputable def GH (X:Cx) (pins:List (Addr × Obj)) (σ:St) (ds:List D) (gu:Sr→Prop) (g:D→En→Sr→Res En) (mt:En→Sr→Res Bool) (me:En→Sr→Res D) (a:Addr) (ρ:En) (S:Sr) (ι:List Addr) (H:Hp) (s:Shared):Prop :=
 ∃ sc cl C code N' fp ge it o s4 H4 J tn,(∀ h:Heap,h.get? a=some o→h.IsGen a s4.gens.size)∧(∀ k,Cs (genCx X sc cl C code N' fp ge it (a,o) s4 H4) J tn fp ds gu X.A.in4.in1 g mt me s4.gens.size k 0 ρ S ι H [] s)∧(∀ b∈fp,b<s.heap.objs.size) ∧
  (∀ i h h',tn i h→(∀ b∈fp,∀ o,h.get? b=some o→h'.get? b=some o)→tn i h') ∧
  ∀ pins' σ' H' z,Inv (genCx X sc cl C code N' fp ge it (a,o) s4 H4) pins' σ' H' (z.setGen s4.gens.size .running)→GK s4.gens z.gens→Inv X pins σ H' z
theorem qbj {tg elt iter:Expr} {ifs:List Expr} {sc:Scope} {fr:List Nat} {xs ts:List Str} {mi:En→Sr→Res (List D × (Sr→Prop))} {g:D→En→Sr→Res En} {mt:En→Sr→Res Bool} {me:En→Sr→Res D} {c T:Addr} (hc:X.calm=true) (hroom:X.A.depth<recursionLimit)
  (hi:PI X tg iter (TIg mi)) (hs:∀ x,genFold iter X.env x=pure x) (C':CSc X sc fr xs ts) (hz:sc.names.lookup (".0":Str)=some NameKind.local) (hco:sc.isCoroutine=false) (hcode:X.env.code=.ref c) (htab:codeTab X.K c T=true) (B:BlkG X sc (xs++ts) tg iter ifs elt pos g mt me)
  {pins:List (Addr × Obj)} {s:Shared} {σ:St} {H:Hp} {ι:List Addr} {S:Sr} {ρ:En} (I:Inv X pins σ H s) (er:EnR ι H ρ σ) (st:Sto ι H S) {ds:List D} {gu:Sr→Prop} {S1:Sr} (hm:mi ρ S=.ok (ds,gu) S1) :
  wpAny (model X.prog X.w) X.A (eval (.GeneratorExp elt [⟨tg,iter,ifs,0⟩] sc pos) X.env) (λv s'=>∃ a ι' H',v=.ref a∧Stp ι H ι' H'∧GH X pins σ ds gu g mt me a (frE ρ fr ts.length) S1 ι' H' s') X.xe s:=by
 obtain ⟨cl,CL⟩:=qaA (X:=X) (sc:=sc) λx hx hf=>I.ok.has x.1 (C'.frees x hx hf)
 refine wpAny_GeneratorExp_make hco CL.eq C'.nocell hz C'.kind hroom ?_ hs
 refine thn (hi pins s σ H (λJ H2=>∃ ι2,Stp ι H ι2 H2∧Sto ι2 H2 S1∧ItG ι2 H2 J ds gu) I ⟨ι,S,ρ,er,st,?_⟩) λxv s1 h1=>thn h1 λitv s2 h2=>?_
 ·rw [hm];exact λι' H' J q st' ok=>⟨ι',q,st',ok⟩
 obtain ⟨it,fp,tn,J,H2,e,I2,T',t2,f2,ι2,q2,st2,ok2⟩:=h2
 subst e
 refine ⟨I2.nolimit,thn (qeK I2 hcode htab) λcode s3 ⟨H3,I3,eg,sp3,so3,kp3⟩=>qgV I3 ?_⟩
 intro h5 hn5 hs5
 have fpl:∀ b∈fp,∃ o,s2.heap.get? b=some o∧H2 b=none:=λb hb=>by
  obtain ⟨o,eo,_⟩:=T'.obj _ _ t2 b hb
  exact ⟨o,eo,(f2 b hb).1⟩
 have f3:∀ b∈fp,FpOk X pins H3 b:=λb hb=>by
  obtain ⟨o,e1,e2⟩:=fpl b hb
  exact ⟨(kp3 b o e1 e2).2,(f2 b hb).2⟩
 have l3:∀ b∈fp,b<s3.heap.objs.size:=λb hb=>by
  obtain ⟨o,e1,e2⟩:=fpl b hb
  exact wI (kp3 b o e1 e2).1
 have hsz:h5.objs.size=s3.heap.objs.size+1:=by rw [hs5.1,Heap.size_push]
 have keep5:∀ (u:Obj) b o,s3.heap.get? b=some o→(h5.push u).get? b=some o:=λu b o e=>wB _ (hs5.extBut b o (w6 (wI e)) (wB _ e))
 generalize hob:({ cls:=.type "generator",data:=.fields #[.int s3.gens.size 0,.str "<genexpr>" (s3.toks+1),.str (X.env.qual++"<genexpr>") (s3.toks+1+1)] }:Obj)=ob
 have hfree:H3 h5.objs.size=none:=I3.hok.fresh (by rw [hsz];lia)
 have ok5:=qeL (code:=code) (N':=xs++ts) (tg:=tg) (elt:=elt) (iter:=iter) (ifs:=ifs) (pos:=pos) (it:=it) (o:=(h5.objs.size,ob)) I3 C'.kind C'.nocell CL f3 l3
 have ns5:(h5.push ob).Ns s3.heap.objs.size (λy=>if y=".0" then some (.ref it) else none):=hn5.push _
 have ek:∀ n,(s3.gens.push (GenState.fresh n)).setIfInBounds s3.gens.size .running=s3.gens.push .running:=λn=>by
  apply Array.ext
  ·simp
  ·intro j h1 h2
   by_cases q:j=s3.gens.size
   ·subst q;simp
   ·have:j<s3.gens.size:=by simp at h2;lia
    rw [Array.getElem_setIfInBounds (by simp;lia),wN (Ne.symm q),Array.getElem_push_lt this,Array.getElem_push_lt this]
 have pinA:∀ b:Addr,(h5.objs.size)≠b∨b=h5.objs.size:=λb=>by
  by_cases q:b=h5.objs.size
  ·exact .inr q
  ·exact .inl (Ne.symm q)
 have hpin:(h5.push ob).get? h5.objs.size=some ob:=by subst hob;exact wG _ rfl
 have F:=C'.frs
 have inv5:∀ (gg:Array GenState) (tk:Nat),gg=s3.gens.push .running→Inv (genCx X sc cl s3.heap.objs.size code (xs++ts) fp (.GeneratorExp elt [⟨tg,iter,ifs,0⟩] sc pos) it (h5.objs.size,ob) s3 H3) [] (frS σ fr ts.length) H3 { s3 with heap:=h5.push ob,toks:=tk,gens:=gg }:=by
  intro gg tk hgg
  refine ⟨ok5,rfl,?_,Un.kept (keep5 ob),⟨_,ns5,λi x v h1 h2 h3=>?_⟩,λx cc e=>?_,I3.hok.fresh (wF _),λx cc e=>I3.freeC x cc (CL.sub x cc e),λp hp=>?_,I3.hok.kept (keep5 ob),?_⟩
  ·subst hgg
   exact GK.refl (AllBare.push I3.bare.bare rfl)
  ·have h1:(xs++ts)[i]?=some x:=h1
   have h2:(frS σ fr ts.length)[i]?=some (some v):=h2
   unfold frS at h2
   by_cases hi:i<fr.length
   ·rw [wW (by simpa using hi),w5,wD hi] at h2
    rw [wW (by rw [← F.len];exact hi)] at h1
    simp only [wa,Option.some.injEq] at h2
    have hN:=F.at' i fr[i] x (wD hi) h1
    have hσ:σ[fr[i]]?=some (some v):=by
     cases z:σ[fr[i]]? with
     | none=>rw [z] at h2;cases h2
     | some o=>rw [z] at h2;simp at h2;rw [h2]
    obtain ⟨kf,ko⟩:=F.kd x (wn h1)
    obtain ⟨m0,hn0,hl0⟩:=I3.loc
    obtain ⟨u,r,l⟩:=hl0 fr[i] x v hN hσ (.inr ko)
    refine ⟨u,r,.inr ?_⟩
    have hcc:∃ cc,X.env.cells.lookup x=some cc∧s3.heap.IsCell cc (some u):=by
     rcases l with ⟨z,_⟩ | ⟨_,cc,e1,e2⟩
     ·rcases ko with q | q <;> (rw [z] at q;cases q)
     ·exact ⟨cc,e1,e2⟩
    obtain ⟨cc,e1,o,e2,e3⟩:=hcc
    obtain ⟨c',e4⟩:=CL.all x kf
    have e5:=CL.sub x c' e4
    rw [e1] at e5;cases e5
    exact ⟨.inr kf,cc,e4,o,keep5 ob _ _ e2,e3⟩
   ·rw [wS (by simpa using hi),List.getElem?_replicate] at h2
    split at h2 <;> cases h2
  ·obtain ⟨v,o,e1,e2⟩:=I3.cell x cc (CL.sub x cc e)
   exact ⟨v,o,keep5 ob _ _ e1,e2⟩
  ·have hp':p=(h5.objs.size,ob):=by
    have:p∈[(h5.objs.size,ob)]++([]:List (Addr × Obj)):=hp
    simpa using this
   subst hp'
   refine ⟨hpin,hfree,(show h5.objs.size≠s3.heap.objs.size by lia),λz=>?_,λv=>?_⟩
   ·have z':h5.objs.size∈frs X.stack:=z
    rcases wZ.mp (I3.stkSub _ z') with q | q
    ·have:=I3.lt
     rw [← q,hsz] at this
     exact absurd this (Nat.not_lt.mpr (Nat.le_succ _))
    ·exact absurd q (I3.nofs (by lia))
   ·show ob.data≠_
    rw [← hob];intro z;cases z
  ·show (frS σ fr ts.length).length=(xs++ts).length
   simp [frS,F.len]
 refine ⟨h5.objs.size,ι2,H3,rfl,q2.trans (sp3 ι2),sc,cl,s3.heap.objs.size,code,xs++ts,fp,.GeneratorExp elt [⟨tg,iter,ifs,0⟩] sc pos,it,ob,s3,H3,J,tn,λh e=>?_,λk=>⟨?_,_,Array.getElem?_push_size ..,rfl,?_⟩,λb hb=>?_,T'.keep,λpins' σ' H' z J' gk=>?_⟩
 ·rw [← hob] at e
  exact ⟨_,_,_,e,rfl,rfl,rfl⟩
 ·refine ⟨⟨frS σ fr ts.length,?_,(qcG er fr ts.length).mono (q2.trans (sp3 ι2))⟩,so3 _ _ st2,T'.keep _ _ _ t2 λb hb o eo=>keep5 ob b o (kp3 b o eo (f2 b hb).1).1,vQ _,λb hb=>(f3 b hb).1,ok2.mono (sp3 ι2),λp hp=>absurd hp (by simp)⟩
  exact inv5 _ _ (ek _)
 ·exact qdH (X:=genCx X sc cl s3.heap.objs.size code (xs++ts) fp (.GeneratorExp elt [⟨tg,iter,ifs,0⟩] sc pos) it (h5.objs.size,ob) s3 H3) rfl hc rfl (λp hp hb=>by
   have hp':p=(h5.objs.size,ob):=by
    have:p∈[(h5.objs.size,ob)]:=hp
    simpa using this
   subst hp'
   have:=l3 _ hb
   have e:h5.objs.size<s3.heap.objs.size:=this
   lia) rfl hco T' (B.rt _ _ _ _ _ _ _ _) (B.ri _ _ _ _ _ _ _ _) (B.re _ _ _ _ _ _ _ _) _ _ k
 ·have:=l3 b hb
  show b<(h5.push ob).objs.size
  rw [Heap.size_push]
  exact wX (l3 b hb) (by lia)
 ·have ba:Un (frs X.stack) fp H3 H' s3.heap z.heap:=J'.base
  exact I3.call' (ch:=fp) J'.os ba J'.hok gk λb hb=>⟨(f3 b hb).2.2.2.1,(f3 b hb).2.1,(f3 b hb).2.2.2.2.1,(f3 b hb).2.2.2.2.2⟩
end
end R
namespace R
open PySem PySem.Spec L2 SeqAt
open PyProof.Rows hiding St
section
variable {X:Cx} {pos:Pos}
theorem qbk {M:Model} {A:Around} {α:Type} {t:Sem α} {Q:α→Shared→Prop} {E:Value→Shared→Prop} {s:Shared} (h:wpAny M A.in4 t Q E s):wpAny M A.in1 t Q E s:=wpAny_of_in1 (wpAny_of_in1 (wpAny_of_in1 h))
section
variable {sc:Scope} {cl:List (Str × Addr)} {C:Addr} {code:Value} {N':List Str} {fp:List Addr} {ge:Expr} {it a:Addr} {o:Obj} {s4:Shared} {H4:Hp} {J:It} {tn:Nat→Heap→Prop} {ds:List D} {gu:Sr→Prop} {g:D→En→Sr→Res En} {mt:En→Sr→Res Bool} {me:En→Sr→Res D}
theorem qcd {β:Type} {step:β→D→Option (β ⊕ D)} {fin:β→Option D} {i:Nat} {ρ:En} {b:β} {S S':Sr} {d:D} (h:genLoopG gu g mt me step fin (ds.drop i) ρ b S=.ok d S'):gnx gu g mt me i (ds.drop i) ρ S≠.bad:=λz=>by
 have q:=zt h
 rw [z] at q;cases q
theorem qgW {R:Result→Shared→Prop} (hh:X.A.handled=none) (hd:X.A.depth<recursionLimit) (hg:∀ h:Heap,h.get? a=some o→h.IsGen a s4.gens.size):∀ (k i:Nat) (ρ:En) (b:D) (S:Sr) (ι:List Addr) (H:Hp) (s:Shared) {d:D} {S':Sr},ds.length<k+i →
  Cs (genCx X sc cl C code N' fp ge it (a,o) s4 H4) J tn fp ds gu X.A.in4.in1 g mt me s4.gens.size k i ρ S ι H [] s→genLoopG gu g mt me (stepG .all) (finG .all) (ds.drop i) ρ b S=.ok d S' →
  (∀ σ' ι' H' z c,d=.bl c→Inv (genCx X sc cl C code N' fp ge it (a,o) s4 H4) [] σ' H' (z.setGen s4.gens.size .running)→GK s4.gens z.gens→Stp ι H ι' H'→Sto ι' H' S'→R (.ok (.ret (.bool c))) z) →
  codeAny (model X.prog X.w) X.A (.builtin "all.loop" ⟨[.ref a],[]⟩) R s:=by
 intro k
 induction k with
 | zero =>
  intro i ρ b S ι H s d S' hk Cc _ _
  have:=Cc.sus.le
  lia
 | succ k ih =>
  intro i ρ b S ι H s d S' hk Cc e hR
  refine wz F.entry_all_loop ?_
  rw [wg F.plain_all_loop]
  refine wA (m:=pyNext (.ref a)) (qbk (qaC (X:=genCx X sc cl C code N' fp ge it (a,o) s4 H4) (A:=X.A.in4) hh hd wJ hg rfl rfl Cc (qcd e) (λS2 ι' H' σ' z ez Iz gk q st=>?_) λi' ρ' v S2 ι' H' y u z ez q dv ry Cz=>?_))
  ·have q2:=zt e
   rw [ez] at q2
   cases q2
   exact wA (wpAny_rule (wC (hR σ' ι' H' z true rfl Iz gk q st)))
  ·have q2:=zt e
   have hi:=yU _ _ _ _ ez
   rw [ez] at q2
   simp only [gen1] at q2
   have hv:∃ c,v=.bl c:=by
    cases v with
    | bl c=>exact ⟨c,rfl⟩
    | _=>simp only [stepG] at q2;cases q2
   obtain ⟨c,rfl⟩:=hv
   cases (show y=_ from dv)
   cases (show u=Value.bool c from ry)
   refine wA (wo (vD (wA (wpAny_letGo ?_))))
   cases c with
   | true =>
    simp only [stepG] at q2
    rw [wL rfl]
    exact wC ⟨wy F.plain_all_loop _,ih i' ρ' _ S2 ι' H' z (by lia) Cz q2 λσ2 ι2 H2 z2 c ec I2 gk s2 st2=>hR σ2 ι2 H2 z2 c ec I2 gk (q.trans s2) st2⟩
   | false =>
    simp only [stepG] at q2
    cases q2
    rw [wN (by decide)]
    obtain ⟨⟨⟨σz,Iz,erz⟩,stz,_⟩,gs,eg,bg,_⟩:=Cz
    exact wA (wpAny_rule (wC (hR σz ι' H' z false rfl Iz (GK.done Iz.bare eg bg) q stz)))
end
end
end R
namespace R
open PySem PySem.Spec L2 SeqAt
open PyProof.Rows hiding St
section
variable {X:Cx} {J:It} {tn:Nat→Heap→Prop} {fp:List Addr} {ds:List D} {gu:Sr→Prop} {B:Around} {g:D→En→Sr→Res En} {mt:En→Sr→Res Bool} {me:En→Sr→Res D} {n k i:Nat} {ρ:En} {S:Sr} {ι:List Addr} {H:Hp} {s:Shared}
theorem qcJ (C:Cs X J tn fp ds gu B g mt me n k i ρ S ι H [] s) (tk:∀ i h h',tn i h→(∀ b∈fp,∀ o,h.get? b=some o→h'.get? b=some o)→tn i h') (hf:∀ b∈fp,b<s.heap.objs.size) {u:Obj} (hu:(s.heap.push u).get? s.heap.objs.size=some u) (hc:∀ v,u.data≠.cell v) {t:Nat} :
  Cs X J tn fp ds gu B g mt me n k i ρ S ι H [(s.heap.objs.size,u)] { s with heap:=s.heap.push u,toks:=t }:=by
 obtain ⟨⟨⟨σ,I,er⟩,st,at',le,fz,ok,pf⟩,w⟩:=C
 refine ⟨⟨⟨σ,?_,er⟩,st,tk _ _ _ at' λb _ o e=>wB _ e,le,fz,ok,λp hp hb=>?_⟩,w⟩
 ·have I1:=I.kept (h':=s.heap.push u) (t':=t) λb o e=>wB _ e
  refine I1.pins_of λp hp=>?_
  obtain rfl:=w9.mp hp
  exact ⟨hu,I.hok.fresh (wF _),Nat.ne_of_gt I.lt,I.nofs (wF _),hc⟩
 ·obtain rfl:=w9.mp hp
  exact absurd (hf _ hb) (vB _)
theorem qaD {p:Addr} {u u':Obj} {h':Heap} {t:Nat} (C:Cs X J tn fp ds gu B g mt me n k i ρ S ι H [(p,u)] s) (tk:∀ i h h',tn i h→(∀ b∈fp,∀ o,h.get? b=some o→h'.get? b=some o)→tn i h') (hs:X.s₀.heap.objs.size≤p) (hn:∀ q∈X.pn,q.1≠p)
  (hk:∀ b o,b≠p→s.heap.get? b=some o→h'.get? b=some o) (hu:h'.get? p=some u') (hc:∀ v,u'.data≠.cell v):Cs X J tn fp ds gu B g mt me n k i ρ S ι H [(p,u')] { s with heap:=h',toks:=t }:=by
 obtain ⟨⟨⟨σ,I,er⟩,st,at',le,fz,ok,pf⟩,w⟩:=C
 obtain ⟨e1,e2,e3,e4,e5⟩:=I.pin (p,u) (wR _ (w9.mpr rfl))
 have np:p ∉ fp:=pf (p,u) (w9.mpr rfl)
 refine ⟨⟨⟨σ,?_,er⟩,st,tk _ _ _ at' λb hb o e=>hk b o (λz=>np (z ▸ hb)) e,le,fz,ok,λq hq hb=>?_⟩,w⟩
 ·have I0:Inv X [] σ H (s.setGen n .running):=I.unpinned (pins:=[]) (pl:=[(p,u)])
  have I1:=I0.turned (h':=h') (t':=t) (it:=p) hk e2 e3 (.inr hs) (λx c ec z=>by
   obtain ⟨v,o,eo,d⟩:=I0.cell x c ec
   rw [z,e1] at eo;cases eo
   exact e5 v d) λq hq=>hn q (by simpa using hq)
  refine I1.pins_of λq hq=>?_
  obtain rfl:=w9.mp hq
  exact ⟨hu,e2,e3,e4,hc⟩
 ·obtain rfl:=w9.mp hq
  exact np hb
end
noncomputable def accO (t:Int) (tA:Tok) (c:Nat):Obj:={ cls:=.type "list",dict:=none,data:=.seq #[.int t tA] c,slots:=#[] }
section
variable {X:Cx} {sc:Scope} {cl:List (Str × Addr)} {C:Addr} {code:Value} {N':List Str} {fp:List Addr} {ge:Expr} {it a:Addr} {o:Obj} {s4:Shared} {H4:Hp} {J:It} {tn:Nat→Heap→Prop} {ds:List D} {gu:Sr→Prop} {g:D→En→Sr→Res En} {mt:En→Sr→Res Bool} {me:En→Sr→Res D}
theorem qgX {R:Result→Shared→Prop} (hh:X.A.handled=none) (hd:X.A.depth<recursionLimit) (hg:∀ h:Heap,h.get? a=some o→h.IsGen a s4.gens.size) (tk:∀ i h h',tn i h→(∀ b∈fp,∀ o,h.get? b=some o→h'.get? b=some o)→tn i h')
  {p:Addr} (hp:s4.heap.objs.size≤p) (hpa:a≠p):∀ (k i:Nat) (ρ:En) (t:Int) (S:Sr) (ι:List Addr) (H:Hp) (s:Shared) (tA:Tok) (c:Nat) (sg:Int) {d:D} {S':Sr},(sg=0∨sg=2)→ds.length<k+i →
  Cs (genCx X sc cl C code N' fp ge it (a,o) s4 H4) J tn fp ds gu X.A.in4.in1 g mt me s4.gens.size k i ρ S ι H [(p,accO t tA c)] s→genLoopG gu g mt me (stepG .sum) (finG .sum) (ds.drop i) ρ (.int t) S=.ok d S' →
  (∀ pins' σ' ι' H' z r tz,d=.int r→Inv (genCx X sc cl C code N' fp ge it (a,o) s4 H4) pins' σ' H' (z.setGen s4.gens.size .running)→GK s4.gens z.gens→Stp ι H ι' H'→Sto ι' H' S'→R (.ok (.ret (.int r tz))) z) →
  codeAny (model X.prog X.w) X.A (.builtin "sum.loop" ⟨[.ref a,.ref p,rawInt sg,rawInt 0],[]⟩) R s:=by
 intro k
 induction k with
 | zero =>
  intro i ρ t S ι H s tA c sg d S' _ hk Cc _ _
  have:=Cc.sus.le
  lia
 | succ k ih =>
  intro i ρ t S ι H s tA c sg d S' hsg hk Cc e hR
  have hS:s.heap.get? p=some (accO t tA c):=by
   obtain ⟨σ,I,_⟩:=Cc.sus.inv
   exact (I.pin (p,accO t tA c) (wR _ (w9.mpr rfl))).1
  refine wz F.entry_sum_loop ?_
  rw [wg F.plain_sum_loop]
  refine wA (m:=seqItems? (.ref p)) (wpAny_seqItems hS rfl ?_)
  refine wA (m:=tryCatch (pyNext (.ref a)) _) (wpAny_tryCatch ?_)
  refine qbk (qaC (X:=genCx X sc cl C code N' fp ge it (a,o) s4 H4) (A:=X.A.in4) hh hd wJ hg rfl rfl Cc (qcd e) (λS2 ι' H' σ' z ez Iz gk q st=>?_) λi' ρ' v S2 ι' H' y u z ez q dv ry Cz=>?_)
  ·have q2:=zt e
   rw [ez] at q2
   cases q2
   exact wC (hR _ σ' ι' H' z t tA rfl Iz gk q st)
  ·have q2:=zt e
   have hi:=yU _ _ _ _ ez
   rw [ez] at q2
   simp only [gen1] at q2
   have hv:∃ r,v=.int r:=by
    cases v with
    | int r=>exact ⟨r,rfl⟩
    | _=>simp only [stepG] at q2;cases q2
   obtain ⟨r,rfl⟩:=hv
   cases (show y=_ from dv)
   obtain ⟨tr,rfl⟩:=(show ∃ tr,u=Value.int r tr from ry)
   simp only [stepG] at q2
   have hS':z.heap.get? p=some (accO t tA c):=by
    obtain ⟨σ,I,_⟩:=Cz.sus.inv
    exact (I.pin (p,accO t tA c) (wR _ (w9.mpr rfl))).1
   have hup:=wp (h:=z.heap) (Obj.mapSeq λ_=>#[Value.int (t+r) z.toks]) hS' rfl
   have fin:∀ (h2:Heap) (tk2:Nat) (tA2:Tok) (c2:Nat) (sg2:Int),(sg2=0∨sg2=2)→(∀ b o,b≠p→z.heap.get? b=some o→h2.get? b=some o)→h2.get? p=some (accO (t+r) tA2 c2) →
     codeAny (model X.prog X.w) X.A (.builtin "sum.loop" ⟨[.ref a,.ref p,rawInt sg2,rawInt 0],[]⟩) R { z with heap:=h2,toks:=tk2 }:=λh2 tk2 tA2 c2 sg2 hs2 hk2 hu2=>by
    refine ih i' ρ' (t+r) S2 ι' H' _ tA2 c2 sg2 hs2 (by lia) (qaD Cz tk hp (λq hq=>?_) hk2 hu2 λv z=>by cases z) q2 λpins' σ2 ι2 H2 z2 r2 tz ec I2 gk s2 st2=>hR pins' σ2 ι2 H2 z2 r2 tz ec I2 gk (q.trans s2) st2
    have hq':q=(a,o):=by
     have:q∈[(a,o)]:=hq
     simpa using this
    subst hq'
    exact hpa
   have oth:∀ (f:Obj→Obj) (h1:Heap) (b:Addr) (x:Obj),b≠p→h1.get? b=some x→(h1.update p f).get? b=some x:=λf h1 b x hb ex=>(wb _ _ (Ne.symm hb)).trans ex
   rcases hsg with rfl | rfl
   ·show wpAny _ _ (if (_:Bool)=true then (mkInt (t+r) >>= _) else _) _ _ z
    split
    ·refine wA (wpAny_mkInt ?_)
     refine wA (m:=updateSeq p _) (wpAny_updateSeq hS' rfl (wC ⟨wy F.plain_sum_loop _,?_⟩))
     exact fin _ _ z.toks _ 0 (.inl rfl) (λb x hb ex=>oth _ _ b x hb ex) hup
    ·refine wA (wpAny_rule (wA (wpAny_attempt (wo (wpAny_add_int ?_)))))
     refine wA (m:=updateSeq p _) (wpAny_updateSeq hS' rfl (wA (wpAny_letGo ?_)))
     refine wA (m:=updateSeq p _) (wpAny_updateSeq hup rfl (wC ⟨wy F.plain_sum_loop _,?_⟩))
     exact fin _ _ z.toks _ 2 (.inr rfl) (λb x hb ex=>oth _ _ b x hb (oth _ _ b x hb ex)) (wp _ hup rfl)
   ·refine wA (m:=(holding [Value.int r tr] (binaryOp .Add (.int t tA) (.int r tr))).attempt) (wpAny_attempt (wo (wpAny_add_int ?_)))
    refine wA (m:=updateSeq p _) (wpAny_updateSeq hS' rfl (wA (wpAny_letGo ?_)))
    refine wA (m:=updateSeq p _) (wpAny_updateSeq hup rfl (wC ⟨wy F.plain_sum_loop _,?_⟩))
    exact fin _ _ z.toks _ 2 (.inr rfl) (λb x hb ex=>oth _ _ b x hb (oth _ _ b x hb ex)) (wp _ hup rfl)
end
end R
namespace R
open PySem PySem.Spec L2 SeqAt
open PyProof.Rows hiding St
noncomputable def mGenG (w:GW) (fr:List Nat) (nt:Nat) (mi:En→Sr→Res (List D × (Sr→Prop))) (g:D→En→Sr→Res En) (mt:En→Sr→Res Bool) (me:En→Sr→Res D):En→Sr→Res D:=λρ S=>(mi ρ S).bind λp S1 =>
 genLoopG p.2 g mt me (stepG w) (finG w) p.1 (frE ρ fr nt) (startG w) S1
noncomputable def mGen (w:GW) (fr:List Nat) (nt:Nat) (mi:En→Sr→Res (List D)) (g:D→En→Sr→Res En) (mt:En→Sr→Res Bool) (me:En→Sr→Res D):En→Sr→Res D:=λρ S=>(mi ρ S).bind λds S1 =>
 genLoop g mt me (stepG w) (finG w) ds (frE ρ fr nt) (startG w) S1
theorem qeM {w:GW} {fr:List Nat} {nt:Nat} {mi:En→Sr→Res (List D)} {g:D→En→Sr→Res En} {mt:En→Sr→Res Bool} {me:En→Sr→Res D}:mGenG w fr nt (λρ S=>(mi ρ S).bind λds S1=>.ok (ds,λ_=>True) S1) g mt me=mGen w fr nt mi g mt me:=by
 funext ρ S
 unfold mGenG mGen
 dsimp only
 cases mi ρ S with
 | ok ds S1=>exact zU _ _ _ _
 | err=>rfl
 | no=>rfl
section
variable {X:Cx} {pos gp:Pos}
noncomputable def GCall (X:Cx) (w:GW) (f:Value):Prop:=∀ (pins:List (Addr × Obj)) (s:Shared) (σ:St) (H:Hp) (ι:List Addr) (a:Addr) (ds:List D) (gu:Sr→Prop) (g:D→En→Sr→Res En) (mt:En→Sr→Res Bool) (me:En→Sr→Res D) (ρ:En) (S:Sr) (Q:VK),
 GH X pins σ ds gu g mt me a ρ S ι H s→Pst Den (genLoopG gu g mt me (stepG w) (finG w) ds ρ (startG w) S) ι H Q→wpAny (model X.prog X.w) X.A (call f [.ref a]) (EP X pins σ Q) X.xe s
theorem qaE {w:GW} {ds:List D} {gu:Sr→Prop} {g:D→En→Sr→Res En} {mt:En→Sr→Res Bool} {me:En→Sr→Res D} {ρ:En} {b:D} {S:Sr} {ι:List Addr} {H:Hp} {Q:VK} (h:Pst Den (genLoopG gu g mt me (stepG w) (finG w) ds ρ b S) ι H Q) :
  ∃ d S',genLoopG gu g mt me (stepG w) (finG w) (ds.drop 0) ρ b S=.ok d S'∧∀ y ι' H',Stp ι H ι' H'→Sto ι' H' S'→Den ι' H' d y→Q y H':=by
 rw [List.drop_zero]
 cases z:genLoopG gu g mt me (stepG w) (finG w) ds ρ b S with
 | no=>rw [z] at h;exact h.elim
 | err=>rw [z] at h;exact h.elim
 | ok d S'=>rw [z] at h;exact ⟨d,S',rfl,h⟩
theorem qiH (hc:X.calm=true) (hd:X.A.depth<recursionLimit) (hok:X.calm=true→X.A.handled=none):GCall X .all (.builtin "all"):=by
 intro pins s σ H ι a ds gu g mt me ρ S Q gh h
 obtain ⟨sc,cl,C,code,N',fp,ge,it,o,s4,H4,J,tn,hg,cs,hf,tk,out⟩:=gh
 obtain ⟨d,S',e,q⟩:=qaE h
 have ha:s.heap.get? a=some o:=by
  obtain ⟨σ',I,_⟩:=(cs 0).sus.inv
  exact (I.pin (a,o) (wu _ wJ)).1
 refine call_function_tree F.kind_all F.plain_all F.entry_all (F.args_all1 _) ?_
 unfold Builtin.«all»
 refine wA (m:=oneArg "all" _) (wC (wA (wpAny_pyIter_gen (hg _ ha) (wC ⟨wy F.plain_all_loop _,?_⟩))))
 exact qgW (hok hc) hd hg (ds.length+1) 0 ρ _ S ι H s (by lia) (cs _) e λσ' ι' H' z c ed Iz gk s1 st1=>⟨.bl c,H',out _ σ' H' z Iz gk,rfl,q _ ι' H' s1 st1 (by subst ed;rfl)⟩
theorem qeN (hc:X.calm=true) (hd:X.A.depth<recursionLimit) (hok:X.calm=true→X.A.handled=none):GCall X .sum (.builtin "sum"):=by
 intro pins s σ H ι a ds gu g mt me ρ S Q gh h
 obtain ⟨sc,cl,C,code,N',fp,ge,it,o,s4,H4,J,tn,hg,cs,hf,tk,out⟩:=gh
 obtain ⟨d,S',e,q⟩:=qaE h
 have hh:=(cs 0).sus.inv
 obtain ⟨σ',I,_⟩:=hh
 have ha:s.heap.get? a=some o:=(I.pin (a,o) (wu _ wJ)).1
 refine call_function_tree F.kind_sum F.plain_sum F.entry_sum (F.args_sum1 _) ?_
 unfold Builtin.«sum»
 simp only [w4,List.length_nil]
 rw [wN (by decide)]
 refine wA (wpAny_of_eq (show Builtin.Builtins.bindParams "sum" ["start"] 0 { }=pure [none] from rfl) (wA (wpAny_pyIter_gen (hg _ ha) ?_)))
 refine wA (wpAny_mkInt (wA (wC ?_)))
 simp only [List.forIn_cons,List.forIn_nil]
 refine wA (wA (wA (wpAny_isInstance (T:="int") (b:=false) (typeIs_int _ _ _) PySem.sub_int_str ?_)))
 rw [wN wT]
 refine wC (wA (wA (wpAny_isInstance (T:="int") (b:=false) (typeIs_int _ _ _) PySem.sub_int_bytes ?_)))
 rw [wN wT]
 refine wC (wA (wA (wpAny_isInstance (T:="int") (b:=false) (typeIs_int _ _ _) PySem.sub_int_bytearray ?_)))
 rw [wN wT]
 refine wC (wC (wA (wY (wC ⟨wy F.plain_sum_loop _,?_⟩))))
 have lt:s4.heap.objs.size≤s.heap.objs.size:=I.sz
 have hne:a≠s.heap.objs.size:=w6 (wI ha)
 refine qgX (hok hc) hd hg tk (p:=s.heap.objs.size) lt hne (ds.length+1) 0 ρ 0 S ι H _ s.toks 0 0 (.inl rfl) (by lia) (qcJ (cs _) tk hf (wG _ rfl) λv z=>by cases z) e λpins' σ' ι' H' z r tz ed Iz gk s1 st1=>⟨.int r,H',out _ σ' H' z Iz gk,⟨tz,rfl⟩,q _ ι' H' s1 st1 (by subst ed;rfl)⟩
theorem qeO {w:GW} {id:String} {f:Str} {p:Pos} {tg elt iter:Expr} {ifs:List Expr} {sc:Scope} {fr:List Nat} {xs ts:List Str} {mi:En→Sr→Res (List D × (Sr→Prop))} {g:D→En→Sr→Res En} {mt:En→Sr→Res Bool} {me:En→Sr→Res D} {c T':Addr} (hc:X.calm=true) (hroom:X.A.depth<recursionLimit)
  (gc:GCall X w (.builtin id)) (hgl:Gl X f) (hm:X.mg f=none) (hv:bootBuiltins f=some (.builtin id)) (hn:f≠"__name__") (hdb:(f == ("__debug__":Str))=false)
  (hi:PI X tg iter (TIg mi)) (hs:∀ x,genFold iter X.env x=pure x) (C':CSc X sc fr xs ts) (hz:sc.names.lookup (".0":Str)=some NameKind.local) (hco:sc.isCoroutine=false) (hcode:X.env.code=.ref c) (htab:codeTab X.K c T'=true) (B:BlkG X sc (xs++ts) tg iter ifs elt gp g mt me) :
  PE X (.Call (.Name f p) [.GeneratorExp elt [⟨tg,iter,ifs,0⟩] sc gp] [] pos) (T (mGenG w fr ts.length mi g mt me)):=by
 intro pins s σ H Q I hw
 refine wpAny_Call_Name_kw (zO I hgl hm hv ?_ hn hdb)
 obtain ⟨ι,S,ρ,er,st,h⟩:=hw
 dsimp only [mGenG] at h
 cases z:mi ρ S with
 | no=>rw [z] at h;exact h.elim
 | err=>rw [z] at h;exact h.elim
 | ok dg S1 =>
  obtain ⟨ds,gu⟩:=dg
  rw [z,Res.bind_ok] at h
  refine PyProof.Rows.callWith_builtin1 (e:=.GeneratorExp elt [⟨tg,iter,ifs,0⟩] sc gp) (rest:=[]) ?_ rfl rfl
  refine Calls.spliced_cons (thn (qbj hc hroom hi hs C' hz hco hcode htab B I er st z) λv s' ⟨a,ι',H',ev,q,gh⟩=>?_)
  subst ev
  exact Calls.spliced_nil (gc pins s' σ H' ι' a ds gu g mt me _ S1 Q gh (Pst.from h q))
theorem qkb {w:GW} {id:String} {f:Str} {p:Pos} {tg elt iter:Expr} {ifs:List Expr} {sc:Scope} {fr:List Nat} {xs ts:List Str} {mi:En→Sr→Res (List D)} {g:D→En→Sr→Res En} {mt:En→Sr→Res Bool} {me:En→Sr→Res D} {c T':Addr} (hc:X.calm=true) (hroom:X.A.depth<recursionLimit)
  (gc:GCall X w (.builtin id)) (hgl:Gl X f) (hm:X.mg f=none) (hv:bootBuiltins f=some (.builtin id)) (hn:f≠"__name__") (hdb:(f == ("__debug__":Str))=false)
  (hi:PI X tg iter (TIt mi)) (hs:∀ x,genFold iter X.env x=pure x) (C':CSc X sc fr xs ts) (hz:sc.names.lookup (".0":Str)=some NameKind.local) (hco:sc.isCoroutine=false) (hcode:X.env.code=.ref c) (htab:codeTab X.K c T'=true) (B:BlkG X sc (xs++ts) tg iter ifs elt gp g mt me) :
  PE X (.Call (.Name f p) [.GeneratorExp elt [⟨tg,iter,ifs,0⟩] sc gp] [] pos) (T (mGen w fr ts.length mi g mt me)):=by
 rw [← qeM];exact qeO hc hroom gc hgl hm hv hn hdb (pi_g hi) hs C' hz hco hcode htab B
end
end R
namespace R
open PySem PySem.Spec L2 SeqAt
open PyProof.Rows hiding St
theorem qbl {a b c:Int} (hc:0<c):Builtin.Range.rangeSize a b c=(((b-a+c-1) / c).toNat:Int):=by
 unfold Builtin.Range.rangeSize
 rw [wL hc]
 by_cases h:a<b
 ·rw [wL h]
  have e:b-a+c-1=(b-a-1)+c:=by omega
  have q:(b-a-1+c) / c=(b-a-1) / c+1:=Int.add_ediv_of_dvd_right (Int.dvd_refl c) |>.trans (by rw [Int.ediv_self (by omega)])
  rw [e,q]
  have:=Int.ediv_nonneg (a:=b-a-1) (b:=c) (by omega) (by omega)
  omega
 ·rw [wN h]
  have:(b-a+c-1) / c≤0:=by
   have h1:b-a+c-1≤c-1:=by omega
   have h2:=Int.ediv_le_ediv hc h1
   have h3:(c-1) / c=0:=Int.ediv_eq_zero_of_lt (by omega) (by omega)
   rw [h3] at h2
   exact h2
  omega
theorem qdI {a b c:Int} (h1:-(2^62)≤a) (h2:a<2^62) (h3:-(2^62)≤b) (h4:b<2^62) (h5:0<c) (h6:c<2^62):Builtin.Range.small a b c=true:=by
 have hz:=qbl (a:=a) (b:=b) h5
 have hle:(b-a+c-1) / c≤2^63-1:=by
  by_cases h:b-a+c-1<0
  ·have:=Int.ediv_neg_of_neg_of_pos h h5
   omega
  ·have h7:(b-a+c-1) / c≤b-a+c-1-(c-1)∨b-a≤0:=by
    by_cases h8:b-a≤0
    ·exact .inr h8
    ·left
     have e:b-a+c-1=(b-a-1)+c:=by omega
     have q:(b-a-1+c) / c=(b-a-1) / c+1:=Int.add_ediv_of_dvd_right (Int.dvd_refl c) |>.trans (by rw [Int.ediv_self (by omega)])
     rw [e,q]
     have:=Int.ediv_le_self c (a:=b-a-1) (by omega)
     omega
   rcases h7 with z | z
   ·omega
   ·have h1:b-a+c-1≤c-1:=by omega
    have h2:=Int.ediv_le_ediv h5 h1
    have h3:(c-1) / c=0:=Int.ediv_eq_zero_of_lt (by omega) (by omega)
    rw [h3] at h2
    omega
 unfold Builtin.Range.small
 rw [hz]
 simp only [Builtin.Range.rangeFitsLong,wU,Bool.or_eq_true,vH,beq_iff_eq]
 rw [wL h5]
 simp only [wU,vH]
 omega
theorem noPy {x c:Int} (h1:0<c) (h2:c<2^63):Builtin.divisionGoesByPylong x c=false:=by
 refine PyProof.noPylong_of_log2 ?_
 have h:c.natAbs.log2<63:=(Nat.log2_lt (by omega)).mpr (by omega)
 omega
theorem qbm:∀ {xs:List V} {us:List Value},xs.length=us.length→(∀ (i:Nat) (x:V) (u:Value),xs[i]?=some x→us[i]?=some u→RelV x u)→Vals xs us
 | [],[],_,_=>.nil
 | [],_::_,h,_=>by cases h
 | _::_,[],h,_=>by cases h
 | x::xs,u::us,h,k=>.cons (k 0 x u rfl rfl) (qbm (by simpa using h) λi y w e1 e2=>k (i+1) y w (by simpa using e1) (by simpa using e2))
section
variable {X:Cx} {pos:Pos} {tg:Expr}
noncomputable def RngAt (X:Cx) (pins:List (Addr × Obj)) (σ:St) (ds:List D) (H:Hp) (v:Value) (s:Shared):Prop :=
 ∃ a b c t u w p,v=.ref p∧IsRange s.heap p a b c t u w∧Inv X pins σ H s∧Builtin.Range.small a b c=true∧Builtin.Range.rangeSize a b c=ds.length∧ds=(List.range ds.length).map λ(k:Nat)=>D.int (a+k*c)
theorem qeP {pins:List (Addr × Obj)} {σ:St} {H:Hp} {s:Shared} {ι:List Addr} {l ds:List D} {vs:List V} {us:List Value} {E:Value→Shared→Prop} (I:Inv X pins σ H s) (r:Vals vs us) (hd:Dens ι H l vs) (e:rngD l=some ds) :
  wpAny (model X.prog X.w) X.A (call (.type "range") us) (RngAt X pins σ ds H) E s:=by
 have fin:∀ {a b c:Int} {t u w:Tok} {tk:Nat},-(2^62)≤a→a<2^62→-(2^62)≤b→b<2^62→0<c→c<2^62→ds=rngL a b c →
   RngAt X pins σ ds H (.ref s.heap.objs.size) { s with heap:=s.heap.push { cls:=.type "range",data:=.fields #[.int a t,.int b u,.int c w] },toks:=tk }:=by
  intro a b c t u w tk h1 h2 h3 h4 h5 h6 ed
  have el:ds.length=((b-a+c-1) / c).toNat:=by rw [ed];unfold rngL;simp
  refine ⟨a,b,c,t,u,w,_,rfl,IsRange.new ..,I.kept λb o e=>wB _ e,qdI h1 h2 h3 h4 h5 h6,?_,?_⟩
  ·rw [qbl h5,el]
  ·rw [el,ed]
   unfold rngL
   exact vK λk _=>by rw [Int.mul_comm]
 match l,e,hd with
 | [.int b],e,hd =>
  obtain ⟨x,rfl,hx⟩:=dens1 hd
  cases (show x=_ from hx)
  obtain ⟨u,rfl,tu,rfl⟩:=vals1 r
  simp only [rngD] at e
  split at e
  ·rename_i h
   cases e
   exact call_range_1 (fin (by omega) (by omega) h.1 h.2 (by omega) (by omega) rfl)
  ·cases e
 | [.int a,.int b],e,hd =>
  obtain ⟨x,y,rfl,hx,hy⟩:=dens2 hd
  cases (show x=_ from hx)
  cases (show y=_ from hy)
  obtain ⟨u,w,rfl,⟨tu,rfl⟩,tw,rfl⟩:=vals2 r
  simp only [rngD] at e
  split at e
  ·rename_i h
   cases e
   exact call_range_2 (fin h.1 h.2.1 h.2.2.1 h.2.2.2 (by omega) (by omega) rfl)
  ·cases e
 | [.int a,.int b,.int c],e,hd =>
  obtain ⟨x,r1,rfl,hx,hr1⟩:=hd
  obtain ⟨y,z,rfl,hy,hz⟩:=dens2 hr1
  cases (show x=_ from hx)
  cases (show y=_ from hy)
  cases (show z=_ from hz)
  cases r with
  | cons ra rb =>
   obtain ⟨u,w,rfl,⟨tu,rfl⟩,tw,rfl⟩:=vals2 rb
   obtain ⟨ta,rfl⟩:=ra
   simp only [rngD] at e
   split at e
   ·rename_i h
    cases e
    exact call_range_3 (by omega) (fin h.1 h.2.1 h.2.2.1 h.2.2.2.1 h.2.2.2.2.1 h.2.2.2.2.2 rfl) (.inl (noPy (by omega) (by omega)))
   ·cases e
theorem qeQ {a:Expr} {es:List Expr} {p:Pos} {ms:En→Sr→Res (List D)} (hg:Gl X "range") (hm:X.mg "range"=none) (ha:PA X (a::es) (TL ms)) (hs:starEach (a::es) X.env=(false,eval a X.env)::starEach es X.env) (hpl:(backTo pos (starEach es X.env)).any (·.1)=false)
  {pins:List (Addr × Obj)} {σ:St} {H:Hp} {s:Shared} {ι:List Addr} {S S1:Sr} {ρ:En} {l ds:List D} (I:Inv X pins σ H s) (er:EnR ι H ρ σ) (st:Sto ι H S) (z:ms ρ S=.ok l S1) (e:rngD l=some ds) :
  wpAny (model X.prog X.w) X.A (eval (.Call (.Name "range" p) (a::es) [] pos) X.env) (λv s'=>∃ ι' H',Stp ι H ι' H'∧Sto ι' H' S1∧RngAt X pins σ ds H' v s') X.xe s:=by
 refine Call_ (zO I hg hm boot_range (PyProof.Rows.callWith_type1 (thn (ha pos pins s σ H (λvs H1=>∃ ι1,Stp ι H ι1 H1∧Sto ι1 H1 S1∧Dens ι1 H1 l vs) I ⟨ι,S,ρ,er,st,?_⟩) λus s1 ⟨vs,H1,I1,r1,ι1,q1,st1,d1⟩=>?_) hs hpl))
 ·rw [z];exact λvs ι1 H1 q1 st1 d1=>⟨ι1,q1,st1,d1⟩
 ·exact thn (qeP I1 r1 d1 e) λv s2 q2=>⟨ι1,H1,q1,st1,q2⟩
noncomputable def ItS (lo c:Int) (n:Nat):It:=⟨λi _=>i<n,λi H x H'=>H'=H∧x=.int (lo+i*c),λi _=>n≤i⟩
theorem qdJ {P:Program} {w:World} {K:PySem.W.Frag} (it:Addr) (lo c:Int) (n:Nat):Turn P w K tg (ItS lo c n) [it] it (λi h=>IsRangeIter h it (lo+(i:Nat)*c) ((n:Int)-(i:Nat)) c) where
 mem:=by simp
 obj:=λi h st b hb=>by
  obtain rfl:=w9.mp hb
  exact ⟨_,st,λv z=>by cases (show Data.fields _=Data.cell v from z)⟩
 keep:=λi h h' st k=>k it (by simp) _ st
 item:=by
  intro X hP hw hK hc i pins s σ H E I hf st hg
  subst hP hw hK
  obtain ⟨f0,f1,f2,f3,f4,f5⟩:=hf it (by simp)
  refine (Walks.range (prog:=X.prog) (w:=X.w) (I.ok.hd hc) it lo c n).item i s _ _ hg st λv h' tk hv st' kk=>?_
  obtain ⟨t,rfl⟩:=hv
  have I1:Inv X pins σ H { s with heap:=h',toks:=tk }:=I.turned (λb o hb e=>kk b o (by simpa using hb) e) f0 f1 f3 f4 f5
  exact ⟨_,rfl,qd5 (s:={ s with heap:=h',toks:=tk }) (n:="range_iterator") st' rfl rfl (by decide) ⟨.int (lo+i*c),H,I1,⟨t,rfl⟩,⟨rfl,rfl⟩,st',λb hb=>(hf b hb).1⟩⟩
 done:=by
  intro X hP hw hK hc i pins s σ H E I hf st hg
  subst hP hw hK
  obtain ⟨f0,f1,f2,f3,f4,f5⟩:=hf it (by simp)
  exact wpAny_pyNext_range_end (I.ok.hd hc) st (by have:n≤i:=hg;omega) λh' eb=>⟨rfl,I.turned (t':=s.toks) (λb o hb e=>eb b o hb e) f0 f1 f3 f4 f5⟩
 self:=λ_ _ _ _ _ st h=>wpAny_pyIter_rangeiter st h
theorem qiI {ι:List Addr} {H:Hp} {lo c:Int} {n:Nat}:ItOk ι H (ItS lo c n) ((List.range n).map λ(k:Nat)=>D.int (lo+k*c)) where
 go:=λi d ι2 H2 s e=>by
  rw [w5] at e
  cases z:(List.range n)[i]? with
  | none=>rw [z] at e;cases e
  | some k =>
   rw [z] at e;cases e
   obtain ⟨h1,h2⟩:=wK.mp z
   simp only [List.length_range] at h1
   simp only [List.getElem_range] at h2
   subst h2
   refine ⟨h1,λy H3 hy=>?_⟩
   obtain ⟨rfl,rfl⟩:=hy
   exact ⟨Stp.refl _ _,λ_ z=>⟨z,rfl⟩⟩
 stop:=λι2 H2 s=>by
  show n≤_
  simp
theorem i_rng {a:Expr} {es:List Expr} {p:Pos} {ms:En→Sr→Res (List D)} (hg:Gl X "range") (hm:X.mg "range"=none) (ha:PA X (a::es) (TL ms)) (hs:starEach (a::es) X.env=(false,eval a X.env)::starEach es X.env) (hpl:(backTo pos (starEach es X.env)).any (·.1)=false) :
  PI X tg (.Call (.Name "range" p) (a::es) [] pos) (TIt λρ S=>(ms ρ S).bind λl S1=>ofO (rngD l) S1):=by
 intro pins s σ H R I hw
 obtain ⟨ι,S,ρ,er,st,q⟩:=hw
 dsimp only at q
 cases z:ms ρ S with
 | no=>rw [z] at q;exact q.elim
 | err=>rw [z] at q;exact q.elim
 | ok l S1 =>
  rw [z,Res.bind_ok] at q
  cases z2:rngD l with
  | none=>rw [z2] at q;exact q.elim
  | some ds =>
   rw [z2] at q
   refine thn (qeQ hg hm ha hs hpl I er st z z2) λv s1 ⟨ι1,H1,q1,st1,ra⟩=>?_
   obtain ⟨x,y,c,t,u,w,pp,rfl,ir,I1,sm,sz,ed⟩:=ra
   refine wpAny_pyIter_range ir sm ?_
   refine ⟨s1.heap.objs.size,[s1.heap.objs.size],_,ItS x c ds.length,H1,rfl,I1.kept (t':=s1.toks) λb o e=>wB _ e,qdJ _ x c ds.length,?_,λb hb=>?_,q ι1 H1 _ q1 st1 (by rw [ed];simpa using qiI (ι:=ι1) (H:=H1) (lo:=x) (c:=c) (n:=ds.length))⟩
   ·show IsRangeIter _ _ (x+((0:Nat):Int)*c) ((ds.length:Int)-((0:Nat):Int)) c
    have e1:x+((0:Nat):Int)*c=x:=by simp
    have e2:(ds.length:Int)-((0:Nat):Int)=Builtin.Range.rangeSize x y c:=by rw [sz];simp
    rw [e1,e2]
    exact wG _ rfl
   ·obtain rfl:=w9.mp hb
    exact I1.fpOk (wF _) (I1.hok.fresh (wF _))
theorem jw {a c:Int}:∀ {acc:Array Value} {n:Nat},ItemsOf (λi v=>∃ t,v=.int (a+i*c) t) acc n→Vals ((List.range n).map λ(k:Nat)=>V.int (a+k*c)) acc.toList:=by
 intro acc n h
 obtain ⟨h1,h2⟩:=h
 apply qbm
 ·simp [h1]
 ·intro i x u e1 e2
  rw [w5] at e1
  cases z:(List.range n)[i]? with
  | none=>rw [z] at e1;cases e1
  | some k =>
   rw [z] at e1;cases e1
   obtain ⟨h3,h4⟩:=wK.mp z
   simp only [List.getElem_range] at h4
   subst h4
   obtain ⟨t,rfl⟩:=h2 i u (by simpa using e2)
   exact ⟨t,rfl⟩
end
end R
namespace R
open PySem PySem.Spec L2 SeqAt
open PyProof.Rows hiding St
section
variable {prog:Program} {w:World} {A:Around} {E:Value→Shared→Prop} {s:Shared}
theorem qeR {Q:List Value→Shared→Prop} {r:Addr} {a b c:Int} {t u v:Tok} {n:Nat} (hh:A.handled=none) (hr:IsRange s.heap r a b c t u v) (hs:Builtin.Range.small a b c=true) (hn:Builtin.Range.rangeSize a b c=n) (hl:n≤2^24)
  (hQ:∀ (h':Heap) (tk:Nat) (acc:Array Value),(∀ b o,s.heap.get? b=some o→h'.get? b=some o)→ItemsOf (λi v=>∃ t,v=.int (a+i*c) t) acc n→Q acc.toList { s with heap:=h',toks:=tk }):wpAny (model prog w) A (collect (.ref r)) Q E s:=by
 have core:∀ R:Result→Shared→Prop,(∀ (h':Heap) (tk:Nat) (acc:Array Value) (c':Nat),(∀ b o,s.heap.get? b=some o→h'.get? b=some o)→h'.get? s.heap.objs.size=some { cls:=.type "list",dict:=none,data:=.seq acc c',slots:=#[] }→ItemsOf (λi v=>∃ t,v=.int (a+i*c) t) acc n →
   R (.ok (.ret (.ref s.heap.objs.size))) { s with heap:=h',toks:=tk })→codeAny (model prog w) A (.builtin "proto.collect" ⟨[.ref r],[]⟩) R s:=by
  intro R hR
  refine wz F.entry_proto_collect ?_
  rw [wg F.plain_proto_collect]
  refine wA (m:=newList []) (wY (wC ⟨wy F.plain_list_iadd _,wz F.entry_list_iadd ?_⟩))
  rw [wg F.plain_list_iadd]
  have h0:(s.heap.push { cls:=.type "list",data:=.seq ([]:List Value).toArray }).get? s.heap.objs.size=some { cls:=.type "list",data:=.seq #[] 0 }:=wG _ rfl
  exact wpAny_extend_range (R:=R) (s:={ s with heap:=s.heap.push { cls:=.type "list",data:=.seq ([]:List Value).toArray } }) hh (wB _ hr) hs hn hl s.heap.objs.size (.ref s.heap.objs.size) 0 h0 λh' tk acc c' hk hS hi =>
   hR h' tk acc c' (λb o e=>hk b o (w6 (wI e)) (wB _ e)) hS hi
 unfold collect
 refine wA (wpAny_runValue (core _ λh' tk acc c' hk hS hi=>?_))
 exact wA (m:=load s.heap.objs.size) (wpAny_load hS (wC (hQ h' tk acc hk hi)))
theorem qgY {Q:Value→Shared→Prop} {r:Addr} {a b c:Int} {t u v:Tok} {n:Nat} (hh:A.handled=none) (hr:IsRange s.heap r a b c t u v) (hs:Builtin.Range.small a b c=true) (hn:Builtin.Range.rangeSize a b c=n) (hl:n≤2^24)
  (hQ:∀ (h':Heap) (tk:Nat) (acc:Array Value),(∀ b o,s.heap.get? b=some o→h'.get? b=some o)→ItemsOf (λi v=>∃ t,v=.int (a+i*c) t) acc n→Q (.ref h'.objs.size) { s with heap:=h'.push { cls:=.type "tuple",data:=.seq acc },toks:=tk }) :
  wpAny (model prog w) A (call (.type "tuple") [.ref r]) Q E s:=by
 have new:codeAny (model prog w) A.in1 (.call (.builtin "tuple.__new__") ⟨[.type "tuple",.ref r],[]⟩) (wants (λobj s₁=>s₁.TypeIs obj "tuple"∧Q obj s₁) E) s:=by
  refine codeAny_of_tree (?_:wpAny _ A.in1.in1 (do checkBuiltinCall "tuple.__new__" ⟨[.type "tuple",.ref r],[]⟩;again (.builtin "tuple.__new__" ⟨[.type "tuple",.ref r],[]⟩)) _ _ s)
  refine wA (wpAny_of_eq (F.newCall_tuple_1 _) (wC ⟨wy F.plain_tuple_new _,wz F.entry_tuple_new ?_⟩))
  rw [wg F.plain_tuple_new]
  have k1:=sub_tuple_self
  have k2:=init_tuple_lookup
  have k3:=madeHere_tuple
  have hT:s.TypeIs (.ref r) "range":=⟨_,hr,rfl⟩
  wp_walk using wpAny_typeOf hT,qeR (A:=A.in1.in1) hh hr hs hn hl
  intro h' tk acc hk hi
  refine wA (m:=Builtin.Tuple.tupleExact acc.toList.toArray) ?_
  unfold Builtin.Tuple.tupleExact
  refine wY (wC ?_) (by
   have:acc.toList.toArray.size≤sizeLine:=by rw [Array.toArray_toList,hi.1];exact hl
   exact this)
  have e:acc.toList.toArray=acc:=Array.toArray_toList ..
  rw [e]
  exact ⟨⟨_,wG _ rfl,rfl⟩,hQ h' tk acc hk hi⟩
 refine callType_codes F.called_tuple (F.typeCall_tuple_1 _) F.entry_object_init new λobj s₁ h₁=>?_
 exact ⟨h₁.1,F.args_object_init_2 obj _,object_init_meets F.called_tuple.init.lookup F.called_tuple.made (by decide) prog w A.in1 _ s₁ ⟨h₁.1,rfl,h₁.2⟩⟩
end
section
variable {X:Cx} {pos:Pos}
noncomputable def mRng (k:Option Bool) (ms:En→Sr→Res (List D)):En→Sr→Res D:=λρ S=>(ms ρ S).bind λl S1=>match rngD l with
 | some ds=>if ds.length≤1000000 then (match k with
  | some m=>newL m ds S1
  | none=>.ok (.tup ds) S1) else .no
 | none=>.no
theorem qgZ {ι:List Addr} {H:Hp} {a c:Int} {n:Nat}:Dens ι H ((List.range n).map λ(k:Nat)=>D.int (a+k*c)) ((List.range n).map λ(k:Nat)=>V.int (a+k*c)):=by
 have:∀ l:List Nat,Dens ι H (l.map λ(k:Nat)=>D.int (a+k*c)) (l.map λ(k:Nat)=>V.int (a+k*c)):=λl=>by
  induction l with
  | nil=>rfl
  | cons x r ih=>exact ⟨_,_,rfl,rfl,ih⟩
 exact this _
theorem qkc {k:Option Bool} {f:Str} {ty:String} {a:Expr} {es:List Expr} {p1 p2 pos2:Pos} {ms:En→Sr→Res (List D)} (hf:(f=Str.ofString "list"∧ty="list"∧∃ m,k=some m)∨(f=Str.ofString "tuple"∧ty="tuple"∧k=none)) (hc:X.calm=true) (hg:Gl X "range") (hm:X.mg "range"=none) (hg2:Gl X f) (hm2:X.mg f=none)
  (ha:PA X (a::es) (TL ms)) (hs:starEach (a::es) X.env=(false,eval a X.env)::starEach es X.env) (hpl:(backTo pos2 (starEach es X.env)).any (·.1)=false) :
  PE X (.Call (.Name f p1) [.Call (.Name "range" p2) (a::es) [] pos2] [] pos) (T (mRng k ms)):=by
 intro pins s σ H Q I hw
 have hb:bootBuiltins f=some (.type ty):=by
  rcases hf with ⟨rfl,rfl,_⟩ | ⟨rfl,rfl,_⟩ <;> decide +kernel
 have hn:f≠"__name__":=by rcases hf with ⟨rfl,rfl,_⟩ | ⟨rfl,rfl,_⟩ <;> decide
 have hd:(f == ("__debug__":Str))=false:=by rcases hf with ⟨rfl,rfl,_⟩ | ⟨rfl,rfl,_⟩ <;> decide
 refine Call_ (zO I hg2 hm2 hb ?_ hn hd)
 obtain ⟨ι,S,ρ,er,st,q⟩:=hw
 dsimp only [mRng] at q
 cases z:ms ρ S with
 | no=>rw [z] at q;exact q.elim
 | err=>rw [z] at q;exact q.elim
 | ok l S1 =>
  rw [z,Res.bind_ok] at q
  cases z2:rngD l with
  | none=>simp only [z2] at q;exact q.elim
  | some ds =>
   simp only [z2] at q
   by_cases hle:ds.length≤1000000
   ·rw [wL hle] at q
    refine PyProof.Rows.callWith_type1 (e:=.Call (.Name "range" p2) (a::es) [] pos2) (rest:=[]) ?_ rfl rfl
    refine Calls.spliced_cons (thn (qeQ hg hm ha hs hpl I er st z z2) λv s1 ⟨ι1,H1,q1,st1,ra⟩=>Calls.spliced_nil ?_)
    obtain ⟨x,y,c,t,u,w,pp,rfl,ir,I1,sm,sz,ed⟩:=ra
    have hfr:H1 s1.heap.objs.size=none:=I1.hok.fresh (wF _)
    have dd:Dens ι1 H1 ds ((List.range ds.length).map λ(k:Nat)=>V.int (x+k*c)):=by
     have:=qgZ (ι:=ι1) (H:=H1) (a:=x) (c:=c) (n:=ds.length)
     rwa [← ed] at this
    have hl24:ds.length≤2^24:=wv hle (by decide)
    rcases hf with ⟨rfl,rfl,e⟩ | ⟨rfl,rfl,e⟩
    ·obtain ⟨m,rfl⟩:=e
     ·refine call_list_range (I.ok.hd hc) ir sm sz hl24 λh' tk acc c' hk hS hi=>?_
      exact ⟨.ref _,_,I1.laid (o:=.lst ((List.range ds.length).map λ(k:Nat)=>V.int (x+k*c))) (t':=tk) hk (wF _) ⟨by simp;exact hl24,acc.toList,c',jw hi,by rw [hS]⟩,rfl,zq st1 dd (Pst.from q q1) _ hfr⟩
    ·subst e
     ·refine qgY (I.ok.hd hc) ir sm sz hl24 λh' tk acc hk hi=>?_
      have I2:=I1.kept (h':=h') (t':=tk) hk
      have hfr2:H1 h'.objs.size=none:=I2.hok.fresh (wF _)
      refine ⟨.ref _,upd H1 h'.objs.size (.tup _),I2.laid (t':=tk) (λb o e=>wB _ e) (wF _) ⟨by simp;exact hl24,acc.toList,jw hi,⟨_,wG _ rfl,rfl,0,by simp⟩⟩,rfl,zb st1 dd ?_ _ hfr2⟩
      exact λv ι' H' s' st' dv=>q v ι' H' (q1.trans s') st' dv
   ·rw [wN hle] at q;exact q.elim
end
end R
namespace R
open PySem PySem.Spec L2 SeqAt
open PyProof.Rows hiding St
noncomputable def SI (b:Bool) (h:Heap) (it l:Addr) (k:Nat):Prop:=match b with
 | true=>h.IsTupleIter it l k
 | false=>h.IsListIter it l k
noncomputable def SQ (b:Bool) (h:Heap) (l:Addr) (xs:Array Value):Prop:=match b with
 | true=>h.IsTuple l xs
 | false=>h.IsList l xs
theorem SI.at {b:Bool} {h h':Heap} {it l:Addr} {k:Nat} (x:SI b h it l k) (e:∀ o,h.get? it=some o→h'.get? it=some o):SI b h' it l k:=by
 cases b with
 | true=>exact Heap.IsTupleIter.at x e
 | false=>exact Heap.IsListIter.at x e
theorem SQ.at {b:Bool} {h h':Heap} {l:Addr} {xs:Array Value} (x:SQ b h l xs) (e:∀ o,h.get? l=some o→h'.get? l=some o):SQ b h' l xs:=by
 cases b with
 | true=>exact Heap.IsTuple.at x e
 | false=>exact Heap.IsList.at x e
theorem SI.obj {b:Bool} {h:Heap} {it l:Addr} {k:Nat} (x:SI b h it l k):∃ o,h.get? it=some o∧(∀ v,o.data≠.cell v):=by
 cases b with
 | true=>obtain ⟨o,e,_,d⟩:=x;exact ⟨o,e,λv z=>by rw [d] at z;cases z⟩
 | false=>obtain ⟨o,e,_,d⟩:=x;exact ⟨o,e,λv z=>by rw [d] at z;cases z⟩
section
variable {prog:Program} {w:World} {A:Around} {E:Value→Shared→Prop} {s:Shared}
theorem qeS {it l:Addr} {i:Nat} {xs:Array Value} {x:Value} {Q:Value→Shared→Prop} (hi:s.heap.IsTupleIter it l i) (hl:s.heap.IsTuple l xs) (hx:xs[i]?=some x)
  (hQ:∀ h',h'.IsTupleIter it l (i+1)→Heap.SameBut it s.heap h'→Q x { s with heap:=h' }):wpAny (model prog w) A (Builtin.SmallTypes.nextOf (.ref it)) Q E s:=by
 have hT:=hi.typeIs
 obtain ⟨o,eo,co,d⟩:=hi
 obtain ⟨u,eu,_,m,du⟩:=hl
 unfold Builtin.SmallTypes.nextOf
 refine wA (wf (name:=Str.ofString "__next__") hT F.slot_tuple_iterator_next (wk F.slot_tuple_iterator_next hT F.entry_tuple_iterator_next ?_ (F.args_tuple_iterator_next_1 _)))
 refine wA (m:=field (.ref it) 0) (vE eo d (x:=.ref l) rfl (?_:wpAny _ _ (if (Value.ref l == Value.none)=true then _ else _) _ _ s))
 rw [wN (show ¬ ((Value.ref l == Value.none)=true) from wT)]
 refine wA (m:=field (.ref it) 1) (vE eo d (x:=.int i 0) rfl ?_)
 refine wA (m:=seqItems? (.ref l)) (wpAny_seqItems eu du ?_)
 simp only [Int.toNat_natCast,hx]
 refine wA (wpAny_setField eo d (by simp) (wC ⟨x,rfl,wC (hQ _ ⟨_,wp _ eo (Obj.isFreed_of_fields (Obj.data_mapFields d _)),(Obj.cls_mapFields ..).trans co,?_⟩ (Heap.SameBut.update ..))⟩))
 rw [Obj.data_mapFields d];simp [rawInt]
theorem qaF {it l:Addr} {i:Nat} {xs:Array Value} {Q:Value→Shared→Prop} (hh:A.handled=none) (hi:s.heap.IsTupleIter it l i) (hl:s.heap.IsTuple l xs) (hx:xs[i]?=none)
  (hE:∀ h' e,Heap.ExtBut it s.heap h'→(∃ o,h'.get? e=some o∧o.cls=.type "StopIteration")→E (.ref e) { s with heap:=h' }):wpAny (model prog w) A (Builtin.SmallTypes.nextOf (.ref it)) Q E s:=by
 have hT:=hi.typeIs
 obtain ⟨o,eo,co,d⟩:=hi
 obtain ⟨u,eu,_,m,du⟩:=hl
 unfold Builtin.SmallTypes.nextOf
 refine wA (wf (name:=Str.ofString "__next__") hT F.slot_tuple_iterator_next (wk F.slot_tuple_iterator_next hT F.entry_tuple_iterator_next ?_ (F.args_tuple_iterator_next_1 _)))
 refine wA (m:=field (.ref it) 0) (vE eo d (x:=.ref l) rfl (?_:wpAny _ _ (if (Value.ref l == Value.none)=true then _ else _) _ _ s))
 rw [wN (show ¬ ((Value.ref l == Value.none)=true) from wT)]
 refine wA (m:=field (.ref it) 1) (vE eo d (x:=.int i 0) rfl ?_)
 refine wA (m:=seqItems? (.ref l)) (wpAny_seqItems eu du ?_)
 simp only [Int.toNat_natCast,hx]
 refine wA (wpAny_rule (wA (wpAny_setField eo d (by simp) (?_:wpAny _ _ (newExc (.type "StopIteration") [] >>= _) _ _ _))))
 refine wA ?_
 unfold newExc newTuple
 refine wA (wY (wA (wpAny_of_eq (t:=firstArgMember _ _) (a:=Value.none) (by first | rfl | (simp only [firstArgMember];rfl)) (wY ?_ (by size_fits)))) (by size_fits))
 unfold raiseNew
 refine wA (wpAny_handled ?_)
 rw [show A.in1.handled=none from hh]
 exact wA (wC (wpAny_throw (hE _ _ (((Heap.SameBut.update ..).extBut.push _).push _) ⟨_,wG _ rfl,rfl⟩)))
theorem draw {b:Bool} {it l:Addr} {i:Nat} {xs:Array Value} {x:Value} {Q:Value→Shared→Prop} (hi:SI b s.heap it l i) (hl:SQ b s.heap l xs) (hx:xs[i]?=some x)
  (hQ:∀ h',SI b h' it l (i+1)→Heap.SameBut it s.heap h'→Q x { s with heap:=h' }):wpAny (model prog w) A (Builtin.SmallTypes.nextOf (.ref it)) Q E s:=by
 cases b with
 | true=>exact qeS hi hl hx hQ
 | false=>exact wpAny_nextOf_list_item hi hl hx hQ
theorem qbn {b:Bool} {it l:Addr} {i:Nat} {xs:Array Value} {Q:Value→Shared→Prop} (hh:A.handled=none) (hi:SI b s.heap it l i) (hl:SQ b s.heap l xs) (hx:xs[i]?=none)
  (hE:∀ h' e,Heap.ExtBut it s.heap h'→(∃ o,h'.get? e=some o∧o.cls=.type "StopIteration")→E (.ref e) { s with heap:=h' }):wpAny (model prog w) A (Builtin.SmallTypes.nextOf (.ref it)) Q E s:=by
 cases b with
 | true=>exact qaF hh hi hl hx hE
 | false=>exact wpAny_nextOf_list_end hh hi hl hx hE
structure ZA (z TI TO i j l m:Addr):Prop where
 zTI:TI≠z
 zTO:TO≠z
 zi:i≠z
 zj:j≠z
 TT:TI≠TO
 TIi:TI≠i
 TIj:TI≠j
 TOi:TO≠i
 TOj:TO≠j
 ij:i≠j
 lz:l≠z
 lT:l≠TO
 li:l≠i
 lj:l≠j
 mz:m≠z
 mT:m≠TO
 mi:m≠i
 mj:m≠j
structure ZS (b c:Bool) (h:Heap) (z TI TO i j l m:Addr) (k:Nat) (xs ys:Array Value) (f:Value):Prop where
 z:IsZip h z TI TO f
 ti:IsPair h TI (.ref i) (.ref j)
 to':∃ a d,IsPair h TO a d
 i1:SI b h i l k
 i2:SI c h j m k
 q1:SQ b h l xs
 q2:SQ c h m ys
variable {b c:Bool} {z TI TO i j l m:Addr} {k:Nat} {xs ys:Array Value}
theorem qiJ {x y:Value} {Q:Option Value→Shared→Prop} (D:ZA z TI TO i j l m) (st:ZS b c s.heap z TI TO i j l m k xs ys .none) (hx:xs[k]?=some x) (hy:ys[k]?=some y)
  (hQ:∀ h',ZS b c h' z TI TO i j l m (k+1) xs ys (rawInt s.heap.objs.size)→IsPair h' s.heap.objs.size x y→(∀ a o,a≠z→a≠TO→a≠i→a≠j→s.heap.get? a=some o→h'.get? a=some o)→Q (some (.ref s.heap.objs.size)) { s with heap:=h' }) :
  wpAny (model prog w) A (pyNext (.ref z)) Q E s:=by
 obtain ⟨oz,ti,⟨t0,t1,to'⟩,i1,i2,q1,q2⟩:=st
 have hT:s.TypeIs (.ref z) "zip":=⟨_,oz,rfl⟩
 unfold pyNext
 refine wA (wpAny_attempt (wf (name:=Str.ofString "__next__") hT F.slot_zip_next (wk F.slot_zip_next hT F.entry_zip_next ?_ (F.args_zip_next_1 _))))
 refine wA (m:=field (.ref z) 2) (vE oz rfl (x:=.bool false) rfl (wA (m:=field (.ref z) 3) (vE oz rfl (x:=.ref TI) rfl (wA (wpAny_seqItems ti rfl ?_)))))
 refine wA (m:=Builtin.SmallTypes.ownedTupleIsFree (.ref z)) ?_
 unfold Builtin.SmallTypes.ownedTupleIsFree
 refine wA (vE oz rfl (x:=.none) rfl (wC ?_))
 simp only [if_true]
 refine wA (wpAny_rule (wA (vE oz rfl (x:=.ref TO) rfl (wA (wpAny_setField_rec oz (by simp) λh1 z1 b1=>?_)))))
 have z1':IsZip h1 z TI TO .ellipsis:=z1
 refine wA ?_
 simp only [List.zipIdx_cons,List.zipIdx_nil,List.forIn_cons,List.forIn_nil]
 refine wA (wA (wpAny_onRaise (wA (m:=Builtin.SmallTypes.nextOf (.ref i)) ?_)))
 refine draw (i1.at λo e=>b1.extBut _ o D.zi e) (q1.at λo e=>b1.extBut _ o D.lz e) hx λh2 i2' b2=>wC ?_
 have o2:IsPair h2 TO t0 t1:=b2.extBut _ _ D.TOi (b1.extBut _ _ D.zTO to')
 refine wA (wpAny_seqItems o2 rfl (wA (wpAny_updateSeq_pair o2 λh3 o3 b3=>wA (wpAny_letGo (wC ?_)))))
 have o3':IsPair h3 TO x t1:=o3
 refine wA (wA (wpAny_onRaise (wA (m:=Builtin.SmallTypes.nextOf (.ref j)) ?_)))
 refine draw (i2.at λo e=>b3.extBut _ o D.TOj.symm (b2.extBut _ o D.ij.symm (b1.extBut _ o D.zj e))) (q2.at λo e=>b3.extBut _ o D.mT (b2.extBut _ o D.mi (b1.extBut _ o D.mz e))) hy λh4 i4 b4=>wC ?_
 have o4:IsPair h4 TO x t1:=b4.extBut _ _ D.TOj o3'
 refine wA (wpAny_seqItems o4 rfl (wA (wpAny_updateSeq_pair o4 λh5 o5 b5=>wA (wpAny_letGo (wC (wC ?_))))))
 have o5':IsPair h5 TO x y:=o5
 refine wA (wpAny_seqItems o5' rfl (wA (wpAny_newTuple ?_)))
 have sz:h5.objs.size=s.heap.objs.size:=by rw [b5.1,b4.1,b3.1,b2.1,b1.1]
 have z5:IsZip h5 z TI TO .ellipsis:=b5.extBut _ _ D.zTO.symm (b4.extBut _ _ D.zj.symm (b3.extBut _ _ D.zTO.symm (b2.extBut _ _ D.zi.symm z1')))
 have k5:∀ a o,a≠z→a≠TO→a≠i→a≠j→s.heap.get? a=some o→h5.get? a=some o:=λa o n1 n2 n3 n4 e=>b5.extBut _ _ n2 (b4.extBut _ _ n4 (b3.extBut _ _ n2 (b2.extBut _ _ n3 (b1.extBut _ _ n1 e))))
 have zl:z<h5.objs.size:=wI z5
 refine wA (m:=Builtin.SmallTypes.ownedTupleHandOut (.ref z) (.ref h5.objs.size)) ?_
 unfold Builtin.SmallTypes.ownedTupleHandOut
 have z6:IsZip (h5.push { cls:=.type "tuple",data:=.seq #[x,y] }) z TI TO .ellipsis:=wB _ z5
 refine wA (wpAny_setField_rec z6 (by simp) λh7 z7 b7=>?_)
 have z7':IsZip h7 z TI TO (rawInt h5.objs.size):=z7
 refine wpAny_setField_rec z7' (by simp) λh8 z8 b8=>?_
 have z8':IsZip h8 z TI TO (rawInt h5.objs.size):=z8
 have up:∀ a o,a≠z→h5.get? a=some o→h8.get? a=some o:=λa o n e=>b8.extBut _ _ n (b7.extBut _ _ n (wB _ e))
 have t8:IsPair h8 h5.objs.size x y:=b8.extBut _ _ (Nat.ne_of_gt zl) (b7.extBut _ _ (Nat.ne_of_gt zl) (wG _ rfl))
 rw [sz] at z8' t8
 refine wC ⟨_,rfl,wC ?_⟩
 have all:∀ a o,a≠z→a≠TO→a≠i→a≠j→s.heap.get? a=some o→h8.get? a=some o:=λa o n1 n2 n3 n4 e=>up a o n1 (k5 a o n1 n2 n3 n4 e)
 have fin:=hQ h8 ⟨z8',all _ _ D.zTI D.TT D.TIi D.TIj ti,⟨_,_,up _ _ D.zTO o5'⟩,i2'.at λo e=>up _ o D.zi (b5.extBut _ o D.TOi.symm (b4.extBut _ o D.ij (b3.extBut _ o D.TOi.symm e))),i4.at λo e=>up _ o D.zj (b5.extBut _ o D.TOj.symm e),
  q1.at λo e=>all _ o D.lz D.lT D.li D.lj e,q2.at λo e=>all _ o D.mz D.mT D.mi D.mj e⟩ t8 all
 rw [← sz] at fin
 exact fin
theorem qg0 {Q:Option Value→Shared→Prop} (hh:A.handled=none) (D:ZA z TI TO i j l m) (st:ZS b c s.heap z TI TO i j l m k xs ys .none) (hx:xs[k]?=none∨ys[k]?=none)
  (hQ:∀ h',(∀ a o,a≠z→a≠TO→a≠i→a≠j→s.heap.get? a=some o→h'.get? a=some o)→Q none { s with heap:=h' }):wpAny (model prog w) A (pyNext (.ref z)) Q E s:=by
 obtain ⟨oz,ti,⟨t0,t1,to'⟩,i1,i2,q1,q2⟩:=st
 have hT:s.TypeIs (.ref z) "zip":=⟨_,oz,rfl⟩
 have last:∀ (h':Heap) (e:Addr),(∀ a o,a≠z→a≠TO→a≠i→a≠j→s.heap.get? a=some o→h'.get? a=some o)→(∃ o,h'.get? e=some o∧o.cls=.type "StopIteration") →
   wpAny (model prog w) A (do if ← isInstance (.ref e) (.type "StopIteration") then pure none else throw (Value.ref e)) Q E { s with heap:=h' }:=λh' e hk ⟨o,ho,hc⟩ =>
  wA (wpAny_isInstance (T:="StopIteration") (b:=true) ⟨o,ho,hc⟩ isSubtype_stop (wC (hQ h' hk)))
 unfold pyNext
 refine wA (wpAny_attempt (wf (name:=Str.ofString "__next__") hT F.slot_zip_next (wk F.slot_zip_next hT F.entry_zip_next ?_ (F.args_zip_next_1 _))))
 refine wA (m:=field (.ref z) 2) (vE oz rfl (x:=.bool false) rfl (wA (m:=field (.ref z) 3) (vE oz rfl (x:=.ref TI) rfl (wA (wpAny_seqItems ti rfl ?_)))))
 refine wA (m:=Builtin.SmallTypes.ownedTupleIsFree (.ref z)) ?_
 unfold Builtin.SmallTypes.ownedTupleIsFree
 refine wA (vE oz rfl (x:=.none) rfl (wC ?_))
 simp only [if_true]
 refine wA (wpAny_rule (wA (vE oz rfl (x:=.ref TO) rfl (wA (wpAny_setField_rec oz (by simp) λh1 z1 b1=>?_)))))
 have z1':IsZip h1 z TI TO .ellipsis:=z1
 refine wA ?_
 simp only [List.zipIdx_cons,List.zipIdx_nil,List.forIn_cons,List.forIn_nil]
 refine wA (wA (wpAny_onRaise (wA (m:=Builtin.SmallTypes.nextOf (.ref i)) ?_)))
 cases ex:xs[k]? with
 | none =>
  refine qbn hh (i1.at λo e=>b1.extBut _ o D.zi e) (q1.at λo e=>b1.extBut _ o D.lz e) ex λh2 e b2 ⟨oe,he,ce⟩=>?_
  have z2:IsZip h2 z TI TO .ellipsis:=b2 _ _ D.zi.symm z1'
  have ne:e≠z:=λq=>by subst q;rw [z2] at he;cases he;simp at ce
  exact wpAny_setField_rec z2 (by simp) λh3 _ b3=>last h3 e (λa o n1 _ n3 _ q=>b3.extBut _ _ n1 (b2 _ _ n3 (b1.extBut _ _ n1 q))) ⟨oe,b3.extBut _ _ ne he,ce⟩
 | some x =>
  have ey:ys[k]?=none:=by
   rcases hx with q | q
   ·rw [ex] at q;cases q
   ·exact q
  refine draw (i1.at λo e=>b1.extBut _ o D.zi e) (q1.at λo e=>b1.extBut _ o D.lz e) ex λh2 i2' b2=>wC ?_
  have o2:IsPair h2 TO t0 t1:=b2.extBut _ _ D.TOi (b1.extBut _ _ D.zTO to')
  refine wA (wpAny_seqItems o2 rfl (wA (wpAny_updateSeq_pair o2 λh3 o3 b3=>wA (wpAny_letGo (wC ?_)))))
  refine wA (wA (wpAny_onRaise (wA (m:=Builtin.SmallTypes.nextOf (.ref j)) ?_)))
  refine qbn hh (i2.at λo e=>b3.extBut _ o D.TOj.symm (b2.extBut _ o D.ij.symm (b1.extBut _ o D.zj e))) (q2.at λo e=>b3.extBut _ o D.mT (b2.extBut _ o D.mi (b1.extBut _ o D.mz e))) ey λh4 e b4 ⟨oe,he,ce⟩=>?_
  have z4:IsZip h4 z TI TO .ellipsis:=b4 _ _ D.zj.symm (b3.extBut _ _ D.zTO.symm (b2.extBut _ _ D.zi.symm z1'))
  have ne:e≠z:=λq=>by subst q;rw [z4] at he;cases he;simp at ce
  exact wpAny_setField_rec z4 (by simp) λh5 _ b5=>last h5 e (λa o n1 n2 n3 n4 q=>b5.extBut _ _ n1 (b4 _ _ n4 (b3.extBut _ _ n2 (b2.extBut _ _ n3 (b1.extBut _ _ n1 q))))) ⟨oe,b5.extBut _ _ ne he,ce⟩
end
end R
namespace R
open PySem PySem.Spec L2 SeqAt
open PyProof.Rows hiding St
noncomputable def siO (b:Bool) (l:Addr):Obj:=match b with
 | true=>{ cls:=.type "tuple_iterator",data:=.fields #[.ref l,.int 0 0] }
 | false=>{ cls:=.type "list_iterator",data:=.fields #[.ref l,.int 0 0] }
theorem qeT {b:Bool} {h:Heap} {l:Addr}:SI b (h.push (siO b l)) h.objs.size l 0:=by
 cases b with
 | true=>exact ⟨_,wG _ rfl,rfl,rfl⟩
 | false=>exact ⟨_,wG _ rfl,rfl,rfl⟩
section
variable {prog:Program} {w:World} {A:Around} {E:Value→Shared→Prop} {s:Shared}
theorem qbo {b:Bool} {l:Addr} {xs:Array Value} {Q:Value→Shared→Prop} (hl:SQ b s.heap l xs) (hQ:Q (.ref s.heap.objs.size) { s with heap:=s.heap.push (siO b l) }):wpAny (model prog w) A (pyIter (.ref l)) Q E s:=by
 cases b with
 | true=>exact wpAny_pyIter_tuple hl hQ
 | false=>exact wpAny_pyIter_list hl hQ
end
noncomputable def zh1 (b:Bool) (h:Heap) (l:Addr):Heap:=h.push (siO b l)
noncomputable def zh2 (b c:Bool) (h:Heap) (l m:Addr):Heap:=(zh1 b h l).push (siO c m)
noncomputable def zh3 (b c:Bool) (h:Heap) (l m:Addr):Heap:=(zh2 b c h l m).push { cls:=.type "tuple",data:=.seq #[.ref h.objs.size,.ref (zh1 b h l).objs.size] }
noncomputable def zh4 (b c:Bool) (h:Heap) (l m:Addr):Heap:=(zh3 b c h l m).push { cls:=.type "tuple",data:=.seq #[.none,.none] }
noncomputable def zh5 (b c:Bool) (h:Heap) (l m:Addr):Heap:=(zh4 b c h l m).push { cls:=.type "zip",data:=.fields #[.none,.bool false,.bool false,.ref (zh2 b c h l m).objs.size,.ref (zh3 b c h l m).objs.size] }
theorem qg1 (b c:Bool) (l m:Addr) (xs ys:Array Value):Meets (Builtin.«zip.__new__» ⟨[.type "zip",.ref l,.ref m],[]⟩) (λ_ R s=>SQ b s.heap l xs∧SQ c s.heap m ys∧R (.ok (.ret (.ref (zh4 b c s.heap l m).objs.size))) { s with heap:=zh5 b c s.heap l m }) :=
 .of_wp λprog w A R s h=>by
  obtain ⟨hp,g,d,tk,os⟩:=s
  obtain ⟨a1,a2,h⟩:=h
  have k0:=sub_zip
  have e1:SQ b (Shared.heap ⟨hp,g,d,tk,os⟩) l xs:=a1
  have e2:SQ c (Shared.heap ⟨hp.push (siO b l),g,d,tk,os⟩) m ys:=SQ.at a2 λo e=>wB _ e
  wp_walk using qbo e1,qbo e2
  exact ⟨_,rfl,h⟩
section
variable {prog:Program} {w:World} {A:Around} {E:Value→Shared→Prop} {s:Shared}
theorem qeU {b c:Bool} {l m:Addr} {xs ys:Array Value} {Q:Value→Shared→Prop} (h1:SQ b s.heap l xs) (h2:SQ c s.heap m ys)
  (h:∀ h':Heap,ZS b c h' (s.heap.objs.size+4) (s.heap.objs.size+2) (s.heap.objs.size+3) s.heap.objs.size (s.heap.objs.size+1) l m 0 xs ys .none→(∀ a o,s.heap.get? a=some o→h'.get? a=some o)→Q (.ref (s.heap.objs.size+4)) { s with heap:=h' }) :
  wpAny (model prog w) A (call (.type "zip") [.ref l,.ref m]) Q E s:=by
 have z1:(zh1 b s.heap l).objs.size=s.heap.objs.size+1:=Heap.size_push ..
 have z2:(zh2 b c s.heap l m).objs.size=s.heap.objs.size+2:=by unfold zh2;rw [Heap.size_push,z1]
 have z3:(zh3 b c s.heap l m).objs.size=s.heap.objs.size+3:=by unfold zh3;rw [Heap.size_push,z2]
 have z4:(zh4 b c s.heap l m).objs.size=s.heap.objs.size+4:=by unfold zh4;rw [Heap.size_push,z3]
 have kp:∀ a o,s.heap.get? a=some o→(zh5 b c s.heap l m).get? a=some o:=λa o e=>by
  unfold zh5 zh4 zh3 zh2 zh1
  exact wB _ (wB _ (wB _ (wB _ (wB _ e))))
 have g5:IsZip (zh5 b c s.heap l m) (zh4 b c s.heap l m).objs.size (zh2 b c s.heap l m).objs.size (zh3 b c s.heap l m).objs.size .none:=wG _ rfl
 have g4:IsPair (zh5 b c s.heap l m) (zh3 b c s.heap l m).objs.size .none .none:=by
  have q:(zh4 b c s.heap l m).get? (zh3 b c s.heap l m).objs.size=some _:=wG _ rfl
  exact wB _ q
 have g3:IsPair (zh5 b c s.heap l m) (zh2 b c s.heap l m).objs.size (.ref s.heap.objs.size) (.ref (zh1 b s.heap l).objs.size):=by
  have q:(zh3 b c s.heap l m).get? (zh2 b c s.heap l m).objs.size=some _:=wG _ rfl
  exact wB _ (wB _ q)
 have i2:SI c (zh5 b c s.heap l m) (zh1 b s.heap l).objs.size m 0:=SI.at (qeT (b:=c) (h:=zh1 b s.heap l) (l:=m)) λo e=>wB _ (wB _ (wB _ e))
 have i1:SI b (zh5 b c s.heap l m) s.heap.objs.size l 0:=SI.at (qeT (b:=b) (h:=s.heap) (l:=l)) λo e=>wB _ (wB _ (wB _ (wB _ e)))
 refine callType_new F.called_zip (by decide) (F.typeCall_zip_2 _ _) (F.newCall_zip_2 _ _) (λobj=>F.args_object_init_3 obj _ _) F.entry_zip_new (qg1 b c l m xs ys) ⟨h1,h2,?_⟩
 rw [z4,z3,z2] at g5
 rw [z3] at g4
 rw [z2,z1] at g3
 rw [z1] at i2
 rw [z4]
 exact ⟨⟨_,g5,rfl⟩,h _ ⟨g5,g3,⟨_,_,g4⟩,i1,i2,h1.at λo e=>kp _ o e,h2.at λo e=>kp _ o e⟩ kp⟩
end
noncomputable def SqB (b:Bool) (K:PySem.W.Frag) (H:Hp) (l:Addr) (xs:List V):Prop:=match b with
 | true=>SqT K H l xs
 | false=>SqL K H l xs
noncomputable def ItZ (K:PySem.W.Frag) (b c:Bool) (l m:Addr):It:=⟨λi H=>∃ xs ys u v,SqB b K H l xs∧SqB c K H m ys∧xs[i]?=some u∧ys[i]?=some v,
 λi H x H'=>∃ p u v,x=.ref p∧H p=none∧H'=upd H p (.tup [u,v])∧(∀ xs,SqB b K H l xs→xs[i]?=some u)∧∀ ys,SqB c K H m ys→ys[i]?=some v,λi H=>∃ xs ys,SqB b K H l xs∧SqB c K H m ys∧(xs.length≤i∨ys.length≤i)⟩
section
variable {X:Cx} {pos:Pos}
theorem yV {pins:List (Addr × Obj)} {σ:St} {H:Hp} {s:Shared} {b:Bool} {l:Addr} {xs:List V} (I:Inv X pins σ H s) (h:SqB b X.K H l xs):∃ its:List Value,Vals xs its∧SQ b s.heap l its.toArray:=by
 cases b with
 | true=>obtain ⟨its,r,p,_⟩:=I.tuple h;exact ⟨its,r,p⟩
 | false=>obtain ⟨its,r,p,_⟩:=I.list h;exact ⟨its,r,p.isList⟩
theorem qcK {pins:List (Addr × Obj)} {σ:St} {H:Hp} {s:Shared} {b:Bool} {l:Addr} {xs ys:List V} (I:Inv X pins σ H s) (h:SqB b X.K H l xs) (h':SqB b X.K H l ys):xs=ys:=by
 cases b with
 | true=>exact I.tuple_inj h h'
 | false=>exact I.list_inj h h'
noncomputable def ztn (b c:Bool) (z TI TO i j l m:Addr) (k:Nat) (h:Heap):Prop:=IsZip h z TI TO .none∧IsPair h TI (.ref i) (.ref j)∧(∃ a d,IsPair h TO a d)∧SI b h i l k∧SI c h j m k
theorem qeV {P:Program} {w:World} {K:PySem.W.Frag} {es:List Expr} {n:Nat} {tp:Pos} {b c:Bool} {z TI TO i j l m:Addr} (D:ZA z TI TO i j l m):Turn P w K (.Tuple es n tp) (ItZ K b c l m) [z,TI,TO,i,j] z (ztn b c z TI TO i j l m) where
 mem:=by simp
 obj:=λk h ⟨h1,h2,⟨a,d,h3⟩,h4,h5⟩ x hx=>by
  simp only [wZ,List.not_mem_nil,or_false] at hx
  rcases hx with rfl | rfl | rfl | rfl | rfl
  ·exact ⟨_,h1,λv q=>by cases (show Data.fields _=Data.cell v from q)⟩
  ·exact ⟨_,h2,λv q=>by cases (show Data.seq _ _=Data.cell v from q)⟩
  ·exact ⟨_,h3,λv q=>by cases (show Data.seq _ _=Data.cell v from q)⟩
  ·exact h4.obj
  ·exact h5.obj
 keep:=λk h h' ⟨h1,h2,⟨a,d,h3⟩,h4,h5⟩ kp=>⟨kp z (by simp) _ h1,kp TI (by simp) _ h2,⟨a,d,kp TO (by simp) _ h3⟩,h4.at λo e=>kp i (by simp) o e,h5.at λo e=>kp j (by simp) o e⟩
 item:=by
  intro X hP hw hK hc k pins s σ H E I hf st hg
  subst hP hw hK
  obtain ⟨xs,ys,u,v,hx,hy,eu,ev⟩:=hg
  obtain ⟨s1,s2,s3,s4,s5⟩:=st
  obtain ⟨its,rx,qx⟩:=yV I hx
  obtain ⟨jts,ry,qy⟩:=yV I hy
  obtain ⟨x,ex,rxu⟩:=rx.get eu
  obtain ⟨y,ey,ryv⟩:=ry.get ev
  refine qiJ D ⟨s1,s2,s3,s4,s5,qx,qy⟩ (by simpa using ex) (by simpa using ey) λh' zs pr kp=>⟨_,rfl,?_⟩
  obtain ⟨t1,t2,t3,t4,t5,t6,t7⟩:=zs
  refine wpAny_letOwnedTupleGo_zip (s:={ s with heap:=h' }) t1 λh2 z2 b2=>?_
  have hfz:H s.heap.objs.size=none:=I.hok.fresh (wF _)
  have nz:s.heap.objs.size≠z:=Nat.ne_of_gt (wI s1)
  have all:∀ a o,a ∉ [z,TI,TO,i,j]→s.heap.get? a=some o→h2.get? a=some o:=λa o na e=>by
   simp only [wZ,List.not_mem_nil,or_false,not_or] at na
   exact b2.extBut _ _ na.1 (kp a o na.1 na.2.2.1 na.2.2.2.1 na.2.2.2.2 e)
  have ne:∀ a o,s.heap.get? a=some o→a≠s.heap.objs.size:=λa o e=>w6 (wI e)
  have nt:∀ {a:Addr} {q:HO},H a=some q→a ∉ [z,TI,TO,i,j]:=λ{a q} e hm=>by rw [(hf a hm).1] at e;cases e
  have nu:∀ {a:Addr} {q:HO},H a=some q→a≠s.heap.objs.size:=λ{a q} e z'=>by subst z';rw [hfz] at e;cases e
  have ok':HOk X.prog X.w (upd H s.heap.objs.size (.tup [u,v])) h2:=λa q e=>by
   by_cases qa:a=s.heap.objs.size
   ·subst qa
    rw [qu] at e;cases e
    exact ⟨(show (2:Nat)≤sizeLine by decide),[x,y],.cons rxu (.cons ryv .nil),_,b2.extBut _ _ nz pr,rfl,0,rfl⟩
   ·rw [qk qa] at e
    refine (I.hok a q e).stay (λd o hd eo=>all d o ?_ eo) (λd e'=>by rw [qk (nu e')];exact e') λd xs e'=>by rw [qk (nu e')];exact e'
    rcases hd with y' | y'
    ·subst y';exact nt e
    ·exact nt y'
  have I2:Inv X pins σ (upd H s.heap.objs.size (.tup [u,v])) { s with heap:=h2 }:=by
   refine I.step (g':=s.gens) (d':=s.drawn) (t':=s.toks) (ch:=[z,TI,TO,i,j]) (λa ha=>⟨(hf a ha).2.2.2.1,(hf a ha).2.1,(hf a ha).2.2.2.2.1,(hf a ha).2.2.2.2.2⟩) (λa o _ _ na e _=>all a o na e) (λa o _ _ na e _=>⟨o.slots,all a o na e⟩)
    (λa o _ e n=>by rw [qk (ne a o e)];exact n) (λa o na e=>⟨o,all a o na e⟩) (λa xs e=>by rw [qk (nu e)];exact e) (λa o q e=>by rw [qk (nu e)];exact e) (λa ps e=>⟨#[],by rw [qk (nu e),e];simp⟩) (λmm hm=>?_) ok' I.bare.self
   obtain ⟨o,es,ep,ho,r⟩:=hm
   exact ⟨o,es,ep,all _ o (λq=>(hf _ q).2.1 rfl) ho,r⟩
  refine ⟨.ref s.heap.objs.size,_,I2,rfl,⟨_,u,v,rfl,hfz,rfl,λxs' q=>by rw [qcK I q hx];exact eu,λys' q=>by rw [qcK I q hy];exact ev⟩,⟨z2,b2.extBut _ _ D.zTI t2,?_,t4.at λo e=>b2.extBut _ o D.zi e,t5.at λo e=>b2.extBut _ o D.zj e⟩,λa ha=>?_⟩
  ·obtain ⟨a,d,t3⟩:=t3
   exact ⟨a,d,b2.extBut _ _ D.zTO t3⟩
  ·rw [qk]
   ·exact (hf a ha).1
   ·intro q
    have:∃ o,s.heap.get? a=some o:=by
     obtain ⟨a',d',s3'⟩:=s3
     simp only [wZ,List.not_mem_nil,or_false] at ha
     rcases ha with rfl | rfl | rfl | rfl | rfl
     ·exact ⟨_,s1⟩
     ·exact ⟨_,s2⟩
     ·exact ⟨_,s3'⟩
     ·exact ⟨_,s4.obj.choose_spec.1⟩
     ·exact ⟨_,s5.obj.choose_spec.1⟩
    obtain ⟨o,e⟩:=this
    exact ne a o e q
 done:=by
  intro X hP hw hK hc k pins s σ H E I hf st hg
  subst hP hw hK
  obtain ⟨xs,ys,hx,hy,hl⟩:=hg
  obtain ⟨s1,s2,s3,s4,s5⟩:=st
  obtain ⟨its,rx,qx⟩:=yV I hx
  obtain ⟨jts,ry,qy⟩:=yV I hy
  have hn:its.toArray[k]?=none∨jts.toArray[k]?=none:=by
   rcases hl with q | q
   ·left;simp;rw [← rx.length];exact q
   ·right;simp;rw [← ry.length];exact q
  refine qg0 (I.ok.hd hc) D ⟨s1,s2,s3,s4,s5,qx,qy⟩ hn λh' kp=>⟨rfl,?_⟩
  have nt:∀ {a:Addr} {q:HO},H a=some q→a ∉ [z,TI,TO,i,j]:=λ{a q} e hm=>by rw [(hf a hm).1] at e;cases e
  have all:∀ a o,a ∉ [z,TI,TO,i,j]→s.heap.get? a=some o→h'.get? a=some o:=λa o na e=>by
   simp only [wZ,List.not_mem_nil,or_false,not_or] at na
   exact kp a o na.1 na.2.2.1 na.2.2.2.1 na.2.2.2.2 e
  have ok':HOk X.prog X.w H h':=λa q e=>by
   refine (I.hok a q e).stay (λd o hd eo=>all d o ?_ eo) (λd e'=>e') λd xs e'=>e'
   rcases hd with y' | y'
   ·subst y';exact nt e
   ·exact nt y'
  refine I.step (g':=s.gens) (d':=s.drawn) (t':=s.toks) (ch:=[z,TI,TO,i,j]) (λa ha=>⟨(hf a ha).2.2.2.1,(hf a ha).2.1,(hf a ha).2.2.2.2.1,(hf a ha).2.2.2.2.2⟩) (λa o _ _ na e _=>all a o na e) (λa o _ _ na e _=>⟨o.slots,all a o na e⟩)
   (λa o _ e n=>n) (λa o na e=>⟨o,all a o na e⟩) (λa xs e=>e) (λa o q e=>e) (λa ps e=>⟨#[],by rw [e];simp⟩) (λmm hm=>?_) ok' I.bare.self
  obtain ⟨o,es,ep,ho,r⟩:=hm
  exact ⟨o,es,ep,all _ o (λq=>(hf _ q).2.1 rfl) ho,r⟩
 self:=λ_ _ _ _ _ st h=>wpAny_pyIter_zip st.1 h
end
end R
namespace R
open PySem PySem.Spec L2 SeqAt
open PyProof.Rows hiding St
section
variable {X:Cx} {pos:Pos}
theorem qae {ι:List Addr} {H:Hp} {d:D} {l:List D} {v:V} (e:walkF d=some l) (h:Den ι H d v):∃ b a xs,v=.ref a∧a ∉ ι∧Dens ι H l xs∧(if b=true then H a=some (.tup xs) else Rd H a (.lst xs)):=by
 cases d with
 | tup l'=>cases e;obtain ⟨a,xs,e1,n,ha,dl⟩:=h;exact ⟨true,a,xs,e1,n,dl,by simpa using ha⟩
 | lst l'=>cases e;obtain ⟨a,xs,e1,n,ha,dl⟩:=h;exact ⟨false,a,xs,e1,n,dl,by simpa using ha⟩
 | _=>cases e
noncomputable def AtB (b:Bool) (H:Hp) (a:Addr) (xs:List V):Prop:=if b=true then H a=some (.tup xs) else Rd H a (.lst xs)
theorem AtB.sq {b:Bool} {H:Hp} {K:PySem.W.Frag} {a:Addr} {xs:List V} (h:AtB b H a xs):SqB b K H a xs:=by
 cases b with
 | true=>exact .inl (.inl h)
 | false=>exact .inl h
theorem AtB.mono {b:Bool} {ι ι':List Addr} {H H':Hp} {a:Addr} {xs:List V} (h:AtB b H a xs) (n:a ∉ ι) (s:Stp ι H ι' H'):AtB b H' a xs:=by
 cases b with
 | true=>exact s.keep _ _ h n trivial
 | false=>exact (s.rd h n).1
theorem qiK {ι:List Addr} {H:Hp} {K:PySem.W.Frag} {b c:Bool} {l m:Addr} {xs ys:List V} {ds es:List D} (nl:l ∉ ι) (nm:m ∉ ι) (al:AtB b H l xs) (am:AtB c H m ys) (h1:Dens ι H ds xs) (h2:Dens ι H es ys):ItOk ι H (ItZ K b c l m) ((ds.zip es).map λp=>.tup [p.1,p.2]) where
 go:=λi d ι2 H2 s e=>by
  rw [w5] at e
  cases z:(ds.zip es)[i]? with
  | none=>rw [z] at e;cases e
  | some p =>
   rw [z] at e;cases e
   obtain ⟨e1,e2⟩:=List.getElem?_zip_eq_some.mp z
   obtain ⟨u,u1,u2⟩:=(Dens.mono s ds h1).get e1
   obtain ⟨v,v1,v2⟩:=(Dens.mono s es h2).get e2
   have al2:=(al.mono nl s).sq (K:=K)
   have am2:=(am.mono nm s).sq (K:=K)
   refine ⟨⟨xs,ys,u,v,al2,am2,u1,v1⟩,λx H3 hy=>?_⟩
   obtain ⟨q,u',v',rfl,hq,rfl,w1,w2⟩:=hy
   have w1:=w1 xs al2
   have w2:=w2 ys am2
   rw [u1] at w1;cases w1
   rw [v1] at w2;cases w2
   have g:=Stp.laid (ι:=ι2) hq (.tup [u,v])
   exact ⟨g,λS st=>⟨st.laid hq _,q,[u,v],rfl,st.fresh hq,qu,u,[v],rfl,Den.mono g _ u2,v,[],rfl,Den.mono g _ v2,rfl⟩⟩
 stop:=λι2 H2 s=>by
  refine ⟨xs,ys,(al.mono nl s).sq,(am.mono nm s).sq,?_⟩
  rw [wO,List.length_zip,h1.length,h2.length]
  lia
theorem qkd (N l m:Nat) (h1:l<N) (h2:m<N):ZA (N+4) (N+2) (N+3) N (N+1) l m :=
 ⟨(by lia:N+2≠N+4),(by lia:N+3≠N+4),(by lia:N≠N+4),(by lia:N+1≠N+4),(by lia:N+2≠N+3),(by lia:N+2≠N),(by lia:N+2≠N+1),(by lia:N+3≠N),(by lia:N+3≠N+1),(by lia:N≠N+1),
  (by lia:l≠N+4),(by lia:l≠N+3),(by lia:l≠N),(by lia:l≠N+1),(by lia:m≠N+4),(by lia:m≠N+3),(by lia:m≠N),(by lia:m≠N+1)⟩
theorem qeW:bootBuiltins "zip"=some (.type "zip"):=by decide +kernel
theorem qke {es:List Expr} {n:Nat} {tp:Pos} {e1 e2:Expr} {p:Pos} {m1 m2:En→Sr→Res D} (hg:Gl X "zip") (hm:X.mg "zip"=none) (h1:PE X e1 (T m1)) (h2:PE X e2 (T m2)) (hs:starEach [e1,e2] X.env=(false,eval e1 X.env)::starEach [e2] X.env) (hs2:starEach [e2] X.env=(false,eval e2 X.env)::starEach [] X.env) :
  PI X (.Tuple es n tp) (.Call (.Name "zip" p) [e1,e2] [] pos) (TIt λρ S=>(m1 ρ S).bind λx S1=>(m2 ρ S1).bind λy S2=>match walkF x,walkF y with
   | some l,some m=>.ok ((l.zip m).map λp=>.tup [p.1,p.2]) S2
   | _,_=>.no):=by
 intro pins s σ H R I hw
 obtain ⟨ι,S,ρ,er,st,q⟩:=hw
 dsimp only at q
 cases z1:m1 ρ S with
 | no=>rw [z1] at q;exact q.elim
 | err=>rw [z1] at q;exact q.elim
 | ok x S1 =>
  rw [z1,Res.bind_ok] at q
  cases z2:m2 ρ S1 with
  | no=>rw [z2] at q;exact q.elim
  | err=>rw [z2] at q;exact q.elim
  | ok y S2 =>
   rw [z2,Res.bind_ok] at q
   cases z3:walkF x with
   | none=>simp only [z3] at q
   | some l =>
    cases z4:walkF y with
    | none=>simp only [z3,z4] at q
    | some m =>
     simp only [z3,z4] at q
     refine Call_ (zO I hg hm qeW (PyProof.Rows.callWith_type1 (e:=e1) (rest:=[e2]) ?_ hs (by rw [hs2];rfl)))
     rw [hs,hs2]
     refine Calls.spliced_cons (thn (h1 pins s σ H (λv H1=>∃ ι1,Stp ι H ι1 H1∧Sto ι1 H1 S1∧Den ι1 H1 x v) I ⟨ι,S,ρ,er,st,by rw [z1];exact λv ι1 H1 a b c=>⟨ι1,a,b,c⟩⟩) λu1 s1 ⟨v1,H1,I1,r1,ι1,q1,st1,d1⟩=>?_)
     refine Calls.spliced_cons (thn (h2 pins s1 σ H1 (λv H2=>∃ ι2,Stp ι1 H1 ι2 H2∧Sto ι2 H2 S2∧Den ι2 H2 y v) I1 ⟨ι1,S1,ρ,er.mono q1,st1,by rw [z2];exact λv ι1 H1 a b c=>⟨ι1,a,b,c⟩⟩) λu2 s2 ⟨v2,H2,I2,r2,ι2,q2,st2,d2⟩=>Calls.spliced_nil ?_)
     obtain ⟨b,la,xs,rfl,nl,dl,al⟩:=qae z3 (Den.mono q2 x d1)
     obtain ⟨c,ma,ys,rfl,nm,dm,am⟩:=qae z4 d2
     cases r1
     cases r2
     obtain ⟨its,rx,qx⟩:=yV I2 (AtB.sq al)
     obtain ⟨jts,ry,qy⟩:=yV I2 (AtB.sq am)
     have lt:∀ {b:Bool} {a:Addr} {w:Array Value},SQ b s2.heap a w→a<s2.heap.objs.size:=λ{b a w} h=>by
      cases b with
      | true=>obtain ⟨o,e,_⟩:=h;exact wI e
      | false=>obtain ⟨o,e,_⟩:=h;exact wI e
     have l1:=lt qx
     have l2:=lt qy
     refine qeU qx qy λh' zs kp=>wpAny_pyIter_zip zs.z ?_
     have I3:Inv X pins σ H2 { s2 with heap:=h' }:=I2.kept (t':=s2.toks) kp
     generalize hN:s2.heap.objs.size=N at l1 l2 zs
     have D:ZA (N+4) (N+2) (N+3) N (N+1) la ma:=qkd N la ma l1 l2
     refine ⟨N+4,[N+4,N+2,N+3,N,N+1],_,ItZ X.K b c la ma,H2,rfl,I3,qeV D,⟨zs.z,zs.ti,zs.to',zs.i1,zs.i2⟩,λa ha=>?_,q ι2 H2 _ (q1.trans q2) st2 (qiK nl nm al am dl dm)⟩
     have hle:s2.heap.objs.size≤a:=by
      rw [hN]
      simp only [wZ,List.not_mem_nil,or_false] at ha
      rcases ha with rfl | rfl | rfl | rfl | rfl
      ·exact Nat.le_add_right _ _
      ·exact Nat.le_add_right _ _
      ·exact Nat.le_add_right _ _
      ·exact wF _
      ·exact Nat.le_add_right _ _
     exact I2.fpOk hle (I2.hok.fresh hle)
end
end R
namespace R
open PySem PySem.Spec L2 SeqAt
open PyProof.Rows hiding St
open PySem.W (KasT kas_rev kas_asc kas_desc kas_tail3 kas_descPart kas_count kas_place kas_bin kas_sort)
noncomputable def evT {α:Type} (lt:Nat→Nat→Bool):KasT α→α
 | .ret a=>a
 | .ask i j k=>evT lt (k (lt i j))
theorem zE {α β:Type} (lt:Nat→Nat→Bool) (f:α→KasT β):∀ t:KasT α,evT lt (t.bind f)=evT lt (f (evT lt t))
 | .ret _=>rfl
 | .ask i j k=>zE lt f (k (lt i j))
structure Ord (lt:Nat→Nat→Bool) (n:Nat):Prop where
 irr:∀ a,a<n→lt a a=false
 tr:∀ a b c,a<n→b<n→c<n→lt a b=true→lt b c=true→lt a c=true
 tot:∀ a b,a<n→b<n→a≠b→lt a b=true∨lt b a=true
noncomputable def gt (p:Array Nat) (k:Nat):Nat:=p.getD k 0
noncomputable def Pm (n:Nat) (p:Array Nat):Prop:=p.toList.Perm (List.range n)
section
variable {lt:Nat→Nat→Bool} {n:Nat} {p:Array Nat}
theorem Pm.size (h:Pm n p):p.size=n:=by
 have:=h.length_eq
 simpa using this
theorem qbp {k:Nat} (hk:k<p.size):gt p k=p[k]:=by simp [gt,Array.getD,hk]
theorem yG {q:Array Nat} {k j:Nat} (h:q[k]?=p[j]?):gt q k=gt p j:=by
 unfold gt
 rw [Array.getD_eq_getD_getElem?,Array.getD_eq_getD_getElem?,h]
theorem Pm.bd (h:Pm n p) {k:Nat} (hk:k<n):gt p k<n:=by
 have hs:k<p.size:=by rw [h.size];exact hk
 rw [qbp hs]
 have hm:p[k]∈p.toList:=by simp
 exact List.mem_range.mp (h.mem_iff.mp hm)
theorem Pm.inj (h:Pm n p) {i j:Nat} (hi:i<n) (hj:j<n) (e:gt p i=gt p j):i=j:=by
 have nd:p.toList.Nodup:=h.nodup_iff.mpr List.nodup_range
 have hs:i<p.size:=by rw [h.size];exact hi
 have ht:j<p.size:=by rw [h.size];exact hj
 rw [qbp hs,qbp ht] at e
 have e':p.toList[i]'(by simpa using hs)=p.toList[j]'(by simpa using ht):=by simpa using e
 exact (List.getElem_inj nd).mp e'
noncomputable def Srt (lt:Nat→Nat→Bool) (p:Array Nat) (m:Nat):Prop:=∀ i j,i<j→j<m→lt (gt p i) (gt p j)=true
theorem Srt.one:Srt lt p 1:=λi j h1 h2=>by lia
theorem Srt.snoc (O:Ord lt n) (h:Pm n p) {m:Nat} (hm:1≤m) (hn:m<n) (s:Srt lt p m) (q:lt (gt p (m-1)) (gt p m)=true):Srt lt p (m+1):=λi j h1 h2=>by
 by_cases hj:j<m
 ·exact s i j h1 hj
 ·have e:j=m:=by lia
  subst e
  by_cases hi:i=j-1
  ·subst hi;exact q
  ·exact O.tr _ _ _ (h.bd (by lia)) (h.bd (by lia)) (h.bd hn) (s i (j-1) (by lia) (by lia)) q
theorem qaG (O:Ord lt n) (h:Pm n p):∀ (f k:Nat),1≤k→k+f=n→Srt lt p k→(k≤evT lt (kas_asc p f k)∧evT lt (kas_asc p f k)≤n∧Srt lt p (evT lt (kas_asc p f k)))∧(evT lt (kas_asc p f k)<n→lt (gt p (evT lt (kas_asc p f k))) (gt p (evT lt (kas_asc p f k)-1))=true)
 | 0,k,h1,h2,s=>⟨⟨wF _,by show k≤n;lia,s⟩,λq=>by have q':k<n:=q;lia⟩
 | f+1,k,h1,h2,s=>by
  unfold kas_asc
  simp only [evT]
  cases z:lt (p.getD k 0) (p.getD (k-1) 0) with
  | true =>
   rw [wL rfl]
   exact ⟨⟨wF _,by show k≤n;lia,s⟩,λ_=>z⟩
  | false =>
   rw [wN (by decide)]
   have hne:gt p k≠gt p (k-1):=λe=>by
    have:=h.inj (by lia) (by lia) e
    lia
   have q:lt (gt p (k-1)) (gt p k)=true:=by
    rcases O.tot _ _ (h.bd (show k<n by lia)) (h.bd (show k-1<n by lia)) hne with y | y
    ·have z':lt (gt p k) (gt p (k-1))=false:=z
     rw [z'] at y;cases y
    ·exact y
   obtain ⟨⟨a1,a2,a3⟩,a4⟩:=qaG O h f (k+1) (by lia) (by lia) (s.snoc O h h1 (by lia) q)
   exact ⟨⟨by lia,a2,a3⟩,a4⟩
noncomputable def Fal (lt:Nat→Nat→Bool) (p:Array Nat) (m:Nat):Prop:=∀ i j,i<j→j<m→lt (gt p j) (gt p i)=true
theorem Fal.snoc (O:Ord lt n) (h:Pm n p) {m:Nat} (hm:1≤m) (hn:m<n) (s:Fal lt p m) (q:lt (gt p m) (gt p (m-1))=true):Fal lt p (m+1):=λi j h1 h2=>by
 by_cases hj:j<m
 ·exact s i j h1 hj
 ·have e:j=m:=by lia
  subst e
  by_cases hi:i=j-1
  ·subst hi;exact q
  ·exact O.tr _ _ _ (h.bd hn) (h.bd (by lia)) (h.bd (by lia)) q (s i (j-1) (by lia) (by lia))
theorem qaH (O:Ord lt n) (h:Pm n p):∀ (f k:Nat),1≤k→k+f=n→Fal lt p k→∃ m,evT lt (kas_desc f p k 0)=(p,m,0)∧k≤m∧m≤n∧Fal lt p m
 | 0,k,h1,h2,s=>⟨k,rfl,wF _,by lia,s⟩
 | f+1,k,h1,h2,s=>by
  unfold kas_desc
  simp only [evT]
  cases z:lt (p.getD k 0) (p.getD (k-1) 0) with
  | true =>
   rw [wL rfl,wN (by lia)]
   obtain ⟨m,e,a1,a2,a3⟩:=qaH O h f (k+1) (by lia) (by lia) (s.snoc O h h1 (by lia) z)
   exact ⟨m,e,by lia,a2,a3⟩
  | false =>
   rw [wN (by decide)]
   simp only [evT]
   have hne:gt p k≠gt p (k-1):=λe=>by
    have:=h.inj (by lia) (by lia) e
    lia
   have q:lt (p.getD (k-1) 0) (p.getD k 0)=true:=by
    rcases O.tot _ _ (h.bd (show k<n by lia)) (h.bd (show k-1<n by lia)) hne with y | y
    ·have z':lt (gt p k) (gt p (k-1))=false:=z
     rw [z'] at y;cases y
    ·exact y
   rw [q,wL rfl]
   exact ⟨k,rfl,wF _,by lia,s⟩
theorem qeX (h:Pm n p) (i j:Nat):Pm n (kas_rev p i j):=(mirror_perm p i j _).toList.trans h
theorem qg2 (O:Ord lt n) (h:Pm n p) {k:Nat} (h1:1≤k) (hk:k≤n) (s:Fal lt p k):∃ m q,evT lt (kas_tail3 k n p)=(m,q)∧Pm n q∧1≤m∧m≤n∧Srt lt q m:=by
 have hp:Pm n (kas_rev p 0 k):=qeX h 0 k
 have sr:Srt lt (kas_rev p 0 k) k:=λi j h2 h3=>by
  have e:∀ x,x<k→gt (kas_rev p 0 k) x=gt p (k-1-x):=λx hx=>by
   have:=getElem?_mirror_all (xs:=p) (i:=0) (j:=k) (by rw [h.size];exact hk) x
   rw [wL ⟨vQ _,hx⟩] at this
   have q:=yG this
   have e2:0+k-1-x=k-1-x:=by lia
   rw [e2] at q
   exact q
  rw [e i (by lia),e j h3]
  exact s (k-1-j) (k-1-i) (by lia) (by lia)
 unfold kas_tail3
 rw [zE]
 obtain ⟨⟨a1,a2,a3⟩,_⟩:=qaG O hp (n-k) k h1 (by lia) sr
 exact ⟨_,_,rfl,hp,by lia,a2,a3⟩
theorem qbq (O:Ord lt n) (hn:1≤n) (h:Pm n p):∃ m q,evT lt (kas_count n p)=(m,q)∧Pm n q∧1≤m∧m≤n∧Srt lt q m:=by
 unfold kas_count
 rw [zE]
 obtain ⟨⟨a1,a2,a3⟩,a4⟩:=qaG O h (n-1) 1 (wF _) (by lia) Srt.one
 generalize evT lt (kas_asc p (n-1) 1)=m at *
 by_cases e:m=n
 ·subst e
  rw [wL (by simp)]
  exact ⟨m,p,rfl,h,a1,a2,a3⟩
 ·rw [wN (by simpa using e)]
  by_cases h1:m>1
  ·rw [wL h1]
   simp only [evT]
   have q:lt (p.getD 0 0) (p.getD (m-1) 0)=true:=a3 0 (m-1) (by lia) (by lia)
   rw [q,wL rfl]
   exact ⟨m,p,rfl,h,a1,a2,a3⟩
  ·rw [wN h1]
   have e1:m=1:=by lia
   subst e1
   have q:=a4 (by lia)
   unfold kas_descPart
   rw [zE]
   have f2:Fal lt p 2:=Fal.snoc (m:=1) O h (wF _) (by lia) (λi j h1 h2=>by lia) q
   obtain ⟨k,e,b1,b2,b3⟩:=qaH O h (n-(1+1)) (1+1) (by lia) (by lia) f2
   rw [e]
   rw [wN (by simp)]
   exact qg2 (k:=k) O h (by lia) b2 b3
theorem jx (O:Ord lt n) (h:Pm n p) {k:Nat} (hk:k<n) (s:Srt lt p k):∀ (f l r:Nat),l≤r→r≤k→r-l≤f→(∀ i,i<l→lt (gt p i) (gt p k)=true)→(∀ i,r≤i→i<k→lt (gt p k) (gt p i)=true) →
  evT lt (kas_place p k f l r)≤k∧(∀ i,i<evT lt (kas_place p k f l r)→lt (gt p i) (gt p k)=true)∧∀ i,evT lt (kas_place p k f l r)≤i→i<k→lt (gt p k) (gt p i)=true
 | 0,l,r,h1,h2,h3,a,b=>⟨by show l≤k;lia,a,λi h4 h5=>b i (by have h4':l≤i:=h4;lia) h5⟩
 | f+1,l,r,h1,h2,h3,a,b=>by
  unfold kas_place
  by_cases hl:l≥r
  ·rw [wL hl]
   exact ⟨by show l≤k;lia,a,λi h4 h5=>b i (by have h4':l≤i:=h4;lia) h5⟩
  ·rw [wN hl]
   simp only [evT]
   have hm:(l+r) / 2<k:=by lia
   cases z:lt (p.getD k 0) (p.getD ((l+r) / 2) 0) with
   | true =>
    rw [wL rfl]
    refine jx O h hk s f l ((l+r) / 2) (by lia) (by lia) (by lia) a λi h4 h5=>?_
    by_cases e:i=(l+r) / 2
    ·subst e;exact z
    ·exact O.tr _ _ _ (h.bd hk) (h.bd (by lia)) (h.bd (by lia)) z (s ((l+r) / 2) i (by lia) h5)
   | false =>
    rw [wN (by decide)]
    have hne:gt p k≠gt p ((l+r) / 2):=λe=>by
     have:=h.inj hk (by lia) e
     lia
    have q:lt (gt p ((l+r) / 2)) (gt p k)=true:=by
     rcases O.tot _ _ (h.bd hk) (h.bd (show (l+r) / 2<n by lia)) hne with y | y
     ·have z':lt (gt p k) (gt p ((l+r) / 2))=false:=z
      rw [z'] at y;cases y
     ·exact y
    refine jx O h hk s f ((l+r) / 2+1) r (by lia) h2 (by lia) (λi h4=>?_) b
    by_cases e:i=(l+r) / 2
    ·subst e;exact q
    ·exact O.tr _ _ _ (h.bd (by lia)) (h.bd (by lia)) (h.bd hk) (s i ((l+r) / 2) (by lia) hm) q
theorem qeY (O:Ord lt n):∀ (f k:Nat) (p:Array Nat),Pm n p→k+f=n→Srt lt p k→Pm n (evT lt (kas_bin f p k))∧Srt lt (evT lt (kas_bin f p k)) n
 | 0,k,p,h,h1,s=>by
  have e:k=n:=by lia
  subst e
  exact ⟨h,s⟩
 | f+1,k,p,h,h1,s=>by
  unfold kas_bin
  rw [zE]
  obtain ⟨a1,a2,a3⟩:=jx O h (k:=k) (by lia) s k 0 k (vQ _) (wF _) (by lia) (λi hi=>by lia) λi h2 h3=>by lia
  generalize evT lt (kas_place p k k 0 k)=l at *
  have hp:Pm n (bubble p k (k-l)):=(bubble_perm p k (k-l)).toList.trans h
  refine qeY O f (k+1) _ hp (by lia) λi j h2 h3=>?_
  have ev:∀ x,gt (bubble p k (k-l)) x=if x=l then gt p k else if l<x∧x≤k then gt p (x-1) else gt p x:=λx=>by
   have e:=getElem?_bubble (xs:=p) (src:=k) (by rw [h.size];lia) (k-l) (by lia) x
   have e3:k-(k-l)=l:=by lia
   rw [e3] at e
   by_cases q1:x=l
   ·rw [wL q1] at e ⊢;exact yG e
   ·rw [wN q1] at e ⊢
    by_cases q2:l<x∧x≤k
    ·rw [wL q2] at e ⊢;exact yG e
    ·rw [wN q2] at e ⊢;exact yG e
  rw [ev i,ev j]
  by_cases i1:i=l
  ·rw [wL i1,wN (by lia),wL ⟨by lia,by lia⟩]
   exact a3 (j-1) (by lia) (by lia)
  ·rw [wN i1]
   by_cases j1:j=l
   ·rw [wL j1,wN (by lia)]
    exact a2 i (by lia)
   ·rw [wN j1]
    by_cases i2:l<i∧i≤k
    ·rw [wL i2,wL ⟨by lia,by lia⟩]
     exact s (i-1) (j-1) (by lia) (by lia)
    ·rw [wN i2]
     by_cases j2:l<j∧j≤k
     ·rw [wL j2]
      exact s i (j-1) (by lia) (by lia)
     ·rw [wN j2]
      exact s i j h2 (by lia)
theorem qcL (O:Ord lt n) (hn:1≤n):Pm n (evT lt (kas_sort n))∧Srt lt (evT lt (kas_sort n)) n:=by
 unfold kas_sort
 rw [zE]
 have h0:Pm n (List.toArray (List.range n)):=by
  show (List.toArray (List.range n)).toList.Perm _
  simp
 obtain ⟨m,q,e,a1,a2,a3,a4⟩:=qbq O hn h0
 rw [e]
 by_cases hm:m<n
 ·rw [wL hm]
  have e2:max m 1=m:=by lia
  show Pm n (evT lt (kas_bin (n-max m 1) q (max m 1)))∧_
  rw [e2]
  exact qeY O (n-m) m q a1 (by lia) a4
 ·rw [wN hm]
  have e2:m=n:=by lia
  subst e2
  exact ⟨a1,a4⟩
end
end R
namespace R
open PySem PySem.Spec L2 SeqAt
open PyProof.Rows hiding St
open PySem.W (KasT kas_rev kas_asc kas_desc kas_tail3 kas_descPart kas_count kas_place kas_bin kas_sort kas_cmp kas_item kas_item_eq kas_runs kas_st kas_range KatLex kat_lt KatTups kat_kind)
noncomputable def InT {α:Type} (lt:Nat→Nat→Bool) (n:Nat):KasT α→Prop
 | .ret _=>True
 | .ask i j k=>i<n∧j<n∧InT lt n (k (lt i j))
section
variable {lt:Nat→Nat→Bool} {n:Nat} {p:Array Nat}
theorem zG {α β:Type} {f:α→KasT β}:∀ {t:KasT α},InT lt n t→InT lt n (f (evT lt t))→InT lt n (t.bind f)
 | .ret _,_,h=>h
 | .ask i j k,h,h'=>⟨h.1,h.2.1,zG h.2.2 h'⟩
theorem qce (h:Pm n p):∀ (f k:Nat),1≤k→k+f=n→InT lt n (kas_asc p f k)
 | 0,_,_,_=>trivial
 | f+1,k,h1,h2=>by
  refine ⟨h.bd (show k<n by lia),h.bd (show k-1<n by lia),?_⟩
  dsimp only
  split
  ·trivial
  ·exact qce h f (k+1) (by lia) (by lia)
theorem qcM (O:Ord lt n) (h:Pm n p):∀ (f k:Nat),1≤k→k+f=n→InT lt n (kas_desc f p k 0)
 | 0,_,_,_=>trivial
 | f+1,k,h1,h2=>by
  refine ⟨h.bd (show k<n by lia),h.bd (show k-1<n by lia),?_⟩
  cases z:lt (p.getD k 0) (p.getD (k-1) 0) with
  | true =>
   dsimp only
   rw [wL rfl,wN (by lia)]
   exact qcM O h f (k+1) (by lia) (by lia)
  | false =>
   dsimp only
   rw [wN (by decide)]
   refine ⟨h.bd (show k-1<n by lia),h.bd (show k<n by lia),?_⟩
   have hne:gt p k≠gt p (k-1):=λe=>by
    have:=h.inj (by lia) (by lia) e
    lia
   have q:lt (p.getD (k-1) 0) (p.getD k 0)=true:=by
    rcases O.tot _ _ (h.bd (show k<n by lia)) (h.bd (show k-1<n by lia)) hne with y | y
    ·have z':lt (gt p k) (gt p (k-1))=false:=z
     rw [z'] at y;cases y
    ·exact y
   rw [q]
   dsimp only
   rw [wL rfl]
   trivial
theorem qg3 (h:Pm n p) {k:Nat} (h1:1≤k) (hk:k≤n):InT lt n (kas_tail3 k n p):=zG (qce (qeX h 0 k) (n-k) k h1 (by lia)) trivial
theorem qeZ (O:Ord lt n) (hn:1≤n) (h:Pm n p):InT lt n (kas_count n p):=by
 unfold kas_count
 obtain ⟨⟨a1,a2,a3⟩,a4⟩:=qaG O h (n-1) 1 (wF _) (by lia) Srt.one
 refine zG (qce h (n-1) 1 (wF _) (by lia)) ?_
 generalize evT lt (kas_asc p (n-1) 1)=m at *
 by_cases e:m=n
 ·subst e;rw [wL (by simp)];trivial
 ·rw [wN (by simpa using e)]
  by_cases h1:m>1
  ·rw [wL h1]
   refine ⟨h.bd (show 0<n by lia),h.bd (show m-1<n by lia),?_⟩
   have q:lt (p.getD 0 0) (p.getD (m-1) 0)=true:=a3 0 (m-1) (by lia) (by lia)
   rw [q]
   dsimp only
   rw [wL rfl];trivial
  ·rw [wN h1]
   have e1:m=1:=by lia
   subst e1
   have q:=a4 (by lia)
   unfold kas_descPart
   have f2:Fal lt p 2:=Fal.snoc (m:=1) O h (wF _) (by lia) (λi j h1 h2=>by lia) q
   obtain ⟨k,e,b1,b2,b3⟩:=qaH O h (n-(1+1)) (1+1) (by lia) (by lia) f2
   refine zG (qcM O h (n-(1+1)) (1+1) (by lia) (by lia)) ?_
   rw [e,wN (by simp)]
   exact qg3 (k:=k) h (by lia) b2
theorem jy (h:Pm n p) {k:Nat} (hk:k<n):∀ (f l r:Nat),r≤k→InT lt n (kas_place p k f l r)
 | 0,_,_,_=>trivial
 | f+1,l,r,h2=>by
  unfold kas_place
  by_cases hl:l≥r
  ·rw [wL hl];trivial
  ·rw [wN hl]
   refine ⟨h.bd hk,h.bd (show (l+r) / 2<n by lia),?_⟩
   dsimp only
   split
   ·exact jy h hk f l _ (by lia)
   ·exact jy h hk f _ r h2
theorem qe0 (O:Ord lt n):∀ (f k:Nat) (p:Array Nat),Pm n p→k+f=n→InT lt n (kas_bin f p k)
 | 0,_,_,_,_=>trivial
 | f+1,k,p,h,h1=>zG (jy h (by lia) k 0 k (wF _)) (qe0 O f (k+1) _ ((bubble_perm p k _).toList.trans h) (by lia))
theorem qg4 (O:Ord lt n) (hn:1≤n):InT lt n (kas_sort n):=by
 have h0:Pm n (List.toArray (List.range n)):=by
  show (List.toArray (List.range n)).toList.Perm _
  simp
 obtain ⟨m,q,e,a1,a2,a3,a4⟩:=qbq O hn h0
 refine zG (qeZ O hn h0) ?_
 rw [e]
 by_cases hm:m<n
 ·rw [wL hm]
  have e2:max m 1=m:=by lia
  show InT lt n (kas_bin (n-max m 1) q (max m 1))
  rw [e2]
  exact qe0 O (n-m) m q a1 (by lia)
 ·rw [wN hm];trivial
theorem qcN {α:Type} {cmp:Nat→Nat→(Bool→Shared→Prop)→Shared→Prop} {s:Shared} (hc:∀ i j C,i<n→j<n→C (lt i j) s→cmp i j C s) {Q:α→Shared→Prop}:∀ {t:KasT α},InT lt n t→Q (evT lt t) s→t.kasWp cmp Q s
 | .ret _,_,h=>h
 | .ask i j k,h,q=>hc i j _ h.1 h.2.1 (qcN hc h.2.2 q)
end
section
variable {prog:Program} {w:World} {A:Around} {E:Value→Shared→Prop} {s:Shared}
theorem qiL {b:Bool} {x y:Int} {t u:Tok} {Q:Bool→Shared→Prop} (h:Q (decide (x<y)) s):wpAny (model prog w) A (oneLt' b (.int x t) (.int y u)) Q E s:=by
 cases b with
 | true=>exact oneLt_int h
 | false=>exact PySem.W.kat_one _ _ (PySem.P.lt_int h)
theorem qe1 {b:Bool} {Q:Bool→Shared→Prop}:∀ {xs ys:List Int} {us vs:List Value} {i:Nat},IntsAre us xs→IntsAre vs ys→Q (HT.lexLt xs ys) s→KatLex prog w A b (decide (xs.length<ys.length)) Q (us.zip vs) i s:=by
 intro xs
 induction xs with
 | nil =>
  intro ys us vs i h1 h2 h
  cases h1
  cases h2 with
  | nil=>exact h
  | cons =>
   show Q _ s
   simpa [HT.lexLt] using h
 | cons x xs ih =>
  intro ys us vs i h1 h2 h
  cases h1 with
  | cons _ t rx =>
  cases h2 with
  | nil =>
   show Q _ s
   simpa [HT.lexLt] using h
  | cons _ u ry =>
  refine wpAny_eqBool_int ?_
  rw [HT.qY] at h
  split at h
  ·rename_i e
   subst e
   rw [wL (by simp)]
   have:=ih (i:=i+1) rx ry h
   simpa [List.zip] using this
  ·rename_i e
   rw [wN (by simpa using e)]
   exact qiL h
noncomputable def TupsAt (h:Heap):List Value→List (List Int)→Prop
 | [],ks=>ks=[]
 | v::vs,ks=>∃ a its k r,v=.ref a∧ks=k::r∧IsTup h a its.toArray∧IntsAre its k∧TupsAt h vs r
theorem TupsAt.len {h:Heap}:∀ {vs:List Value} {ks:List (List Int)},TupsAt h vs ks→vs.length=ks.length
 | [],_,e=>by cases (show _=[] from e);rfl
 | _::_,_,e=>by obtain ⟨a,its,k,r,_,rfl,_,_,t⟩:=e;simp [TupsAt.len t]
theorem TupsAt.get {h:Heap}:∀ {vs:List Value} {ks:List (List Int)} (i:Nat),TupsAt h vs ks→i<ks.length→∃ a its,vs.getD i .none=.ref a∧IsTup h a its.toArray∧IntsAre its (ks.getD i [])
 | [],_,_,e,hi=>by cases (show _=[] from e);simp at hi
 | _::vs,_,0,e,hi=>by obtain ⟨a,its,k,r,rfl,rfl,h1,h2,_⟩:=e;exact ⟨a,its,rfl,h1,by simpa using h2⟩
 | _::vs,_,i+1,e,hi=>by
  obtain ⟨a,its,k,r,rfl,rfl,h1,h2,t⟩:=e
  obtain ⟨a',its',e1,e2,e3⟩:=TupsAt.get i t (by simpa using hi)
  exact ⟨a',its',by simpa using e1,e2,by simpa using e3⟩
theorem TupsAt.keep {h h':Heap}:∀ {vs:List Value} {ks:List (List Int)},TupsAt h vs ks→(∀ a o,Value.ref a∈vs→h.get? a=some o→h'.get? a=some o)→TupsAt h' vs ks
 | [],_,e,_=>e
 | _::_,_,e,hk=>by
  obtain ⟨a,its,k,r,rfl,rfl,⟨o,eo,c⟩,h2,t⟩:=e
  exact ⟨a,its,k,r,rfl,rfl,⟨o,hk a o wJ eo,c⟩,h2,t.keep λb u hb=>hk b u (wM _ hb)⟩
theorem TupsAt.firsts {h:Heap}:∀ {vs:List Value} {ks:List (List Int)},TupsAt h vs ks→(∀ k∈ks,k≠[])→∃ fs:List Value,KatTups h vs fs∧fs.length=vs.length∧∀ f∈fs,∃ x t,f=.int x t
 | [],_,e,_=>⟨[],trivial,rfl,λf hf=>by cases hf⟩
 | _::_,_,e,hn=>by
  obtain ⟨a,its,k,r,rfl,rfl,⟨o,eo,c,m,d⟩,h2,t⟩:=e
  obtain ⟨fs,k1,k2,k3⟩:=t.firsts λk hk=>hn k (wM _ hk)
  cases h2 with
  | nil=>exact absurd rfl (hn [] wJ)
  | cons x tx h2 =>
   refine ⟨.int x tx::fs,⟨⟨a,o,_,m,rfl,eo,c,d,by simp⟩,k1⟩,by simp [k2],λf hf=>?_⟩
   rcases wZ.mp hf with z | z
   ·exact ⟨x,tx,z⟩
   ·exact k3 f z
noncomputable def ltK (ks:List (List Int)) (i j:Nat):Bool:=HT.lexLt (ks.getD i []) (ks.getD j [])
theorem qg5 {vs:List Value} {ks:List (List Int)} (t:TupsAt s.heap vs ks) {i j:Nat} (hi:i<ks.length) (hj:j<ks.length) {C:Bool→Shared→Prop} (h:C (ltK ks i j) s):kas_cmp prog w A (tuples' true) (pairsOf vs) i j C s:=by
 unfold kas_cmp
 rw [kas_item_eq,kas_item_eq]
 obtain ⟨a,xs,e1,⟨o,eo,_,m,d⟩,r1⟩:=t.get i hi
 obtain ⟨b,ys,e2,⟨u,eu,_,m',d'⟩,r2⟩:=t.get j hj
 dsimp only
 rw [e1,e2]
 have:=qe1 (prog:=prog) (w:=w) (A:=A) (s:=s) (b:=true) (i:=0) (Q:=C) r1 r2 h
 refine kat_lt eo d eu d' ?_
 have l1:=r1.length
 have l2:=r2.length
 simpa [l1,l2] using this
theorem qe2 {vs:List Value} {ks:List (List Int)} (t:TupsAt s.heap vs ks) (hn:∀ k∈ks,k≠[]) (h2:2≤vs.length) {Q:SortKind→Shared→Prop} (h:Q (tuples' true) s):wpAny (model prog w) A (keyKind' vs.toArray) Q E s:=by
 obtain ⟨fs,k1,k2,k3⟩:=t.firsts hn
 refine kat_kind (T:=Value.type "int") k1 (by lia) (λv hv=>?_) (by decide) h
 obtain ⟨x,tx,rfl⟩:=k3 v hv
 exact .now
end
end R
namespace R
open PySem PySem.Spec L2 SeqAt
open PyProof.Rows hiding St
open PySem.W (KasT kas_sort kas_cmp kas_item kas_item_eq kas_runs kas_st kas_range KdlSrc kdl_extend kdl_hint_dict)
section
variable {prog:Program} {w:World} {A:Around} {E:Value→Shared→Prop} {s:Shared}
structure Answers (prog:Program) (w:World) (A:Around) (vs:List Value) (s:Shared) (κ:SortKind) (lt:Nat→Nat→Bool):Prop where
 kind:∀ (E:Value→Shared→Prop) (Q:SortKind→Shared→Prop),Q κ s→wpAny (model prog w) A (keyKind' vs.toArray) Q E s
 ord:Ord lt vs.length
 cmp:∀ i j C,i<vs.length→j<vs.length→C (lt i j) s→kas_cmp prog w A κ (pairsOf vs) i j C s
noncomputable def outOf (lt:Nat→Nat→Bool) (vs:List Value):List Value:=if vs.length<2 then vs else (evT lt (kas_sort vs.length)).toList.map λi=>vs.getD i Value.none
theorem lsort {D:Addr} {vs:List Value} {n:Nat} {κ:SortKind} {lt:Nat→Nat→Bool} {P:PySem.Fin→Shared→Prop} (ho:s.heap.get? D=some (seqObj "list" vs.toArray n)) (h64:vs.length<64)
  (ans:2≤vs.length→∀ h':Heap,(∀ b o,b≠D→s.heap.get? b=some o→h'.get? b=some o)→Answers prog w A vs { s with heap:=h' } κ lt)
  (h:∀ (h':Heap) (c:Nat),(∀ b o,b≠D→s.heap.get? b=some o→h'.get? b=some o)→h'.get? D=some (seqObj "list" (outOf lt vs).toArray c)→P (.done (.ret .none)) { s with heap:=h' }) :
  wpAny (model prog w) A (Builtin.«list.sort» ⟨[.ref D],[]⟩) P E s:=by
 have hD:D<s.heap.objs.size:=wI ho
 obtain ⟨e1,o1⟩:∃ e1,(s.heap.update D (Obj.mapSeq λ_=>(#[]:Array Value))).get? D=some (seqObj "list" #[] e1):=⟨_,get?_update_seq ho λ_=>#[]⟩
 have k1:∀ b o,b≠D→s.heap.get? b=some o→(((s.heap.update D (Obj.mapSeq λ_=>(#[]:Array Value))).push (seqObj "tuple" vs.toArray 0)).push (seqObj "list" #[] 0)).get? b=some o:=λb o hb e =>
  wB _ (wB _ ((wb _ _ (Ne.symm hb)).trans e))
 have o3:(((s.heap.update D (Obj.mapSeq λ_=>(#[]:Array Value))).push (seqObj "tuple" vs.toArray 0)).push (seqObj "list" #[] 0)).get? D=some (seqObj "list" #[] e1):=wB _ (wB _ o1)
 rw [list_sort_plain]
 refine wA (listItems_at ho rfl (wA (listUpdate_at ho rfl (wA (seqEpoch_at o1 rfl (wA (wpAny_newTuple (wA (wpAny_newList (wo ?_) (vQ _))) (by show vs.length≤_;rw [vF];lia)))))
  (by rw [wH,vF];lia) (vQ _))))
 generalize hh:((s.heap.update D (Obj.mapSeq λ_=>(#[]:Array Value))).push (seqObj "tuple" vs.toArray 0)).push (seqObj "list" #[] 0)=h3 at k1 o3
 show wpAny (model prog w) A _ P E { s with heap:=h3 }
 dsimp only
 have fin:∀ (xs:Array Value),xs=(outOf lt vs).toArray→P (.done (.ret .none)) { s with heap:=h3.update D (Obj.mapSeq λ_=>xs) }:=λxs ex=>by
  subst ex
  exact h _ _ (λb o hb e=>(wb _ _ (Ne.symm hb)).trans (k1 b o hb e)) (get?_update_seq o3 λ_=>(outOf lt vs).toArray)
 by_cases h2:vs.toArray.size<2
 ·have h2':vs.length<2:=by simpa using h2
  rw [wL h2,wL h2]
  refine wA (wC ?_)
  rw [StateT.run_pure]
  refine wA (wC (?_:wpAny _ A _ _ _ _))
  dsimp only
  refine wA (seqEpoch_at o3 rfl (wA (listUpdate_at o3 rfl ?_ (vQ _) (by rw [Array.size_map];show (pairsOf vs).size≤_;rw [pairsOf_size,vF];lia))))
  simp only [bne_self_eq_false,vP,if_false]
  refine wC (fin _ ?_)
  unfold outOf
  rw [wL h2']
  apply Array.toList_inj.mp
  show ((vs.toArray.zip vs.toArray).map (·.2)).toList=_
  simp [List.map_snd_zip]
 ·have h2':2≤vs.length:=by
   have:¬ vs.length<2:=by simpa using h2
   lia
  have a:=ans h2' h3 k1
  rw [wN h2,wN h2]
  refine wA (a.kind _ _ ?_)
  have est:SortSt.mk' κ (vs.toArray.zip vs.toArray) #[] 7 none=kas_st κ (pairsOf vs) (List.toArray (List.range vs.length)):=by
   have e:=kas_range (pairsOf vs)
   rw [pairsOf_size] at e
   show SortSt.mk' κ (pairsOf vs) #[] 7 none=SortSt.mk' κ ((List.toArray (List.range vs.length)).map (kas_item (pairsOf vs))) #[] 7 none
   rw [e]
  have run:=kas_runs (prog:=prog) (w:=w) (A:=A) (E:=E) (κ:=κ) (it:=pairsOf vs) (s:={ s with heap:=h3 }) (Q:=λ_ st' s'=>s'={ s with heap:=h3 }∧failedOf st'=none∧∃ p:Array Nat,p=evT lt (kas_sort vs.length)∧p.size=vs.length∧arrOf st'=p.map (kas_item (pairsOf vs)))
   (G:=λp s'=>s'={ s with heap:=h3 }∧p=evT lt (kas_sort vs.length)) h2' h64 (λp' st' s' b1 b2 b3 b4=>⟨b4.1,b3,p',b4.2,b1,b2⟩) (qcN a.cmp (qg4 a.ord (by lia)) ⟨rfl,rfl⟩)
  rw [← est] at run
  refine wA (vC run ?_ λ_ _ e=>e)
  rintro ⟨⟨⟩,st'⟩ s' ⟨rfl,hf,p,ep,hp,har⟩
  dsimp only
  have hout:(arrOf st').map (·.2)=(outOf lt vs).toArray:=by
   unfold outOf
   rw [wN (by lia),← ep]
   apply Array.toList_inj.mp
   rw [har,Array.map_map,Array.toList_map]
   exact vK λi _=>by show (kas_item (pairsOf vs) i).2=_;rw [kas_item_eq]
  have hsz:((arrOf st').map (·.2)).size=vs.length:=by rw [har,Array.map_map,Array.size_map,hp]
  refine wA (seqEpoch_at o3 rfl (wA (listUpdate_at o3 rfl ?_ (vQ _) (by show ((arrOf st').map (·.2)).size≤_;rw [hsz,vF];lia))))
  rw [hf]
  simp only [bne_self_eq_false,vP,if_false]
  exact wC (fin _ hout)
theorem qdK {x:Value} {vs:List Value} {κ:SortKind} {lt:Nat→Nat→Bool} {Q:Value→Shared→Prop} (h64:vs.length<64)
  (col:∀ (E':Value→Shared→Prop) (Q':List Value→Shared→Prop),(∀ (h':Heap) (tk:Nat),s.heap.objs.size≤h'.objs.size→(∀ b o,s.heap.get? b=some o→h'.get? b=some o)→Q' vs { s with heap:=h',toks:=tk })→wpAny (model prog w) A.in1 (collect x) Q' E' s)
  (ans:2≤vs.length→∀ (h':Heap) (tk:Nat),(∀ b o,s.heap.get? b=some o→h'.get? b=some o)→Answers prog w A.in1.in1 vs { s with heap:=h',toks:=tk } κ lt)
  (h:∀ (h':Heap) (tk:Nat) (D:Addr) (c:Nat),s.heap.objs.size≤D→(∀ b o,s.heap.get? b=some o→h'.get? b=some o)→h'.get? D=some (seqObj "list" (outOf lt vs).toArray c)→Q (.ref D) { s with heap:=h',toks:=tk }) :
  wpAny (model prog w) A (call (.builtin "sorted") [x]) Q E s:=by
 refine Calls.call_function_entry kind_sorted plain_sorted entry_sorted (args_sorted1 _) ?_
 unfold Builtin.«sorted»
 refine wA (m:=checkCount "sorted" 1 1 _) (wC (wA (col _ _ λh1 tk sz k1=>wA (wpAny_newList ?_ (by rw [vF];lia)))))
 have o1:(h1.push (seqObj "list" vs.toArray 0)).get? h1.objs.size=some (seqObj "list" vs.toArray 0):=wG _ rfl
 have up:∀ b o,s.heap.get? b=some o→(h1.push (seqObj "list" vs.toArray 0)).get? b=some o:=λb o e=>wB _ (k1 b o e)
 have ne:∀ b o,s.heap.get? b=some o→b≠h1.objs.size:=λb o e=>w6 (wI (k1 b o e))
 show wpAny _ _ _ _ _ { s with heap:=h1.push (seqObj "list" vs.toArray 0),toks:=tk }
 refine wA (wo (wk slot_list_sort ⟨_,o1,rfl⟩ entry_list_sort ?_ (args_list_sort _)))
 refine lsort (κ:=κ) (lt:=lt) (s:={ s with heap:=h1.push (seqObj "list" vs.toArray 0),toks:=tk }) o1 h64 (λh2 h' kp=>ans h2 h' tk λb o e=>kp b o (ne b o e) (up b o e)) λh' c kp hD=>?_
 exact ⟨_,rfl,wC ⟨_,rfl,h h' tk h1.objs.size c sz (λb o e=>kp b o (ne b o e) (up b o e)) hD⟩⟩
noncomputable def EsAt (h:Heap) (d:Addr) (es:Array DictEntry) (ep:Nat):Prop:=∃ o,h.get? d=some o∧o.ExactDict∧o.data=.dict es ep
theorem EsAt.at {h h':Heap} {d:Addr} {es:Array DictEntry} {ep:Nat} (x:EsAt h d es ep) (e:∀ o,h.get? d=some o→h'.get? d=some o):EsAt h' d es ep:=let ⟨o,ho,r⟩:=x;⟨o,e o ho,r⟩
theorem EsAt.typeIs {s:Shared} {d:Addr} {es:Array DictEntry} {ep:Nat} (x:EsAt s.heap d es ep):s.TypeIs (.ref d) "dict":=let ⟨o,ho,c,_⟩:=x;⟨o,ho,c.1⟩
theorem qdL {d:Addr} {es:Array DictEntry} {ep:Nat} {Q:Value→Shared→Prop} (hd:(d == sysModules)=false) (hm:EsAt s.heap d es ep)
  (hQ:Q (.ref s.heap.objs.size) { s with heap:=s.heap.push { cls:=.type "dict_keyiterator",data:=.fields #[.ref d,.int 0 0,.int es.size 0,.int ep 0] } }):wpAny (model prog w) A (pyIter (.ref d)) Q E s:=by
 have hT:=hm.typeIs
 obtain ⟨o,ho,hc,hdat⟩:=hm
 refine wpAny_pyIter_slot hT F.slot_dict_iter (wk F.slot_dict_iter hT F.entry_dict_iter ?_ (F.args_dict_iter_1 _))
 unfold Builtin.«dict.__iter__»
 refine wA ?_
 unfold Builtin.Dict.dictSlotNone
 refine wA (wpAny_notOrdered_dict hT (wC (?_:wpAny _ _ (Builtin.Dict.showsAll d >>= _) _ _ s)))
 unfold Builtin.Dict.showsAll
 rw [wN (by rw [hd];exact wT)]
 refine wA (wC (wA (wpAny_dictEntries ho hdat (wA (wpAny_dictEpoch ho hdat ?_)))))
 refine wA (wY (wC ⟨_,rfl,"dict_keyiterator",_,⟨_,wG _ rfl,rfl⟩,F.slot_dict_keyiterator_next.lookup,?_⟩))
 simpa [rawInt] using hQ
theorem qdM {it d:Addr} {i ep:Nat} {es:Array DictEntry} {e:DictEntry} {Q:Option Value→Shared→Prop} (hit:s.heap.IsKeyIter it d i es.size ep) (hm:EsAt s.heap d es ep) (hx:es[i]?=some e)
  (hQ:∀ h',h'.IsKeyIter it d (i+1) es.size ep→Heap.SameBut it s.heap h'→Q (some e.key) { s with heap:=h' }):wpAny (model prog w) A (pyNext (.ref it)) Q E s:=by
 have hT:=hit.typeIs
 obtain ⟨o,ho,hc,hd⟩:=hit
 obtain ⟨od,hod,hcd,hdd⟩:=hm
 unfold pyNext
 refine wA (wpAny_attempt (wf (name:=Str.ofString "__next__") hT F.slot_dict_keyiterator_next (wk F.slot_dict_keyiterator_next hT F.entry_dict_keyiterator_next ?_ (F.args_dict_keyiterator_next_1 _))))
 refine wA (wC (wA (wA ?_)))
 first | refine wA (wpAny_typeNameOfWhole_keyiter hT (wC (wA (wpAny_fieldsOf ho hd ?_)))) | refine wA (wpAny_typeNameOf_keyiter hT (wC (wA (wpAny_fieldsOf ho hd ?_))))
 have own:Builtin.Dict_items.ownsTuple "dict_keyiterator"=false:=by decide
 simp only [own,vP,if_false]
 show wpAny _ _ (if (Value.ref d == Value.none)=true then _ else _) _ _ s
 rw [wN (show ¬ ((Value.ref d == Value.none)=true) from wT)]
 refine wA (wC (wA (wpAny_dictEntries hod hdd ?_)))
 rw [wN (by simp)]
 refine wA (wC (wA (wpAny_dictEpoch hod hdd ?_)))
 rw [wN (by simp)]
 refine wC ?_
 obtain ⟨lt',ee⟩:=Array.getElem?_eq_some_iff.mp hx
 simp only [show ¬ ((i:Int)<0) from by lia,if_false,Int.toNat_natCast,hx]
 refine wA ?_
 first | refine wA (wpAny_typeNameOfWhole_keyiter hT (wC ?_)) | refine wA (wpAny_typeNameOf_keyiter hT (wC ?_))
 refine wA (wpAny_isOneOf_keyiter hT (?_:wpAny _ _ (setField (.ref it) 1 (rawInt ((i:Int)+1)) >>= _) _ _ s))
 refine wA (wpAny_setField ho hd (by simp) ?_)
 have hit':(s.heap.update it (Obj.mapFields (·.setIfInBounds 1 (rawInt ((i:Int)+1))))).IsKeyIter it d (i+1) es.size ep :=
  ⟨_,wp _ ho (Obj.isFreed_of_fields (Obj.data_mapFields hd _)),(Obj.cls_mapFields ..).trans hc,by rw [Obj.data_mapFields hd];simp [rawInt]⟩
 refine wA (wo (wA (wpAny_isOneOf_keyiter (s:={ s with heap:=s.heap.update it (Obj.mapFields (·.setIfInBounds 1 (rawInt ((i:Int)+1)))) }) hit'.typeIs (?_:wpAny _ _ (pure e.key) _ _ _))))
 exact wC (wC ⟨_,rfl,wC (hQ _ hit' (Heap.SameBut.update ..))⟩)
theorem qe3 {it d:Addr} {i ep:Nat} {es:Array DictEntry} {Q:Option Value→Shared→Prop} (hh:A.handled=none) (hit:s.heap.IsKeyIter it d i es.size ep) (hm:EsAt s.heap d es ep) (hx:es[i]?=none)
  (hQ:∀ h',Heap.ExtBut it s.heap h'→Q none { s with heap:=h' }):wpAny (model prog w) A (pyNext (.ref it)) Q E s:=by
 have hT:=hit.typeIs
 obtain ⟨o,ho,hc,hd⟩:=hit
 obtain ⟨od,hod,hcd,hdd⟩:=hm
 unfold pyNext
 refine wA (wpAny_attempt (wf (name:=Str.ofString "__next__") hT F.slot_dict_keyiterator_next (wk F.slot_dict_keyiterator_next hT F.entry_dict_keyiterator_next ?_ (F.args_dict_keyiterator_next_1 _))))
 refine wA (wC (wA (wA ?_)))
 first | refine wA (wpAny_typeNameOfWhole_keyiter hT (wC (wA (wpAny_fieldsOf ho hd ?_)))) | refine wA (wpAny_typeNameOf_keyiter hT (wC (wA (wpAny_fieldsOf ho hd ?_))))
 have own:Builtin.Dict_items.ownsTuple "dict_keyiterator"=false:=by decide
 simp only [own,vP,if_false]
 show wpAny _ _ (if (Value.ref d == Value.none)=true then _ else _) _ _ s
 rw [wN (show ¬ ((Value.ref d == Value.none)=true) from wT)]
 refine wA (wC (wA (wpAny_dictEntries hod hdd ?_)))
 rw [wN (by simp)]
 refine wA (wC (wA (wpAny_dictEpoch hod hdd ?_)))
 rw [wN (by simp)]
 refine wC ?_
 simp only [show ¬ ((i:Int)<0) from by lia,if_false,Int.toNat_natCast,hx]
 refine wA ?_
 first | refine wA (wpAny_typeNameOfWhole_keyiter hT (wC ?_)) | refine wA (wpAny_typeNameOf_keyiter hT (wC ?_))
 refine wA (m:=setField (.ref it) 0 .none) (wpAny_setField ho hd (by simp) (?_:wpAny _ _ (newExc (.type "StopIteration") [] >>= _) _ _ _))
 refine wA ?_
 unfold newExc newTuple
 refine wA (wY (wA (wpAny_of_eq (t:=firstArgMember _ _) (a:=Value.none) (by first | rfl | (simp only [firstArgMember];rfl)) (wY ?_ (by size_fits)))) (by size_fits))
 unfold raiseNew
 refine wA (wpAny_handled ?_)
 rw [show A.in1.handled=none from hh]
 refine wA (wC (wpAny_throw ?_))
 refine wA (wpAny_isInstance (T:="StopIteration") (b:=true) ⟨_,wG _ rfl,rfl⟩ isSubtype_stop ?_)
 exact wC (hQ _ (((Heap.SameBut.update ..).extBut.push _).push _))
theorem qdN (hh:A.handled=none) (I d:Addr) (hne:d≠I) (es:Array DictEntry) (ep:Nat):Walks prog w A I [I,d] [I] es.size (λi v=>(es[i]?).map (·.key)=some v) (λi h=>h.IsKeyIter I d i es.size ep∧EsAt h d es ep) where
 sub:=λb hb=>by simp at hb;simp [hb]
 frame:=λ_ _ _ st hk=>⟨st.1.at λo e=>hk I (by simp) o e,st.2.at λo e=>hk d (by simp) o e⟩
 item:=λi s Q E hi st hQ=>by
  have hx:es[i]?=some es[i]:=Array.getElem?_eq_getElem hi
  exact qdM st.1 st.2 hx λh' k' b'=>hQ _ h' s.toks (by rw [hx];rfl) ⟨k',st.2.at λo e=>b'.extBut _ o hne e⟩ λb o hb e=>b'.extBut b o (λz=>hb (by simp [z])) e
 done:=λs Q E st hQ=>qe3 hh st.1 st.2 (Array.getElem?_eq_none (wF _)) λh' eb=>hQ h' s.toks λb o hb e=>eb b o (λz=>hb (by simp [z])) e
 self:=λ_ _ _ _ st hQ=>wpAny_pyIter_keyiter st.1 hQ
theorem qe4 {d:Addr} {es:Array DictEntry} {ep:Nat} (lo:(d == sysModules)=false):KdlSrc prog w "dict" d d es.size (λi v=>(es[i]?).map (·.key)=some v) (λh=>EsAt h d es ep) where
 type:=λ_ hm=>hm.typeIs
 there:=λ_ hm=>let ⟨o,ho,_⟩:=hm;⟨wI ho,wI ho⟩
 keep:=λ_ _ hm hk=>hm.at λo e=>hk d (.inl rfl) o e
 notList:=by decide
 notTuple:=by decide
 hint:=λ_ _ _ _ hm hq=>kdl_hint_dict hm.typeIs hq
 iter:=λA s hh hm=>⟨_,_,(λ_ _ hq=>qdL lo hm hq),qdN hh _ d (by obtain ⟨o,ho,_⟩:=hm;exact w6 (wI ho)) es ep,⟨⟨_,wG _ rfl,rfl,rfl⟩,hm.at λo e=>wB _ e⟩⟩
theorem qaf {d:Addr} {es:Array DictEntry} {ep:Nat} {Q:List Value→Shared→Prop} (hh:A.handled=none) (lo:(d == sysModules)=false) (hm:EsAt s.heap d es ep) (hn:es.size≤sizeLine)
  (hQ:∀ (h':Heap) (tk:Nat),s.heap.objs.size≤h'.objs.size→(∀ b o,s.heap.get? b=some o→h'.get? b=some o)→Q (es.toList.map (·.key)) { s with heap:=h',toks:=tk }):wpAny (model prog w) A (collect (.ref d)) Q E s:=by
 have hd:d≠s.heap.objs.size:=by obtain ⟨o,ho,_⟩:=hm;exact w6 (wI ho)
 have core:∀ R:Result→Shared→Prop,(∀ (h':Heap) (tk:Nat) (acc:Array Value) (c':Nat),(∀ b o,s.heap.get? b=some o→h'.get? b=some o)→h'.get? s.heap.objs.size=some { cls:=.type "list",dict:=none,data:=.seq acc c',slots:=#[] }→ItemsOf (λi v=>(es[i]?).map (·.key)=some v) acc es.size →
   R (.ok (.ret (.ref s.heap.objs.size))) { s with heap:=h',toks:=tk })→codeAny (model prog w) A (.builtin "proto.collect" ⟨[.ref d],[]⟩) R s:=by
  intro R hR
  refine wz F.entry_proto_collect ?_
  rw [wg F.plain_proto_collect]
  refine wA (m:=newList []) (wY (wC ⟨wy F.plain_list_iadd _,wz F.entry_list_iadd ?_⟩))
  rw [wg F.plain_list_iadd]
  have h0:(s.heap.push { cls:=.type "list",data:=.seq ([]:List Value).toArray }).get? s.heap.objs.size=some { cls:=.type "list",data:=.seq #[] 0 }:=wG _ rfl
  exact kdl_extend (R:=R) (s:={ s with heap:=s.heap.push { cls:=.type "list",data:=.seq ([]:List Value).toArray } }) (qe4 lo) hh (hm.at λo e=>wB _ e) s.heap.objs.size (Ne.symm hd) (Ne.symm hd) (.ref s.heap.objs.size) 0 h0 (λh' tk acc c' hk hS hi =>
   hR h' tk acc c' (λb o e=>hk b o (w6 (wI e)) (wB _ e)) hS hi) hn
 unfold collect
 refine wA (wpAny_runValue (core _ λh' tk acc c' hk hS hi=>?_))
 refine wA (m:=load s.heap.objs.size) (wpAny_load hS (wC ?_))
 have e:acc.toList=es.toList.map (·.key):=by
  apply List.ext_getElem?
  intro i
  rw [w5]
  cases z:acc[i]? with
  | none =>
   have h1:acc.size≤i:=by simpa using z
   rw [hi.1] at h1
   have h2:es[i]?=none:=Array.getElem?_eq_none h1
   rw [Array.getElem?_toList,Array.getElem?_toList,z,h2];rfl
  | some v =>
   have:=hi.2 i v z
   rw [Array.getElem?_toList,Array.getElem?_toList,z,this]
 rw [e]
 exact hQ h' tk (Nat.le_of_lt (wI hS)) hk
end
end R
namespace R
open PySem PySem.Spec L2 SeqAt
open PyProof.Rows hiding St
open PySem.W (KasT kas_sort)
theorem qaI:∀ a:List Int,HT.lexLt a a=false
 | []=>rfl
 | x::a=>by rw [HT.qY,wL rfl];exact qaI a
theorem qaJ:∀ {a b c:List Int},HT.lexLt a b=true→HT.lexLt b c=true→HT.lexLt a c=true
 | [],[],_,h,_=>by cases h
 | [],_::_,[],_,h=>by cases h
 | [],_::_,_::_,_,_=>rfl
 | _::_,[],_,h,_=>by cases h
 | _::_,_::_,[],_,h=>by cases h
 | x::a,y::b,z::c,h,k=>by
  rw [HT.qY] at h k ⊢
  by_cases e1:x=y
  ·subst e1
   rw [wL rfl] at h
   by_cases e2:x=z
   ·subst e2
    rw [wL rfl] at k ⊢
    exact qaJ h k
   ·rw [wN e2] at k ⊢;exact k
  ·rw [wN e1] at h
   have h':=vG h
   by_cases e2:y=z
   ·subst e2
    rw [wN e1];exact h
   ·rw [wN e2] at k
    have k':=vG k
    rw [wN (by lia)]
    exact vM (by lia)
theorem lex_tot:∀ {a b:List Int},a≠b→HT.lexLt a b=true∨HT.lexLt b a=true
 | [],[],h=>absurd rfl h
 | [],_::_,_=>.inl rfl
 | _::_,[],_=>.inr rfl
 | x::a,y::b,h=>by
  rw [HT.qY,HT.qY]
  by_cases e:x=y
  ·subst e
   rw [wL rfl,wL rfl]
   exact lex_tot λz=>h (by rw [z])
  ·rw [wN e,wN (Ne.symm e)]
   rcases Int.lt_or_gt_of_ne e with z | z
   ·exact .inl (vM z)
   ·exact .inr (vM z)
theorem yW (x:List Int):∀ l:List (List Int),(insT x l).Perm (x::l)
 | []=>.refl _
 | y::r=>by
  unfold insT
  split
  ·exact ((yW x r).cons y).trans (.swap ..)
  ·exact .refl _
theorem qP:∀ l:List (List Int),(sortT l).Perm l
 | []=>.refl _
 | x::r=>(yW x (sortT r)).trans ((qP r).cons x)
noncomputable def Ris (l:List (List Int)):Prop:=l.Pairwise λa b=>HT.lexLt a b=true
theorem qbr {x:List Int}:∀ {l:List (List Int)},x ∉ l→Ris l→Ris (insT x l)
 | [],_,_=>List.pairwise_singleton _ _
 | y::r,hn,h=>by
  obtain ⟨h1,h2⟩:=ww.mp h
  unfold insT
  split
  ·rename_i hl
   refine ww.mpr ⟨λz hz=>?_,qbr (λm=>hn (wM _ m)) h2⟩
   rcases wZ.mp ((yW x r).mem_iff.mp hz) with e | e
   ·rw [e];exact hl
   ·exact h1 z e
  ·rename_i hl
   have hxy:HT.lexLt x y=true:=by
    rcases lex_tot (a:=x) (b:=y) λe=>hn (by rw [e];exact wJ) with z | z
    ·exact z
    ·rw [z] at hl;exact absurd rfl hl
   refine ww.mpr ⟨λz hz=>?_,h⟩
   rcases wZ.mp hz with e | e
   ·rw [e];exact hxy
   ·exact qaJ hxy (h1 z e)
theorem yX:∀ {l:List (List Int)},l.Nodup→Ris (sortT l)
 | [],_=>.nil
 | x::r,h=>by
  obtain ⟨h1,h2⟩:=List.nodup_cons.mp h
  exact qbr (λm=>h1 ((qP r).mem_iff.mp m)) (yX h2)
theorem qbs:∀ {a b:List (List Int)},a.Perm b→Ris a→Ris b→a=b
 | [],b,p,_,_=>(List.nil_perm.mp p).symm
 | x::a,[],p,_,_=>absurd (List.perm_nil.mp p) (by simp)
 | x::a,y::b,p,h,k=>by
  obtain ⟨h1,h2⟩:=ww.mp h
  obtain ⟨k1,k2⟩:=ww.mp k
  have e:x=y:=by
   rcases wZ.mp (p.mem_iff.mp wJ) with z | z
   ·exact z
   ·rcases wZ.mp (p.symm.mem_iff.mp wJ) with z' | z'
    ·exact z'.symm
    ·have:=qaJ (h1 y z') (k1 x z)
     rw [qaI] at this;cases this
  subst e
  rw [qbs (List.Perm.cons_inv p) h2 k2]
theorem yY (x:Int):∀ l:List Int,(insI x l).Perm (x::l)
 | []=>.refl _
 | y::r=>by
  unfold insI
  split
  ·exact .refl _
  ·exact ((yY x r).cons y).trans (.swap ..)
theorem zf:∀ l:List Int,(sortI l).Perm l
 | []=>.refl _
 | x::r=>(yY x (sortI r)).trans ((zf r).cons x)
theorem qcO {x:Int}:∀ {l:List Int},l.Pairwise (·≤·)→(insI x l).Pairwise (·≤·)
 | [],_=>List.pairwise_singleton _ _
 | y::r,h=>by
  obtain ⟨h1,h2⟩:=ww.mp h
  unfold insI
  split
  ·rename_i hl
   refine ww.mpr ⟨λz hz=>?_,h⟩
   rcases wZ.mp hz with e | e
   ·rw [e];exact hl
   ·exact Int.le_trans hl (h1 z e)
  ·rename_i hl
   refine ww.mpr ⟨λz hz=>?_,qcO h2⟩
   rcases wZ.mp ((yY x r).mem_iff.mp hz) with e | e
   ·rw [e];lia
   ·exact h1 z e
theorem jz:∀ l:List Int,(sortI l).Pairwise (·≤·)
 | []=>.nil
 | x::r=>qcO (jz r)
theorem qcf {ks:List (List Int)} (nd:ks.Nodup):Ord (ltK ks) ks.length where
 irr:=λa _=>qaI _
 tr:=λa b c _ _ _ h k=>qaJ h k
 tot:=λa b ha hb h=>lex_tot λe=>h (by
  rw [we,we,wD ha,wD hb] at e
  exact (List.getElem_inj nd).mp e)
theorem qbt {ks:List (List Int)} (nd:ks.Nodup) (h1:1≤ks.length):(evT (ltK ks) (kas_sort ks.length)).toList.map (λi=>ks.getD i [])=sortT ks:=by
 obtain ⟨pm,sr⟩:=qcL (qcf nd) h1
 generalize evT (ltK ks) (kas_sort ks.length)=p at *
 have hp:(p.toList.map λi=>ks.getD i []).Perm ks:=by
  have e:(List.range ks.length).map (λi=>ks.getD i [])=ks:=by
   apply List.ext_getElem?
   intro i
   rw [w5]
   by_cases hi:i<ks.length
   ·rw [wD (by simpa using hi),wD hi]
    simp [hi]
   ·rw [List.getElem?_eq_none (by simpa using hi),List.getElem?_eq_none (by lia)];rfl
  have:=pm.map λi=>ks.getD i []
  rwa [e] at this
 refine qbs (hp.trans (qP ks).symm) ?_ (yX nd)
 show (p.toList.map λi=>ks.getD i []).Pairwise _
 rw [List.pairwise_map,List.pairwise_iff_getElem]
 intro i j hi hj hij
 have hsz:=pm.size
 have:=sr i j hij (by simpa [hsz] using hj)
 rw [qbp (by simpa using hi),qbp (by simpa using hj)] at this
 simpa [ltK] using this
end R
namespace R
open PySem PySem.Spec L2 SeqAt
open PyProof.Rows hiding St
open PySem.W (KasT kas_sort)
section
variable {X:Cx} {pins:List (Addr × Obj)} {σ:St} {H:Hp} {s:Shared} {ι:List Addr} {S:Sr}
theorem qcP (I:Inv X pins σ H s):∀ {l:List D} {ks:List (List Int)} {xs:List V} {vs:List Value},tupsOf l=some ks→Dens ι H l xs→Vals xs vs→TupsAt s.heap vs ks∧l=ks.map tupI
 | [],ks,xs,vs,e,hd,r=>by
  cases e
  cases (show xs=[] from hd)
  cases r
  exact ⟨rfl,rfl⟩
 | .tup a::l,ks,xs,vs,e,hd,r=>by
  obtain ⟨x,xs',rfl,hx,hl⟩:=hd
  obtain ⟨b,ys,rfl,_,hb,dy⟩:=hx
  simp only [tupsOf] at e
  cases z1:intsOf a with
  | none=>rw [z1] at e;cases e
  | some k =>
   rw [z1,wP] at e
   cases z2:tupsOf l with
   | none=>rw [z2] at e;cases e
   | some kr =>
    rw [z2] at e;cases e
    cases r with
    | cons r1 r2 =>
     cases r1
     obtain ⟨t1,t2⟩:=qcP I z2 hl r2
     obtain ⟨its,rv,p,_⟩:=jq I hb
     have ea:=intsOf_eq z1
     subst ea
     cases dens_ints dy
     refine ⟨⟨b,its,k,kr,rfl,rfl,p,qZ rv,t1⟩,?_⟩
     rw [t2];rfl
 | .non::_,_,_,_,e,_,_=>by cases e
 | .bl _::_,_,_,_,e,_,_=>by cases e
 | .int _::_,_,_,_,e,_,_=>by cases e
 | .str _::_,_,_,_,e,_,_=>by cases e
 | .lst _::_,_,_,_,e,_,_=>by cases e
 | .emp::_,_,_,_,e,_,_=>by cases e
 | .ref _::_,_,_,_,e,_,_=>by cases e
theorem qbu {xs:List V} {vs:List Value} (r:Vals xs vs):∀ p:List Nat,(∀ i∈p,i<vs.length)→Vals (p.map λi=>xs.getD i .non) (p.map λi=>vs.getD i .none)
 | [],_=>.nil
 | i::p,h=>by
  refine .cons ?_ (qbu r p λj hj=>h j (wM _ hj))
  have hi:=h i wJ
  obtain ⟨x,e1,e2⟩:=Vals.at r hi
  dsimp only
  rw [we,we,e1,wD hi]
  exact e2
theorem qbv {l:List D} {xs:List V} (h:Dens ι H l xs):∀ p:List Nat,(∀ i∈p,i<l.length)→Dens ι H (p.map λi=>l.getD i .non) (p.map λi=>xs.getD i .non)
 | [],_=>rfl
 | i::p,hp=>by
  have hi:=hp i wJ
  obtain ⟨x,e1,e2⟩:=h.get (wD hi)
  refine ⟨_,_,rfl,?_,qbv h p λj hj=>hp j (wM _ hj)⟩
  dsimp only
  rw [we,we,e1,wD hi]
  exact e2
theorem zw {m:Bool} {x:Value} {l:List D} {ks:List (List Int)} {xs:List V} {vs:List Value} {Q:VK} (I:Inv X pins σ H s) (st:Sto ι H S) (hc:X.calm=true) (dl:Dens ι H l xs) (rv:Vals xs vs) (e:tupsOf l=some ks) (h64:l.length<64) (nd:ks.Nodup) (ne:∀ k∈ks,k≠[])
  (col:∀ (E':Value→Shared→Prop) (Q':List Value→Shared→Prop),(∀ (h':Heap) (tk:Nat),s.heap.objs.size≤h'.objs.size→(∀ b o,s.heap.get? b=some o→h'.get? b=some o)→Q' vs { s with heap:=h',toks:=tk })→wpAny (model X.prog X.w) X.A.in1 (collect x) Q' E' s)
  (q:Pst Den (newL m ((sortT ks).map tupI) S) ι H Q):wpAny (model X.prog X.w) X.A (call (.builtin "sorted") [x]) (EP X pins σ Q) X.xe s:=by
 obtain ⟨ta,el⟩:=qcP I e dl rv
 have len:vs.length=ks.length:=ta.len
 have ll:l.length=ks.length:=by rw [el];simp
 refine qdK (κ:=tuples' true) (lt:=ltK ks) (by lia) col (λh2 h' tk kp=>?_) λh' tk D c sz kp hD=>?_
 ·have t':TupsAt h' vs ks:=ta.keep λa o _ eo=>kp a o eo
  exact ⟨λE' Q' hq=>qe2 (s:={ s with heap:=h',toks:=tk }) t' ne h2 hq,by rw [len];exact qcf nd,λi j C hi hj hC=>qg5 (s:={ s with heap:=h',toks:=tk }) t' (by lia) (by lia) hC⟩
 ·-- the answer's data
  have fin:∃ xs',Vals xs' (outOf (ltK ks) vs)∧Dens ι H ((sortT ks).map tupI) xs':=by
   unfold outOf
   by_cases h2:vs.length<2
   ·rw [wL h2]
    refine ⟨xs,rv,?_⟩
    have:sortT ks=ks:=by
     match ks,len with
     | [],_=>rfl
     | [k],_=>rfl
     | _::_::_,len=>simp at len;lia
    rw [this,← el]
    exact dl
   ·rw [wN h2]
    rw [len]
    obtain ⟨pm,_⟩:=qcL (qcf nd) (show 1≤ks.length by lia)
    have hb:∀ i∈(evT (ltK ks) (kas_sort ks.length)).toList,i<ks.length:=λi hi=>List.mem_range.mp (pm.mem_iff.mp hi)
    refine ⟨_,qbu rv _ λi hi=>by rw [len];exact hb i hi,?_⟩
    have d:=qbv dl _ λi hi=>by rw [ll];exact hb i hi
    have e2:(sortT ks).map tupI=(evT (ltK ks) (kas_sort ks.length)).toList.map λi=>l.getD i .non:=by
     rw [← qbt nd (by lia),wd]
     refine vK λi hi=>?_
     have:=hb i hi
     rw [el]
     simp [this]
    rw [e2]
    exact d
  obtain ⟨xs',r',d'⟩:=fin
  have fr:H D=none:=I.hok.fresh sz
  have hz:xs'.length≤sizeLine:=by
   rw [← d'.length,wO,(qP ks).length_eq,vF];lia
  exact ⟨.ref D,upd H D (.lst xs'),I.laid (o:=.lst xs') (t':=tk) kp sz ⟨hz,outOf (ltK ks) vs,c,r',hD⟩,rfl,zq st d' q D fr⟩
theorem qe5 {a:Addr} {xs:List V} (I:Inv X pins σ H s) (h:Rd H a (.lst xs)):∃ vs:List Value,Vals xs vs∧s.heap.IsList a vs.toArray∧(∀ (A:Around) (E':Value→Shared→Prop) (Q':List Value→Shared→Prop),(∀ (h':Heap) (tk:Nat),s.heap.objs.size≤h'.objs.size→(∀ b o,s.heap.get? b=some o→h'.get? b=some o)→Q' vs { s with heap:=h',toks:=tk })→wpAny (model X.prog X.w) A (collect (.ref a)) Q' E' s):=by
 obtain ⟨vs,r,p,hz⟩:=qau I h
 refine ⟨vs,r,p,λA E' Q' hq=>collect_list p (hq _ s.toks ?_ λb o e=>?_) (by rw [← r.length];exact hz)⟩
 ·rw [Heap.size_update,size_push'];lia
 ·exact (wb _ _ (Nat.ne_of_gt (wI e))).trans (wB _ e)
theorem qdO {m:Bool} {a:Addr} {ns:List Int} {xs:List V} {Q:VK} (I:Inv X pins σ H s) (st:Sto ι H S) (h:Rd H a (.lst xs)) (dl:Dens ι H (ns.map .int) xs) (h64:ns.length<64) (q:Pst Den (newL m ((sortI ns).map .int) S) ι H Q) :
  wpAny (model X.prog X.w) X.A (call (.builtin "sorted") [.ref a]) (EP X pins σ Q) X.xe s:=by
 obtain ⟨vs,r,p,hz⟩:=qau I h
 cases dens_ints dl
 have ia:IntsAre vs ns:=qZ r
 have hl:=ia.length
 refine sorted_ints p ia (by lia) λout ns' i1 i2 i3=>?_
 have en:ns'=sortI ns:=PySem.W.lks_uniq (i2.trans (zf ns).symm) i3 (jz ns)
 have up:∀ b o,s.heap.get? b=some o→(sortedAll s.heap vs out).get? b=some o:=λb o e=>by
  have hb:b<s.heap.objs.size:=wI e
  unfold sortedAll sortedHeap
  refine (wb _ _ (Nat.ne_of_gt (Nat.lt_succ_of_lt hb))).trans (wB _ (wB _ ((wb _ _ (Nat.ne_of_gt (Nat.lt_succ_of_lt hb))).trans (wB _ ?_))))
  exact (wb _ _ (Nat.ne_of_gt hb)).trans (wB _ e)
 have o1:(((s.heap.push (seqObj "list" #[] 0)).update s.heap.objs.size (Obj.mapSeq (·++vs.toArray))).push (seqObj "list" vs.toArray 0)).get? (s.heap.objs.size+1)=some (seqObj "list" vs.toArray 0):=by
  have:((s.heap.push (seqObj "list" #[] 0)).update s.heap.objs.size (Obj.mapSeq (·++vs.toArray))).objs.size=s.heap.objs.size+1:=by rw [Heap.size_update,size_push']
  rw [← this];exact wG _ rfl
 obtain ⟨c,at'⟩:∃ c,(sortedAll s.heap vs out).get? (s.heap.objs.size+1)=some (seqObj "list" out c):=by
  unfold sortedAll sortedHeap
  have e1:=get?_update_seq o1 λ_=>(#[]:Array Value)
  have e2:=wB (seqObj "list" #[] 0) (wB (seqObj "tuple" vs.toArray 0) e1)
  exact ⟨_,get?_update_seq e2 λ_=>out⟩
 have sz:s.heap.objs.size≤s.heap.objs.size+1:=Nat.le_succ _
 have fr:H (s.heap.objs.size+1)=none:=I.hok.fresh sz
 have rr:Vals (ns'.map V.int) out.toList:=by
  have:∀ {us:List Value} {ms:List Int},IntsAre us ms→Vals (ms.map V.int) us:=λ{us ms} h=>by
   induction h with
   | nil=>exact .nil
   | cons n t _ ih=>exact .cons ⟨t,rfl⟩ ih
  exact this i1
 have dd:Dens ι H ((sortI ns).map .int) (ns'.map V.int):=by
  rw [en]
  have:∀ ms:List Int,Dens ι H (ms.map .int) (ms.map V.int):=λms=>by
   induction ms with
   | nil=>rfl
   | cons x r ih=>exact ⟨_,_,rfl,rfl,ih⟩
  exact this _
 have hz2:(ns'.map V.int).length≤sizeLine:=by rw [wO,i2.length_eq,vF];lia
 refine ⟨.ref _,upd H (s.heap.objs.size+1) (.lst (ns'.map V.int)),I.laid (o:=.lst (ns'.map V.int)) (t':=s.toks) up sz ⟨hz2,out.toList,c,rr,by rw [at']⟩,rfl,zq st dd q _ fr⟩
theorem qe6 (m:Bool) (hc:X.calm=true):CallR X (.builtin "sorted") (Gn (one (bSorted m))):=by
 intro pins s σ H xs us Q I r h
 obtain ⟨ι,S,ds,st,hd,p⟩:=h
 obtain ⟨d,rfl,p⟩:=qax p
 ·skip
  obtain ⟨x,rfl,hx⟩:=dens1 hd
  obtain ⟨u,rfl,ru⟩:=vals1 r
  simp only [one,bSorted] at p
  have lists:∀ {l:List D},lstOf S d=some l→walkD S d=some l→wpAny (model X.prog X.w) X.A (call (.builtin "sorted") [u]) (EP X pins σ Q) X.xe s:=λ{l} hl hw=>by
   obtain ⟨a,xs,rfl,ha,dl⟩:=q9 st hl hx
   cases ru
   rw [hw,wP] at p
   unfold sortL at p
   by_cases h64:l.length<64
   ·rw [wL h64] at p
    cases z:intsOf l with
    | some ns =>
     rw [z] at p
     have:=intsOf_eq z
     subst this
     exact qdO I st ha dl (by simpa using h64) p
    | none =>
     rw [z] at p
     cases z2:tupsOf l with
     | none=>simp only [z2,Option.bind_none] at p;exact p.elim
     | some ks =>
      simp only [z2,wP] at p
      by_cases hk:ks.Nodup∧∀ t∈ks,t≠[]
      ·rw [wL hk] at p
       obtain ⟨vs,rv,_,col⟩:=qe5 I ha
       exact zw I st hc dl rv z2 h64 hk.1 hk.2 (col _) p
      ·rw [wN hk] at p;exact p.elim
   ·rw [wN h64] at p;exact p.elim
  cases d with
  | lst l=>exact lists rfl rfl
  | ref k =>
   cases z:S[k]? with
   | none=>simp only [walkD,z,Option.bind_none] at p;exact p.elim
   | some so =>
    cases so with
    | lst l=>exact lists (by unfold lstOf;dsimp only;rw [z]) (by unfold walkD;dsimp only;rw [z])
    | dis l=>simp only [walkD,z,Option.bind_none] at p;exact p.elim
    | dic l =>
     obtain ⟨a,rfl,ha⟩:=hx
     cases ru
     obtain ⟨_,kvs,e1,dk⟩:=st.obj k a _ ha z
     obtain ⟨hz,lo,ys,pr,o,es,ep,eo,ex,ed,eL,ndp⟩:=I.hok a _ e1
     simp only [walkD,z,wP] at p
     have keys:∀ {l:List (List Int × D)} {kvs:List (List Key × V)} {ys:List (List Key × Addr × Value)},DGs keyT ι H l kvs→Paired (λ(p:List Key × V) (q:List Key × Addr × Value)=>p.1=q.1∧H q.2.1=some (.tup (p.1.map kV))∧RelV p.2 q.2.2) kvs ys →
       Dens ι H (l.map λp=>tupI p.1) (ys.map λq=>V.ref q.2.1):=λ{l}=>by
      induction l with
      | nil=>intro kvs ys h1 h2;cases (show kvs=[] from h1);cases h2;rfl
      | cons q l ih =>
       intro kvs ys h1 h2
       obtain ⟨v,r',rfl,_,h1'⟩:=h1
       cases h2 with
       | cons y t =>
        rename_i q2 ys'
        obtain ⟨ya,yb,yc⟩:=y
        refine ⟨_,_,rfl,⟨q2.2.1,_,rfl,λhm=>?_,yb,?_⟩,ih h1' t⟩
        ·obtain ⟨j,hj,ej⟩:=List.getElem_of_mem hm
         have hs:j<S.length:=by rw [← st.len];exact hj
         have k':=st.obj j _ S[j] (by rw [wD hj,ej]) (wD hs)
         cases e:S[j] with
         | lst _=>rw [e] at k';obtain ⟨_,_,k2,_⟩:=k';rw [yb] at k2;cases k2
         | dic _=>rw [e] at k';obtain ⟨_,_,k2,_⟩:=k';rw [yb] at k2;cases k2
         | dis _=>rw [e] at k';obtain ⟨_,_,k2,_⟩:=k';rw [yb] at k2;cases k2
        ·show Dens ι H (q.1.map .int) ((keyT q.1).map kV)
         unfold keyT
         rw [wd]
         have:∀ ms:List Int,Dens ι H (ms.map .int) (ms.map (kV∘Sum.inl)):=λms=>by
          induction ms with
          | nil=>rfl
          | cons x r ih=>exact ⟨_,_,rfl,rfl,ih⟩
         exact this _
     have dl:=keys dk pr
     have rv:Vals (ys.map λq=>V.ref q.2.1) (ys.map λq=>Value.ref q.2.1):=by
      clear pr eL dl ndp
      induction ys with
      | nil=>exact .nil
      | cons q r ih=>exact .cons rfl ih
     have ev:es.toList.map (·.key)=ys.map λq=>Value.ref q.2.1:=by rw [eL,wd];rfl
     have hsz:es.size≤sizeLine:=by
      have h1:es.toList.length=ys.length:=by rw [eL];simp
      have h2:kvs.length=ys.length:=Paired.length pr
      have:es.size=es.toList.length:=by simp
      lia
     have col:∀ (E':Value→Shared→Prop) (Q':List Value→Shared→Prop),(∀ (h':Heap) (tk:Nat),s.heap.objs.size≤h'.objs.size→(∀ b o,s.heap.get? b=some o→h'.get? b=some o)→Q' (ys.map λq=>Value.ref q.2.1) { s with heap:=h',toks:=tk })→wpAny (model X.prog X.w) X.A.in1 (collect (.ref a)) Q' E' s:=λE' Q' hq =>
      qaf (A:=X.A.in1) (I.ok.hd hc) lo ⟨o,eo,ex,ed⟩ hsz (by rw [ev];exact hq)
     unfold sortL at p
     by_cases h64:(l.map λp=>tupI p.1).length<64
     ·rw [wL h64] at p
      cases z1:intsOf (l.map λp=>tupI p.1) with
      | some ns =>
       rw [z1] at p
       cases l with
       | nil =>
        cases z1
        exact zw (ks:=[]) I st hc dl rv rfl (by simp) (by simp) (by simp) col p
       | cons q l=>cases z1
      | none =>
       rw [z1] at p
       cases z2:tupsOf (l.map λp=>tupI p.1) with
       | none=>simp only [z2,Option.bind_none] at p;exact p.elim
       | some ks =>
        simp only [z2,wP] at p
        by_cases hk:ks.Nodup∧∀ t∈ks,t≠[]
        ·rw [wL hk] at p
         exact zw I st hc dl rv z2 h64 hk.1 hk.2 col p
        ·rw [wN hk] at p;exact p.elim
     ·rw [wN h64] at p;exact p.elim
  | emp =>
   obtain ⟨a,rfl,_,ha⟩:=hx
   cases ru
   obtain ⟨hz,lo,ys,pr,o,es,ep,eo,ex,ed,eK,eP,_⟩:=I.hok a _ ha
   cases pr
   have e0:es.toList.map (·.key)=[]:=by
    cases eP' :es.toList with
    | nil=>rfl
    | cons q r=>rw [eP'] at eP;cases eP
   have hsz:es.size≤sizeLine:=by
    have:es.toList=[]:=by simpa using e0
    have:es.size=es.toList.length:=by simp
    simp_all
   simp only [walkD,wP] at p
   refine zw (l:=[]) (ks:=[]) (xs:=[]) (vs:=[]) I st hc rfl .nil rfl (by simp) (by simp) (by simp) (λE' Q' hq=>qaf (A:=X.A.in1) (I.ok.hd hc) lo ⟨o,eo,ex,ed⟩ hsz (by rw [e0];exact hq)) p
  | _=>exact p.elim
end
end R
namespace R
open PySem PySem.Spec L2 SeqAt
open PyProof.Rows hiding St
noncomputable def CEs.len:CEs→Nat
 | .nil=>0
 | .cons _ r=>r.len+1
theorem qaK {F:Fs}:∀ {es:CEs} {ρ:En} {S:Sr} {l:List D} {S':Sr},evs F es ρ S=.ok l S'→l.length=es.len
 | .nil,_,_,_,_,h=>by cases h;rfl
 | .cons e r,ρ,S,l,S',h=>by
  unfold evs at h
  cases z:ev F e ρ S with
  | no=>rw [z] at h;cases h
  | err=>rw [z] at h;cases h
  | ok x S1 =>
   rw [z,Res.bind_ok] at h
   cases z2:evs F r ρ S1 with
   | no=>rw [z2] at h;cases h
   | err=>rw [z2] at h;cases h
   | ok l2 S2 =>
    rw [z2,Res.bind_ok] at h
    cases h
    show l2.length+1=r.len+1
    rw [qaK z2]
noncomputable def CTs.len:CTs→Nat
 | .nil=>0
 | .cons _ r=>r.len+1
theorem qbw {F:Fs}:∀ {ts:CTs} {l:List D} {ρ:En} {S:Sr} {ρ':En} {S':Sr},asgs F ts l ρ S=.ok ρ' S'→l.length=ts.len
 | .nil,[],_,_,_,_,_=>rfl
 | .nil,_::_,_,_,_,_,h=>by unfold asgs at h;cases h
 | .cons t r,[],_,_,_,_,h=>by unfold asgs at h;cases h
 | .cons t r,d::l,ρ,S,ρ',S',h=>by
  unfold asgs at h
  dsimp only at h
  cases z:asg F t d ρ S with
  | no=>rw [z] at h;cases h
  | err=>rw [z] at h;cases h
  | ok ρ1 S1 =>
   rw [z,Res.bind_ok] at h
   show l.length+1=r.len+1
   rw [qbw h]
noncomputable def FnAt (P:Program) (w:World) (K:PySem.W.Frag) (mg:Str→Option Value) (base:Heap) (k:Nat) (F:Fs) (i:Nat) (x:Str) (ps:List Str):Prop :=
 ∃ f fd,mg x=some (.ref f)∧PySem.W.keepIn K (.ref f)=true∧Binds K fd ps []∧FnOk P w K mg base CX0 k f fd ps (SpD ps.length (F i))
structure Gb (mg:Str→Option Value):Prop where
 len:mg "len"=none
 range:mg "range"=none
 list:mg "list"=none
 tuple:mg "tuple"=none
 sorted:mg "sorted"=none
 sum:mg "sum"=none
 all:mg "all"=none
 any:mg "any"=none
 zip:mg "zip"=none
 min:mg "min"=none
 max:mg "max"=none
 abs:mg "abs"=none
 divmod:mg "divmod"=none
 isinstance:mg "isinstance"=none
 int:mg "int"=none
 bool:mg "bool"=none
 str:mg "str"=none
 dict:mg "dict"=none
theorem Gb.ty {mg:Str→Option Value} (g:Gb mg):∀ t:Ty,mg (Str.ofString t.nm)=none
 | .int=>g.int | .bool=>g.bool | .tuple=>g.tuple | .list=>g.list | .str=>g.str | .dict=>g.dict
noncomputable def nodupB:List Str→Bool
 | []=>true
 | x::r=>!(r.any λy=>y == x)&&nodupB r
theorem zg:∀ {l:List Str},nodupB l=true→l.Nodup
 | [],_=>.nil
 | x::r,h=>by
  unfold nodupB at h
  simp only [wU,Bool.not_eq_true',List.any_eq_false,beq_iff_eq] at h
  exact List.nodup_cons.mpr ⟨λhm=>h.1 x hm rfl,zg h.2⟩
@[irreducible] noncomputable def QE (X:Cx) (e:Expr) (t:TE):Prop:=PE X e t
@[irreducible] noncomputable def QT (X:Cx) (e:Expr) (t:TT):Prop:=PT X e t
@[irreducible] noncomputable def QW (X:Cx) (e:Expr) (t:TT):Prop:=PW X e t
@[irreducible] noncomputable def QA (X:Cx) (e:List Expr) (t:TA):Prop:=PA X e t
@[irreducible] noncomputable def QS (X:Cx) (e:Stmt) (t:TS):Prop:=PS X e t
@[irreducible] noncomputable def QSs (X:Cx) (e:List Stmt) (t:TS):Prop:=PSs X e t
@[irreducible] noncomputable def QG (X:Cx) (e:Expr) (t:L2.TG):Prop:=PG X e t
@[irreducible] noncomputable def QGs (X:Cx) (e:List Expr) (t:L2.TGs):Prop:=PGs X e t
@[irreducible] noncomputable def QI (X:Cx) (tg e:Expr) (t:TI):Prop:=PI X tg e t
@[irreducible] noncomputable def QO (X:Cx) (e:Option Expr) (t:TO):Prop:=PO X e t
@[irreducible] noncomputable def QTl (X:Cx) (e:List Expr) (t:TT):Prop:=PTl X e t
theorem Qpt {X:Cx} {e:Expr} {t:TT} (h:QW X e t):QT X e t:=by delta QW at h;delta QT;exact h.pt
theorem QSs.un {X:Cx} {e:List Stmt} {t:TS} (h:QSs X e t):PSs X e t:=by delta QSs at h;exact h
section
variable {X:Cx} {F:Fs} {pos:Pos}
theorem qc (i:Nat) {x:Str} (hN:X.N[i]?=some x:=by rfl) (hv:Vis X.env.scope x:=by first | exact Or.inl rfl | exact Or.inr (Or.inl rfl) | exact Or.inr (Or.inr rfl)) (hd:(x == ("__debug__":Str))=false:=by decide) (hcd:(x == ("__classdict__":Str))=false:=by decide):QE X (.Name x pos) (T (ev F (.var i))):=by
 delta QE;exact (qjH (qdZ hN hv hd hcd))
theorem qg {n:Int} {j}:QE X (.Constant (.int n) j pos) (T (ev F (.cst (.int n)))):=by
 delta QE;exact (qcA qd0 λ_ _=>rfl)
theorem zW {b:Bool} {j}:QE X (.Constant (.bool b) j pos) (T (ev F (.cst (.bl b)))):=by
 delta QE;exact (qcA qjt λ_ _=>rfl)
theorem qe7 {j}:QE X (.Constant .none j pos) (T (ev F (.cst .non))):=by
 delta QE;exact (qcA qhY λ_ _=>rfl)
theorem jA {x:Str} {n:Int} {t:Tok} (hm:X.mg x=some (.int n t)) (hg:Gl X x:=by rfl) (hd:(x == ("__debug__":Str))=false:=by decide):QE X (.Name x pos) (T (ev F (.cst (.int n)))):=by
 delta QE;exact (qis (qgg (v:=.int n) hg hm ⟨t,rfl⟩ hd) λ_ _=>rfl)
theorem qp (o:BOp) {a b:Expr} {ca cb:CE} (ha:QE X a (T (ev F ca))) (hb:QE X b (T (ev F cb))):QE X (.BinOp a (opOf o) b pos) (T (ev F (.bin o ca cb))):=by
 delta QE;delta QE at ha;delta QE at hb;exact (qjJ (qgD o) ha hb)
theorem qhD {a:Expr} {ca:CE} (ha:QE X a (T (ev F ca))):QE X (.UnaryOp .USub a pos) (T (ev F (.neg ca))):=by
 delta QE;delta QE at ha;exact (qjO ha)
theorem y6 (o:COp) {k:Nat} {a b:Expr} {ca cb:CE} (hr:Room k X.A) (ha:QE X a (T (ev F ca))) (hb:QE X b (T (ev F cb))) (hm:behindInMarks (cOf o) b=false:=by rfl):QE X (.Compare a [cOf o] [b] pos) (T (ev F (.cmp o ca cb))):=by
 delta QE;delta QE at ha;delta QE at hb;exact (qjK (yf o (by have:=hr.un;lia)) ha hb hm)
theorem qg6 (o o':COp) {k:Nat} {a b c:Expr} {ca cb cc:CE} (hr:Room k X.A) (ha:QE X a (T (ev F ca))) (hb:QE X b (T (ev F cb))) (hc:QE X c (T (ev F cc))) (hm:lastMarks [cOf o,cOf o'] [b,c]=false:=by rfl) :
  QE X (.Compare a [cOf o,cOf o'] [b,c] pos) (T (ev F (.chain o o' ca cb cc))):=by
 delta QE;delta QE at ha;delta QE at hb;delta QE at hc;exact (qgI (yf o (by have:=hr.un;lia)) (yf o' (by have:=hr.un;lia)) ha hb hc hm)
theorem yw {a:Expr} {t:TE} (ha:QE X a t):QE X (.BoolOp .And [a] pos) t:=by
 delta QE;delta QE at ha;exact (qh2 ha)
theorem y7 {a b:Expr} {rest:List Expr} {ca cb:CE} (ha:QE X a (T (ev F ca))) (hb:QE X (.BoolOp .And (b::rest) pos) (T (ev F cb))):QE X (.BoolOp .And (a::b::rest) pos) (T (ev F (.and ca cb))):=by
 delta QE;delta QE at ha;delta QE at hb;exact (qjM ha hb)
theorem qkf {a:Expr} {ca:CE} (ha:QE X a (T (ev F ca))):QE X (.UnaryOp .Not a pos) (T (ev F (.not ca))):=by
 delta QE;delta QE at ha;exact (qjN ha)
theorem qf :QA X [] (TL (evs F .nil)):=by
 delta QA;exact (qjI)
theorem qb {e:Expr} {es:List Expr} {c:CE} {cs:CEs} (h1:QE X e (T (ev F c))) (h2:QA X es (TL (evs F cs))) (hs:starEach (e::es) X.env=(false,eval e X.env)::starEach es X.env:=by rfl):QA X (e::es) (TL (evs F (.cons c cs))):=by
 delta QA;delta QE at h1;delta QA at h2;exact (qit h1 h2 hs)
theorem qT {es:List Expr} {k:Nat} {cs:CEs} (h:QA X es (TL (evs F cs))):QE X (.Tuple es k pos) (T (ev F (.tup cs))):=by
 delta QE;delta QA at h;exact (qjP h)
theorem yo (m:Bool) {es:List Expr} {cs:CEs} (h:QA X es (TL (evs F cs))):QE X (.List es pos) (T (ev F (.lst m cs))):=by
 delta QE;delta QA at h;exact (qjQ h)
theorem qhE (m:Bool):QE X (.Dict [] [] pos) (T (ev F (.dic m))):=by
 delta QE;exact (qjR)
theorem qi {k i:Nat} {x:Str} {ps:List Str} {e:Expr} {es:List Expr} {cs:CEs} {p:Pos} (h:FnAt X.prog X.w X.K X.mg X.base k F i x ps) (hr:Room k X.A) (ha:QA X (e::es) (TL (evs F cs))) (hg:Gl X x:=by rfl) (hl:cs.len=ps.length:=by rfl) (hdb:(x == ("__debug__":Str))=false:=by decide) (he:starEach (e::es) X.env=(false,eval e X.env)::starEach es X.env:=by rfl) (hpl:(backTo pos (starEach es X.env)).any (·.1)=false:=by rfl):QE X (.Call (.Name x p) (e::es) [] pos) (T (ev F (.call i cs))):=by
 delta QE;delta QA at ha
 obtain ⟨f,fd,hm,hk,hb,hF⟩:=h
 exact qiz hF hr hg hm hk hb pass0 ha (λρ S l S' z=>(qaK z).trans hl) hdb he hpl
theorem jB (b:Blt) {x:Str} {id:String} {e:Expr} {es:List Expr} {cs:CEs} {p:Pos} (hc:CallR X (.builtin id) (Gn (bltD b))) (hm:X.mg x=none) (hv:bootBuiltins x=some (.builtin id)) (ha:PA X (e::es) (TL (evs F cs))) (hg:Gl X x:=by rfl) (hn:x≠"__name__":=by decide) (hdb:(x == ("__debug__":Str))=false:=by decide)
  (he:starEach (e::es) X.env=(false,eval e X.env)::starEach es X.env:=by rfl) (hpl:(backTo pos (starEach es X.env)).any (·.1)=false:=by rfl):PE X (.Call (.Name x p) (e::es) [] pos) (T (ev F (.blt b cs))):=qgL hc hg hm hv ha hn hdb he hpl
theorem qkg (b:Blt) {x:Str} {ty:String} {e:Expr} {es:List Expr} {cs:CEs} {p:Pos} (hc:CallR X (.type ty) (Gn (bltD b))) (hm:X.mg x=none) (hv:bootBuiltins x=some (.type ty)) (ha:PA X (e::es) (TL (evs F cs))) (hg:Gl X x:=by rfl) (hn:x≠"__name__":=by decide) (hdb:(x == ("__debug__":Str))=false:=by decide)
  (he:starEach (e::es) X.env=(false,eval e X.env)::starEach es X.env:=by rfl) (hpl:(backTo pos (starEach es X.env)).any (·.1)=false:=by rfl):PE X (.Call (.Name x p) (e::es) [] pos) (T (ev F (.blt b cs))):=qey hc hg hm hv ha hn hdb he hpl
theorem jC (t:Ty) {a:Expr} {ca:CE} {p p':Pos} (gb:Gb X.mg) (ha:QE X a (T (ev F ca))) (hg:Gl X "isinstance":=by rfl) (hgt:Gl X (Str.ofString t.nm):=by rfl) (he:starEach [a,.Name (Str.ofString t.nm) p'] X.env=(false,eval a X.env)::starEach [.Name (Str.ofString t.nm) p'] X.env:=by rfl) (he2:starEach [.Name (Str.ofString t.nm) p'] X.env=(false,eval (.Name (Str.ofString t.nm) p') X.env)::starEach [] X.env:=by rfl) (hpl:(backTo pos (starEach [.Name (Str.ofString t.nm) p'] X.env)).any (·.1)=false:=by rfl) :
  QE X (.Call (.Name "isinstance" p) [a,.Name (Str.ofString t.nm) p'] [] pos) (T (ev F (.isi t ca))):=by
 delta QE;delta QE at ha;exact (qjU hg gb.isinstance hgt (gb.ty t) ha he he2 hpl)
theorem qkh {o e:Expr} {co ce:CE} {apos:Pos} (ho:QE X o (T (ev F co))) (he:QE X e (T (ev F ce))) (hst:starEach [e] X.env=(false,eval e X.env)::starEach [] X.env:=by rfl) (hbase:attributeBase o "pop" X.env (eval o X.env)=eval o X.env:=by rfl) (hline:(apos.endLine == pos.line)=true:=by rfl) (hfew:((backTo pos (starEach [e] X.env)).all (λx=>!x.1)&&(backToKw pos (keywordEach [] X.env)).all (λx=>x.1.isSome)&&decide ([e].length+([]:List Keyword).length+(if ([]:List Keyword).isEmpty then 0 else 1)<30))=true:=by rfl) (hplain:(backTo pos (starEach [] X.env)).any (·.1)=false:=by rfl):QE X (.Call (.Attribute o "pop" apos) [e] [] pos) (T (ev F (.popAt co ce))):=by
 delta QE;delta QE at ho;delta QE at he;exact (qb9 PySem.F.slot_list_pop PySem.F.type_list_pop qeh (λι S x y v u H Q st hx hy p=>qj1 st hx hy p) ho he hst hbase hline hfew hplain)
theorem qe8 {o e:Expr} {co ce:CE} {apos:Pos} (ho:QE X o (T (ev F co))) (he:QE X e (T (ev F ce))) (hst:starEach [e] X.env=(false,eval e X.env)::starEach [] X.env:=by rfl) (hbase:attributeBase o "append" X.env (eval o X.env)=eval o X.env:=by rfl) (hline:(apos.endLine == pos.line)=true:=by rfl) (hfew:((backTo pos (starEach [e] X.env)).all (λx=>!x.1)&&(backToKw pos (keywordEach [] X.env)).all (λx=>x.1.isSome)&&decide ([e].length+([]:List Keyword).length+(if ([]:List Keyword).isEmpty then 0 else 1)<30))=true:=by rfl) (hplain:(backTo pos (starEach [] X.env)).any (·.1)=false:=by rfl):QE X (.Call (.Attribute o "append" apos) [e] [] pos) (T (ev F (.app co ce))):=by
 delta QE;delta QE at ho;delta QE at he;exact (qb9 PySem.F.slot_list_append PySem.F.type_list_append j9 (λι S x y v u H Q st hx hy p=>qhz st hx hy p) ho he hst hbase hline hfew hplain)
theorem qz {k:Nat} {a b:Expr} {ca cb:CE} (hr:Room k X.A) (ha:QE X a (T (ev F ca))) (hb:QE X b (T (ev F cb))) (hs:PlainIx b:=by exact λ_ _=>rfl):QE X (.Subscript a b pos) (T (ev F (.idx ca cb))):=by
 delta QE;delta QE at ha;delta QE at hb;exact (qjT (qcz hr) ha hb hs)
theorem k_on :QO X none (TOp (evO F .none)):=by
 delta QO;exact (qex)
theorem k_os {e:Expr} {c:CE} (h:QE X e (T (ev F c))):QO X (some e) (TOp (evO F (.some c))):=by
 delta QO;delta QE at h;exact (qew h)
theorem qe9 {e:Expr} {lo hi:Option Expr} {p2:Pos} {c:CE} {cl ch:CO} (he:QE X e (T (ev F c))) (hl:QO X lo (TOp (evO F cl))) (hh:QO X hi (TOp (evO F ch))):QE X (.Subscript e (.Slice lo hi none p2) pos) (T (ev F (.slc c cl ch))):=by
 delta QE;delta QE at he;delta QO at hl;delta QO at hh;exact (qjV he hl hh)
theorem qaL (m:Bool) {a:Expr} {es:List Expr} {cs:CEs} {p1 p2 pos2:Pos} (gb:Gb X.mg) (ha:QA X (a::es) (TL (evs F cs))) (hc:X.calm=true:=by rfl) (hg:Gl X "range":=by rfl) (hg2:Gl X "list":=by rfl) (hs:starEach (a::es) X.env=(false,eval a X.env)::starEach es X.env:=by rfl) (hpl:(backTo pos2 (starEach es X.env)).any (·.1)=false:=by rfl):QE X (.Call (.Name "list" p1) [.Call (.Name "range" p2) (a::es) [] pos2] [] pos) (T (ev F (.rng (some m) cs))):=by
 delta QE;delta QA at ha;exact (qkc (k:=some m) (.inl ⟨rfl,rfl,m,rfl⟩) hc hg gb.range hg2 gb.list ha hs hpl)
theorem qU {e:Expr} {c:CE} (h:QE X e (T (ev F c))) (he:∀ whole,isTrue e X.env whole=(do let v ← whole;standAt e.pos;holding [v] (truthy v)):=by intro _;rfl):QT X e (TB (tst F (.val c))):=by
 delta QT;delta QE at h;exact (qiv h he)
theorem yH (o:COp) {k:Nat} {a b:Expr} {ca cb:CE} (hr:Room k X.A) (ha:QE X a (T (ev F ca))) (hb:QE X b (T (ev F cb))) (hm:behindInMarks (cOf o) b=false:=by rfl):QT X (.Compare a [cOf o] [b] pos) (TB (tst F (.val (.cmp o ca cb)))):=by
 delta QT;delta QE at ha;delta QE at hb;exact (qes (yf o (by have:=hr.un;lia)) ha hb hm)
theorem qg7 (o o':COp) {k:Nat} {a b c:Expr} {ca cb cc:CE} (hr:Room k X.A) (ha:QE X a (T (ev F ca))) (hb:QE X b (T (ev F cb))) (hc:QE X c (T (ev F cc))) (hm:lastMarks [cOf o,cOf o'] [b,c]=false:=by rfl) :
  QT X (.Compare a [cOf o,cOf o'] [b,c] pos) (TB (tst F (.val (.chain o o' ca cb cc)))):=by
 delta QT;delta QE at ha;delta QE at hb;delta QE at hc;exact (qet (yf o (by have:=hr.un;lia)) (yf o' (by have:=hr.un;lia)) ha hb hc hm)
theorem zN {a:Expr} {ca:CB} (ha:QT X a (TB (tst F ca))):QT X (.UnaryOp .Not a pos) (TB (tst F (.not ca))):=by
 delta QT;delta QT at ha;exact (qix ha)
theorem qiM {a:Expr} {t:TT} (ha:QT X a t):QW X (.BoolOp .And [a] pos) t:=by
 delta QW;delta QT at ha;exact (qgi ha)
theorem qag {a:Expr} {t:TT} (ha:QT X a t):QW X (.BoolOp .Or [a] pos) t:=by
 delta QW;delta QT at ha;exact (qhZ ha)
theorem qki {a b:Expr} {rest:List Expr} {ca cb:CB} (ha:QT X a (TB (tst F ca))) (hb:QW X (.BoolOp .And (b::rest) pos) (TB (tst F cb))):QW X (.BoolOp .And (a::b::rest) pos) (TB (tst F (.and ca cb))):=by
 delta QW;delta QT at ha;delta QW at hb;exact (qiw ha hb)
theorem w_or {a b:Expr} {rest:List Expr} {ca cb:CB} (ha:QT X a (TB (tst F ca))) (hb:QW X (.BoolOp .Or (b::rest) pos) (TB (tst F cb))):QW X (.BoolOp .Or (a::b::rest) pos) (TB (tst F (.or ca cb))):=by
 delta QW;delta QT at ha;delta QW at hb;exact (qjL ha hb)
theorem qQ :QTl X [] (TB (tsts F .nil)):=by
 delta QTl;exact (qiE)
theorem qaM {c:Expr} {ifs:List Expr} {cc:CB} {cs:CBs} (h1:QT X c (TB (tst F cc))) (h2:QTl X ifs (TB (tsts F cs))):QTl X (c::ifs) (TB (tsts F (.cons cc cs))):=by
 delta QTl;delta QT at h1;delta QTl at h2;exact (qgR h1 h2)
theorem za {tg e:Expr} {c:CE} (h:QE X e (T (ev F c))):QI X tg e (TIt (evI F (.seq c))):=by
 delta QI;delta QE at h;exact (qj8 h)
theorem zX {tg a:Expr} {es:List Expr} {cs:CEs} {p:Pos} (gb:Gb X.mg) (ha:QA X (a::es) (TL (evs F cs))) (hg:Gl X "range":=by rfl) (hs:starEach (a::es) X.env=(false,eval a X.env)::starEach es X.env:=by rfl) (hpl:(backTo pos (starEach es X.env)).any (·.1)=false:=by rfl) :
  QI X tg (.Call (.Name "range" p) (a::es) [] pos) (TIt (evI F (.rng cs))):=by
 delta QI;delta QA at ha;exact (i_rng hg gb.range ha hs hpl)
theorem qkj {es:List Expr} {n:Nat} {tp:Pos} {e1 e2:Expr} {c1 c2:CE} {p:Pos} (gb:Gb X.mg) (h1:QE X e1 (T (ev F c1))) (h2:QE X e2 (T (ev F c2))) (hg:Gl X "zip":=by rfl) (hs:starEach [e1,e2] X.env=(false,eval e1 X.env)::starEach [e2] X.env:=by rfl) (hs2:starEach [e2] X.env=(false,eval e2 X.env)::starEach [] X.env:=by rfl):QI X (.Tuple es n tp) (.Call (.Name "zip" p) [e1,e2] [] pos) (TIt (evI F (.zip c1 c2))):=by
 delta QI;delta QE at h1;delta QE at h2;exact (qke hg gb.zip h1 h2 hs hs2)
theorem ql (i:Nat) {x:Str} (hN:nodupB X.N=true:=by rfl) (hi:X.N[i]?=some x:=by rfl) (hx:Loc X.env.scope x:=by first | exact Or.inl rfl | exact Or.inr rfl) (hf:X.fn x=true∨X.env.scope.names.lookup x=some .local:=by first | exact .inl rfl | exact .inr rfl):QG X (.Name x pos) (TGt (asg F (.var i))):=by
 delta QG;exact (qj2 (qcs (zg hN) hi hx hf))
theorem zx :QGs X [] (TGts (asgs F .nil)):=by
 delta QGs;exact (qj3)
theorem qD {e:Expr} {es:List Expr} {c:CT} {cs:CTs} (h1:QG X e (TGt (asg F c))) (h2:QGs X es (TGts (asgs F cs))) (hs:(assignEach (e::es) X.env).map (·.2)=assign e X.env::(assignEach es X.env).map (·.2):=by rfl):QGs X (e::es) (TGts (asgs F (.cons c cs))):=by
 delta QGs;delta QG at h1;delta QGs at h2;exact (qiB h1 h2 hs)
theorem zy {es:List Expr} {k:Nat} {cs:CTs} (h:QGs X es (TGts (asgs F cs))) (hc:X.calm=true:=by rfl) (hn:(assignEach es X.env).length=cs.len:=by rfl) (hst:(assignEach es X.env).findIdx? (·.1)=none:=by rfl):QG X (.Tuple es k pos) (TGt (asg F (.tup cs))):=by
 delta QG;delta QGs at h;exact (qj4 hc h hn hst λl ρ S ρ' S' z=>qbw z)
theorem qbx {k:Nat} {o i:Expr} {co ci:CE} (hr:Room k X.A) (ho:QE X o (T (ev F co))) (hi:QE X i (T (ev F ci))) (ha:∀ v,assign (.Subscript o i pos) X.env v=(do
   let ov ← holding [v] (eval o X.env)
   let iv ← holding [v,ov] (eval i X.env)
   standAt pos
   holding [v,ov,iv] (setItem ov iv v)
   release [v,ov,iv] []):=by intro _;rfl):QG X (.Subscript o i pos) (TGt (asg F (.sub co ci))):=by
 delta QG;delta QE at ho;delta QE at hi;exact (qj5 (qcz hr) ho hi ha)
end
end R
namespace R
open PySem PySem.Spec L2 SeqAt
open PyProof.Rows hiding St
section
variable {X:Cx} {F:Fs} {N:Nat} {pos:Pos}
theorem qh :QSs X [] (TSm (exs F N .nil)):=by
 delta QSs;exact (qj6)
theorem qd {st:Stmt} {rest:List Stmt} {c:CS} {cs:CSs} (h1:QS X st (TSm (ex F N c))) (h2:QSs X rest (TSm (exs F N cs))):QSs X (st::rest) (TSm (exs F N (.cons c cs))):=by
 delta QSs;delta QS at h1;delta QSs at h2;exact (qiC h1 h2)
theorem zY {e:Expr} {c:CE} (he:QE X e (T (ev F c))) (hs:swapsWith e none pos.line X.env=pure false:=by rfl):QS X (.Expr e pos) (TSm (ex F N (.expr c))):=by
 delta QS;delta QE at he;exact (qiD he hs)
theorem qw {e:Expr} {c:CE} (he:QE X e (T (ev F c))):QS X (.Return (some e) pos) (TSm (ex F N (.ret c))):=by
 delta QS;delta QE at he;exact (qj7 he)
theorem qcQ {st:Stmt}:QS X st (TSm (ex F N .never)):=by
 delta QS;exact (qgN)
theorem z_if {c:Expr} {a b:List Stmt} {cc:CB} {ca cb:CSs} (hc:QT X c (TB (tst F cc))) (ha:QSs X a (TSm (exs F N ca))) (hb:QSs X b (TSm (exs F N cb))):QS X (.If c a b pos) (TSm (ex F N (.ifs cc ca cb))):=by
 delta QS;delta QT at hc;delta QSs at ha;delta QSs at hb;exact (s_if hc ha hb)
theorem yp {tg e:Expr} {c:CE} {t:CT} (he:QE X e (T (ev F c))) (hg:QG X tg (TGt (asg F t))) (hs:swapsWithSole [tg] e pos.line X.env=pure false:=by rfl) (hw:swappedStores [tg] e X.env=pure none:=by rfl) (h1:(assignEach [tg] X.env).map (·.2)=[assign tg X.env]:=by rfl) :
  QS X (.Assign [tg] e pos) (TSm (ex F N (.set t c))):=by
 delta QS;delta QE at he;delta QG at hg;exact (qhA (qh8 he hg hs hw h1))
theorem qv (i:Nat) {x:Str} {e:Expr} {c:CE} {pos':Pos} (he:QE X e (T (ev F c))) (hN:nodupB X.N=true:=by rfl) (hi:X.N[i]?=some x:=by rfl) (hx:Loc X.env.scope x:=by first | exact Or.inl rfl | exact Or.inr rfl) (hs:swapsWith e (some (.Name x pos')) pos.line X.env=pure false:=by rfl) (hf:X.fn x=true∨X.env.scope.names.lookup x=some .local:=by first | exact .inl rfl | exact .inr rfl):QS X (.Assign [.Name x pos'] e pos) (TSm (ex F N (.set (.var i) c))):=by
 delta QS;delta QE at he
 refine qhA (g:=λd ρ S=>.ok (ρ.set i (some d)) S) (PSimp (qh9 (zg hN) hi hx he hs hf) λD σ H hw=>?_)
 obtain ⟨ι,S,ρ,er,st,p⟩:=hw
 refine ⟨ι,S,ρ,er,st,?_⟩
 cases z:ev F c ρ S with
 | no=>rw [z] at p;exact p
 | err=>rw [z] at p;exact p
 | ok d S1 =>
  rw [z] at p
  intro v ι1 H1 s1 st1 hv
  obtain ⟨ι2,S2,ρ2,d2,er2,st2,hd2,p2⟩:=p v ι1 H1 s1 st1 hv
  exact p2 _ ι2 H1 (Stp.refl _ _) st2 (er2.set hd2)
theorem zZ {tg iter:Expr} {body:List Stmt} {it:CI} {t:CT} {cb:CSs} (hi:QI X tg iter (TIt (evI F it))) (hg:QG X tg (TGt (asg F t))) (hb:QSs X body (TSm (exs F N cb))) (hp:PassesOwn (model X.prog X.w) X.A X.env X.xe:=by exact PassesOwn.never) (hc:X.calm=true:=by rfl) (hs:∀ x,foldedSetIterable iter X.env x=pure x:=by intro _;rfl):QS X (.For tg iter body [] pos) (TSm (ex F N (.forS t it cb))):=by
 delta QS;delta QI at hi;delta QG at hg;delta QSs at hb;exact (qj9 hp hc hi hg hb hs)
theorem jd {c:Expr} {body:List Stmt} {cc:CB} {cb:CSs} (hc:QT X c (TB (tst F cc))) (hb:QSs X body (TSm (exs F N cb))) (hp:PassesOwn (model X.prog X.w) X.A X.env X.xe:=by exact PassesOwn.never):QS X (.While c body [] pos) (TSm (ex F N (.whileS cc cb))):=by
 delta QS;delta QT at hc;delta QSs at hb;exact (qgO hp hc hb)
noncomputable def cscB (O:List (Str × NameKind)) (N':List Str) (sc:Scope) (fr:List Nat) (xs ts:List Str):Bool :=
 (sc.kind == .function)&&sc.names.all (λy=>y.2 != .cell)&&sc.names.all (λy=>y.2 != .local || sc.names.lookup y.1 == some .local)&&sc.names.all (λy=>y.2 != .free || O.lookup y.1 == some .cell || O.lookup y.1 == some .free) &&
 decide (fr.length=xs.length)&&(fr.zip xs).all (λp=>N'[p.1]? == some p.2)&&xs.all (λx=>sc.names.lookup x == some .free&&(O.lookup x == some .cell || O.lookup x == some .free))&&ts.all (λx=>sc.names.lookup x == some .local)&&decide (xs++ts).Nodup
theorem yx {sc:Scope} {fr:List Nat} {xs ts:List Str} (h:cscB X.env.scope.names X.N sc fr xs ts=true):CSc X sc fr xs ts:=by
 unfold cscB at h
 simp only [wU,List.all_eq_true,Bool.or_eq_true,bne_iff_ne,beq_iff_eq,vH] at h
 obtain ⟨⟨⟨⟨⟨⟨⟨⟨h1,h2⟩,h3⟩,h4⟩,h5⟩,h6⟩,h7⟩,h8⟩,h9⟩:=h
 refine ⟨h1,h2,λy hy hl=>?_,λy hy hf=>?_,⟨h5,λi j x e1 e2=>?_,h7,h8,h9⟩⟩
 ·rcases h3 y hy with z | z
  ·exact absurd hl z
  ·exact z
 ·rcases h4 y hy with (z | z) | z
  ·exact absurd hf z
  ·exact .inl z
  ·exact .inr z
 ·have hm:(j,x)∈fr.zip xs:=by
   apply wn (i:=i)
   rw [List.getElem?_zip_eq_some]
   exact ⟨e1,e2⟩
  exact h6 (j,x) hm
theorem qW {k:Nat} {sc:Scope} {cl:List (Str × Addr)} {C:Addr} {code:Value} {N':List Str} {fp:List Addr} {tg elt iter:Expr} {ifs:List Expr} {gp:Pos} {it:Addr} {o:Addr × Obj} {s:Shared} {H:Hp} (r:Room (k+1) X.A) :
  Room k (genCx X sc cl C code N' fp (.GeneratorExp elt [⟨tg,iter,ifs,0⟩] sc gp) it o s H).A:=by
 have h1:=r.hd
 have h2:=r.dp
 have h3:=r.un
 refine ⟨h1,?_,?_⟩
 ·show X.A.depth+frameCount ([].map Frame.where_)+Code.weight _+3*k+5<_
  have:Code.weight (.compLoop (.GeneratorExp elt [⟨tg,iter,ifs,0⟩] sc gp) 0 (.ref it) .none (genEnv sc cl C code builtinsNs X.env))≤1:=Nat.le_of_ble_eq_true rfl
  have e0:frameCount (([]:List Frame).map Frame.where_)=0:=rfl
  rw [e0]
  lia
 ·show X.A.units+1+1+1+1+1+unitsOf ([].map Frame.where_)+Code.cUnits _+16*k+200<_
  have:Code.cUnits (.compLoop (.GeneratorExp elt [⟨tg,iter,ifs,0⟩] sc gp) 0 (.ref it) .none (genEnv sc cl C code builtinsNs X.env))≤3:=Nat.le_of_ble_eq_true rfl
  have e0:unitsOf (([]:List Frame).map Frame.where_)=0:=rfl
  rw [e0]
  lia
theorem k_lc (m:Bool) (fr:List Nat) (xs ts:List Str) {tg elt iter:Expr} {ifs:List Expr} {sc:Scope} {t:CT} {it:CI} {ci:CBs} {ce:CE} (hi:QI X tg iter (TIt (evI F it))) (rt:∀ cl C fp s H,QG (compCx X sc cl C (xs++ts) fp s H) tg (TGt (asg F t))) (ri:∀ cl C fp s H,QTl (compCx X sc cl C (xs++ts) fp s H) ifs (TB (tsts F ci))) (re:∀ cl C fp s H,QE (compCx X sc cl C (xs++ts) fp s H) elt (T (ev F ce))) (hc:X.calm=true:=by rfl) (hs:∀ x,foldedSetIterable iter X.env x=pure x:=by intro _;rfl) (h:cscB X.env.scope.names X.N sc fr xs ts=true:=by rfl):QE X (.ListComp elt [⟨tg,iter,ifs,0⟩] sc pos) (T (ev F (.lc m fr ts.length ce t it ci))):=by
 delta QE;delta QI at hi;delta QG at rt;delta QTl at ri;delta QE at re;exact (r_lc hc hi hs (yx h) ⟨rt,ri,re⟩)
theorem qg8 (i:Nat) (m:Bool) (fr:List Nat) (xs ts:List Str) {tg elt iter:Expr} {ifs:List Expr} {sc:Scope} {t:CT} {it:CI} {ci:CBs} {ce:CE} {y:Str} {py spos:Pos} (hi:QI X tg iter (TIt (evI F it))) (rt:∀ cl C fp s H,QG (compCx X sc cl C (xs++ts) fp s H) tg (TGt (asg F t))) (ri:∀ cl C fp s H,QTl (compCx X sc cl C (xs++ts) fp s H) ifs (TB (tsts F ci))) (re:∀ cl C fp s H,QE (compCx X sc cl C (xs++ts) fp s H) elt (T (ev F ce))) (hc:X.calm=true:=by rfl) (hs:∀ x,foldedSetIterable iter X.env x=pure x:=by intro _;rfl) (h:cscB X.env.scope.names X.N sc fr xs ts=true:=by rfl) (hN:nodupB X.N=true:=by rfl) (hy:X.N[i]?=some y:=by rfl) (hl:X.env.scope.names.lookup y=some .local:=by rfl) (hsw:swapsWith (.ListComp elt [⟨tg,iter,ifs,0⟩] sc pos) (some (.Name y py)) spos.line X.env=pure true:=by rfl) :
  QS X (.Assign [.Name y py] (.ListComp elt [⟨tg,iter,ifs,0⟩] sc pos) spos) (TSm (ex F N (.set (.var i) (.lc m fr ts.length ce t it ci)))):=by
 delta QS;delta QI at hi;delta QG at rt;delta QTl at ri;delta QE at re;exact (qgT hc hi hs (yx h) ⟨rt,ri,re⟩ (zg hN) hy hl hsw)
theorem qhF (w:GW) (fr:List Nat) (xs ts:List Str) {id:String} {f:Str} {p gp:Pos} {tg elt iter:Expr} {ifs:List Expr} {sc:Scope} {k:Nat} {c T':Addr} {t:CT} {it:CI} {ci:CBs} {ce:CE} (hr:Room k X.A) (gc:GCall X w (.builtin id)) (hm:X.mg f=none) (hv:bootBuiltins f=some (.builtin id))
  (hcode:X.env.code=.ref c) (htab:codeTab X.K c T'=true) (hi:PI X tg iter (TIt (evI F it)))
  (rt:∀ cl C code fp it o s H,PG (genCx X sc cl C code (xs++ts) fp (.GeneratorExp elt [⟨tg,iter,ifs,0⟩] sc gp) it o s H) tg (TGt (asg F t)))
  (ri:∀ cl C code fp it o s H,PTl (genCx X sc cl C code (xs++ts) fp (.GeneratorExp elt [⟨tg,iter,ifs,0⟩] sc gp) it o s H) ifs (TB (tsts F ci)))
  (re:∀ cl C code fp it o s H,PE (genCx X sc cl C code (xs++ts) fp (.GeneratorExp elt [⟨tg,iter,ifs,0⟩] sc gp) it o s H) elt (T (ev F ce)))
  (hc:X.calm=true:=by rfl) (hgl:Gl X f:=by rfl) (hn:f≠"__name__":=by decide) (hdb:(f == ("__debug__":Str))=false:=by decide) (hs:∀ x,genFold iter X.env x=pure x:=by intro _;rfl) (h:cscB X.env.scope.names X.N sc fr xs ts=true:=by rfl)
  (hz:sc.names.lookup (".0":Str)=some NameKind.local:=by rfl) (hco:sc.isCoroutine=false:=by rfl):PE X (.Call (.Name f p) [.GeneratorExp elt [⟨tg,iter,ifs,0⟩] sc gp] [] pos) (T (ev F (.gen w fr ts.length ce t it ci))) :=
 qkb hc hr.depth gc hgl hm hv hn hdb hi hs (yx h) hz hco hcode htab ⟨rt,ri,re⟩
theorem jD (fr:List Nat) (xs ts:List Str) {p gp:Pos} {tg elt iter:Expr} {ifs:List Expr} {sc:Scope} {k:Nat} {c T':Addr} {t:CT} {it:CI} {ci:CBs} {ce:CE} (hr:Room k X.A) (gb:Gb X.mg) (hcode:X.env.code=.ref c) (htab:codeTab X.K c T'=true) (hi:QI X tg iter (TIt (evI F it))) (rt:∀ cl C code fp it o s H,QG (genCx X sc cl C code (xs++ts) fp (.GeneratorExp elt [⟨tg,iter,ifs,0⟩] sc gp) it o s H) tg (TGt (asg F t))) (ri:∀ cl C code fp it o s H,QTl (genCx X sc cl C code (xs++ts) fp (.GeneratorExp elt [⟨tg,iter,ifs,0⟩] sc gp) it o s H) ifs (TB (tsts F ci))) (re:∀ cl C code fp it o s H,QE (genCx X sc cl C code (xs++ts) fp (.GeneratorExp elt [⟨tg,iter,ifs,0⟩] sc gp) it o s H) elt (T (ev F ce))) (hc:X.calm=true:=by rfl) (hgl:Gl X "all":=by rfl) (hs:∀ x,genFold iter X.env x=pure x:=by intro _;rfl) (h:cscB X.env.scope.names X.N sc fr xs ts=true:=by rfl) (hz:sc.names.lookup (".0":Str)=some NameKind.local:=by rfl) (hco:sc.isCoroutine=false:=by rfl):QE X (.Call (.Name "all" p) [.GeneratorExp elt [⟨tg,iter,ifs,0⟩] sc gp] [] pos) (T (ev F (.gen .all fr ts.length ce t it ci))):=by
 delta QE;delta QI at hi;delta QG at rt;delta QTl at ri;delta QE at re;exact (qhF .all fr xs ts hr (qiH hc hr.depth λ_=>hr.hd) gb.all (by decide +kernel) hcode htab hi rt ri re hc hgl (by decide) (by decide) hs h hz hco)
theorem qiN (fr:List Nat) (xs ts:List Str) {p gp:Pos} {tg elt iter:Expr} {ifs:List Expr} {sc:Scope} {k:Nat} {c T':Addr} {t:CT} {it:CI} {ci:CBs} {ce:CE} (hr:Room k X.A) (gb:Gb X.mg) (hcode:X.env.code=.ref c) (htab:codeTab X.K c T'=true) (hi:QI X tg iter (TIt (evI F it))) (rt:∀ cl C code fp it o s H,QG (genCx X sc cl C code (xs++ts) fp (.GeneratorExp elt [⟨tg,iter,ifs,0⟩] sc gp) it o s H) tg (TGt (asg F t))) (ri:∀ cl C code fp it o s H,QTl (genCx X sc cl C code (xs++ts) fp (.GeneratorExp elt [⟨tg,iter,ifs,0⟩] sc gp) it o s H) ifs (TB (tsts F ci))) (re:∀ cl C code fp it o s H,QE (genCx X sc cl C code (xs++ts) fp (.GeneratorExp elt [⟨tg,iter,ifs,0⟩] sc gp) it o s H) elt (T (ev F ce))) (hc:X.calm=true:=by rfl) (hgl:Gl X "sum":=by rfl) (hs:∀ x,genFold iter X.env x=pure x:=by intro _;rfl) (h:cscB X.env.scope.names X.N sc fr xs ts=true:=by rfl) (hz:sc.names.lookup (".0":Str)=some NameKind.local:=by rfl) (hco:sc.isCoroutine=false:=by rfl):QE X (.Call (.Name "sum" p) [.GeneratorExp elt [⟨tg,iter,ifs,0⟩] sc gp] [] pos) (T (ev F (.gen .sum fr ts.length ce t it ci))):=by
 delta QE;delta QI at hi;delta QG at rt;delta QTl at ri;delta QE at re;exact (qhF .sum fr xs ts hr (qeN hc hr.depth λ_=>hr.hd) gb.sum (by decide +kernel) hcode htab hi rt ri re hc hgl (by decide) (by decide) hs h hz hco)
end
structure FunT (K:PySem.W.Frag) (x:Str) (st:Stmt) (f:Addr) (fd:FuncData) (c T':Addr):Prop where
 ex:∃ (oc:Value) (od:Option Addr) (kV doc pm:Value) (an:Option Addr) (ct:Value) (osl:Array (Option Value)),
  fd=PySem.W.fnOf x x (defArgs st) (defBody st) (defScope st) .none kV doc pm an (.ref c) ct∧K.lookup f=some ⟨oc,od,.func fd,osl⟩∧PySem.W.codeIn K (.ref c) x=true
 tab:codeTab K c T'=true
 kp:PySem.W.keepIn K (.ref f)=true
mutual
theorem Den.frz {ι:List Addr} {H:Hp} {S:Sr} {n:Nat} (st:Sto ι H S):∀ (d:D) {d':D} {v:V},R.frz S n d=some d'→Den ι H d v→Den (ι.take n) H d' v
 | .non,d',v,e,h=>by cases e;exact h
 | .bl b,d',v,e,h=>by cases e;exact h
 | .int b,d',v,e,h=>by cases e;exact h
 | .str b,d',v,e,h=>by cases e;exact h
 | .emp,d',v,e,h=>by
  cases e
  obtain ⟨a,e1,e2,e3⟩:=h
  exact ⟨a,e1,λm=>e2 (List.mem_of_mem_take m),e3⟩
 | .tup l,d',v,e,h=>by
  unfold R.frz at e
  cases z:R.frzs S n l with
  | none=>rw [z] at e;cases e
  | some l' =>
   rw [z] at e;cases e
   obtain ⟨a,xs,e1,e2,e3,e4⟩:=h
   exact ⟨a,xs,e1,λm=>e2 (List.mem_of_mem_take m),e3,Dens.frz st l z e4⟩
 | .lst l,d',v,e,h=>by
  unfold R.frz at e
  cases z:R.frzs S n l with
  | none=>rw [z] at e;cases e
  | some l' =>
   rw [z] at e;cases e
   obtain ⟨a,xs,e1,e2,e3,e4⟩:=h
   exact ⟨a,xs,e1,λm=>e2 (List.mem_of_mem_take m),e3,Dens.frz st l z e4⟩
 | .ref m,d',v,e,h=>by
  obtain ⟨a,e1,e2⟩:=h
  unfold R.frz at e
  split at e
  ·rename_i hm
   cases e
   exact ⟨a,e1,by rw [List.getElem?_take];rw [wL hm];exact e2⟩
  ·rename_i hm
   split at e
   ·rename_i l hl
    split at e
    rotate_left
    ·cases e
    rename_i f
    cases e
    obtain ⟨_,xs,h1,h2⟩:=st.obj m a _ e2 hl
    refine ⟨a,xs,e1,λhmem=>?_,.inl h1,Dens.less l f h2⟩
    obtain ⟨i,hi,ei⟩:=List.mem_iff_getElem?.mp hmem |>.elim λi hi=>(⟨i,by
     have:=(wK.mp hi).1
     rw [wq] at this;lia,hi⟩:∃ i,i<n∧(ι.take n)[i]?=some a)
    rw [List.getElem?_take,wL hi] at ei
    have hlt:=(wK.mp ei).1
    have:=(List.getElem?_inj hlt st.nd).mp (ei.trans e2.symm)
    lia
   ·cases e
theorem Dens.frz {ι:List Addr} {H:Hp} {S:Sr} {n:Nat} (st:Sto ι H S):∀ (ds:List D) {ds':List D} {xs:List V},R.frzs S n ds=some ds'→Dens ι H ds xs→Dens (ι.take n) H ds' xs
 | [],ds',xs,e,h=>by cases e;exact h
 | d::r,ds',xs,e,h=>by
  unfold R.frzs at e
  split at e
  ·rename_i a b h1 h2
   cases e
   obtain ⟨x,t,e1,e2,e3⟩:=h
   exact ⟨x,t,e1,Den.frz st d h1 e2,Dens.frz st r h2 e3⟩
  ·cases e
end
theorem qg9 {F:Fs} {N:Nat} {c:CF} {ns ps:List Str} {vs:List V} {H:Hp} {Q:VK} (hp:ps.length=c.np) (hn:ns.length=c.nn) (hle:c.np≤c.nn) (h:SpD ps.length (callC F N c) vs H Q E0):TSm (exs F N c.body) { nx:=λ_ H'=>Q .non H',rt:=Q } (start ns vs) H:=by
 obtain ⟨hl,ι,S,ds,st,dl,p⟩:=h
 have hdl:ds.length=c.np:=by rw [dl.length,hl,hp]
 unfold callC at p
 rw [wL hdl] at p
 have er:EnR ι H (ds.map some++List.replicate (c.nn-c.np) none) (start ns vs):=by
  unfold L2.start
  have e1:ns.length-vs.length=c.nn-c.np:=by rw [hn,hl,hp]
  rw [e1]
  refine ⟨by simp [dl.length],λi d e=>?_⟩
  by_cases hi:i<ds.length
  ·rw [wW (by simpa using hi),w5,wD hi] at e
   cases e
   obtain ⟨x,e2,e3⟩:=dl.get (wD hi)
   refine ⟨x,?_,e3⟩
   rw [wW (by rw [wO,← dl.length];exact hi),w5,e2];rfl
  ·rw [wS (by simpa using hi),List.getElem?_replicate] at e
   split at e <;> cases e
 refine ⟨ι,S,_,er,st,?_⟩
 have lv:∀ {d:D} {S1:Sr},Pst Den (leave c.keeps S.length d S1) ι H Q→∀ ι' H',Stp ι H ι' H'→Sto ι' H' S1→∀ v,Den ι' H' d v→Q v H':=by
  intro d S1 q ι' H' s1 st1 v hv
  unfold leave at q
  split at q
  ·exact q v ι' H' s1 st1 hv
  ·split at q
   ·exact q v ι' H' s1 st1 hv
   ·split at q
    ·rename_i hr
     have e:=s1.take_eq
     have el:ι.length=S.length:=st.len
     refine q v (ι'.take S.length) H' (by rw [← el];exact s1.less) (st1.less _) (Den.less d hr hv)
    ·split at q
     ·rename_i d' hd
      have el:ι.length=S.length:=st.len
      exact q v (ι'.take S.length) H' (by rw [← el];exact s1.less) (st1.less _) (Den.frz st1 d hd hv)
     ·exact q.elim
 cases z:exs F N c.body (ds.map some++List.replicate (c.nn-c.np) none) S with
 | no=>rw [z] at p;exact p.elim
 | err=>rw [z] at p;exact p.elim
 | ok f S1 =>
  rw [z,Res.bind_ok] at p
  intro ι' H' s1 st1
  cases f with
  | nx ρ=>exact λσ _=>lv p ι' H' s1 st1 .non rfl
  | rt d=>exact λv hv=>lv p ι' H' s1 st1 v hv
  | bk ρ=>exact p.elim
  | ct ρ=>exact p.elim
end R
namespace R
open PySem PySem.Spec L2 SeqAt
open PyProof.Rows hiding St
noncomputable def isFields:Data→Bool
 | .fields _=>true
 | _=>false
noncomputable def plainK (K:PySem.W.Frag):Bool:=K.all λp=>p.2.cls != .type "list"&&!(p.2.cls == .none&&isFields p.2.data)
noncomputable def codesK (q:Program) (K:PySem.W.Frag):Bool:=K.all λp=>p.2.cls != .type "code" || (recsOf q).any λd=>match PySem.W.nsIn K mainGlobals d.name with
 | some (some (.ref a))=>(match K.lookup a with
  | some ⟨_,_,.func fd,_⟩=>fd.code == .ref p.1
  | _=>false)
 | _=>false
theorem zL:∀ {K:PySem.W.Frag} {a:Addr} {o:Obj},K.lookup a=some o→(a,o)∈K
 | [],_,_,h=>by cases h
 | (b,u)::K,a,o,h=>by
  rw [vR] at h
  cases z:a == b with
  | true=>rw [z] at h;cases h;rw [beq_iff_eq.mp z];exact wJ
  | false=>rw [z] at h;exact wM _ (zL h)
theorem qfa {K:PySem.W.Frag} (h:plainK K=true) {a:Addr} {o:Obj} (e:K.lookup a=some o):o.cls≠.type "list"∧¬ (o.cls=.none∧isFields o.data=true):=by
 unfold plainK at h
 rw [List.all_eq_true] at h
 have:=h _ (zL e)
 simp only [wU,bne_iff_ne,Bool.not_eq_true',Bool.and_eq_false_iff,vI] at this
 refine ⟨this.1,λ⟨z1,z2⟩=>?_⟩
 rcases this.2 with z | z
 ·exact z z1
 ·rw [z2] at z;cases z
theorem jE {K:PySem.W.Frag} {c t:Addr} (h:codeTab K c t=true):∃ o vs,K.lookup c=some o∧o.cls=.type "code"∧o.data=.fields vs∧vs[11]?=some (.ref t):=by
 unfold codeTab at h
 split at h
 ·rename_i cls d vs sl hl
  simp only [wU,beq_iff_eq] at h
  obtain ⟨e1,e2⟩:=h
  split at e2
  ·rename_i a b x1 x2 x3 x4 x5 x6 x7 h11 h11' h18 h7 h9 h10
   simp only [wU,beq_iff_eq,bne_iff_ne] at e2
   obtain ⟨⟨ea,eb⟩,ne⟩:=e2
   subst eb
   exact ⟨_,vs,hl,e1,rfl,h11'⟩
  ·cases e2
 ·cases h
theorem qha {q:Program} {loose:List Str} {mean:ExcName→Option Value} {mg mb:Str→Option Value} {h:Heap} {K:PySem.W.Frag} (T:Top q loose mean mg mb h) (KX:K.In h) (hc:codesK q K=true) {c t:Addr} (e:codeTab K c t=true) :
  h.get? t=some { cls:=.none,data:=.fields #[] }∧isCodeTable h t:=by
 obtain ⟨o,vs,lk,cl,da,ix⟩:=jE e
 unfold codesK at hc
 rw [List.all_eq_true] at hc
 have:=hc _ (zL lk)
 simp only [Bool.or_eq_true,bne_iff_ne,List.any_eq_true] at this
 rcases this with z | ⟨d,hd,hz⟩
 ·exact absurd cl z
 ·split at hz
  ·rename_i a hn
   split at hz
   ·rename_i oc od fd sl hl
    have hcode:fd.code=.ref c:=by simpa using hz
    obtain ⟨a',o',fd',c',P',e1,e2,e3,e4,e5,e6⟩:=T.tab d hd
    have em:=PySem.W.mg_of KX T.g hn
    rw [em] at e1
    cases e1
    have:=KX _ _ hl
    rw [e2] at this
    cases this
    cases e3
    rw [hcode] at e4
    cases e4
    obtain ⟨⟨oc',vc,g1,g2,g3,g4⟩,g5⟩:=e6
    have:=KX _ _ lk
    rw [g1] at this
    cases this
    rw [da] at g3
    cases g3
    rw [ix] at g4
    cases g4
    exact ⟨g5,c,_,_,g1,cl,da,ix⟩
   ·cases hz
  ·cases hz
noncomputable def tabOf (K:PySem.W.Frag) (b:Addr):Bool:=K.any λp=>codeTab K p.1 b
theorem qah {K:PySem.W.Frag} {b:Addr}:tabOf K b=true ↔ ∃ c,codeTab K c b=true:=by
 unfold tabOf
 rw [List.any_eq_true]
 constructor
 ·rintro ⟨p,_,h⟩;exact ⟨p.1,h⟩
 ·rintro ⟨c,h⟩
  obtain ⟨o,vs,lk,_⟩:=jE h
  exact ⟨(c,o),zL lk,h⟩
noncomputable def entryH (K:PySem.W.Frag) (a:Addr) (vs:List Value) (ns:List Int):Hp:=λb=>if b=a then some (.frz { cls:=.type "list",data:=.seq vs.toArray } (.lst (ns.map V.int))) else if tabOf K b=true then some (.tbl #[]) else none
theorem qdP {P:Program} {w:World} {q:Program} {loose:List Str} {mean:ExcName→Option Value} {K:PySem.W.Frag} {mg mb:Str→Option Value} {k:Nat} {fa a:Addr} {fd:FuncData} {x:Str} {sp:Sp} {s₁:Shared} {vs:List Value} {ns:List Int} (T:Top q loose mean mg mb s₁.heap)
  (KX:K.In s₁.heap) (hp:plainK K=true) (hcd:codesK q K=true) (hg:s₁.gens=#[])
  (ha:s₁.heap.get? a=some { cls:=.type "list",data:=.seq vs.toArray }) (hi:IntsAre vs ns) (hl:ns.length≤sizeLine) (hr:Room k callerA)
  (F:∀ base:Heap,K.In base→base.Ns mainGlobals mg→FnOk P w K mg base CX0 k fa fd [x] sp) (hbind:∀ (s:Shared) (u:Value),BindsTo s fd ⟨[u],[]⟩ [(x,u)])
  (hsp:∀ H:Hp,H a=some (.frz { cls:=.type "list",data:=.seq vs.toArray } (.lst (ns.map V.int)))→sp [.ref a] H (λv _=>v=.bl true) λ_ _ _=>False) :
  codeAny (model P w) callerA (.call (.ref fa) ⟨[.ref a],[]⟩) (λr s'=>r=.ok (.ret (.bool true))∧OldK s₁.heap s'.heap∧s'.os=s₁.os∧AllBare s'.gens) s₁:=by
 have rv:=qac hi
 have tb:∀ {b:Addr},tabOf K b=true→s₁.heap.get? b=some { cls:=.none,data:=.fields #[] }∧isCodeTable s₁.heap b:=λ{b} h=>by
  obtain ⟨c,e⟩:=qah.mp h
  exact qha T KX hcd e
 have na:tabOf K a≠true:=λh=>by
  have:=(tb h).1
  rw [ha] at this;cases this
 generalize hH:entryH K a vs ns=H
 have hHa:H a=some (.frz { cls:=.type "list",data:=.seq vs.toArray } (.lst (ns.map V.int))):=by rw [← hH];unfold entryH;rw [wL rfl]
 have hHt:∀ {b:Addr},tabOf K b=true→H b=some (.tbl #[]):=λ{b} h=>by
  rw [← hH];unfold entryH
  rw [wN (λ(z:b=a)=>na (by rw [← z];exact h)),wL h]
 have hHs:∀ {b:Addr} {u:HO},H b=some u→(b=a∧u=.frz { cls:=.type "list",data:=.seq vs.toArray } (.lst (ns.map V.int)))∨(tabOf K b=true∧u=.tbl #[]):=λ{b u} e=>by
  rw [← hH] at e;unfold entryH at e
  split at e
  ·rename_i z;cases e;exact .inl ⟨z,rfl⟩
  ·split at e
   ·rename_i z;cases e;exact .inr ⟨z,rfl⟩
   ·cases e
 have hok:HOk P w H s₁.heap:=λb u e=>by
  rcases hHs e with ⟨rfl,rfl⟩ | ⟨h,rfl⟩
  ·exact ⟨ha,by rw [wO];exact hl,vs,_,rv,ha⟩
  ·exact ⟨(tb h).1,trivial⟩
 have base_of:∀ {b:Addr} {o:Obj},s₁.heap.get? b=some o→H b=none→(hidT s₁.heap H).get? b=some o:=λe n=>qdY e n
 have noD:∀ {b:Addr} {o:Obj} {es:Array DictEntry} {ep:Nat},s₁.heap.get? b=some o→o.data=.dict es ep→H b=none:=λ{b o es ep} e d=>by
  cases z:H b with
  | none=>rfl
  | some u =>
   rcases hHs z with ⟨rfl,rfl⟩ | ⟨h,rfl⟩
   ·rw [ha] at e;cases e;cases (show Data.seq vs.toArray _=Data.dict es ep from d)
   ·rw [(tb h).1] at e;cases e;cases (show Data.fields #[]=Data.dict es ep from d)
 have nsK:∀ {b:Addr} {m:Str→Option Value},s₁.heap.Ns b m→(hidT s₁.heap H).Ns b m:=λ{b m} ⟨o,es,ep,e,d,r⟩=>⟨o,es,ep,base_of e (noD e d),d,r⟩
 have hKb:K.In (hidT s₁.heap H):=λb o e=>base_of (KX b o e) (by
  cases z:H b with
  | none=>rfl
  | some u =>
   obtain ⟨p1,p2⟩:=qfa hp e
   have e':=KX b o e
   rcases hHs z with ⟨rfl,rfl⟩ | ⟨h,rfl⟩
   ·rw [ha] at e';cases e';exact absurd rfl p1
   ·rw [(tb h).1] at e';cases e';exact absurd ⟨rfl,rfl⟩ p2)
 have bm:∃ bm ob,mg "__builtins__"=some (.ref bm)∧bm≠builtinsNs∧(hidT s₁.heap H).get? bm=some ob∧ob.cls=.type "module"∧ob.dict=some builtinsNs∧ob.data=.plain:=by
  obtain ⟨bm,ob,e1,e2,e3,e4,e5,e6⟩:=T.bmain
  refine ⟨bm,ob,e1,e2,base_of e3 ?_,e4,e5,e6⟩
  cases z:H bm with
  | none=>rfl
  | some u =>
   rcases hHs z with ⟨rfl,rfl⟩ | ⟨h,rfl⟩
   ·rw [ha] at e3;cases e3;exact absurd (show Value.type "list"=Value.type "module" from e4) (by decide)
   ·rw [(tb h).1] at e3;cases e3;exact absurd e4 (by decide)
 have hM:Mod K mg (hidT s₁.heap H):=⟨hKb,nsK T.g,⟨mb,nsK T.b,T.builtins⟩,(let ⟨mc,h1,h2⟩:=T.nolimit;⟨mc,nsK h1,h2⟩),bm⟩
 have e0:Env0 P w K mg (hidT s₁.heap H) callerA [] s₁ H:=⟨rfl,hM,λb o e=>qgf e,Nat.le_of_eq (qdp _ _),trivial,λb hb=>absurd (show b∈([]:List Addr) from hb) (by simp),hok,.of_eq hg,λc t z=>⟨_,hHt (qah.mpr ⟨c,z⟩)⟩⟩
 refine codeAny_mono ((F _ hKb (nsK T.g)).run callerA [] s₁ H ⟨[.ref a],[]⟩ [.ref a] [.ref a] _ _ hr e0 (hbind s₁ (.ref a)) (.cons rfl .nil) (hsp H hHa)) λr s' h=>?_
 cases r with
 | error e=>exact (show False from h).elim
 | ok fl =>
  cases fl with
  | next=>exact False.elim h
  | brk=>exact False.elim h
  | cont=>exact False.elim h
  | ret u =>
   obtain ⟨v,H',os,bare,un,hok',r',q'⟩:=h
   have q':v=.bl true:=q'
   subst q'
   obtain rfl:u=Value.bool true:=r'
   have old:∀ b o,s₁.heap.get? b=some o→asItWas s₁.heap s'.heap b o∧∃ o',s'.heap.get? b=some o':=λb o e=>by
    cases z:H b with
    | none =>
     have:=un.keep b o e z (by intro y;exact absurd (show b∈([]:List Addr) from y) (by simp)) (by simp)
     exact ⟨.inl this,_,this⟩
    | some u =>
     rcases hHs z with ⟨rfl,rfl⟩ | ⟨h,rfl⟩
     ·have z2:=un.frzs _ _ _ z
      obtain ⟨e2,_⟩:=hok' _ _ z2
      rw [ha] at e;cases e
      exact ⟨.inl e2,_,e2⟩
     ·obtain ⟨more,z2⟩:=un.tbls _ _ z
      obtain ⟨e2,_⟩:=hok' _ _ z2
      obtain ⟨e3,e4⟩:=tb h
      rw [e3] at e;cases e
      exact ⟨.inr (.inl ⟨e4,rfl,#[],more,rfl,e2⟩),_,e2⟩
   exact ⟨rfl,⟨λb o e=>(old b o e).1,λb o e=>(old b o e).2⟩,os,bare.bare⟩
theorem qiO {l:PySem.W.OpenLaw} {n k:Nat} {q:Program} {loose:List Str} {XP:(Str→Option Value)→Heap→Prop} {YP:World→Heap→Prop} {d:DefRec} {K:Params→PySem.W.Frag} {x:Str} {g:List D→Sr→Res D}
  (hn:l.most=some n) (hn2:n≤sizeLine) (hdf:d.params.defaults=[]) (hr:Room k callerA) (hY:∀ (w:World) (h:Heap),YP w h→(K w.params).In h) (hp:∀ P,plainK (K P)=true) (hcd:∀ P,codesK q (K P)=true)
  (F:∀ (w:World) (mg:Str→Option Value) (fa:Addr) (h:Heap),(K w.params).In h→h.Ns mainGlobals mg→mg d.name=some (.ref fa) →
   ∃ fd:FuncData,(∀ (s:Shared) (u:Value),BindsTo s fd ⟨[u],[]⟩ [(x,u)])∧∀ base:Heap,(K w.params).In base→base.Ns mainGlobals mg→FnOk l.prog w (K w.params) mg base CX0 k fa fd [x] (SpD 1 g))
  (hG:∀ ns:List Int,ns.length≤n→∃ S',g [.lst (ns.map .int)] []=.ok (.bl true) S') :
  PySem.W.WalkO q loose XP YP l.row.toRowW d [] (λf vs=>PySem.call f vs):=by
 refine Att.attach_call hn hdf λw s₀ s₁ mg mb fa o pm cd doc a vs ns G Y ho hd hcd' hmg hobj hints hlen hg=>?_
 have KX:=hY w _ Y
 obtain ⟨fd,hb,hF⟩:=F w mg fa _ KX G.T.g hmg
 refine qdP G.T KX (hp _) (hcd _) hg hobj hints (wv hlen hn2) hr hF hb λH hS=>?_
 obtain ⟨S',e⟩:=hG ns hlen
 have dd:∀ ms:List Int,Dens [] H (ms.map .int) (ms.map V.int):=λms=>by
  induction ms with
  | nil=>rfl
  | cons x r ih=>exact ⟨_,_,rfl,rfl,ih⟩
 refine ⟨rfl,[],[],[.lst (ns.map .int)],⟨rfl,.nil,λn a so e1 _=>by simp at e1⟩,⟨_,_,rfl,⟨a,ns.map V.int,rfl,by simp,.inr ⟨_,hS⟩,dd ns⟩,rfl⟩,?_⟩
 rw [e]
 exact λv ι' H' _ _ hv=>hv
end R
namespace R
open PySem PySem.Spec L2 SeqAt
open PyProof.Rows hiding St
theorem m2 {k:Nat} {A:Around} (r:Room (k+2) A):Room k A:=r.mono (by lia)
theorem m1 {k:Nat} {A:Around} (r:Room (k+1) A):Room k A:=r.mono (by lia)
theorem qiP:bootBuiltins "len"=some (.builtin "len"):=by decide +kernel
theorem qiQ:bootBuiltins "min"=some (.builtin "min"):=by decide +kernel
theorem qiR:bootBuiltins "abs"=some (.builtin "abs"):=by decide +kernel
theorem qdQ:bootBuiltins "divmod"=some (.builtin "divmod"):=by decide +kernel
theorem qdR:bootBuiltins "sorted"=some (.builtin "sorted"):=by decide +kernel
theorem qiS:bootBuiltins "all"=some (.builtin "all"):=by decide +kernel
theorem qiT:bootBuiltins "sum"=some (.builtin "sum"):=by decide +kernel
theorem qfb:bootBuiltins "tuple"=some (.type "tuple"):=by decide +kernel
section
variable {X:Cx} {F:Fs} {pos p:Pos} {e:Expr} {es:List Expr} {cs:CEs}
theorem zo (gb:Gb X.mg) (ha:QA X (e::es) (TL (evs F cs))) (hg:Gl X "len":=by rfl) (he:starEach (e::es) X.env=(false,eval e X.env)::starEach es X.env:=by rfl) (hpl:(backTo pos (starEach es X.env)).any (·.1)=false:=by rfl):QE X (.Call (.Name "len" p) (e::es) [] pos) (T (ev F (.blt .len cs))):=by
 delta QE;delta QA at ha;exact (jB .len qjW gb.len qiP ha hg (by decide) (by decide) he hpl)
theorem qkk (gb:Gb X.mg) (ha:QA X (e::es) (TL (evs F cs))) (hc:X.calm=true:=by rfl) (hg:Gl X "min":=by rfl) (he:starEach (e::es) X.env=(false,eval e X.env)::starEach es X.env:=by rfl) (hpl:(backTo pos (starEach es X.env)).any (·.1)=false:=by rfl):QE X (.Call (.Name "min" p) (e::es) [] pos) (T (ev F (.blt .min2 cs))):=by
 delta QE;delta QA at ha;exact (jB .min2 (qjY hc) gb.min qiQ ha hg (by decide) (by decide) he hpl)
theorem qfc (gb:Gb X.mg) (ha:QA X (e::es) (TL (evs F cs))) (hg:Gl X "abs":=by rfl) (he:starEach (e::es) X.env=(false,eval e X.env)::starEach es X.env:=by rfl) (hpl:(backTo pos (starEach es X.env)).any (·.1)=false:=by rfl):QE X (.Call (.Name "abs" p) (e::es) [] pos) (T (ev F (.blt .abs cs))):=by
 delta QE;delta QA at ha;exact (jB .abs qjX gb.abs qiR ha hg (by decide) (by decide) he hpl)
theorem qfd (gb:Gb X.mg) (ha:QA X (e::es) (TL (evs F cs))) (hg:Gl X "divmod":=by rfl) (he:starEach (e::es) X.env=(false,eval e X.env)::starEach es X.env:=by rfl) (hpl:(backTo pos (starEach es X.env)).any (·.1)=false:=by rfl):QE X (.Call (.Name "divmod" p) (e::es) [] pos) (T (ev F (.blt .divmod cs))):=by
 delta QE;delta QA at ha;exact (jB .divmod qeA gb.divmod qdQ ha hg (by decide) (by decide) he hpl)
theorem jF (m:Bool) (gb:Gb X.mg) (ha:QA X (e::es) (TL (evs F cs))) (hc:X.calm=true:=by rfl) (hg:Gl X "sorted":=by rfl) (he:starEach (e::es) X.env=(false,eval e X.env)::starEach es X.env:=by rfl) (hpl:(backTo pos (starEach es X.env)).any (·.1)=false:=by rfl):QE X (.Call (.Name "sorted" p) (e::es) [] pos) (T (ev F (.blt (.sorted m) cs))):=by
 delta QE;delta QA at ha;exact (jB (.sorted m) (qe6 m hc) gb.sorted qdR ha hg (by decide) (by decide) he hpl)
theorem qfe (gb:Gb X.mg) (ha:QA X (e::es) (TL (evs F cs))) (hc:X.calm=true:=by rfl) (hg:Gl X "all":=by rfl) (he:starEach (e::es) X.env=(false,eval e X.env)::starEach es X.env:=by rfl) (hpl:(backTo pos (starEach es X.env)).any (·.1)=false:=by rfl):QE X (.Call (.Name "all" p) (e::es) [] pos) (T (ev F (.blt .all cs))):=by
 delta QE;delta QA at ha;exact (jB .all (qjZ hc) gb.all qiS ha hg (by decide) (by decide) he hpl)
theorem qhG (gb:Gb X.mg) (ha:QA X (e::es) (TL (evs F cs))) (hc:X.calm=true:=by rfl) (hg:Gl X "sum":=by rfl) (he:starEach (e::es) X.env=(false,eval e X.env)::starEach es X.env:=by rfl) (hpl:(backTo pos (starEach es X.env)).any (·.1)=false:=by rfl):QE X (.Call (.Name "sum" p) (e::es) [] pos) (T (ev F (.blt .sum cs))):=by
 delta QE;delta QA at ha;exact (jB .sum (qj0 hc) gb.sum qiT ha hg (by decide) (by decide) he hpl)
theorem qS (gb:Gb X.mg) (ha:QA X (e::es) (TL (evs F cs))) (hg:Gl X "tuple":=by rfl) (he:starEach (e::es) X.env=(false,eval e X.env)::starEach es X.env:=by rfl) (hpl:(backTo pos (starEach es X.env)).any (·.1)=false:=by rfl):QE X (.Call (.Name "tuple" p) (e::es) [] pos) (T (ev F (.blt .tuple cs))):=by
 delta QE;delta QA at ha;exact (qkg .tuple qgM gb.tuple qfb ha hg (by decide) (by decide) he hpl)
end
end R
namespace R
open PySem PySem.Spec L2 SeqAt
open PyProof.Rows hiding St
theorem qB {P:Program} {w:World} {K:PySem.W.Frag} {mg:Str→Option Value} {base:Heap} {k N i:Nat} {F G:Fs} {x:Str} {st:Stmt} {f c T':Addr} {fd:FuncData} {cf:CF} {ns ps:List Str} (U:FunT K x st f fd c T') (S:FnScope ns ps (defScope st))
  (hp:ps.length=cf.np) (hn:ns.length=cf.nn) (hle:cf.np≤cf.nn) (hG:G i=callC F N cf)
  (body:∀ (A:Around) (outer:List Env) (s:Shared) (H:Hp) (E:XK),Room k (A.deeper (envOfC x (defScope st) s.heap.objs.size f (.ref c)))→QSs (cxOf CX0 P w K mg base ns x (defScope st) f (.ref c) A outer s H E).nox (defBody st) (TSm (exs F N cf.body))) :
  FnOk P w K mg base CX0 (k+1) f fd ps (SpD ps.length (G i)):=by
 obtain ⟨oc,od,kV,doc,pm,an,ct,osl,rfl,lk,hcd⟩:=U.ex
 refine qjC lk hcd S (λvs H Q E h=>h.1) λA outer s H vs Q E hr h=>⟨_,(body A outer s H E hr).un.nox,?_⟩
 rw [hG] at h
 exact qg9 hp hn hle h
theorem qC {P:Program} {w:World} {K:PySem.W.Frag} {mg:Str→Option Value} {base:Heap} {i:Nat} {G:Fs} {f:Addr} {fd:FuncData} {ps:List Str} (hG:G i=λ_ _=>.no) {k:Nat} :
  FnOk P w K mg base CX0 k f fd ps (SpD ps.length (G i)):=by
 refine ⟨λvs H Q E h=>h.1,λA outer s H args us vs Q E _ _ _ _ h=>?_⟩
 obtain ⟨_,ι,S,ds,_,_,p⟩:=h
 rw [hG] at p
 exact p.elim
noncomputable def DefIn (K:PySem.W.Frag) (mg:Str→Option Value) (x:Str) (st:Stmt) (ps:List Str):Prop:=∃ (f:Addr) (fd:FuncData) (c t:Addr),mg x=some (.ref f)∧FunT K x st f fd c t∧Binds K fd ps []
theorem DefIn.fn {P:Program} {w:World} {K:PySem.W.Frag} {mg:Str→Option Value} {base:Heap} {k i:Nat} {F:Fs} {x:Str} {st:Stmt} {ps:List Str} (u:DefIn K mg x st ps) (h:∀ f fd c t,FunT K x st f fd c t→FnOk P w K mg base CX0 k f fd ps (SpD ps.length (F i))):FnAt P w K mg base k F i x ps:=by
 obtain ⟨f,fd,c,t,hm,U,hb⟩:=u
 exact ⟨f,fd,hm,U.kp,hb,h f fd c t U⟩
theorem len0 {us:List Value} (h:us.length=0):us=[]:=List.eq_nil_of_length_eq_zero h
theorem lenS {us:List Value} {n:Nat} (h:us.length=n+1):∃ a r,us=a::r∧r.length=n:=by
 cases us with
 | nil=>cases h
 | cons a r=>exact ⟨a,r,rfl,Nat.succ.inj h⟩
theorem len1 {us:List Value} (h:us.length=1):∃ a0,us=[a0]:=by
 obtain ⟨a,_,rfl,q⟩:=lenS h;cases len0 q;exact ⟨a,rfl⟩
theorem len2 {us:List Value} (h:us.length=2):∃ a0 a1,us=[a0,a1]:=by
 obtain ⟨a,r,rfl,q⟩:=lenS h;obtain ⟨b0,rfl⟩:=len1 q;exact ⟨a,b0,rfl⟩
theorem len3 {us:List Value} (h:us.length=3):∃ a0 a1 a2,us=[a0,a1,a2]:=by
 obtain ⟨a,r,rfl,q⟩:=lenS h;obtain ⟨b0,b1,rfl⟩:=len2 q;exact ⟨a,b0,b1,rfl⟩
noncomputable def tabIn (vs:Array Value) (c T':Addr):Bool:=match (vs.getD 11 Value.none:Value),(vs.getD 18 Value.none:Value),(vs.getD 7 Value.none:Value),(vs.getD 9 Value.none:Value),(vs.getD 10 Value.none:Value) with
  | .ref a,.str _ _,.int _ _,.bool _,.int _ _=>a == T'&&c != T'
  | _,_,_,_,_=>false
theorem qiU {K:PySem.W.Frag} {c t:Addr} {d:Option Addr} {vs:Array Value} {sl:Array (Option Value)} (lc:K.lookup c=some ⟨.type "code",d,.fields vs,sl⟩) (h11:vs[11]?=some (.ref t)) (h:tabIn vs c t=true):codeTab K c t=true:=by
 unfold codeTab
 rw [lc]
 simp only [h11]
 unfold tabIn at h
 split at h
 ·rename_i a x1 x2 x3 x4 x5 x6 e1 e2 e3 e4 e5
  simp only [e1,e2,e3,e4,e5]
  simpa using h
 ·cases h
theorem qo {K:PySem.W.Frag} {h:Heap} {mg:Str→Option Value} (X:K.In h) (G:h.Ns mainGlobals mg) {x:Str} {st:Stmt} {ps:List Str} {f c t:Addr} {oc kV doc pm ct:Value} {od an:Option Addr} {osl:Array (Option Value)} {d2:Option Addr} {vs:Array Value} {sl2:Array (Option Value)}
  (a:PySem.W.nsIn K mainGlobals x=some (some (.ref f))) (l:K.lookup f=some ⟨oc,od,.func (PySem.W.fnOf x x (defArgs st) (defBody st) (defScope st) .none kV doc pm an (.ref c) ct),osl⟩) (cc:PySem.W.codeIn K (.ref c) x=true)
  (lc:K.lookup c=some ⟨.type "code",d2,.fields vs,sl2⟩) (h11:vs[11]?=some (.ref t)) (ht:tabIn vs c t=true) (kp:PySem.W.keepIn K (.ref f)=true)
  (hb:∀ (kV doc pm:Value) (an:Option Addr) (cdv ct:Value) (us:List Value),us.length=ps.length→bindArgs (PySem.W.fnOf x x (defArgs st) (defBody st) (defScope st) .none kV doc pm an cdv ct) ⟨us,[]⟩=pure (ps.zip us)):DefIn K mg x st ps :=
 ⟨f,_,c,t,PySem.W.mg_of X G a,⟨⟨oc,od,kV,doc,pm,an,ct,osl,rfl,l,cc⟩,qiU lc h11 ht,kp⟩,.all (hb kV doc pm an (.ref c) ct)⟩
theorem jG {K:PySem.W.Frag} {h:Heap} {mg:Str→Option Value} (X:K.In h) (G:h.Ns mainGlobals mg) {x:Str} {i:Int} {t:Tok} {v:Value} (a:PySem.W.nsIn K mainGlobals x=some (some v)) (e:v=.int i t):∃ t:Tok,mg x=some (.int i t):=⟨t,by rw [PySem.W.mg_of X G a,e]⟩
end R
namespace R
open PySem PySem.Spec L2 SeqAt
open PyProof.Rows hiding St
section
variable {X:Cx} {F:Fs} {N:Nat} {pos:Pos}
theorem qcR (i j:Nat) {x y:Str} {a b:Expr} {ca cb:CE} {px py pt:Pos} {kt k2 pt2} (ha:QA X [a,b] (TL (evs F (.cons ca (.cons cb .nil))))) (hc:X.calm=true:=by rfl) (hN:nodupB X.N=true:=by rfl) (hi:X.N[i]?=some x:=by rfl) (hj:X.N[j]?=some y:=by rfl) (hij:i≠j:=by decide) (hx:X.env.scope.names.lookup x=some .local:=by rfl) (hy:X.env.scope.names.lookup y=some .local:=by rfl) (hw:swappedStores [.Tuple [.Name x px,.Name y py] kt pt] (.Tuple [a,b] k2 pt2) X.env=pure (some [x,y]):=by rfl) (hs:swapsWithSole [.Tuple [.Name x px,.Name y py] kt pt] (.Tuple [a,b] k2 pt2) pos.line X.env=pure false:=by rfl) :
  QS X (.Assign [.Tuple [.Name x px,.Name y py] kt pt] (.Tuple [a,b] k2 pt2) pos) (TSm (ex F N (.set (.tup (.cons (.var i) (.cons (.var j) .nil))) (.tup (.cons ca (.cons cb .nil)))))):=by
 delta QS;delta QA at ha
 refine PSimp (qia hc (zg hN) hi hj hij hx hy ha hw hs) λD0 σ H h=>?_
 obtain ⟨ι,S,ρ,er,st,p⟩:=h
 refine ⟨ι,S,ρ,er,st,?_⟩
 have hlen:∀ {l S'},evs F (.cons ca (.cons cb .nil)) ρ S=.ok l S'→l.length=2:=λz=>qaK z
 simp only [ex,ev] at p
 cases z:evs F (.cons ca (.cons cb .nil)) ρ S with
 | no=>rw [z] at p;exact p
 | err=>rw [z] at p;exact p
 | ok l S1 =>
  rw [z] at p
  have hl:=hlen z
  match l,hl with
  | [d1,d2],_ =>
   have hs:([d1,d2]:List D).length≤sizeLine:=by simp [sizeLine]
   simp only [Res.bind,hs,if_true,asg,asgs] at p
   intro vs ι1 H1 s1 st1 dv
   obtain ⟨v,r,rfl,dv1,w,r2,rfl,dv2,rfl⟩:=dv
   exact ⟨v,w,rfl,p ι1 H1 s1 st1 _ (((er.mono s1).set dv1).set dv2)⟩
end
end R
namespace R
open PySem PySem.Spec L2 SeqAt
open PyProof.Rows hiding St
open PySem.W (KasT kas_sort kas_cmp kas_item_eq kat_lt kat_kind KatTups KatLex kat_cons kat_yes kat_no kat_go kat_nil kat_one)
end R
namespace R
open PySem PySem.Spec L2 SeqAt
open PyProof.Rows hiding St
noncomputable def accL (us:Array Value) (c:Nat):Obj:={ cls:=.type "list",dict:=none,data:=.seq us c,slots:=#[] }
section
variable {X:Cx} {sc:Scope} {cl:List (Str × Addr)} {C:Addr} {code:Value} {N':List Str} {fp:List Addr} {ge:Expr} {it a:Addr} {o:Obj} {s4:Shared} {H4:Hp} {J:It} {tn:Nat→Heap→Prop} {ds:List D} {gu:Sr→Prop} {g:D→En→Sr→Res En} {mt:En→Sr→Res Bool} {me:En→Sr→Res D}
theorem qhb {R:Result→Shared→Prop} (hh:X.A.handled=none) (hd:X.A.depth<recursionLimit) (hg:∀ h:Heap,h.get? a=some o→h.IsGen a s4.gens.size) (tk:∀ i h h',tn i h→(∀ b∈fp,∀ o,h.get? b=some o→h'.get? b=some o)→tn i h')
  {p:Addr} (hp:s4.heap.objs.size≤p) (hpa:a≠p):∀ (k i:Nat) (ρ:En) (l:List D) (xs:List V) (us:Array Value) (S:Sr) (ι:List Addr) (H:Hp) (s:Shared) (c:Nat) {d:D} {S':Sr},l.length≤sizeLine→ds.length<k+i→Dens ι H l xs→Vals xs us.toList →
  Cs (genCx X sc cl C code N' fp ge it (a,o) s4 H4) J tn fp ds gu X.A.in4.in1 g mt me s4.gens.size k i ρ S ι H [(p,accL us c)] s→genLoopG gu g mt me (stepG .tuple) (finG .tuple) (ds.drop i) ρ (.tup l) S=.ok d S' →
  (∀ σ' ι' H' z l' xs' us' c',d=.tup l'→l'.length≤sizeLine→Dens ι' H' l' xs'→Vals xs' (Array.toList us')→Inv (genCx X sc cl C code N' fp ge it (a,o) s4 H4) [(p,accL us' c')] σ' H' (z.setGen s4.gens.size .running)→GK s4.gens z.gens→Stp ι H ι' H'→Sto ι' H' S'→R (.ok (.ret (.ref p))) z) →
  codeAny (model X.prog X.w) X.A.in1.in1 (.builtin "list.extend.loop" ⟨[.ref p,.ref a,.ref p],[]⟩) R s:=by
 intro k
 induction k with
 | zero =>
  intro i ρ l xs us S ι H s c d S' _ hk _ _ Cc _ _
  have:=Cc.sus.le
  lia
 | succ k ih =>
  intro i ρ l xs us S ι H s c d S' hl hk dl vl Cc e hR
  refine wz F.entry_extend_loop ?_
  rw [wg F.plain_extend_loop]
  refine wA (m:=pyNext (.ref a)) (wpAny_of_in1 (qaC (X:=genCx X sc cl C code N' fp ge it (a,o) s4 H4) (A:=X.A.in4) hh hd wJ hg rfl rfl Cc (qcd e) (λS2 ι' H' σ' z ez Iz gk q st=>?_) λi' ρ' v S2 ι' H' y u z ez q dv ry Cz=>?_))
  ·have q2:=zt e
   rw [ez] at q2
   cases q2
   exact wC (hR σ' ι' H' z l xs us c rfl hl (Dens.mono q l dl) vl Iz gk q st)
  ·have q2:=zt e
   have hi:=yU _ _ _ _ ez
   rw [ez] at q2
   simp only [gen1,stepG] at q2
   by_cases hlt:l.length<sizeLine
   ·rw [wL hlt] at q2
    have hS':z.heap.get? p=some (accL us c):=by
     obtain ⟨σ,I,_⟩:=Cz.sus.inv
     exact (I.pin (p,accL us c) (wR _ (w9.mpr rfl))).1
    have hsz:us.size=l.length:=by rw [dl.length,vl.length,Array.length_toList]
    show wpAny _ _ (updateSeq p (·.push u) >>= _) _ _ _
    refine wA (wpAny_updateSeq hS' rfl (wC ⟨wy F.plain_extend_loop _,?_⟩) (by rw [hsz];exact hl) (by show (us.push u).size≤sizeLine+1;rw [Array.size_push,hsz];lia))
    refine ih i' ρ' (l++[v]) (xs++[y]) (us.push u) S2 ι' H' _ _ (by rw [wV,wx];lia) (by lia) ((Dens.mono q l dl).snoc dv) ?_ (qaD (t:=z.toks) Cz tk hp (λq hq=>?_) (λb x hb ex=>(wb _ _ (Ne.symm hb)).trans ex) (wp _ hS' rfl) λv z=>by cases z) q2 λσ2 ι2 H2 z2 l2 x2 u2 c2 ec el d2 v2 I2 gk s2 st2=>hR σ2 ι2 H2 z2 l2 x2 u2 c2 ec el d2 v2 I2 gk (q.trans s2) st2
    ·rw [Array.toList_push]
     exact Vals.append vl (.cons ry .nil)
    ·have hq':q=(a,o):=by
      have:q∈[(a,o)]:=hq
      simpa using this
     subst hq'
     exact hpa
   ·rw [wN hlt] at q2
    cases q2
end
section
variable {X:Cx} {pos gp:Pos}
theorem qiV (hc:X.calm=true) (hd:X.A.depth<recursionLimit) (hok:X.calm=true→X.A.handled=none):GCall X .tuple (.type "tuple"):=by
 intro pins s σ H ι a ds gu g mt me ρ S Q gh h
 obtain ⟨sc,cl,C,code,N',fp,ge,it,o,s4,H4,J,tn,hg,cs,hf,tk,out⟩:=gh
 obtain ⟨d,S',e,q⟩:=qaE h
 have hh:=(cs 0).sus.inv
 obtain ⟨σ',I,_⟩:=hh
 have ha:s.heap.get? a=some o:=(I.pin (a,o) (wu _ wJ)).1
 have lt:s4.heap.objs.size≤s.heap.objs.size:=I.sz
 have hne:a≠s.heap.objs.size:=w6 (wI ha)
 have coll:∀ (Q2:List Value→Shared→Prop) (E:Value→Shared→Prop),(∀ σ' ι' H' z l' xs' us' c',d=.tup l'→l'.length≤sizeLine→Dens ι' H' l' xs'→Vals xs' (Array.toList us')→Inv (genCx X sc cl C code N' fp ge it (a,o) s4 H4) [(s.heap.objs.size,accL us' c')] σ' H' (z.setGen s4.gens.size .running)→GK s4.gens z.gens→Stp ι H ι' H'→Sto ι' H' S'→Q2 us'.toList z) →
   wpAny (model X.prog X.w) X.A.in1.in1 (collect (.ref a)) Q2 E s:=by
  intro Q2 E hQ
  unfold collect
  refine wA (wpAny_runValue (wz F.entry_proto_collect ?_))
  rw [wg F.plain_proto_collect _]
  refine wA (m:=newList []) (wY (wC ⟨wy F.plain_list_iadd _,wz F.entry_list_iadd ?_⟩))
  rw [wg F.plain_list_iadd _]
  have ha1:(s.heap.push { cls:=.type "list",data:=.seq ([]:List Value).toArray }).get? a=some o:=wB _ ha
  have hT:({ s with heap:=s.heap.push { cls:=.type "list",data:=.seq ([]:List Value).toArray } }:Shared).TypeIs (.ref a) "generator":=(hg _ ha1).typeIs
  show wpAny _ X.A.in1.in1.in1 (Builtin.List.listExtendWith (.ref s.heap.objs.size) (.ref a) (.ref s.heap.objs.size)) _ _ _
  unfold Builtin.List.listExtendWith
  refine wA (wpAny_typeOf hT ?_)
  have h1:Builtin.List.listSameRef (.ref s.heap.objs.size) (.ref a)=false:=by simp [Builtin.List.listSameRef,Ne.symm hne]
  have h2:(Value.type "generator" == Value.type "list")=false:=by decide
  have h3:(Value.type "generator" == Value.type "tuple")=false:=by decide
  simp only [h1,h2,h3,Bool.or_false,vP,if_false]
  refine wA (wpAny_pyIter_gen (hg _ ha1) ?_)
  refine wA (wo ?_)
  unfold Builtin.List.listLengthHint
  refine wA (wpAny_specialOf hT F.gen_no_len ?_)
  show wpAny _ X.A.in1.in1.in1 (specialOf (Value.ref a) (Str.ofString "__length_hint__") >>= _) _ _ _
  refine wA (wpAny_specialOf hT F.gen_no_hint ?_)
  refine wC ?_
  show wpAny _ X.A.in1.in1.in1 (rule "list.extend.makes-room" >>= λ_=>Builtin.List.listTouch (.ref s.heap.objs.size) >>= λ_ =>
   again (.builtin "list.extend.loop" ⟨[.ref s.heap.objs.size,.ref a,.ref s.heap.objs.size],[]⟩)) _ _ _
  refine wA (wpAny_rule ?_)
  have hS₁:(s.heap.push { cls:=.type "list",data:=.seq ([]:List Value).toArray }).get? s.heap.objs.size=some { cls:=.type "list",data:=.seq ([]:List Value).toArray }:=wG _ rfl
  refine wA ?_
  show wpAny _ X.A.in1.in1.in1 (updateSeq s.heap.objs.size (·.push .none) >>= λ_=>updateSeq s.heap.objs.size (·.pop)) _ _ _
  refine wA (wpAny_updateSeq hS₁ rfl ?_)
  have hS₂:=wp (Obj.mapSeq (·.push Value.none)) hS₁ rfl
  refine wpAny_updateSeq hS₂ rfl ?_
  have hS₃:=wp (Obj.mapSeq (·.pop)) hS₂ rfl
  refine wC ⟨wy F.plain_extend_loop _,?_⟩
  have C1:=qcJ (t:=s.toks) (cs (ds.length+1)) tk hf (u:={ cls:=.type "list",data:=.seq ([]:List Value).toArray }) (wG _ rfl) λv z=>by cases z
  have C2:=qaD (t:=s.toks) C1 tk lt (λq hq=>by
   have hq':q=(a,o):=by
    have:q∈[(a,o)]:=hq
    simpa using this
   subst hq'
   exact hne) (λb x hb ex=>(wb _ _ (Ne.symm hb)).trans ((wb _ _ (Ne.symm hb)).trans ex)) hS₃ λv z=>by cases z
  refine qhb (hok hc) hd hg tk (p:=s.heap.objs.size) lt hne (ds.length+1) 0 ρ [] [] #[] S ι H _ _ (vQ _) (by lia) rfl .nil C2 e λσ' ι' H' z l' xs' us' c' ed el dd vv Iz gk s1 st1=>?_
  have hS':z.heap.get? s.heap.objs.size=some (accL us' c'):=(Iz.pin (s.heap.objs.size,accL us' c') (wR _ (w9.mpr rfl))).1
  show wpAny _ _ (load s.heap.objs.size >>= _) _ _ z
  exact wA (wpAny_load hS' (wC (hQ σ' ι' H' z l' xs' us' c' ed el dd vv Iz gk s1 st1)))
 have new:codeAny (model X.prog X.w) X.A.in1 (.call (.builtin "tuple.__new__") ⟨[.type "tuple",.ref a],[]⟩) (wants (λobj s₁=>s₁.TypeIs obj "tuple"∧EP X pins σ Q obj s₁) X.xe) s:=by
  refine codeAny_of_tree (?_:wpAny _ X.A.in1.in1 (do checkBuiltinCall "tuple.__new__" ⟨[.type "tuple",.ref a],[]⟩;again (.builtin "tuple.__new__" ⟨[.type "tuple",.ref a],[]⟩)) _ _ s)
  refine wA (wpAny_of_eq (F.newCall_tuple_1 _) (wC ⟨wy F.plain_tuple_new _,wz F.entry_tuple_new ?_⟩))
  rw [wg F.plain_tuple_new]
  have k1:=sub_tuple_self
  have k2:=init_tuple_lookup
  have k3:=madeHere_tuple
  have hT:s.TypeIs (.ref a) "generator":=(hg _ ha).typeIs
  wp_walk using wpAny_typeOf hT,coll
  intro σ' ι' H' z l' xs' us' c' ed el dd vv Iz gk s1 st1
  refine wA (m:=Builtin.Tuple.tupleExact us'.toList.toArray) ?_
  unfold Builtin.Tuple.tupleExact
  have hsz:us'.size=l'.length:=by rw [dd.length,vv.length,Array.length_toList]
  refine wY (wC ?_) (by
   have:us'.toList.toArray.size≤sizeLine:=by rw [Array.toArray_toList,hsz];exact el
   exact this)
  have e2:us'.toList.toArray=us':=Array.toArray_toList ..
  rw [e2]
  subst ed
  have I2:=out _ σ' H' z Iz gk
  have hfr2:H' z.heap.objs.size=none:=I2.hok.fresh (wF _)
  refine ⟨⟨_,wG _ rfl,rfl⟩,.ref _,upd H' z.heap.objs.size (.tup xs'),I2.laid (t':=z.toks) (λb o e=>wB _ e) (wF _) ⟨?_,us'.toList,vv,⟨_,wG _ rfl,rfl,0,by simp⟩⟩,rfl,zb st1 dd (λv ι2 H2 s2 st2 dv=>q v ι2 H2 (s1.trans s2) st2 dv) _ hfr2⟩
  rw [← dd.length]
  exact el
 refine callType_codes F.called_tuple (F.typeCall_tuple_1 _) F.entry_object_init new λobj s₁ h₁=>?_
 exact ⟨h₁.1,F.args_object_init_2 obj _,object_init_meets F.called_tuple.init.lookup F.called_tuple.made (by decide) X.prog X.w X.A.in1 _ s₁ ⟨h₁.1,rfl,h₁.2⟩⟩
theorem qhc {p:Pos} {tg elt iter:Expr} {ifs:List Expr} {sc:Scope} {fr:List Nat} {xs ts:List Str} {mi:En→Sr→Res (List D × (Sr→Prop))} {g:D→En→Sr→Res En} {mt:En→Sr→Res Bool} {me:En→Sr→Res D} {c T':Addr} (hc:X.calm=true) (hroom:X.A.depth<recursionLimit)
  (hok:X.calm=true→X.A.handled=none) (hgl:Gl X "tuple") (hm:X.mg "tuple"=none)
  (hi:PI X tg iter (TIg mi)) (hs:∀ x,genFold iter X.env x=pure x) (C':CSc X sc fr xs ts) (hz:sc.names.lookup (".0":Str)=some NameKind.local) (hco:sc.isCoroutine=false) (hcode:X.env.code=.ref c) (htab:codeTab X.K c T'=true) (B:BlkG X sc (xs++ts) tg iter ifs elt gp g mt me) :
  PE X (.Call (.Name "tuple" p) [.GeneratorExp elt [⟨tg,iter,ifs,0⟩] sc gp] [] pos) (T (mGenG .tuple fr ts.length mi g mt me)):=by
 intro pins s σ H Q I hw
 have hb:bootBuiltins "tuple"=some (.type "tuple"):=by decide +kernel
 refine Call_ (zO I hgl hm hb ?_ (by decide) (by decide))
 obtain ⟨ι,S,ρ,er,st,h⟩:=hw
 dsimp only [mGenG] at h
 cases z:mi ρ S with
 | no=>rw [z] at h;exact h.elim
 | err=>rw [z] at h;exact h.elim
 | ok dg S1 =>
  obtain ⟨ds,gu⟩:=dg
  rw [z,Res.bind_ok] at h
  refine PyProof.Rows.callWith_type1 (e:=.GeneratorExp elt [⟨tg,iter,ifs,0⟩] sc gp) (rest:=[]) ?_ rfl rfl
  refine Calls.spliced_cons (thn (qbj hc hroom hi hs C' hz hco hcode htab B I er st z) λv s' ⟨a,ι',H',ev,q,gh⟩=>?_)
  subst ev
  exact Calls.spliced_nil (qiV hc hroom hok pins s' σ H' ι' a ds gu g mt me _ S1 Q gh (Pst.from h q))
theorem qiW {p:Pos} {tg elt iter:Expr} {ifs:List Expr} {sc:Scope} {fr:List Nat} {xs ts:List Str} {mi:En→Sr→Res (List D)} {g:D→En→Sr→Res En} {mt:En→Sr→Res Bool} {me:En→Sr→Res D} {c T':Addr} (hc:X.calm=true) (hroom:X.A.depth<recursionLimit)
  (hok:X.calm=true→X.A.handled=none) (hgl:Gl X "tuple") (hm:X.mg "tuple"=none)
  (hi:PI X tg iter (TIt mi)) (hs:∀ x,genFold iter X.env x=pure x) (C':CSc X sc fr xs ts) (hz:sc.names.lookup (".0":Str)=some NameKind.local) (hco:sc.isCoroutine=false) (hcode:X.env.code=.ref c) (htab:codeTab X.K c T'=true) (B:BlkG X sc (xs++ts) tg iter ifs elt gp g mt me) :
  PE X (.Call (.Name "tuple" p) [.GeneratorExp elt [⟨tg,iter,ifs,0⟩] sc gp] [] pos) (T (mGen .tuple fr ts.length mi g mt me)):=by
 rw [← qeM];exact qhc hc hroom hok hgl hm (pi_g hi) hs C' hz hco hcode htab B
end
section
variable {X:Cx} {F:Fs} {N:Nat} {pos:Pos}
theorem qby (fr:List Nat) (xs ts:List Str) {p gp:Pos} {tg elt iter:Expr} {ifs:List Expr} {sc:Scope} {k:Nat} {c T':Addr} {t:CT} {it:CI} {ci:CBs} {ce:CE} (hr:Room k X.A) (gb:Gb X.mg) (hcode:X.env.code=.ref c) (htab:codeTab X.K c T'=true) (hi:QI X tg iter (TIt (evI F it))) (rt:∀ cl C code fp it o s H,QG (genCx X sc cl C code (xs++ts) fp (.GeneratorExp elt [⟨tg,iter,ifs,0⟩] sc gp) it o s H) tg (TGt (asg F t))) (ri:∀ cl C code fp it o s H,QTl (genCx X sc cl C code (xs++ts) fp (.GeneratorExp elt [⟨tg,iter,ifs,0⟩] sc gp) it o s H) ifs (TB (tsts F ci))) (re:∀ cl C code fp it o s H,QE (genCx X sc cl C code (xs++ts) fp (.GeneratorExp elt [⟨tg,iter,ifs,0⟩] sc gp) it o s H) elt (T (ev F ce))) (hc:X.calm=true:=by rfl) (hgl:Gl X "tuple":=by rfl) (hs:∀ x,genFold iter X.env x=pure x:=by intro _;rfl) (h:cscB X.env.scope.names X.N sc fr xs ts=true:=by rfl) (hz:sc.names.lookup (".0":Str)=some NameKind.local:=by rfl) (hco:sc.isCoroutine=false:=by rfl):QE X (.Call (.Name "tuple" p) [.GeneratorExp elt [⟨tg,iter,ifs,0⟩] sc gp] [] pos) (T (ev F (.gen .tuple fr ts.length ce t it ci))):=by
 delta QE;delta QI at hi;delta QG at rt;delta QTl at ri;delta QE at re;exact (qiW hc hr.depth (λ_=>hr.hd) hgl gb.tuple hi hs (yx h) hz hco hcode htab ⟨rt,ri,re⟩)
end
end R
namespace R
open PySem PySem.Spec L2 SeqAt
open PyProof.Rows hiding St
section
variable {X:Cx} {pos:Pos}
variable {F:Fs}
theorem qhH:QE X (.Dict [] [] pos) (T (ev F .dis)):=by
 delta QE;exact qjS
end
end R
namespace R
open PySem PySem.Spec L2 SeqAt
open PyProof.Rows hiding St
section
variable {X:Cx} {pos:Pos} {tg:Expr}
noncomputable def mX (m:En→Sr→Res D):En→Sr→Res (List D × (Sr→Prop)):=λρ S=>(m ρ S).bind λx S1=>match refX x S1 with
 | some p=>.ok p S1
 | none=>.no
theorem i_X {e:Expr} {m:En→Sr→Res D} (h:PE X e (T m)):PI X tg e (TIg (mX m)):=PIimp (qca h) λσ H R hw=>by
 obtain ⟨ι,S,ρ,er,st,p⟩:=hw
 refine ⟨ι,S,ρ,er,st,?_⟩
 dsimp only [mX] at p
 cases z:m ρ S with
 | no=>rw [z] at p;exact p
 | err=>rw [z] at p;exact p
 | ok d S1 =>
  rw [z,Res.bind_ok] at p
  intro v ι1 H1 s1 st1 hv
  cases d with
  | ref n =>
   obtain ⟨a,rfl,ha⟩:=hv
   cases zn:S1[n]? with
   | none=>simp only [refX,zn] at p
   | some so =>
    cases so with
    | lst l =>
     simp only [refX,zn] at p
     obtain ⟨_,xs,hx,_⟩:=st1.obj n a _ ha zn
     exact .inl ⟨a,rfl,⟨xs,.inl (.inl hx)⟩,p ι1 H1 _ s1 st1 (qgP ha)⟩
    | dic l=>simp only [refX,zn] at p
    | dis l=>simp only [refX,zn] at p
  | tup l =>
   obtain ⟨a,xs,rfl,hn,ha,dl⟩:=hv
   exact .inr ⟨a,rfl,⟨xs,.inl (.inl ha)⟩,p ι1 H1 _ s1 st1 (qeD hn ha dl).g⟩
  | lst l =>
   obtain ⟨a,xs,rfl,hn,ha,dl⟩:=hv
   exact .inl ⟨a,rfl,⟨xs,.inl ha⟩,p ι1 H1 _ s1 st1 (qeC hn ha dl).g⟩
  | _=>exact p.elim
end
section
variable {X:Cx} {F:Fs} {N:Nat} {pos:Pos}
theorem qff {m:Bool} {fr:List Nat} {nt:Nat} {ce c:CE} {t:CT} {ci:CBs}:mLcG m fr nt (mX (ev F c)) (asg F t) (tsts F ci) (ev F ce)=ev F (.lcX m fr nt ce t c ci):=by
 funext ρ S
 unfold mLcG mX
 simp only [ev]
 cases ev F c ρ S with
 | ok d S1 =>
  cases hr:refX d S1 <;> simp only [Res.bind,hr]
 | err=>rfl
 | no=>rfl
theorem qkl (m:Bool) (fr:List Nat) (xs ts:List Str) {tg elt iter:Expr} {ifs:List Expr} {sc:Scope} {t:CT} {c:CE} {ci:CBs} {ce:CE} (hi:QE X iter (T (ev F c))) (rt:∀ cl C fp s H,QG (compCx X sc cl C (xs++ts) fp s H) tg (TGt (asg F t))) (ri:∀ cl C fp s H,QTl (compCx X sc cl C (xs++ts) fp s H) ifs (TB (tsts F ci))) (re:∀ cl C fp s H,QE (compCx X sc cl C (xs++ts) fp s H) elt (T (ev F ce))) (hc:X.calm=true:=by rfl) (hs:∀ x,foldedSetIterable iter X.env x=pure x:=by intro _;rfl) (h:cscB X.env.scope.names X.N sc fr xs ts=true:=by rfl):QE X (.ListComp elt [⟨tg,iter,ifs,0⟩] sc pos) (T (ev F (.lcX m fr ts.length ce t c ci))):=by
 rw [← qff]
 delta QE;delta QE at hi;delta QG at rt;delta QTl at ri;delta QE at re;exact (qhC hc (i_X hi) hs (yx h) ⟨rt,ri,re⟩)
theorem qiX {tg iter:Expr} {body:List Stmt} {c:CE} {t:CT} {cb:CSs} (hi:QE X iter (T (ev F c))) (hg:QG X tg (TGt (asg F t))) (hb:QSs X body (TSm (exs F N cb))) (hp:PassesOwn (model X.prog X.w) X.A X.env X.xe:=by exact PassesOwn.never) (hc:X.calm=true:=by rfl) (hs:∀ x,foldedSetIterable iter X.env x=pure x:=by intro _;rfl):QS X (.For tg iter body [] pos) (TSm (ex F N (.forX t c cb))):=by
 have e:ex F N (.forX t c cb)=λρ S=>(mX (ev F c) ρ S).bind λp S1=>endG p.2 (forLoop (λd ρ S=>(grd p.2 S (asg F t d ρ S)).bind λρ1 S1=>exs F N cb ρ1 S1) p.1 ρ S1):=by
  funext ρ S
  unfold mX
  simp only [ex]
  cases ev F c ρ S with
  | ok d S1 =>
   cases hr:refX d S1 <;> simp only [Res.bind,hr]
  | err=>rfl
  | no=>rfl
 rw [e]
 delta QS;delta QE at hi;delta QG at hg;delta QSs at hb;exact (qeE hp hc (i_X hi) hg hb hs)
theorem qhd {w:GW} {fr:List Nat} {nt:Nat} {ce c:CE} {t:CT} {ci:CBs}:mGenG w fr nt (mX (ev F c)) (asg F t) (tsts F ci) (ev F ce)=ev F (.genX w fr nt ce t c ci):=by
 funext ρ S
 unfold mGenG mX
 simp only [ev]
 cases ev F c ρ S with
 | ok d S1 =>
  cases hr:refX d S1 <;> simp only [Res.bind,hr]
 | err=>rfl
 | no=>rfl
theorem qiY (w:GW) (fr:List Nat) (xs ts:List Str) {id:String} {f:Str} {p gp:Pos} {tg elt iter:Expr} {ifs:List Expr} {sc:Scope} {k:Nat} {c T':Addr} {t:CT} {c0:CE} {ci:CBs} {ce:CE} (hr:Room k X.A) (gc:GCall X w (.builtin id)) (hm:X.mg f=none) (hv:bootBuiltins f=some (.builtin id))
  (hcode:X.env.code=.ref c) (htab:codeTab X.K c T'=true) (hi:PE X iter (T (ev F c0)))
  (rt:∀ cl C code fp it o s H,PG (genCx X sc cl C code (xs++ts) fp (.GeneratorExp elt [⟨tg,iter,ifs,0⟩] sc gp) it o s H) tg (TGt (asg F t)))
  (ri:∀ cl C code fp it o s H,PTl (genCx X sc cl C code (xs++ts) fp (.GeneratorExp elt [⟨tg,iter,ifs,0⟩] sc gp) it o s H) ifs (TB (tsts F ci)))
  (re:∀ cl C code fp it o s H,PE (genCx X sc cl C code (xs++ts) fp (.GeneratorExp elt [⟨tg,iter,ifs,0⟩] sc gp) it o s H) elt (T (ev F ce)))
  (hc:X.calm=true:=by rfl) (hgl:Gl X f:=by rfl) (hn:f≠"__name__":=by decide) (hdb:(f == ("__debug__":Str))=false:=by decide) (hs:∀ x,genFold iter X.env x=pure x:=by intro _;rfl) (h:cscB X.env.scope.names X.N sc fr xs ts=true:=by rfl)
  (hz:sc.names.lookup (".0":Str)=some NameKind.local:=by rfl) (hco:sc.isCoroutine=false:=by rfl):PE X (.Call (.Name f p) [.GeneratorExp elt [⟨tg,iter,ifs,0⟩] sc gp] [] pos) (T (ev F (.genX w fr ts.length ce t c0 ci))):=by
 rw [← qhd]
 exact qeO hc hr.depth gc hgl hm hv hn hdb (i_X hi) hs (yx h) hz hco hcode htab ⟨rt,ri,re⟩
theorem qhe (fr:List Nat) (xs ts:List Str) {p gp:Pos} {tg elt iter:Expr} {ifs:List Expr} {sc:Scope} {k:Nat} {c T':Addr} {t:CT} {c0:CE} {ci:CBs} {ce:CE} (hr:Room k X.A) (gb:Gb X.mg) (hcode:X.env.code=.ref c) (htab:codeTab X.K c T'=true) (hi:QE X iter (T (ev F c0))) (rt:∀ cl C code fp it o s H,QG (genCx X sc cl C code (xs++ts) fp (.GeneratorExp elt [⟨tg,iter,ifs,0⟩] sc gp) it o s H) tg (TGt (asg F t))) (ri:∀ cl C code fp it o s H,QTl (genCx X sc cl C code (xs++ts) fp (.GeneratorExp elt [⟨tg,iter,ifs,0⟩] sc gp) it o s H) ifs (TB (tsts F ci))) (re:∀ cl C code fp it o s H,QE (genCx X sc cl C code (xs++ts) fp (.GeneratorExp elt [⟨tg,iter,ifs,0⟩] sc gp) it o s H) elt (T (ev F ce))) (hc:X.calm=true:=by rfl) (hgl:Gl X "sum":=by rfl) (hs:∀ x,genFold iter X.env x=pure x:=by intro _;rfl) (h:cscB X.env.scope.names X.N sc fr xs ts=true:=by rfl) (hz:sc.names.lookup (".0":Str)=some NameKind.local:=by rfl) (hco:sc.isCoroutine=false:=by rfl):QE X (.Call (.Name "sum" p) [.GeneratorExp elt [⟨tg,iter,ifs,0⟩] sc gp] [] pos) (T (ev F (.genX .sum fr ts.length ce t c0 ci))):=by
 delta QE;delta QE at hi;delta QG at rt;delta QTl at ri;delta QE at re;exact (qiY .sum fr xs ts hr (qeN hc hr.depth λ_=>hr.hd) gb.sum (by decide +kernel) hcode htab hi rt ri re hc hgl (by decide) (by decide) hs h hz hco)
end
end R
namespace R
open PySem PySem.Spec L2 SeqAt
open PyProof.Rows hiding St
end R
namespace R
open PySem PySem.Spec L2 SeqAt
open PyProof.Rows hiding St
section
variable {X:Cx} {F:Fs} {N:Nat} {pos:Pos}
theorem qiZ (i:Nat) {x:Str} (hN:nodupB X.N=true:=by rfl) (hi:X.N[i]?=some x:=by rfl) (hx:Loc X.env.scope x:=by first | exact Or.inl rfl | exact Or.inr rfl) (hf:X.fn x=true∨X.env.scope.names.lookup x=some .local:=by first | exact .inl rfl | exact .inr rfl):PG X (.Name x pos) (gName i):=qcs (zg hN) hi hx hf
end
end R
namespace R
open PySem PySem.Spec L2 SeqAt
open PyProof.Rows hiding St
theorem qcS:∀ (l:List Int) (i:Nat),(l.map V.int).eraseIdx i=(l.eraseIdx i).map V.int
 | [],_=>by simp
 | a::r,0=>by simp
 | a::r,i+1=>by simp [qcS r i]
theorem qfg (k:Int):∀ ns:List Int,ns.eraseIdx (ns.idxOf k)=ns.erase k
 | []=>by simp
 | a::r=>by
  rw [List.idxOf_cons,List.erase_cons]
  by_cases h:a=k
  ·subst h;simp
  ·have hb:(a == k)=false:=by simpa using h
   rw [hb]
   simp [qfg k r]
noncomputable def eqK (k:Int):Value→Bool
 | .int i _=>i == k
 | _=>false
noncomputable def rRemove:V→List V→Hp→VK→Prop:=λx vs H Q=>∃ (l:Addr) (ns:List Int) (k:Int),x=.ref l∧vs=[.int k]∧H l=some (.lst (ns.map .int))∧k∈ns∧Q .non (upd H l (.lst ((ns.erase k).map .int)))
theorem qdS {X:Cx}:MtM X "list.remove" rRemove:=by
 intro pins s σ H x vs v us Q I rx rv h
 obtain ⟨l,ns,k,rfl,rfl,hH,hk,q⟩:=h
 cases rx
 obtain ⟨u,rfl,ru⟩:=rv.one
 obtain ⟨t,rfl⟩:=ru
 obtain ⟨z,its,n,r,hl,e⟩:=I.lstM hH
 have at':∀ i (hi:i<its.length),∃ t,its[i]=.int (ns[i]'(by rw [← hl,wO] at hi;exact hi)) t:=λi hi=>by
  have hi':i<ns.length:=by rw [← hl,wO] at hi;exact hi
  obtain ⟨w,hw,rw'⟩:=r.get (show (ns.map V.int)[i]?=some (.int ns[i]) by rw [w5,wD hi'];rfl)
  rw [wD hi] at hw
  cases hw
  exact rw'
 have hj:ns.idxOf k<ns.length:=List.idxOf_lt_length_of_mem hk
 have hj':ns.idxOf k<its.length:=by rw [← hl,wO];exact hj
 refine call_meets F.slot_list_remove ⟨_,e,rfl⟩ F.entry_list_remove (F.args_list_remove_2 _ _)
  (MeetsSeq.list_remove l its.toArray n (.int k t) (eqK k) (λy hy=>?_) (ns.idxOf k) (by rw [wH];exact hj') ?_ (λm hm hlt=>?_) (by rw [wH];lia)) ⟨e,?_⟩
 ·rw [List.mem_toArray] at hy
  obtain ⟨i,hi,ei⟩:=List.getElem_of_mem hy
  obtain ⟨t',e'⟩:=at' i hi
  rw [← ei,e']
  exact MeetsSeq.EqGives.int _ _ _ _
 ·obtain ⟨t',e'⟩:=at' _ hj'
  rw [List.getElem_toArray,e']
  show (ns[ns.idxOf k] == k)=true
  rw [List.getElem_idxOf];simp
 ·rw [wH] at hm
  obtain ⟨t',e'⟩:=at' m hm
  rw [List.getElem_toArray,e']
  exact List.not_of_lt_findIdx (xs:=ns) (p:=(· == k)) hlt
 refine ⟨.non,_,I.lset (its':=its.eraseIdx (ns.idxOf k)) hH e ?_ (by rw [← qfg,← qcS];exact r.eraseIdx _) ?_,rfl,q⟩
 ·show its.toArray.eraseIdxIfInBounds _=(its.eraseIdx _).toArray
  rw [List.eraseIdxIfInBounds_toArray]
 ·have:=List.length_erase_of_mem hk
  rw [wO] at hl ⊢
  lia
theorem qai {ι:List Addr} {H:Hp}:∀ m:List Int,Dens ι H (m.map .int) (m.map .int)
 | []=>rfl
 | a::r=>⟨_,_,rfl,rfl,qai r⟩
theorem refsZ:∀ m:List Int,refsLts 0 (m.map .int)=true
 | []=>rfl
 | a::r=>by rw [wQ,refsLts,refsZ r];rfl
theorem qkm {ι:List Addr} {S:Sr} {x y:D} {v u:V} {H:Hp} {Q:VK} (st:Sto ι H S) (hx:Den ι H x v) (hy:Den ι H y u) (p:Pst Den (remD S x y) ι H Q):rRemove v [u] H Q:=by
 unfold remD at p
 split at p
 ·rename_i n k
  split at p
  ·rename_i l hl
   split at p
   ·rename_i ns hns
    split at p
    ·rename_i hk
     obtain ⟨a,rfl,ha⟩:=hx
     cases (show u=_ from hy)
     obtain ⟨_,xs,h1,dl⟩:=st.obj n a _ ha hl
     cases intsOf_eq hns
     cases dens_ints dl
     obtain ⟨g,st'⟩:=jc st ha (qL _ (refsZ (ns.erase k))) (qai (ns.erase k))
     exact ⟨a,ns,k,rfl,rfl,h1,hk,p .non ι _ g st' rfl⟩
    ·exact p.elim
   ·exact p.elim
  ·exact p.elim
 ·exact p.elim
section
variable {X:Cx} {F:Fs} {pos:Pos}
theorem qhI {o e:Expr} {co ce:CE} {apos:Pos} (ho:QE X o (T (ev F co))) (he:QE X e (T (ev F ce))) (hst:starEach [e] X.env=(false,eval e X.env)::starEach [] X.env:=by rfl) (hbase:attributeBase o "remove" X.env (eval o X.env)=eval o X.env:=by rfl) (hline:(apos.endLine == pos.line)=true:=by rfl) (hfew:((backTo pos (starEach [e] X.env)).all (λx=>!x.1)&&(backToKw pos (keywordEach [] X.env)).all (λx=>x.1.isSome)&&decide ([e].length+([]:List Keyword).length+(if ([]:List Keyword).isEmpty then 0 else 1)<30))=true:=by rfl) (hplain:(backTo pos (starEach [] X.env)).any (·.1)=false:=by rfl):QE X (.Call (.Attribute o "remove" apos) [e] [] pos) (T (ev F (.rem co ce))):=by
 delta QE;delta QE at ho;delta QE at he;exact (qb9 PySem.F.slot_list_remove PySem.F.type_list_remove qdS (λι S x y v u H Q st hx hy p=>qkm st hx hy p) ho he hst hbase hline hfew hplain)
end
end R
namespace R
open PySem PySem.Spec L2 SeqAt
open PyProof.Rows hiding St
theorem qcT {ι:List Addr} {H:Hp} {S:Sr} {x y d:D} {v u:V} (st:Sto ι H S) (e:idkD S x y=some d) (hx:Den ι H x v) (hy:Den ι H y u):∃ a w,v=.ref a∧DGet H a u (some w)∧Den ι H d w:=by
 unfold idkD at e
 split at e
 ·rename_i n
  split at e
  ·rename_i l hl
   cases z:keyD y with
   | none=>rw [z] at e;cases e
   | some k =>
    rw [z,wP] at e
    obtain ⟨a,rfl,ha⟩:=hx
    obtain ⟨_,kvs,h1,h2⟩:=st.obj n a _ ha hl
    obtain ⟨w,e1,e2⟩:=js (f:=id) Iff.rfl h2 e
    cases key_den z hy
    refine ⟨a,w,rfl,?_,e2⟩
    have:=DGet.k (k:=k) h1
    rw [show valV kvs k=some w from e1] at this
    exact this
  ·cases e
 ·cases e
section
variable {X:Cx} {pos:Pos}
theorem qkn {a b:Expr} {ma mb:En→Sr→Res D} (hu:X.A.units+1<cLine) (ha:PE X a (T ma)) (hb:PE X b (T mb)) (hs:PlainIx b) :
  PE X (.Subscript a b pos) (T λρ S=>(ma ρ S).bind λx S1=>(mb ρ S1).bind λy S2=>ofO (idkD S2 x y) S2) :=
 PEimp (qhv (qcE hu) ha hb hs) λσ H Q hw=>by
  refine TG.b1 hw λι S ρ a b H1 er st ra p=>Pst.tg p er st λa2 S2 ι2 H2 b2 s2 er2 st2 ra2 p2=>?_
  obtain ⟨d,e,q⟩:=Pst.ofO p2 st2
  obtain ⟨c,w,e1,g,dw⟩:=qcT st2 e (Den.mono s2 a ra) ra2
  exact ⟨c,w,e1,g,q w ι2 H2 (Stp.refl _ _) st2 dw⟩
noncomputable def dGet:V→V→Hp→VK→Prop:=λo i H Q=>∃ a v,o=.ref a∧DGet H a i (some v)∧Q v H
theorem qfh (hu:X.A.units+1<cLine):PGet X dGet:=by
 intro pins s σ H o i ov iv Q I ro ri h
 obtain ⟨a,v,rfl,g,q⟩:=h
 obtain rfl:ov=Value.ref a:=ro
 exact qab hu I g ri λw' s' I' rw'=>⟨v,H,I',rw',q⟩
theorem qi0 {o i e:Expr} {mo mi me:En→Sr→Res D} {tpos:Pos} (hu:X.A.units+1<cLine) (ho:PE X o (T mo)) (hi:PE X i (T mi)) (he:PE X e (T me))
  (ha:∀ ov iv new,augStore i ov iv new=(do holding [new,ov,iv] (setItem ov iv new);release [new,ov,iv] [];pure .next)) :
  PS X (.AugAssign (.Subscript o i tpos) .Add e pos) (TSm λρ S=>(mo ρ S).bind λx S1=>(mi ρ S1).bind λy S2=>match idkD S2 x y with
  | some (.int a)=>(me ρ S2).bind λz S3=>match z with
   | .int b=>match putE S3 x y (.int (a+b)) with
    | some S4=>.ok (.nx ρ) S4
    | none=>.no
   | _=>.no
  | _=>.no):=PSimp (qgm ho hi (qfh hu) he qib (qcF hu) ha) λD σ H hw=>by
 obtain ⟨ι,S,ρ,er,st,p⟩:=hw
 refine ⟨ι,S,ρ,er,st,PsF.bind p λx S1 ι1 H1 vx s1 st1 rx p1=>?_⟩
 refine ⟨ι1,S1,ρ,er.mono s1,st1,PsF.bind p1 λy S2 ι2 H2 vy s2 st2 ry p2=>?_⟩
 have er2:=(er.mono s1).mono s2
 have rx2:=Den.mono s2 x rx
 split at p2
 ·rename_i a ea
  obtain ⟨c,w,e1,g,dw⟩:=qcT st2 ea rx2 ry
  cases (show w=_ from dw)
  refine ⟨c,.int a,e1,g,ι2,S2,ρ,er2,st2,PsF.bind p2 λz S3 ι3 H3 vz s3 st3 rz p3=>?_⟩
  split at p3
  ·rename_i b
   cases (show vz=_ from rz)
   split at p3
   ·rename_i S4 e4
    exact ⟨a,b,rfl,rfl,ι3,S3,x,y,.int (a+b),S4,st3,Den.mono s3 x rx2,Den.mono s3 y ry,rfl,e4,λι' H' s' st'=>p3 ι' H' s' st' σ ((er2.mono s3).mono s')⟩
   ·exact p3.elim
  ·exact p3.elim
 ·exact p2.elim
end
section
variable {X:Cx} {F:Fs} {N:Nat} {pos:Pos}
theorem qbz {k:Nat} {a b:Expr} {ca cb:CE} (hr:Room k X.A) (ha:QE X a (T (ev F ca))) (hb:QE X b (T (ev F cb))) (hs:PlainIx b:=by exact λ_ _=>rfl):QE X (.Subscript a b pos) (T (ev F (.idk ca cb))):=by
 delta QE;delta QE at ha;delta QE at hb;exact (qkn (qcz hr) ha hb hs)
theorem qi1 {k:Nat} {o i e:Expr} {co ci ce:CE} {tpos:Pos} (hr:Room k X.A) (ho:QE X o (T (ev F co))) (hi:QE X i (T (ev F ci))) (he:QE X e (T (ev F ce)))
  (ha:∀ ov iv new,augStore i ov iv new=(do holding [new,ov,iv] (setItem ov iv new);release [new,ov,iv] [];pure .next):=by intros;rfl):QS X (.AugAssign (.Subscript o i tpos) .Add e pos) (TSm (ex F N (.augK co ci ce))):=by
 delta QS;delta QE at ho;delta QE at hi;delta QE at he;exact (qi0 (qcz hr) ho hi he ha)
end
end R
namespace R
open PySem PySem.Spec L2 SeqAt
open PyProof.Rows hiding St
noncomputable def dcKV (d:Int) (ns:List Int):List (Key × V):=ns.foldl (λl k=>putK l (.inl k:Key) (.int d)) []
theorem qdT (d:Int) (ns:List Int) (k:Int):dcKV d (ns++[k])=putK (dcKV d ns) (.inl k) (.int d):=by simp [dcKV]
theorem qbA {ι:List Addr} {H:Hp} (d:Int):∀ (ns:List Int) (l:List (Key × D)) (kvs:List (Key × V)),DGs id ι H l kvs→DGs id ι H (ns.foldl (λl k=>putT (.inl k:Key) (.int d) l) l) (ns.foldl (λl k=>putK l (.inl k:Key) (.int d)) kvs)
 | [],_,_,h=>h
 | k::r,l,kvs,h=>qbA d r _ _ (qaw (f:=id) Iff.rfl (d:=.int d) (v:=.int d) rfl h)
theorem qhf {ι:List Addr} {H:Hp} (d:Int) (ns:List Int):DGs id ι H (dcKL d ns) (dcKV d ns):=qbA d ns [] [] rfl
theorem qfi (d:Int) (ns:List Int):refsLts 0 ((dcKL d ns).map (·.2))=true:=by
 have:∀ (ns:List Int) (l:List (Key × D)),refsLts 0 (l.map (·.2))=true→refsLts 0 ((ns.foldl (λl k=>putT (.inl k:Key) (.int d) l) l).map (·.2))=true:=by
  intro ns
  induction ns with
  | nil=>exact λl h=>h
  | cons k r ih=>exact λl h=>ih _ (jt rfl h)
 exact this ns [] rfl
theorem qfj (d:Int) (ns:List Int):(dcKV d ns).length≤ns.length:=by
 have:∀ (ns:List Int) (l:List (Key × V)),(ns.foldl (λl k=>putK l (.inl k:Key) (.int d)) l).length≤l.length+ns.length:=by
  intro ns
  induction ns with
  | nil=>exact λl=>wF _
  | cons k r ih =>
   intro l
   have h1:=ih (putK l (.inl k) (.int d))
   have h2:=zv l (.inl k:Key) (V.int d)
   rw [List.foldl_cons,w4]
   lia
 have:=this ns []
 simpa [dcKV] using this
structure SrcI (J:It) (H0:Hp) (xs:List V):Prop where
 go:∀ (D:Addr) (o:HO),H0 D=none→∀ (i:Nat) (x:V),xs[i]?=some x→J.go i (upd H0 D o)∧∀ y H3,J.yld i (upd H0 D o) y H3→H3=upd H0 D o∧y=x
 stop:∀ (D:Addr) (o:HO),H0 D=none→J.stop xs.length (upd H0 D o)
theorem qaN {H0:Hp} {a D:Addr} {u o:HO} (h:Rd H0 a u) (hD:H0 D=none):Rd (upd H0 D o) a u:=by
 have hne:a≠D:=λz=>by
  rcases h with h | ⟨_,h⟩ <;> (rw [z,hD] at h;cases h)
 rcases h with h | ⟨ob,h⟩
 ·exact .inl (by rw [qk hne];exact h)
 ·exact .inr ⟨ob,by rw [qk hne];exact h⟩
theorem srcL {K:PySem.W.Frag} {H0:Hp} {a:Addr} {xs:List V} (h:Rd H0 a (.lst xs)):SrcI (Itl K a) H0 xs where
 go:=λD o hD i x e=>by
  have r:=qaN (o:=o) h hD
  refine ⟨⟨xs,x,.inl r,e⟩,λy H3 hy=>⟨hy.1,?_⟩⟩
  have:=hy.2 xs (.inl r)
  rw [e] at this;cases this;rfl
 stop:=λD o hD=>⟨xs,.inl (qaN h hD),wF _⟩
theorem srcT {K:PySem.W.Frag} {H0:Hp} {a:Addr} {xs:List V} (h:H0 a=some (.tup xs)):SrcI (Itt K a) H0 xs where
 go:=λD o hD i x e=>by
  have r:=qaN (o:=o) (.inl h) hD
  refine ⟨⟨xs,x,.inl r,e⟩,λy H3 hy=>⟨hy.1,?_⟩⟩
  have:=hy.2 xs (.inl r)
  rw [e] at this;cases this;rfl
 stop:=λD o hD=>⟨xs,.inl (qaN (.inl h) hD),wF _⟩
noncomputable def mDck (dv:Int) (m:En→Sr→Res D):En→Sr→Res D:=λρ S=>(m ρ S).bind λx S1=>match refX x S1 with
 | some p=>match intsOf p.1 with
  | some ns=>if ns.length<1000 then .ok (.ref S1.length) (S1++[.dis (dcKL dv ns)]) else .no
  | none=>.no
 | none=>.no
section
variable {X:Cx} {pos:Pos}
theorem qdU {A:Around} {E:Value→Shared→Prop} {pins:List (Addr × Obj)} {σ:St} {H:Hp} {s:Shared} {a:Addr} {kvs:List (Key × V)} {k:Key} {v:V} {u r:Value} {Q:Unit→Shared→Prop} (I:Inv X pins σ H s) (e:H a=some (.dK kvs)) (l:kvs.length<sizeLine) (ry:RelV (kV k) u) (rv:RelV v r) (h:∀ s',Inv X pins σ (upd H a (.dK (putK kvs k v))) s'→Q () s') :
  wpAny (model X.prog X.w) A (dictSet a u r) Q E s:=by
 obtain ⟨z,hd,vs,rel,dd⟩:=qhx I.hok e
 have hz:vs.length≤sizeLine:=by rw [← rel.length];exact z
 have hl:(putK kvs k v).length≤sizeLine:=by have:=zv kvs k v;lia
 refine wpAny_dictSet_pairs (hsz:=hz) (qcw ry) dd λh' dd' hs=>h _ ?_
 have he:∃ q,h'.get? a=some q:=let ⟨q,_,_,hq,_⟩:=dd';⟨q,hq⟩
 exact qas I (by rw [e];exact True.intro) hs he (qei hl hd (rel.put k rv) dd')
theorem qfk {t:Str} {tp kp vp:Pos} {vj:Nat} {dv:Int} {iter:Expr} {sc:Scope} {J:It} {fp:List Addr} {it Dl:Addr} {tn:Nat→Heap→Prop} {R:Result→Shared→Prop} {ns:List Int}
  (hxe:X.xe=λ_ _=>False) (hc:X.calm=true) (hex:X.ex=fp) (hpn:X.pn=[]) (T':Turn X.prog X.w X.K (.Name t tp) J fp it tn) (hg:PG X (.Name t tp) (gName 0)) (hk:PE X (.Name t kp) (tVar 0))
  {H0:Hp} {σ:St} {s:Shared} (hD0:H0 Dl=none) (hJ:SrcI J H0 (ns.map V.int)) (hl:ns.length≤1000) (I:Inv X [] σ (upd H0 Dl (.dK [])) s) (h0:tn 0 s.heap) (hfp:∀ b∈fp,upd H0 Dl (.dK []) b=none) (hσ:σ.length=1)
  (fin:∀ (σ':St) (s':Shared),Inv X [] σ' (upd H0 Dl (.dK (dcKV dv ns))) s'→R (.ok .next) s') :
  codeAny (model X.prog X.w) X.A (.compLoop (.DictComp (.Name t kp) (.Constant (.int dv) vj vp) [⟨.Name t tp,iter,[],0⟩] sc pos) 0 (.ref it) (.ref Dl) X.env) R s:=by
 have hf0:∀ b∈fp,b≠Dl∧H0 b=none:=λb hb=>by
  have h1:=hfp b hb
  have hne:b≠Dl:=λz=>by rw [z,qu] at h1;cases h1
  rw [qk hne] at h1
  exact ⟨hne,h1⟩
 refine codeAny_loop rfl (λk s'=>∃ (i:Nat) (σ':St),k=ns.length-i∧i≤ns.length∧Inv X [] σ' (upd H0 Dl (.dK (dcKV dv (ns.take i)))) s'∧tn i s'.heap∧σ'.length=1) ?_
  ns.length ⟨0,σ,by simp,vQ _,I,h0,hσ⟩
 rintro k s1 ⟨i,σ1,rfl,hi,I1,t1,hσ1⟩
 have stat:∀ {o:HO},∀ b∈fp,FpOk X [] (upd H0 Dl o) b:=λb hb=>by
  have hb':b∈X.ex:=by rw [hex];exact hb
  exact ⟨by rw [qk (hf0 b hb).1];exact (hf0 b hb).2,(I.ok.exf b hb').1,λz=>I.ok.exfs b hb' z,.inl hb',(I.ok.exf b hb').2,λp hp=>by rw [hpn] at hp;exact absurd hp (by simp)⟩
 show wpAny _ X.A ((compTurn (.DictComp (.Name t kp) (.Constant (.int dv) vj vp) [⟨.Name t tp,iter,[],0⟩] sc pos) 0 (.ref it) (.ref Dl) X.env).onRaise (λx=>do noteFrame x X.env;theTreesLotGoes x)) _ _ s1
 refine wpAny_noted ?_
 rw [compTurn_dict]
 refine wA (vL (wA ?_))
 by_cases hlt:i<ns.length
 ·obtain ⟨go,yl⟩:=hJ.go Dl (.dK (dcKV dv (ns.take i))) hD0 i (.int ns[i]) (by rw [w5,wD hlt];rfl)
  refine thnF (T'.item X rfl rfl rfl hc i [] s1 σ1 _ _ I1 stat t1 go) λr s2 ⟨u,hr,h2⟩=>?_
  subst hr
  refine wA (thnF h2 λ_ s3 ⟨x,H3,I3,r3,y3,t3,f3⟩=>?_)
  obtain ⟨e3,ex⟩:=yl x H3 y3
  subst e3 ex
  have I3':=I3.pinned stat (T'.obj _ _ t3)
  refine wA (vC (hg _ s3 σ1 _ (.int ns[i]) u (λσ4 H4=>σ4=σ1.set 0 (some (.int ns[i]))∧H4=upd H0 Dl (.dK (dcKV dv (ns.take i)))) I3' r3 ⟨rfl,rfl⟩) (λ_ s4 ⟨σ4,H4,I4,e4,e5⟩=>?_) λ_ _ z=>by rw [hxe] at z;exact z.elim)
  subst e4 e5
  refine wA (wC ?_)
  refine wA (wA (vC (hk _ s4 _ _ (λy H6=>y=.int ns[i]∧H6=upd H0 Dl (.dK (dcKV dv (ns.take i)))) I4 ⟨.int ns[i],by rw [List.getElem?_set_self (by rw [hσ1];decide)],rfl,rfl⟩) (λy' s6 ⟨y,H6,I6,ry,ey,e6⟩=>?_) λ_ _ z=>by rw [hxe] at z;exact z.elim))
  subst ey e6
  refine wA (wo (vC (qd0 (pos:=vp) (j:=vj) _ s6 _ _ (λy H7=>y=.int dv∧H7=upd H0 Dl (.dK (dcKV dv (ns.take i)))) I6 ⟨rfl,rfl⟩) (λz' s7 ⟨y,H7,I7,rz,ey,e7⟩=>?_) λ_ _ z=>by rw [hxe] at z;exact z.elim))
  subst ey e7
  have hlen:=qfj dv (ns.take i)
  rw [wq] at hlen
  refine wA (vL (wo (qdU (k:=.inl ns[i]) (v:=.int dv) I7 qu (by rw [vF];lia) ry rz λs8 I8=>?_)))
  rw [qge] at I8
  have et:dcKV dv (ns.take (i+1))=putK (dcKV dv (ns.take i)) (.inl ns[i]) (.int dv):=by rw [← qdT,List.take_append_getElem]
  refine wC ⟨rfl,ns.length-(i+1),by lia,i+1,_,rfl,hlt,by rw [et];exact I8.unpinned,?_,by rw [List.length_set];exact hσ1⟩
  exact T'.keep _ _ _ t3 λb hb o eo=>(I8.pin (b,o) (wR _ (wR _ (qX hb eo)))).1
 ·have hi':i=ns.length:=by lia
  subst hi'
  have st:=hJ.stop Dl (.dK (dcKV dv (ns.take ns.length))) hD0
  rw [wO] at st
  refine thnF (T'.done X rfl rfl rfl hc ns.length [] s1 σ1 _ _ I1 stat t1 st) λr s2 ⟨hr,I2⟩=>?_
  subst hr
  rw [List.take_length] at I2
  exact wC (fin σ1 s2 I2)
theorem qfl {t:Str} {tp kp vp:Pos} {vj:Nat} {dv:Int} {iter:Expr} {sc:Scope} {m:En→Sr→Res D} (hc:X.calm=true)
  (hi:PE X iter (T m)) (hs:∀ x,foldedSetIterable iter X.env x=pure x) (C':CSc X sc [] [] [t]) (hg:∀ cl C fp s H,PG (compCx X sc cl C ([]++[t]) fp s H) (.Name t tp) (gName 0)) (hk:∀ cl C fp s H,PE (compCx X sc cl C ([]++[t]) fp s H) (.Name t kp) (tVar 0))
  {pins:List (Addr × Obj)} {s:Shared} {σ:St} {H:Hp} {Q:VK} {use:Option (Value→Sem Unit)} {Q':Value→Shared→Prop} (I:Inv X pins σ H s) (hw:T (mDck dv m) σ H Q)
  (fin:∀ (D C:Addr) (H':Hp) (s':Shared) (m:Str→Option Value),s'.heap.Ns C m→C≠X.env.locals→(∀ x c,X.env.cells.lookup x=some c→c≠C)→(H' C=none∧X.s₀.heap.objs.size≤C∧∀ p∈X.pn++pins,p.1≠C)→(∀ h',Heap.SameBut C s'.heap h'→Inv X pins σ H' { s' with heap:=h' })→Q (.ref D) H'→compPost (model X.prog X.w) X.A X.xe use Q' (.ref D) C (.ok .next) s') :
  wpAny (model X.prog X.w) X.A (comprehension (.DictComp (.Name t kp) (.Constant (.int dv) vj vp) [⟨.Name t tp,iter,[],0⟩] sc pos) sc X.env (firstIterPos [⟨.Name t tp,iter,[],0⟩] pos) newDict false (eval iter X.env) use) Q' X.xe s:=by
 obtain ⟨ι,S,ρ,er,st,p⟩:=hw
 dsimp only [mDck] at p
 cases z:m ρ S with
 | no=>rw [z] at p;exact p.elim
 | err=>rw [z] at p;exact p.elim
 | ok dx S1 =>
 rw [z,Res.bind_ok] at p
 split at p
 rotate_left
 ·exact p.elim
 rename_i lg hlg
 split at p
 rotate_left
 ·exact p.elim
 rename_i ns hns
 split at p
 rotate_left
 ·exact p.elim
 rename_i hlz
 have hlz:ns.length<1000:=hlz
 obtain ⟨cl,CL⟩:=qaA (X:=X) (sc:=sc) λx hx hf=>I.ok.has x.1 (C'.frees x hx hf)
 refine wpAny_comprehension_free rfl hs CL.eq C'.kind C'.names ?_
 refine thn (qca (tg:=.Name t tp) hi pins s σ H (λJ H2=>∃ ι2,Stp ι H ι2 H2∧Sto ι2 H2 S1∧SrcI J H2 (ns.map V.int)) I ⟨ι,S,ρ,er,st,?_⟩) λxv s1 h1=>thn h1 λitv s2 h2=>?_
 ·rw [z]
  intro v ι' H' q st' hv
  have hni:lg.1=ns.map .int:=intsOf_eq hns
  cases dx with
  | ref n =>
   obtain ⟨a,rfl,ha⟩:=hv
   cases zn:S1[n]? with
   | none=>simp only [refX,zn] at hlg;cases hlg
   | some so =>
    cases so with
    | lst l =>
     simp only [refX,zn] at hlg
     cases hlg
     obtain ⟨_,xs,hx,dl⟩:=st'.obj n a _ ha zn
     cases (show l=_ from hni)
     cases dens_ints dl
     exact .inl ⟨a,rfl,⟨_,.inl (.inl hx)⟩,ι',q,st',srcL (.inl hx)⟩
    | dic l=>simp only [refX,zn] at hlg;cases hlg
    | dis l=>simp only [refX,zn] at hlg;cases hlg
  | tup l =>
   cases hlg
   obtain ⟨a,xs,rfl,hn,ha,dl⟩:=hv
   cases (show l=_ from hni)
   cases dens_ints dl
   exact .inr ⟨a,rfl,⟨_,.inl (.inl ha)⟩,ι',q,st',srcT ha⟩
  | lst l =>
   cases hlg
   obtain ⟨a,xs,rfl,hn,ha,dl⟩:=hv
   cases (show l=_ from hni)
   cases dens_ints dl
   exact .inl ⟨a,rfl,⟨_,.inl ha⟩,ι',q,st',srcL ha⟩
  | _=>cases hlg
 obtain ⟨it,fp,tn,J,H2,e,I2,T',t2,f2,ι2,q2,st2,hJ⟩:=h2
 subst e
 refine wY ?_
 have hfD:H2 s2.heap.objs.size=none:=I2.hok.fresh (wF _)
 have fpl:∀ b∈fp,b<s2.heap.objs.size:=λb hb=>by
  obtain ⟨o,eo,_⟩:=T'.obj _ _ t2 b hb
  exact wI eo
 have I3:Inv X pins σ (upd H2 s2.heap.objs.size (.dK [])) { s2 with heap:=s2.heap.push { cls:=.type "dict",data:=.dict #[] } } :=
  I2.laid (t':=s2.toks) (λb o e=>wB _ e) (wF _) (qbb s2.heap I2.big)
 have f3:∀ b∈fp,FpOk X pins (upd H2 s2.heap.objs.size (.dK [])) b:=λb hb=>⟨by rw [qk (w6 (fpl b hb))];exact (f2 b hb).1,(f2 b hb).2⟩
 generalize hs3:({ s2 with heap:=s2.heap.push { cls:=.type "dict",data:=.dict #[] } }:Shared)=s3 at I3 ⊢
 have fpl3:∀ b∈fp,b<s3.heap.objs.size:=λb hb=>by
  rw [← hs3]
  show b<(s2.heap.push _).objs.size
  rw [Heap.size_push];exact Nat.lt_succ_of_lt (fpl b hb)
 have t3:tn 0 s3.heap:=T'.keep _ _ _ t2 λb hb o eo=>by rw [← hs3];exact wB _ eo
 refine wpAny_newFunctionEnv C'.nocell (by intro y hy;simp at hy) (λh4 hn4 hs4=>?_) C'.kind
 have keep4:∀ b o,s3.heap.get? b=some o→h4.get? b=some o:=λb o eo=>hs4.extBut b o (w6 (wI eo)) (wB _ eo)
 have I4:=ju (tk:=s3.toks+([]:List (Str × Value)).length) I3 C'.kind C'.nocell CL f3 fpl3 C'.frs hn4 keep4
 have t4:tn 0 h4:=T'.keep _ _ _ t3 λb hb o eo=>keep4 b o eo
 have loop:codeAny (model X.prog X.w) X.A (.compLoop (.DictComp (.Name t kp) (.Constant (.int dv) vj vp) [⟨.Name t tp,iter,[],0⟩] sc pos) 0 (.ref it) (.ref s2.heap.objs.size) (compEnvC sc cl s3.heap.objs.size X.env)) (compPost (model X.prog X.w) X.A X.xe use Q' (.ref s2.heap.objs.size) s3.heap.objs.size) { s3 with heap:=h4,toks:=s3.toks+([]:List (Str × Value)).length }:=by
  refine qfk (X:=compCx X sc cl s3.heap.objs.size ([]++[t]) fp s3 (upd H2 s2.heap.objs.size (.dK []))) (pos:=pos) rfl hc rfl rfl T' (hg _ _ _ _ _) (hk _ _ _ _ _) hfD hJ (by lia) I4 t4 (λb hb=>(f3 b hb).1) (by simp [frS]) λσ' s' J'=>?_
  obtain ⟨H',eH'⟩:∃ H',H'=upd H2 s2.heap.objs.size (.dK (dcKV dv ns)):=⟨_,rfl⟩
  rw [← eH'] at J'
  obtain ⟨m',hn',_⟩:=J'.loc
  refine fin s2.heap.objs.size s3.heap.objs.size H' s' m' hn' (Nat.ne_of_gt I3.lt) (λx c ec ez=>?_) ⟨J'.free,I3.sz,λq hq ez=>by have:=wI (I3.pin q hq).1;rw [ez] at this;exact absurd this (vB _)⟩ (λh5 hs5=>jv I3 f3 J' hs5) ?_
  ·obtain ⟨v,o,eo,_⟩:=I3.cell x c ec
   rw [ez] at eo
   exact absurd (wI eo) (vB _)
  ·subst eH'
   have gg:=Stp.grow (ι:=ι2) hfD (.dK (dcKV dv ns))
   refine p (.ref s2.heap.objs.size) _ _ (q2.trans gg) (st2.grow hfD ⟨qfi dv ns,_,qu,qhf dv ns⟩) ⟨_,rfl,?_⟩
   rw [← st2.len];simp
 exact codeAny_compStart_dict loop (T'.self _ 0 _ _ _ t4 loop)
theorem qfm {t:Str} {tp kp vp:Pos} {vj:Nat} {dv:Int} {iter:Expr} {sc:Scope} {mv:En→Sr→Res D} {i:Nat} {y:Str} {py spos:Pos} (hc:X.calm=true)
  (hi:PE X iter (T mv)) (hs:∀ x,foldedSetIterable iter X.env x=pure x) (C':CSc X sc [] [] [t]) (hg:∀ cl C fp s H,PG (compCx X sc cl C ([]++[t]) fp s H) (.Name t tp) (gName 0)) (hk:∀ cl C fp s H,PE (compCx X sc cl C ([]++[t]) fp s H) (.Name t kp) (tVar 0))
  (hN:X.N.Nodup) (hy:X.N[i]?=some y) (hl:X.env.scope.names.lookup y=some .local) (hsw:swapsWith (.DictComp (.Name t kp) (.Constant (.int dv) vj vp) [⟨.Name t tp,iter,[],0⟩] sc pos) (some (.Name y py)) spos.line X.env=pure true) :
  PS X (.Assign [.Name y py] (.DictComp (.Name t kp) (.Constant (.int dv) vj vp) [⟨.Name t tp,iter,[],0⟩] sc pos) spos) (TSm λρ S=>(mDck dv mv ρ S).bind λd S1=>.ok (.nx (ρ.set i (some d))) S1):=λpins s σ H D I hw=>by
 obtain ⟨ι,S,ρ,er,st,p⟩:=hw
 rw [exec_Assign_Name_used _ _ _ _ hsw]
 refine wA (vL (wA ?_))
 show wpAny _ X.A (do let _ ← comprehension (.DictComp (.Name t kp) (.Constant (.int dv) vj vp) [⟨.Name t tp,iter,[],0⟩] sc pos) sc X.env _ newDict false (eval iter X.env) (some (assign (.Name y py) X.env))) _ _ s
 have hT:T (mDck dv mv) σ H (λv H1=>D.nx (σ.set i (some v)) H1):=⟨ι,S,ρ,er,st,PsF.bind p λa S1 ι1 H1 b s1 st1 ra p1=>p1 ι1 H1 (Stp.refl _ _) st1 _ ((er.mono s1).set ra)⟩
 refine wA (vC (qfl (use:=some (assign (.Name y py) X.env)) (Q':=λ_ s'=>SP X pins D .next s') hc hi hs C' hg hk I hT λDl C H' s' m hn hCL hCc hCx hI q=>?_) (λ_ s' hq=>wC (wC hq)) λ_ _ e=>e)
 show wpAny _ X.A (assign (.Name y py) X.env (.ref Dl)) _ _ _
 have I0:Inv X pins σ H' s':=by
  have:=hI s'.heap (Heap.SameBut.refl ..)
  exact this
 refine wpAny_assign_Name (yR I0 hN hy (.inl hl) (v:=.ref Dl) rfl (λs'' I'' hsb=>?_) (.inr hl))
 obtain ⟨a,sb,ha⟩:=hsb
 have hCa:C≠a:=by
  rcases ha with z | z
  ·rw [z];exact hCL
  ·exact λq=>hCc y a z q.symm
 refine ⟨m,hn.sameBut sb hCa,λh' hs'=>?_⟩
 have I3:=I''.turned (h':=h') (t':=s''.toks) (it:=C) (λb o hb e=>hs'.extBut b o hb e) hCx.1 hCL (.inr hCx.2.1) hCc hCx.2.2
 exact ⟨_,H',I3,q⟩
end
section
variable {X:Cx} {F:Fs} {N:Nat} {pos:Pos}
theorem qi2 (i:Nat) {x:Str} (hN:X.N[i]?=some x:=by rfl) (hv:Vis X.env.scope x:=by first | exact Or.inl rfl | exact Or.inr (Or.inl rfl) | exact Or.inr (Or.inr rfl)) (hd:(x == ("__debug__":Str))=false:=by decide) (hcd:(x == ("__classdict__":Str))=false:=by decide):PE X (.Name x pos) (tVar i):=qdZ hN hv hd hcd
theorem qfn (i:Nat) (dv:Int) {t:Str} {tp kp vp:Pos} {vj:Nat} {iter:Expr} {sc:Scope} {c:CE} {y:Str} {py spos:Pos} (hi:QE X iter (T (ev F c))) (hg:∀ cl C fp s H,PG (compCx X sc cl C ([]++[t]) fp s H) (.Name t tp) (gName 0)) (hk:∀ cl C fp s H,PE (compCx X sc cl C ([]++[t]) fp s H) (.Name t kp) (tVar 0)) (hc:X.calm=true:=by rfl) (hs:∀ x,foldedSetIterable iter X.env x=pure x:=by intro _;rfl) (h:cscB X.env.scope.names X.N sc [] [] [t]=true:=by rfl) (hN:nodupB X.N=true:=by rfl) (hy:X.N[i]?=some y:=by rfl) (hl:X.env.scope.names.lookup y=some .local:=by rfl) (hsw:swapsWith (.DictComp (.Name t kp) (.Constant (.int dv) vj vp) [⟨.Name t tp,iter,[],0⟩] sc pos) (some (.Name y py)) spos.line X.env=pure true:=by rfl) :
  QS X (.Assign [.Name y py] (.DictComp (.Name t kp) (.Constant (.int dv) vj vp) [⟨.Name t tp,iter,[],0⟩] sc pos) spos) (TSm (ex F N (.set (.var i) (.dcK dv c)))):=by
 have e:ex F N (.set (.var i) (.dcK dv c))=λρ S=>(mDck dv (ev F c) ρ S).bind λd S1=>.ok (.nx (ρ.set i (some d))) S1:=by
  funext ρ S
  unfold mDck
  simp only [ex,asg,ev]
  all_goals (cases ev F c ρ S <;> rfl)
 rw [e]
 delta QS;delta QE at hi;exact (qfm hc hi hs (yx h) hg hk (zg hN) hy hl hsw)
end
end R
namespace R
open PySem PySem.Spec L2 SeqAt
open PyProof.Rows hiding St
section
variable {X:Cx} {F:Fs} {pos:Pos}
theorem qfo {ι:List Addr} {H:Hp} {S:Sr} {n:Nat} {l:List D} {v:V} (st:Sto ι H S) (hl:S[n]?=some (.lst l)) (hx:Den ι H (.ref n) v):Den (ι.take n) H (.lst l) v:=by
 obtain ⟨a,rfl,ha⟩:=hx
 obtain ⟨⟨n',en,f⟩,xs,h1,dl⟩:=st.obj n a _ ha hl
 obtain rfl:n'=n:=qR st.nd en ha
 refine ⟨a,xs,rfl,λhm=>?_,.inl h1,Dens.less l f dl⟩
 obtain ⟨j,hj,ej⟩:=List.getElem_of_mem hm
 rw [wq] at hj
 have ej':ι[j]?=some a:=by
  rw [List.getElem_take] at ej
  rw [wD (by lia),ej]
 have:=qR st.nd ej' ha
 lia
theorem qi3 (hu:X.A.units+30<cLine):OpR X (compareOp .NotEq) (G2 λx y S=>ofO ((neFD S x y).map .bl) S):=by
 intro pins s σ H x y v u Q I rx ry h
 obtain ⟨ι,S,dx,dy,st,hx,hy,p⟩:=h
 obtain ⟨d,e,q⟩:=Pst.ofO p st
 obtain ⟨b,eb,rfl⟩:∃ b,neFD S dx dy=some b∧d=.bl b:=by
  cases z:neFD S dx dy with
  | none=>rw [z] at e;cases e
  | some b=>rw [z] at e;cases e;exact ⟨b,rfl,rfl⟩
 have q0:Q (.bl b) H:=q (.bl b) ι H (Stp.refl _ _) st rfl
 have fin:EP X pins σ Q (.bool b) s:=⟨.bl b,H,I,rfl,q0⟩
 clear e p
 unfold neFD at eb
 split at eb
 ·rename_i n
  split at eb
  ·rename_i l hl
   split at eb
   ·rename_i hr
    cases z:eqD 20 (.lst l) dy with
    | none=>rw [z] at eb;cases eb
    | some c =>
     rw [z] at eb;cases eb
     exact (qav (ι:=ι.take n) I 20 X.A (.lst l) dy c x y v u z (qfo st hl hx) (Den.less dy hr hy) rx ry (by lia)).2.1 _ _ _ _ fin
   ·cases eb
  ·cases eb
 ·cases eb
theorem qko {k:Nat} {a b:Expr} {ca cb:CE} (hr:Room k X.A) (ha:QE X a (T (ev F ca))) (hb:QE X b (T (ev F cb))) (hm:behindInMarks .NotEq b=false:=by rfl):QT X (.Compare a [.NotEq] [b] pos) (TB (tst F (.val (.neF ca cb)))):=by
 delta QT;delta QE at ha;delta QE at hb;exact (qes (qi3 (by have:=hr.un;lia)) ha hb hm)
end
end R
namespace RP
open R
def c_0:CF:=⟨1,1,false,.cons (.ret (.and (.isi .int (.var 0)) (.not (.isi .bool (.var 0))))) .nil⟩
def c_1:CF:=⟨3,3,false,.cons (.ret (.and (.call 0 (.cons (.var 0) .nil)) (.chain .le .le (.var 1) (.var 0) (.var 2)))) .nil⟩
def c_2:CF:=⟨2,2,false,.cons (.whileS (.val (.var 1)) (.cons (.set (.tup (.cons (.var 0) (.cons (.var 1) .nil))) (.tup (.cons (.var 1) (.cons (.bin .mod (.var 0) (.var 1)) .nil)))) .nil)) (.cons (.ret (.var 0)) .nil)⟩
def c_3:CF:=⟨2,3,false,.cons (.set (.var 2) (.call 2 (.cons (.blt .abs (.cons (.var 0) .nil)) (.cons (.var 1) .nil)))) (.cons (.ret (.tup (.cons (.bin .fdiv (.var 0) (.var 2)) (.cons (.bin .fdiv (.var 1) (.var 2)) .nil)))) .nil)⟩
def c_4:CF:=⟨2,2,false,.cons (.ret (.cmp .lt (.bin .mul (.idx (.var 0) (.cst (.int 0))) (.idx (.var 1) (.cst (.int 1)))) (.bin .mul (.idx (.var 1) (.cst (.int 0))) (.idx (.var 0) (.cst (.int 1)))))) .nil⟩
def c_5:CF:=⟨1,3,false,.cons (.ifs (.or (.not (.val (.isi .tuple (.var 0)))) (.val (.cmp .ne (.blt .len (.cons (.var 0) .nil)) (.cst (.int 2))))) (.cons (.ret (.cst (.bl false))) .nil) .nil) (.cons (.set (.tup (.cons (.var 1) (.cons (.var 2) .nil))) (.var 0)) (.cons (.ret (.and (.call 6 (.cons (.var 1) .nil)) (.call 7 (.cons (.var 2) (.cons (.blt .len (.cons (.var 1) .nil)) .nil))))) .nil))⟩
def c_6:CF:=⟨1,1,false,.cons (.ifs (.or (.not (.val (.isi .tuple (.var 0)))) (.not (.val (.chain .le .le (.cst (.int 1)) (.blt .len (.cons (.var 0) .nil)) (.cst (.int 12)))))) (.cons (.ret (.cst (.bl false))) .nil) .nil) (.cons (.ret (.gen .all [] 1 (.call 1 (.cons (.var 0) (.cons (.cst (.int 1)) (.cons (.cst (.int 100)) .nil)))) (.var 0) (.seq (.var 0)) .nil)) .nil)⟩
def c_7:CF:=⟨2,2,false,.cons (.ifs (.or (.not (.val (.isi .tuple (.var 0)))) (.val (.cmp .gt (.blt .len (.cons (.var 0) .nil)) (.cst (.int 30))))) (.cons (.ret (.cst (.bl false))) .nil) .nil) (.cons (.ifs (.not (.val (.gen .all [1] 1 (.call 8 (.cons (.var 1) (.cons (.var 0) .nil))) (.var 1) (.seq (.var 0)) .nil))) (.cons (.ret (.cst (.bl false))) .nil) .nil) (.cons (.ret (.call 11 (.cons (.lc false [] 2 (.var 0) (.tup (.cons (.var 0) (.cons (.var 1) .nil))) (.seq (.var 0)) .nil) .nil))) .nil))⟩
def c_8:CF:=⟨2,4,false,.cons (.ifs (.or (.not (.val (.isi .tuple (.var 0)))) (.val (.cmp .ne (.blt .len (.cons (.var 0) .nil)) (.cst (.int 2))))) (.cons (.ret (.cst (.bl false))) .nil) .nil) (.cons (.set (.tup (.cons (.var 2) (.cons (.var 3) .nil))) (.var 0)) (.cons (.ret (.and (.call 9 (.cons (.var 2) (.cons (.var 1) .nil))) (.call 1 (.cons (.var 3) (.cons (.cst (.int 1)) (.cons (.cst (.int 1000000)) .nil)))))) .nil))⟩
def c_9:CF:=⟨2,2,false,.cons (.ret (.and (.call 10 (.cons (.var 0) (.cons (.var 1) .nil))) (.cmp .le (.blt .len (.cons (.var 0) .nil)) (.cst (.int 4))))) .nil⟩
def c_10:CF:=⟨2,2,false,.cons (.ifs (.or (.not (.val (.isi .tuple (.var 0)))) (.not (.val (.var 0)))) (.cons (.ret (.cst (.bl false))) .nil) .nil) (.cons (.ret (.and (.gen .all [1] 1 (.call 1 (.cons (.var 1) (.cons (.cst (.int 0)) (.cons (.bin .sub (.var 0) (.cst (.int 1))) .nil)))) (.var 1) (.seq (.var 0)) .nil) (.call 11 (.cons (.var 0) .nil)))) .nil)⟩
def c_11:CF:=⟨1,1,false,.cons (.ret (.gen .all [] 2 (.cmp .lt (.var 0) (.var 1)) (.tup (.cons (.var 0) (.cons (.var 1) .nil))) (.zip (.var 0) (.slc (.var 0) (.some (.cst (.int 1))) .none)) .nil)) .nil⟩
def c_12:CF:=⟨1,1,false,.cons (.ifs (.not (.val (.call 5 (.cons (.var 0) .nil)))) (.cons (.never) .nil) .nil) .nil⟩
def c_13:CF:=⟨2,2,false,.cons (.ret (.call 1 (.cons (.var 1) (.cons (.cst (.int 0)) (.cons (.bin .sub (.blt .len (.cons (.idx (.var 0) (.cst (.int 0))) .nil)) (.cst (.int 1))) .nil))))) .nil⟩
def c_14:CF:=⟨2,2,false,.cons (.ifs (.not (.val (.call 13 (.cons (.var 0) (.cons (.var 1) .nil))))) (.cons (.never) .nil) .nil) .nil⟩
def c_15:CF:=⟨2,2,false,.cons (.ret (.lc false [1] 1 (.var 1) (.var 1) (.seq (.idx (.var 0) (.cst (.int 1)))) (.cons (.val (.gen .all [0] 1 (.cmp .inn (.var 1) (.var 0)) (.var 1) (.seq (.idx (.var 1) (.cst (.int 0)))) .nil)) .nil))) .nil⟩
def c_16:CF:=⟨1,9,false,.cons (.expr (.call 12 (.cons (.var 0) .nil))) (.cons (.set (.var 1) (.idx (.var 0) (.cst (.int 0)))) (.cons (.set (.var 2) (.rng (some true) (.cons (.blt .len (.cons (.var 1) .nil)) .nil))) (.cons (.set (.var 3) (.lst true .nil)) (.cons (.set (.tup (.cons (.var 4) (.cons (.var 5) .nil))) (.tup (.cons (.tup .nil) (.cons (.tup (.cons (.neg (.cst (.int 1))) (.cons (.cst (.int 1)) .nil))) .nil)))) (.cons (.whileS (.val (.var 2)) (.cons (.set (.var 6) (.call 15 (.cons (.var 0) (.cons (.var 2) .nil)))) (.cons (.set (.var 7) (.call 3 (.cons (.gen .sum [] 2 (.var 1) (.tup (.cons (.var 0) (.cons (.var 1) .nil))) (.seq (.var 6)) .nil) (.cons (.genX .sum [1] 1 (.idx (.var 0) (.var 1)) (.var 1) (.var 2) .nil) .nil)))) (.cons (.ifs (.val (.call 4 (.cons (.var 5) (.cons (.var 7) .nil)))) (.cons (.set (.tup (.cons (.var 4) (.cons (.var 5) .nil))) (.tup (.cons (.blt .tuple (.cons (.var 2) .nil)) (.cons (.var 7) .nil)))) .nil) .nil) (.cons (.set (.var 8) (.call 17 (.cons (.var 1) (.cons (.var 6) (.cons (.var 2) .nil))))) (.cons (.expr (.app (.var 3) (.var 8))) (.cons (.expr (.rem (.var 2) (.idx (.var 8) (.cst (.int 0))))) .nil))))))) (.cons (.ret (.tup (.cons (.blt .tuple (.cons (.var 3) .nil)) (.cons (.var 4) .nil)))) .nil))))))⟩
def c_17:CF:=⟨3,9,false,.cons (.set (.var 3) (.dcK 0 (.var 2))) (.cons (.forS (.tup (.cons (.var 5) (.cons (.var 6) .nil))) (.seq (.var 1)) (.cons (.forS (.var 4) (.seq (.var 5)) (.cons (.augK (.var 3) (.var 4) (.var 6)) .nil)) .nil)) (.cons (.set (.var 7) (.tup (.cons (.idx (.var 2) (.cst (.int 0))) (.cons (.call 3 (.cons (.idk (.var 3) (.idx (.var 2) (.cst (.int 0)))) (.cons (.idx (.var 0) (.idx (.var 2) (.cst (.int 0)))) .nil))) .nil)))) (.cons (.forS (.var 4) (.seq (.slc (.var 2) (.some (.cst (.int 1))) .none)) (.cons (.set (.var 8) (.call 3 (.cons (.idk (.var 3) (.var 4)) (.cons (.idx (.var 0) (.var 4)) .nil)))) (.cons (.ifs (.val (.call 4 (.cons (.var 8) (.cons (.idx (.var 7) (.cst (.int 1))) .nil)))) (.cons (.set (.var 7) (.tup (.cons (.var 4) (.cons (.var 8) .nil)))) .nil) .nil) .nil))) (.cons (.ret (.var 7)) .nil))))⟩
def c_18:CF:=⟨1,7,false,.cons (.set (.tup (.cons (.var 1) (.cons (.var 2) .nil))) (.call 16 (.cons (.var 0) .nil))) (.cons (.set (.var 3) (.dis)) (.cons (.set (.var 4) (.tup (.cons (.cst (.int 0)) (.cons (.cst (.int 1)) .nil)))) (.cons (.forS (.tup (.cons (.var 5) (.cons (.var 6) .nil))) (.seq (.var 1)) (.cons (.ifs (.val (.call 4 (.cons (.var 4) (.cons (.var 6) .nil)))) (.cons (.set (.var 4) (.var 6)) .nil) .nil) (.cons (.set (.sub (.var 3) (.var 5)) (.var 4)) .nil))) (.cons (.ret (.gen .tuple [3] 1 (.idk (.var 0) (.var 1)) (.var 1) (.rng (.cons (.blt .len (.cons (.var 1) .nil)) .nil)) .nil)) .nil))))⟩
def c_19:CF:=⟨2,3,false,.cons (.expr (.call 12 (.cons (.var 0) .nil))) (.cons (.expr (.call 14 (.cons (.var 0) (.cons (.var 1) .nil)))) (.cons (.set (.var 2) (.call 18 (.cons (.var 0) .nil))) (.cons (.ret (.gen .tuple [2,1] 1 (.var 2) (.var 2) (.rng (.cons (.blt .len (.cons (.var 2) .nil)) .nil)) (.cons (.not (.val (.call 4 (.cons (.idx (.var 0) (.var 2)) (.cons (.idx (.var 0) (.var 1)) .nil))))) .nil))) .nil)))⟩
def c_20:CF:=⟨1,1,false,.cons (.ret (.bin .mod (.bin .mul (.bin .mod (.var 0) (.bin .pow (.cst (.int 10)) (.cst (.int 60)))) (.cst (.int 845098040014256830712216258592636193483572396323965406503637))) (.bin .pow (.cst (.int 10)) (.cst (.int 60))))) .nil⟩
def c_21:CF:=⟨2,5,true,.cons (.set (.var 2) (.cst (.int 0))) (.cons (.forS (.var 3) (.seq (.lst false (.cons (.bin .add (.var 1) (.cst (.int 1))) (.cons (.var 1) .nil)))) (.cons (.set (.var 4) (.idx (.bin .add (.slc (.var 0) (.some (.var 3)) (.some (.bin .add (.var 3) (.cst (.int 1))))) (.lst false (.cons (.bin .add (.bin .add (.bin .mul (.cst (.int 5701)) (.var 3)) (.cst (.int 43))) (.bin .mul (.cst (.int 7)) (.idx (.bin .add (.var 0) (.lst false (.cons (.cst (.int 0)) .nil))) (.cst (.int 0))))) .nil))) (.cst (.int 0)))) (.cons (.set (.var 2) (.bin .add (.bin .mul (.var 2) (.bin .pow (.cst (.int 10)) (.cst (.int 60)))) (.call 20 (.cons (.var 4) .nil)))) .nil))) (.cons (.ret (.lst true (.cons (.var 2) .nil))) .nil))⟩
def c_22:CF:=⟨2,3,false,.cons (.set (.tup (.cons (.sub (.var 0) (.cst (.int 0))) (.cons (.var 2) .nil))) (.blt .divmod (.cons (.idx (.var 0) (.cst (.int 0))) (.cons (.var 1) .nil)))) (.cons (.ret (.var 2)) .nil)⟩
def c_23:CF:=⟨2,4,false,.cons (.set (.tup (.cons (.var 2) (.cons (.var 3) .nil))) (.tup (.cons (.blt .abs (.cons (.var 0) .nil)) (.cons (.blt .abs (.cons (.var 1) .nil)) .nil)))) (.cons (.whileS (.val (.cmp .ne (.var 3) (.cst (.int 0)))) (.cons (.set (.tup (.cons (.var 2) (.cons (.var 3) .nil))) (.tup (.cons (.var 3) (.cons (.bin .mod (.var 2) (.var 3)) .nil)))) .nil)) (.cons (.ifs (.val (.cmp .lt (.var 1) (.cst (.int 0)))) (.cons (.set (.var 2) (.bin .sub (.cst (.int 0)) (.var 2))) .nil) .nil) (.cons (.ret (.tup (.cons (.bin .fdiv (.var 0) (.var 2)) (.cons (.bin .fdiv (.var 1) (.var 2)) .nil)))) .nil)))⟩
def c_24:CF:=⟨2,2,false,.cons (.ret (.cmp .lt (.bin .mul (.idx (.var 0) (.cst (.int 0))) (.idx (.var 1) (.cst (.int 1)))) (.bin .mul (.idx (.var 1) (.cst (.int 0))) (.idx (.var 0) (.cst (.int 1)))))) .nil⟩
def c_25:CF:=⟨2,5,false,.cons (.set (.var 2) (.idx (.lst false (.cons (.cst (.int 2)) (.cons (.cst (.int 2)) (.cons (.cst (.int 2)) (.cons (.cst (.int 3)) (.cons (.cst (.int 3)) (.cons (.cst (.int 1)) (.cons (.cst (.int 4)) (.cons (.cst (.int 2)) .nil))))))))) (.call 22 (.cons (.var 0) (.cons (.cst (.int 8)) .nil))))) (.cons (.set (.var 3) (.rng (some true) (.cons (.var 1) .nil))) (.cons (.set (.var 4) (.lc false [3,0] 1 (.popAt (.var 0) (.call 22 (.cons (.var 1) (.cons (.blt .len (.cons (.var 0) .nil)) .nil)))) (.var 2) (.rng (.cons (.blt .min2 (.cons (.var 2) (.cons (.var 1) .nil))) .nil)) .nil)) (.cons (.ret (.blt .tuple (.cons (.blt (.sorted false) (.cons (.var 4) .nil)) .nil))) .nil)))⟩
def c_26:CF:=⟨2,2,false,.cons (.ret (.blt .sum (.cons (.lc false [1] 2 (.var 2) (.tup (.cons (.var 1) (.cons (.var 2) .nil))) (.seq (.idx (.var 0) (.cst (.int 1)))) (.cons (.val (.blt .all (.cons (.lc false [0] 1 (.cmp .inn (.var 1) (.var 0)) (.var 1) (.seq (.var 1)) .nil) .nil))) .nil)) .nil))) .nil⟩
def c_27:CF:=⟨2,2,false,.cons (.ret (.blt .sum (.cons (.lcX false [0] 1 (.idx (.idx (.var 0) (.cst (.int 0))) (.var 1)) (.var 1) (.var 1) .nil) .nil))) .nil⟩
def c_28:CF:=⟨3,6,false,.cons (.set (.var 3) (.cst (.int 0))) (.cons (.forS (.tup (.cons (.var 4) (.cons (.var 5) .nil))) (.seq (.idx (.var 0) (.cst (.int 1)))) (.cons (.ifs (.and (.val (.cmp .inn (.var 2) (.var 4))) (.val (.blt .all (.cons (.lc false [1] 1 (.cmp .inn (.var 1) (.var 0)) (.var 1) (.seq (.var 4)) .nil) .nil)))) (.cons (.set (.var 3) (.bin .add (.var 3) (.var 5))) .nil) .nil) .nil)) (.cons (.ret (.call 23 (.cons (.var 3) (.cons (.idx (.idx (.var 0) (.cst (.int 0))) (.var 2)) .nil)))) .nil))⟩
def c_29:CF:=⟨2,5,false,.cons (.set (.var 2) (.cst .non)) (.cons (.forX (.var 3) (.var 1) (.cons (.set (.var 4) (.call 28 (.cons (.var 0) (.cons (.var 1) (.cons (.var 3) .nil))))) (.cons (.ifs (.or (.val (.cmp .is (.var 2) (.cst .non))) (.val (.call 24 (.cons (.var 4) (.cons (.idx (.var 2) (.cst (.int 1))) .nil))))) (.cons (.set (.var 2) (.tup (.cons (.var 3) (.cons (.var 4) .nil)))) .nil) .nil) .nil))) (.cons (.ret (.var 2)) .nil))⟩
def c_30:CF:=⟨2,2,false,.cons (.ret (.call 23 (.cons (.call 26 (.cons (.var 0) (.cons (.var 1) .nil))) (.cons (.call 27 (.cons (.var 0) (.cons (.var 1) .nil))) .nil)))) .nil⟩
def c_31:CF:=⟨1,4,false,.cons (.set (.var 1) (.rng (some true) (.cons (.blt .len (.cons (.idx (.var 0) (.cst (.int 0))) .nil)) .nil))) (.cons (.set (.var 2) (.lst true .nil)) (.cons (.set (.var 3) (.blt .tuple (.cons (.var 1) .nil))) (.cons (.whileS (.val (.neF (.var 1) (.lst false .nil))) (.cons (.ifs (.val (.call 24 (.cons (.call 30 (.cons (.var 0) (.cons (.var 3) .nil))) (.cons (.call 30 (.cons (.var 0) (.cons (.var 1) .nil))) .nil)))) (.cons (.set (.var 3) (.blt .tuple (.cons (.var 1) .nil))) .nil) .nil) (.cons (.expr (.app (.var 2) (.call 29 (.cons (.var 0) (.cons (.var 1) .nil))))) (.cons (.expr (.rem (.var 1) (.idx (.idx (.var 2) (.neg (.cst (.int 1)))) (.cst (.int 0))))) .nil)))) (.cons (.ret (.tup (.cons (.blt .tuple (.cons (.var 2) .nil)) (.cons (.var 3) .nil)))) .nil))))⟩
def c_32:CF:=⟨2,8,false,.cons (.set (.var 2) (.call 21 (.cons (.var 0) (.cons (.var 1) .nil)))) (.cons (.set (.var 3) (.blt .tuple (.cons (.lc false [2] 1 (.bin .add (.cst (.int 1)) (.call 22 (.cons (.var 0) (.cons (.cst (.int 100)) .nil)))) (.var 1) (.rng (.cons (.cst (.int 12)) .nil)) .nil) .nil))) (.cons (.set (.var 4) (.dic true)) (.cons (.forS (.var 5) (.rng (.cons (.cst (.int 30)) .nil)) (.cons (.set (.var 6) (.call 21 (.cons (.var 0) (.cons (.bin .add (.bin .add (.var 1) (.cst (.int 1))) (.var 5)) .nil)))) (.cons (.set (.var 7) (.call 25 (.cons (.var 6) (.cons (.cst (.int 12)) .nil)))) (.cons (.set (.sub (.var 4) (.var 7)) (.bin .add (.cst (.int 1)) (.call 22 (.cons (.var 6) (.cons (.bin .pow (.cst (.int 10)) (.cst (.int 6))) .nil))))) .nil)))) (.cons (.ret (.tup (.cons (.var 3) (.cons (.blt .tuple (.cons (.lc false [4] 1 (.tup (.cons (.var 1) (.cons (.idx (.var 0) (.var 1)) .nil))) (.var 1) (.seq (.blt (.sorted false) (.cons (.var 4) .nil))) .nil) .nil)) .nil)))) .nil))))⟩
def c_33:CF:=⟨1,5,false,.cons (.set (.var 1) (.call 22 (.cons (.var 0) (.cons (.cst (.int 2)) .nil)))) (.cons (.set (.var 2) (.bin .add (.cst (.int 1)) (.call 22 (.cons (.var 0) (.cons (.bin .mul (.cst (.int 9)) (.bin .pow (.cst (.int 10)) (.cst (.int 5)))) .nil))))) (.cons (.set (.var 3) (.lst true .nil)) (.cons (.forS (.var 4) (.rng (.cons (.cst (.int 11)) .nil)) (.cons (.expr (.app (.var 3) (.tup (.cons (.tup (.cons (.var 4) (.cons (.bin .add (.var 4) (.cst (.int 1))) .nil))) (.cons (.bin .add (.var 2) (.bin .mul (.cst (.int 1000)) (.idx (.lst false (.cons (.var 4) (.cons (.bin .sub (.cst (.int 11)) (.var 4)) .nil))) (.var 1)))) .nil))))) .nil)) (.cons (.ret (.tup (.cons (.bin .mul (.tup (.cons (.bin .add (.cst (.int 1)) (.call 22 (.cons (.var 0) (.cons (.cst (.int 3)) .nil)))) .nil)) (.cst (.int 12))) (.cons (.blt .tuple (.cons (.var 3) .nil)) .nil)))) .nil))))⟩
def c_34:CF:=⟨1,4,false,.cons (.set (.var 1) (.dic true)) (.cons (.forS (.var 2) (.rng (.cons (.cst (.int 9)) .nil)) (.cons (.set (.sub (.var 1) (.tup (.cons (.var 2) (.cons (.bin .add (.var 2) (.cst (.int 1))) (.cons (.bin .add (.var 2) (.cst (.int 2))) (.cons (.bin .add (.var 2) (.cst (.int 3))) .nil)))))) (.bin .add (.cst (.int 1)) (.call 22 (.cons (.var 0) (.cons (.bin .pow (.cst (.int 10)) (.cst (.int 6))) .nil))))) .nil)) (.cons (.set (.var 3) (.blt .tuple (.cons (.lc false [0] 1 (.bin .add (.cst (.int 1)) (.call 22 (.cons (.var 0) (.cons (.cst (.int 100)) .nil)))) (.var 1) (.rng (.cons (.cst (.int 12)) .nil)) .nil) .nil))) (.cons (.ret (.tup (.cons (.var 3) (.cons (.blt .tuple (.cons (.lc false [1] 1 (.tup (.cons (.var 1) (.cons (.idx (.var 0) (.var 1)) .nil))) (.var 1) (.seq (.blt (.sorted false) (.cons (.var 1) .nil))) .nil) .nil)) .nil)))) .nil)))⟩
def c_35:CF:=⟨2,4,false,.cons (.set (.var 2) (.rng (some false) (.cons (.blt .len (.cons (.idx (.var 0) (.cst (.int 0))) .nil)) .nil))) (.cons (.forS (.var 3) (.rng (.cons (.blt .len (.cons (.idx (.var 0) (.cst (.int 0))) .nil)) .nil)) (.cons (.set (.var 2) (.lc false [0,2,1] 1 (.var 3) (.var 3) (.seq (.var 2)) (.cons (.not (.val (.call 24 (.cons (.call 28 (.cons (.var 0) (.cons (.var 1) (.cons (.var 3) .nil)))) (.cons (.var 2) .nil))))) .nil))) .nil)) (.cons (.ret (.blt .tuple (.cons (.var 2) .nil))) .nil))⟩
def c_36:CF:=⟨1,7,false,.cons (.set (.tup (.cons (.var 1) (.cons (.var 2) .nil))) (.call 31 (.cons (.var 0) .nil))) (.cons (.ifs (.val (.cmp .ne (.call 16 (.cons (.var 0) .nil)) (.tup (.cons (.var 1) (.cons (.var 2) .nil))))) (.cons (.ret (.cst (.bl false))) .nil) .nil) (.cons (.set (.var 3) (.tup (.cons (.cst (.int 0)) (.cons (.cst (.int 1)) .nil)))) (.cons (.set (.var 4) (.dis)) (.cons (.forS (.tup (.cons (.var 5) (.cons (.var 6) .nil))) (.seq (.var 1)) (.cons (.ifs (.val (.call 24 (.cons (.var 3) (.cons (.var 6) .nil)))) (.cons (.set (.var 3) (.var 6)) .nil) .nil) (.cons (.set (.sub (.var 4) (.var 5)) (.var 3)) .nil))) (.cons (.ifs (.val (.cmp .ne (.call 18 (.cons (.var 0) .nil)) (.blt .tuple (.cons (.lc false [4] 1 (.idk (.var 0) (.var 1)) (.var 1) (.rng (.cons (.blt .len (.cons (.idx (.var 0) (.cst (.int 0))) .nil)) .nil)) .nil) .nil)))) (.cons (.ret (.cst (.bl false))) .nil) .nil) (.cons (.ret (.blt .all (.cons (.lc false [0,4] 1 (.cmp .eq (.call 19 (.cons (.var 0) (.cons (.var 2) .nil))) (.call 35 (.cons (.var 0) (.cons (.idk (.var 1) (.var 2)) .nil)))) (.var 2) (.rng (.cons (.blt .len (.cons (.idx (.var 0) (.cst (.int 0))) .nil)) .nil)) .nil) .nil))) .nil))))))⟩
def qcU:CF:=⟨1,2,false,.cons (.set (.var 1) (.call 21 (.cons (.var 0) (.cons (.cst (.int 32)) .nil)))) (.cons (.ret (.and (.call 36 (.cons (.call 32 (.cons (.var 0) (.cons (.cst (.int 0)) .nil))) .nil)) (.and (.call 36 (.cons (.call 33 (.cons (.var 1) .nil)) .nil)) (.call 36 (.cons (.call 34 (.cons (.var 1) .nil)) .nil))))) .nil)⟩
noncomputable def prg:List CF:=[c_0,c_1,c_2,c_3,c_4,c_5,c_6,c_7,c_8,c_9,c_10,c_11,c_12,c_13,c_14,c_15,c_16,c_17,c_18,c_19,c_20,c_21,c_22,c_23,c_24,c_25,c_26,c_27,c_28,c_29,c_30,c_31,c_32,c_33,c_34,c_35,c_36,qcU]
end RP
namespace RP
open PySem PySem.Spec L2 SeqAt R
open PyProof.Rows hiding St
noncomputable def top (i:Nat):Stmt:=PySem.Challenge.pw_weblayers_k40_great_webs_stripped.main.body.getD i (.Pass ⟨0,0,0,0⟩)
structure Pre (K:PySem.W.Frag) (mg:Str→Option Value):Prop where
 gb:Gb mg
 g_MOST_COST:∃ t:Tok,mg "MOST_COST"=some (.int 100 t)
 g_MOST_PLACES:∃ t:Tok,mg "MOST_PLACES"=some (.int 12 t)
 g_MOST_PLACES_OF_TIE:∃ t:Tok,mg "MOST_PLACES_OF_TIE"=some (.int 4 t)
 g_MOST_TIES:∃ t:Tok,mg "MOST_TIES"=some (.int 30 t)
 g_MOST_WEIGHT:∃ t:Tok,mg "MOST_WEIGHT"=some (.int 1000000 t)
 u_0:DefIn K mg "is_whole" (top 1) ["thing"]
 u_1:DefIn K mg "is_whole_within" (top 2) ["thing","least","most"]
 u_2:DefIn K mg "common_divisor" (top 3) ["one","other"]
 u_3:DefIn K mg "lowest" (top 4) ["top","bottom"]
 u_4:DefIn K mg "is_less" (top 5) ["one","other"]
 u_5:DefIn K mg "is_web" (top 16) ["thing"]
 u_6:DefIn K mg "are_costs" (top 17) ["thing"]
 u_7:DefIn K mg "are_ties" (top 18) ["thing","many"]
 u_8:DefIn K mg "is_tie" (top 19) ["thing","many"]
 u_9:DefIn K mg "are_tied_places" (top 20) ["thing","many"]
 u_10:DefIn K mg "are_places" (top 21) ["thing","many"]
 u_11:DefIn K mg "is_rising" (top 22) ["things"]
 u_12:DefIn K mg "need_web" (top 23) ["thing"]
 u_13:DefIn K mg "is_place" (top 24) ["web","thing"]
 u_14:DefIn K mg "need_place" (top 25) ["web","thing"]
 u_15:DefIn K mg "ties_within" (top 26) ["web","part"]
 u_16:DefIn K mg "stripped" (top 28) ["web"]
 u_17:DefIn K mg "lightest" (top 29) ["costs","ties","left"]
 u_18:DefIn K mg "cores" (top 31) ["web"]
 u_19:DefIn K mg "core_part" (top 32) ["web","place"]
 u_20:DefIn K mg "_law_mixed" (top 34) ["_law_cell"]
 u_21:DefIn K mg "_law_pack" (top 35) ["_law_script","_law_k"]
 u_22:DefIn K mg "_law_take" (top 36) ["_law_pack_here","_law_size"]
 u_23:DefIn K mg "_law_low" (top 37) ["_law_top","_law_bottom"]
 u_24:DefIn K mg "_law_under" (top 38) ["_law_one","_law_other"]
 u_25:DefIn K mg "_law_places" (top 39) ["_law_pack_here","_law_many"]
 u_26:DefIn K mg "_law_mass" (top 40) ["_law_web","_law_part"]
 u_27:DefIn K mg "_law_price" (top 41) ["_law_web","_law_part"]
 u_28:DefIn K mg "_law_ratio" (top 42) ["_law_web","_law_left_here","_law_place"]
 u_29:DefIn K mg "_law_off" (top 43) ["_law_web","_law_left_here"]
 u_30:DefIn K mg "_law_share" (top 44) ["_law_web","_law_part"]
 u_31:DefIn K mg "_law_strip" (top 45) ["_law_web"]
 u_32:DefIn K mg "_law_great_web" (top 46) ["_law_script","_law_k"]
 u_33:DefIn K mg "_law_path" (top 47) ["_law_pack_here"]
 u_34:DefIn K mg "_law_fours" (top 48) ["_law_pack_here"]
 u_35:DefIn K mg "_law_left" (top 49) ["_law_web","_law_number"]
 u_36:DefIn K mg "_law_right" (top 50) ["_law_web"]
 u_37:DefIn K mg "law" (top 51) ["_law_script"]
structure All (P:Program) (w:World) (K:PySem.W.Frag) (mg:Str→Option Value) (base:Heap) (k:Nat) (F:Fs):Prop where
 h_0:FnAt P w K mg base k F 0 "is_whole" ["thing"]
 h_1:FnAt P w K mg base k F 1 "is_whole_within" ["thing","least","most"]
 h_2:FnAt P w K mg base k F 2 "common_divisor" ["one","other"]
 h_3:FnAt P w K mg base k F 3 "lowest" ["top","bottom"]
 h_4:FnAt P w K mg base k F 4 "is_less" ["one","other"]
 h_5:FnAt P w K mg base k F 5 "is_web" ["thing"]
 h_6:FnAt P w K mg base k F 6 "are_costs" ["thing"]
 h_7:FnAt P w K mg base k F 7 "are_ties" ["thing","many"]
 h_8:FnAt P w K mg base k F 8 "is_tie" ["thing","many"]
 h_9:FnAt P w K mg base k F 9 "are_tied_places" ["thing","many"]
 h_10:FnAt P w K mg base k F 10 "are_places" ["thing","many"]
 h_11:FnAt P w K mg base k F 11 "is_rising" ["things"]
 h_12:FnAt P w K mg base k F 12 "need_web" ["thing"]
 h_13:FnAt P w K mg base k F 13 "is_place" ["web","thing"]
 h_14:FnAt P w K mg base k F 14 "need_place" ["web","thing"]
 h_15:FnAt P w K mg base k F 15 "ties_within" ["web","part"]
 h_16:FnAt P w K mg base k F 16 "stripped" ["web"]
 h_17:FnAt P w K mg base k F 17 "lightest" ["costs","ties","left"]
 h_18:FnAt P w K mg base k F 18 "cores" ["web"]
 h_19:FnAt P w K mg base k F 19 "core_part" ["web","place"]
 h_20:FnAt P w K mg base k F 20 "_law_mixed" ["_law_cell"]
 h_21:FnAt P w K mg base k F 21 "_law_pack" ["_law_script","_law_k"]
 h_22:FnAt P w K mg base k F 22 "_law_take" ["_law_pack_here","_law_size"]
 h_23:FnAt P w K mg base k F 23 "_law_low" ["_law_top","_law_bottom"]
 h_24:FnAt P w K mg base k F 24 "_law_under" ["_law_one","_law_other"]
 h_25:FnAt P w K mg base k F 25 "_law_places" ["_law_pack_here","_law_many"]
 h_26:FnAt P w K mg base k F 26 "_law_mass" ["_law_web","_law_part"]
 h_27:FnAt P w K mg base k F 27 "_law_price" ["_law_web","_law_part"]
 h_28:FnAt P w K mg base k F 28 "_law_ratio" ["_law_web","_law_left_here","_law_place"]
 h_29:FnAt P w K mg base k F 29 "_law_off" ["_law_web","_law_left_here"]
 h_30:FnAt P w K mg base k F 30 "_law_share" ["_law_web","_law_part"]
 h_31:FnAt P w K mg base k F 31 "_law_strip" ["_law_web"]
 h_32:FnAt P w K mg base k F 32 "_law_great_web" ["_law_script","_law_k"]
 h_33:FnAt P w K mg base k F 33 "_law_path" ["_law_pack_here"]
 h_34:FnAt P w K mg base k F 34 "_law_fours" ["_law_pack_here"]
 h_35:FnAt P w K mg base k F 35 "_law_left" ["_law_web","_law_number"]
 h_36:FnAt P w K mg base k F 36 "_law_right" ["_law_web"]
 h_37:FnAt P w K mg base k F 37 "law" ["_law_script"]
theorem sc_0:FnScope ["thing"] ["thing"] (defScope (top 1)):=⟨rfl,rfl,rfl,by decide +kernel,rfl,by decide +kernel,by decide +kernel⟩
theorem sc_1:FnScope ["thing","least","most"] ["thing","least","most"] (defScope (top 2)):=⟨rfl,rfl,rfl,by decide +kernel,rfl,by decide +kernel,by decide +kernel⟩
theorem sc_2:FnScope ["one","other"] ["one","other"] (defScope (top 3)):=⟨rfl,rfl,rfl,by decide +kernel,rfl,by decide +kernel,by decide +kernel⟩
theorem sc_3:FnScope ["top","bottom","divisor"] ["top","bottom"] (defScope (top 4)):=⟨rfl,rfl,rfl,by decide +kernel,rfl,by decide +kernel,by decide +kernel⟩
theorem sc_4:FnScope ["one","other"] ["one","other"] (defScope (top 5)):=⟨rfl,rfl,rfl,by decide +kernel,rfl,by decide +kernel,by decide +kernel⟩
theorem sc_5:FnScope ["thing","costs","ties"] ["thing"] (defScope (top 16)):=⟨rfl,rfl,rfl,by decide +kernel,rfl,by decide +kernel,by decide +kernel⟩
theorem sc_6:FnScope ["thing"] ["thing"] (defScope (top 17)):=⟨rfl,rfl,rfl,by decide +kernel,rfl,by decide +kernel,by decide +kernel⟩
theorem sc_7:FnScope ["thing","many"] ["thing","many"] (defScope (top 18)):=⟨rfl,rfl,rfl,by decide +kernel,rfl,by decide +kernel,by decide +kernel⟩
theorem sc_8:FnScope ["thing","many","places","heavy"] ["thing","many"] (defScope (top 19)):=⟨rfl,rfl,rfl,by decide +kernel,rfl,by decide +kernel,by decide +kernel⟩
theorem sc_9:FnScope ["thing","many"] ["thing","many"] (defScope (top 20)):=⟨rfl,rfl,rfl,by decide +kernel,rfl,by decide +kernel,by decide +kernel⟩
theorem sc_10:FnScope ["thing","many"] ["thing","many"] (defScope (top 21)):=⟨rfl,rfl,rfl,by decide +kernel,rfl,by decide +kernel,by decide +kernel⟩
theorem sc_11:FnScope ["things"] ["things"] (defScope (top 22)):=⟨rfl,rfl,rfl,by decide +kernel,rfl,by decide +kernel,by decide +kernel⟩
theorem sc_12:FnScope ["thing"] ["thing"] (defScope (top 23)):=⟨rfl,rfl,rfl,by decide +kernel,rfl,by decide +kernel,by decide +kernel⟩
theorem sc_13:FnScope ["web","thing"] ["web","thing"] (defScope (top 24)):=⟨rfl,rfl,rfl,by decide +kernel,rfl,by decide +kernel,by decide +kernel⟩
theorem sc_14:FnScope ["web","thing"] ["web","thing"] (defScope (top 25)):=⟨rfl,rfl,rfl,by decide +kernel,rfl,by decide +kernel,by decide +kernel⟩
theorem sc_15:FnScope ["web","part"] ["web","part"] (defScope (top 26)):=⟨rfl,rfl,rfl,by decide +kernel,rfl,by decide +kernel,by decide +kernel⟩
theorem sc_16:FnScope ["web","costs","left","order","part","most","ties","dense","taken"] ["web"] (defScope (top 28)):=⟨rfl,rfl,rfl,by decide +kernel,rfl,by decide +kernel,by decide +kernel⟩
theorem sc_17:FnScope ["costs","ties","left","degrees","place","places","heavy","least","number"] ["costs","ties","left"] (defScope (top 29)):=⟨rfl,rfl,rfl,by decide +kernel,rfl,by decide +kernel,by decide +kernel⟩
theorem sc_18:FnScope ["web","order","part","reached","most","place","number"] ["web"] (defScope (top 31)):=⟨rfl,rfl,rfl,by decide +kernel,rfl,by decide +kernel,by decide +kernel⟩
theorem sc_19:FnScope ["web","place","told"] ["web","place"] (defScope (top 32)):=⟨rfl,rfl,rfl,by decide +kernel,rfl,by decide +kernel,by decide +kernel⟩
theorem sc_20:FnScope ["_law_cell"] ["_law_cell"] (defScope (top 34)):=⟨rfl,rfl,rfl,by decide +kernel,rfl,by decide +kernel,by decide +kernel⟩
theorem sc_21:FnScope ["_law_script","_law_k","_law_found","_law_at","_law_cell"] ["_law_script","_law_k"] (defScope (top 35)):=⟨rfl,rfl,rfl,by decide +kernel,rfl,by decide +kernel,by decide +kernel⟩
theorem sc_22:FnScope ["_law_pack_here","_law_size","_law_digit"] ["_law_pack_here","_law_size"] (defScope (top 36)):=⟨rfl,rfl,rfl,by decide +kernel,rfl,by decide +kernel,by decide +kernel⟩
theorem sc_23:FnScope ["_law_top","_law_bottom","_law_one","_law_other"] ["_law_top","_law_bottom"] (defScope (top 37)):=⟨rfl,rfl,rfl,by decide +kernel,rfl,by decide +kernel,by decide +kernel⟩
theorem sc_24:FnScope ["_law_one","_law_other"] ["_law_one","_law_other"] (defScope (top 38)):=⟨rfl,rfl,rfl,by decide +kernel,rfl,by decide +kernel,by decide +kernel⟩
theorem sc_25:FnScope ["_law_pack_here","_law_many","_law_size","_law_left_here","_law_found"] ["_law_pack_here","_law_many"] (defScope (top 39)):=⟨rfl,rfl,rfl,by decide +kernel,rfl,by decide +kernel,by decide +kernel⟩
theorem sc_26:FnScope ["_law_web","_law_part"] ["_law_web","_law_part"] (defScope (top 40)):=⟨rfl,rfl,rfl,by decide +kernel,rfl,by decide +kernel,by decide +kernel⟩
theorem sc_27:FnScope ["_law_web","_law_part"] ["_law_web","_law_part"] (defScope (top 41)):=⟨rfl,rfl,rfl,by decide +kernel,rfl,by decide +kernel,by decide +kernel⟩
theorem sc_28:FnScope ["_law_web","_law_left_here","_law_place","_law_found","_law_some","_law_mass_here"] ["_law_web","_law_left_here","_law_place"] (defScope (top 42)):=⟨rfl,rfl,rfl,by decide +kernel,rfl,by decide +kernel,by decide +kernel⟩
theorem sc_29:FnScope ["_law_web","_law_left_here","_law_found","_law_place","_law_told"] ["_law_web","_law_left_here"] (defScope (top 43)):=⟨rfl,rfl,rfl,by decide +kernel,rfl,by decide +kernel,by decide +kernel⟩
theorem sc_30:FnScope ["_law_web","_law_part"] ["_law_web","_law_part"] (defScope (top 44)):=⟨rfl,rfl,rfl,by decide +kernel,rfl,by decide +kernel,by decide +kernel⟩
theorem sc_31:FnScope ["_law_web","_law_left_here","_law_order","_law_best_part"] ["_law_web"] (defScope (top 45)):=⟨rfl,rfl,rfl,by decide +kernel,rfl,by decide +kernel,by decide +kernel⟩
theorem sc_32:FnScope ["_law_script","_law_k","_law_pack_here","_law_costs","_law_known","_law_turn","_law_more","_law_some"] ["_law_script","_law_k"] (defScope (top 46)):=⟨rfl,rfl,rfl,by decide +kernel,rfl,by decide +kernel,by decide +kernel⟩
theorem sc_33:FnScope ["_law_pack_here","_law_falling","_law_first","_law_ties","_law_k"] ["_law_pack_here"] (defScope (top 47)):=⟨rfl,rfl,rfl,by decide +kernel,rfl,by decide +kernel,by decide +kernel⟩
theorem sc_34:FnScope ["_law_pack_here","_law_known","_law_k","_law_costs"] ["_law_pack_here"] (defScope (top 48)):=⟨rfl,rfl,rfl,by decide +kernel,rfl,by decide +kernel,by decide +kernel⟩
theorem sc_35:FnScope ["_law_web","_law_number","_law_left_here","_law_turn"] ["_law_web","_law_number"] (defScope (top 49)):=⟨rfl,rfl,rfl,by decide +kernel,rfl,by decide +kernel,by decide +kernel⟩
theorem sc_36:FnScope ["_law_web","_law_order","_law_part","_law_most","_law_known","_law_place","_law_told"] ["_law_web"] (defScope (top 50)):=⟨rfl,rfl,rfl,by decide +kernel,rfl,by decide +kernel,by decide +kernel⟩
theorem sc_37:FnScope ["_law_script","_law_pack_here"] ["_law_script"] (defScope (top 51)):=⟨rfl,rfl,rfl,by decide +kernel,rfl,by decide +kernel,by decide +kernel⟩
section
variable {P:Program} {w:World} {K:PySem.W.Frag} {mg:Str→Option Value} {base:Heap} {k n:Nat} {F:Fs} {f c t:Addr} {A:Around} {outer:List Env} {s:Shared} {H:Hp} {E:XK}
noncomputable abbrev Bdy (P:Program) (w:World) (K:PySem.W.Frag) (mg:Str→Option Value) (base:Heap) (n:Nat) (F:Fs) (f c:Addr) (A:Around) (outer:List Env) (s:Shared) (H:Hp) (E:XK) (N:List Str) (x:Str) (i:Nat) (b:CSs):Prop:=QSs (cxOf CX0 P w K mg base N x (defScope (top i)) f (.ref c) A outer s H E).nox (defBody (top i)) (TSm (exs F n b))
noncomputable abbrev Rm (k:Nat) (A:Around) (s:Shared) (f c:Addr) (x:Str) (i:Nat):Prop:=Room (k+2) (A.deeper (envOfC x (defScope (top i)) s.heap.objs.size f (.ref c)))
variable (p:Pre K mg) (a:All P w K mg base k F) (tab:codeTab K c t=true)
include p a tab
theorem b_0 (hr:Rm k A s f c "is_whole" 1):Bdy P w K mg base n F f c A outer s H E ["thing"] "is_whole" 1 c_0.body :=
 qd (qw (y7 (jC .int p.gb (qc 0)) (yw (qkf (jC .bool p.gb (qc 0)))))) qh
theorem b_1 (hr:Rm k A s f c "is_whole_within" 2):Bdy P w K mg base n F f c A outer s H E ["thing","least","most"] "is_whole_within" 2 c_1.body :=
 qd (qw (y7 (qi a.h_0 (m2 hr) (qb (qc 0) qf)) (yw (qg6 .le .le hr (qc 1) (qc 0) (qc 2))))) qh
theorem b_2 (hr:Rm k A s f c "common_divisor" 3):Bdy P w K mg base n F f c A outer s H E ["one","other"] "common_divisor" 3 c_2.body :=
 qd (jd (qU (qc 1)) (qd (qcR 0 1 (qb (qc 1) (qb (qp .mod (qc 0) (qc 1)) qf))) qh)) (qd (qw (qc 0)) qh)
theorem b_3 (hr:Rm k A s f c "lowest" 4):Bdy P w K mg base n F f c A outer s H E ["top","bottom","divisor"] "lowest" 4 c_3.body :=
 qd (qv 2 (qi a.h_2 (m2 hr) (qb (qfc p.gb (qb (qc 0) qf)) (qb (qc 1) qf)))) (qd (qw (qT (qb (qp .fdiv (qc 0) (qc 2)) (qb (qp .fdiv (qc 1) (qc 2)) qf)))) qh)
theorem b_4 (hr:Rm k A s f c "is_less" 5):Bdy P w K mg base n F f c A outer s H E ["one","other"] "is_less" 5 c_4.body :=
 qd (qw (y6 .lt hr (qp .mul (qz hr (qc 0) qg) (qz hr (qc 1) qg)) (qp .mul (qz hr (qc 1) qg) (qz hr (qc 0) qg)))) qh
theorem b_5 (hr:Rm k A s f c "is_web" 16):Bdy P w K mg base n F f c A outer s H E ["thing","costs","ties"] "is_web" 16 c_5.body :=
 qd (z_if (Qpt (w_or (zN (qU (jC .tuple p.gb (qc 0)))) (qag (yH .ne hr (zo p.gb (qb (qc 0) qf)) qg)))) (qd (qw zW) qh) qh) (qd (yp (qc 0) (zy (qD (ql 1) (qD (ql 2) zx)))) (qd (qw (y7 (qi a.h_6 (m2 hr) (qb (qc 1) qf)) (yw (qi a.h_7 (m2 hr) (qb (qc 2) (qb (zo p.gb (qb (qc 1) qf)) qf)))))) qh))
theorem b_6 (hr:Rm k A s f c "are_costs" 17):Bdy P w K mg base n F f c A outer s H E ["thing"] "are_costs" 17 c_6.body :=
 qd (z_if (Qpt (w_or (zN (qU (jC .tuple p.gb (qc 0)))) (qag (zN (qg7 .le .le hr qg (zo p.gb (qb (qc 0) qf)) (jA (p.g_MOST_PLACES).choose_spec)))))) (qd (qw zW) qh) qh) (qd (qw (jD [] [] ["one"] hr p.gb rfl tab (za (qc 0)) (λ_ _ _ _ _ _ _ _=>ql 0) (λ_ _ _ _ _ _ _ _=>qQ) (λ_ _ _ _ _ _ _ _=>qi a.h_1 (m1 (qW hr)) (qb (qc 0) (qb qg (qb (jA (p.g_MOST_COST).choose_spec) qf)))))) qh)
theorem b_7 (hr:Rm k A s f c "are_ties" 18):Bdy P w K mg base n F f c A outer s H E ["thing","many"] "are_ties" 18 c_7.body :=
 qd (z_if (Qpt (w_or (zN (qU (jC .tuple p.gb (qc 0)))) (qag (yH .gt hr (zo p.gb (qb (qc 0) qf)) (jA (p.g_MOST_TIES).choose_spec))))) (qd (qw zW) qh) qh) (qd (z_if (zN (qU (jD [1] ["many"] ["one"] hr p.gb rfl tab (za (qc 0)) (λ_ _ _ _ _ _ _ _=>ql 1) (λ_ _ _ _ _ _ _ _=>qQ) (λ_ _ _ _ _ _ _ _=>qi a.h_8 (m1 (qW hr)) (qb (qc 1) (qb (qc 0) qf)))))) (qd (qw zW) qh) qh) (qd (qw (qi a.h_11 (m2 hr) (qb (k_lc false [] [] ["places","heavy"] (za (qc 0)) (λ_ _ _ _ _=>zy (qD (ql 0) (qD (ql 1) zx))) (λ_ _ _ _ _=>qQ) (λ_ _ _ _ _=>qc 0)) qf))) qh))
theorem b_8 (hr:Rm k A s f c "is_tie" 19):Bdy P w K mg base n F f c A outer s H E ["thing","many","places","heavy"] "is_tie" 19 c_8.body :=
 qd (z_if (Qpt (w_or (zN (qU (jC .tuple p.gb (qc 0)))) (qag (yH .ne hr (zo p.gb (qb (qc 0) qf)) qg)))) (qd (qw zW) qh) qh) (qd (yp (qc 0) (zy (qD (ql 2) (qD (ql 3) zx)))) (qd (qw (y7 (qi a.h_9 (m2 hr) (qb (qc 2) (qb (qc 1) qf))) (yw (qi a.h_1 (m2 hr) (qb (qc 3) (qb qg (qb (jA (p.g_MOST_WEIGHT).choose_spec) qf))))))) qh))
theorem b_9 (hr:Rm k A s f c "are_tied_places" 20):Bdy P w K mg base n F f c A outer s H E ["thing","many"] "are_tied_places" 20 c_9.body :=
 qd (qw (y7 (qi a.h_10 (m2 hr) (qb (qc 0) (qb (qc 1) qf))) (yw (y6 .le hr (zo p.gb (qb (qc 0) qf)) (jA (p.g_MOST_PLACES_OF_TIE).choose_spec))))) qh
theorem b_10 (hr:Rm k A s f c "are_places" 21):Bdy P w K mg base n F f c A outer s H E ["thing","many"] "are_places" 21 c_10.body :=
 qd (z_if (Qpt (w_or (zN (qU (jC .tuple p.gb (qc 0)))) (qag (zN (qU (qc 0)))))) (qd (qw zW) qh) qh) (qd (qw (y7 (jD [1] ["many"] ["one"] hr p.gb rfl tab (za (qc 0)) (λ_ _ _ _ _ _ _ _=>ql 1) (λ_ _ _ _ _ _ _ _=>qQ) (λ_ _ _ _ _ _ _ _=>qi a.h_1 (m1 (qW hr)) (qb (qc 1) (qb qg (qb (qp .sub (qc 0) qg) qf))))) (yw (qi a.h_11 (m2 hr) (qb (qc 0) qf))))) qh)
theorem b_11 (hr:Rm k A s f c "is_rising" 22):Bdy P w K mg base n F f c A outer s H E ["things"] "is_rising" 22 c_11.body :=
 qd (qw (jD [] [] ["one","other"] hr p.gb rfl tab (qkj p.gb (qc 0) (qe9 (qc 0) (k_os qg) (k_on))) (λ_ _ _ _ _ _ _ _=>zy (qD (ql 0) (qD (ql 1) zx))) (λ_ _ _ _ _ _ _ _=>qQ) (λ_ _ _ _ _ _ _ _=>y6 .lt (qW hr) (qc 0) (qc 1)))) qh
theorem b_12 (hr:Rm k A s f c "need_web" 23):Bdy P w K mg base n F f c A outer s H E ["thing"] "need_web" 23 c_12.body :=
 qd (z_if (zN (qU (qi a.h_5 (m2 hr) (qb (qc 0) qf)))) (qd (qcQ) qh) qh) qh
theorem b_13 (hr:Rm k A s f c "is_place" 24):Bdy P w K mg base n F f c A outer s H E ["web","thing"] "is_place" 24 c_13.body :=
 qd (qw (qi a.h_1 (m2 hr) (qb (qc 1) (qb qg (qb (qp .sub (zo p.gb (qb (qz hr (qc 0) qg) qf)) qg) qf))))) qh
theorem b_14 (hr:Rm k A s f c "need_place" 25):Bdy P w K mg base n F f c A outer s H E ["web","thing"] "need_place" 25 c_14.body :=
 qd (z_if (zN (qU (qi a.h_13 (m2 hr) (qb (qc 0) (qb (qc 1) qf))))) (qd (qcQ) qh) qh) qh
theorem b_15 (hr:Rm k A s f c "ties_within" 26):Bdy P w K mg base n F f c A outer s H E ["web","part"] "ties_within" 26 c_15.body :=
 qd (qw (k_lc false [1] ["part"] ["tie"] (za (qz hr (qc 0) qg)) (λ_ _ _ _ _=>ql 1) (λ_ _ _ _ _=>qaM (qU (jD [0] ["part"] ["place"] hr p.gb rfl tab (za (qz hr (qc 1) qg)) (λ_ _ _ _ _ _ _ _=>ql 1) (λ_ _ _ _ _ _ _ _=>qQ) (λ_ _ _ _ _ _ _ _=>y6 .inn (qW hr) (qc 1) (qc 0)))) qQ) (λ_ _ _ _ _=>qc 1))) qh
theorem b_16 (hr:Rm k A s f c "stripped" 28):Bdy P w K mg base n F f c A outer s H E ["web","costs","left","order","part","most","ties","dense","taken"] "stripped" 28 c_16.body :=
 qd (zY (qi a.h_12 (m2 hr) (qb (qc 0) qf))) (qd (qv 1 (qz hr (qc 0) qg)) (qd (qv 2 (qaL true p.gb (qb (zo p.gb (qb (qc 1) qf)) qf))) (qd (qv 3 (yo true qf)) (qd (yp (qT (qb (qT qf) (qb (qT (qb (qhD qg) (qb qg qf))) qf))) (zy (qD (ql 4) (qD (ql 5) zx)))) (qd (jd (qU (qc 2)) (qd (qv 6 (qi a.h_15 (m2 hr) (qb (qc 0) (qb (qc 2) qf)))) (qd (qv 7 (qi a.h_3 (m2 hr) (qb (qiN [] [] ["places","heavy"] hr p.gb rfl tab (za (qc 6)) (λ_ _ _ _ _ _ _ _=>zy (qD (ql 0) (qD (ql 1) zx))) (λ_ _ _ _ _ _ _ _=>qQ) (λ_ _ _ _ _ _ _ _=>qc 1)) (qb (qhe [1] ["costs"] ["place"] hr p.gb rfl tab (qc 2) (λ_ _ _ _ _ _ _ _=>ql 1) (λ_ _ _ _ _ _ _ _=>qQ) (λ_ _ _ _ _ _ _ _=>qz (qW hr) (qc 0) (qc 1))) qf)))) (qd (z_if (qU (qi a.h_4 (m2 hr) (qb (qc 5) (qb (qc 7) qf)))) (qd (qcR 4 5 (qb (qS p.gb (qb (qc 2) qf)) (qb (qc 7) qf))) qh) qh) (qd (qv 8 (qi a.h_17 (m2 hr) (qb (qc 1) (qb (qc 6) (qb (qc 2) qf))))) (qd (zY (qe8 (qc 3) (qc 8))) (qd (zY (qhI (qc 2) (qz hr (qc 8) qg))) qh))))))) (qd (qw (qT (qb (qS p.gb (qb (qc 3) qf)) (qb (qc 4) qf)))) qh))))))
theorem b_17 (hr:Rm k A s f c "lightest" 29):Bdy P w K mg base n F f c A outer s H E ["costs","ties","left","degrees","place","places","heavy","least","number"] "lightest" 29 c_17.body :=
 qd (qfn 3 0 (qc 2) (λ_ _ _ _ _=>qiZ 0) (λ_ _ _ _ _=>qi2 0)) (qd (zZ (za (qc 1)) (zy (qD (ql 5) (qD (ql 6) zx))) (qd (zZ (za (qc 5)) (ql 4) (qd (qi1 (m2 hr) (qc 3) (qc 4) (qc 6)) qh)) qh)) (qd (qv 7 (qT (qb (qz hr (qc 2) qg) (qb (qi a.h_3 (m2 hr) (qb (qbz hr (qc 3) (qz hr (qc 2) qg)) (qb (qz hr (qc 0) (qz hr (qc 2) qg)) qf))) qf)))) (qd (zZ (za (qe9 (qc 2) (k_os qg) (k_on))) (ql 4) (qd (qv 8 (qi a.h_3 (m2 hr) (qb (qbz hr (qc 3) (qc 4)) (qb (qz hr (qc 0) (qc 4)) qf)))) (qd (z_if (qU (qi a.h_4 (m2 hr) (qb (qc 8) (qb (qz hr (qc 7) qg) qf)))) (qd (qv 7 (qT (qb (qc 4) (qb (qc 8) qf)))) qh) qh) qh))) (qd (qw (qc 7)) qh))))
theorem b_18 (hr:Rm k A s f c "cores" 31):Bdy P w K mg base n F f c A outer s H E ["web","order","part","reached","most","place","number"] "cores" 31 c_18.body :=
 qd (yp (qi a.h_16 (m2 hr) (qb (qc 0) qf)) (zy (qD (ql 1) (qD (ql 2) zx)))) (qd (qv 3 (qhH)) (qd (qv 4 (qT (qb qg (qb qg qf)))) (qd (zZ (za (qc 1)) (zy (qD (ql 5) (qD (ql 6) zx))) (qd (z_if (qU (qi a.h_4 (m2 hr) (qb (qc 4) (qb (qc 6) qf)))) (qd (qv 4 (qc 6)) qh) qh) (qd (yp (qc 4) (qbx hr (qc 3) (qc 5))) qh))) (qd (qw (qby [3] ["reached"] ["place"] hr p.gb rfl tab (zX p.gb (qb (zo p.gb (qb (qc 1) qf)) qf)) (λ_ _ _ _ _ _ _ _=>ql 1) (λ_ _ _ _ _ _ _ _=>qQ) (λ_ _ _ _ _ _ _ _=>qbz (qW hr) (qc 0) (qc 1)))) qh))))
theorem b_19 (hr:Rm k A s f c "core_part" 32):Bdy P w K mg base n F f c A outer s H E ["web","place","told"] "core_part" 32 c_19.body :=
 qd (zY (qi a.h_12 (m2 hr) (qb (qc 0) qf))) (qd (zY (qi a.h_14 (m2 hr) (qb (qc 0) (qb (qc 1) qf)))) (qd (qv 2 (qi a.h_18 (m2 hr) (qb (qc 0) qf))) (qd (qw (qby [2,1] ["told","place"] ["other"] hr p.gb rfl tab (zX p.gb (qb (zo p.gb (qb (qc 2) qf)) qf)) (λ_ _ _ _ _ _ _ _=>ql 2) (λ_ _ _ _ _ _ _ _=>qaM (zN (qU (qi a.h_4 (m1 (qW hr)) (qb (qz (qW hr) (qc 0) (qc 2)) (qb (qz (qW hr) (qc 0) (qc 1)) qf))))) qQ) (λ_ _ _ _ _ _ _ _=>qc 2))) qh)))
theorem b_20 (hr:Rm k A s f c "_law_mixed" 34):Bdy P w K mg base n F f c A outer s H E ["_law_cell"] "_law_mixed" 34 c_20.body :=
 qd (qw (qp .mod (qp .mul (qp .mod (qc 0) (qp .pow qg qg)) qg) (qp .pow qg qg))) qh
theorem b_21 (hr:Rm k A s f c "_law_pack" 35):Bdy P w K mg base n F f c A outer s H E ["_law_script","_law_k","_law_found","_law_at","_law_cell"] "_law_pack" 35 c_21.body :=
 qd (qv 2 qg) (qd (zZ (za (yo false (qb (qp .add (qc 1) qg) (qb (qc 1) qf)))) (ql 3) (qd (qv 4 (qz hr (qp .add (qe9 (qc 0) (k_os (qc 3)) (k_os (qp .add (qc 3) qg))) (yo false (qb (qp .add (qp .add (qp .mul qg (qc 3)) qg) (qp .mul qg (qz hr (qp .add (qc 0) (yo false (qb qg qf))) qg))) qf))) qg)) (qd (qv 2 (qp .add (qp .mul (qc 2) (qp .pow qg qg)) (qi a.h_20 (m2 hr) (qb (qc 4) qf)))) qh))) (qd (qw (yo true (qb (qc 2) qf))) qh))
theorem b_22 (hr:Rm k A s f c "_law_take" 36):Bdy P w K mg base n F f c A outer s H E ["_law_pack_here","_law_size","_law_digit"] "_law_take" 36 c_22.body :=
 qd (yp (qfd p.gb (qb (qz hr (qc 0) qg) (qb (qc 1) qf))) (zy (qD (qbx hr (qc 0) qg) (qD (ql 2) zx)))) (qd (qw (qc 2)) qh)
theorem b_23 (hr:Rm k A s f c "_law_low" 37):Bdy P w K mg base n F f c A outer s H E ["_law_top","_law_bottom","_law_one","_law_other"] "_law_low" 37 c_23.body :=
 qd (qcR 2 3 (qb (qfc p.gb (qb (qc 0) qf)) (qb (qfc p.gb (qb (qc 1) qf)) qf))) (qd (jd (yH .ne hr (qc 3) qg) (qd (qcR 2 3 (qb (qc 3) (qb (qp .mod (qc 2) (qc 3)) qf))) qh)) (qd (z_if (yH .lt hr (qc 1) qg) (qd (qv 2 (qp .sub qg (qc 2))) qh) qh) (qd (qw (qT (qb (qp .fdiv (qc 0) (qc 2)) (qb (qp .fdiv (qc 1) (qc 2)) qf)))) qh)))
theorem b_24 (hr:Rm k A s f c "_law_under" 38):Bdy P w K mg base n F f c A outer s H E ["_law_one","_law_other"] "_law_under" 38 c_24.body :=
 qd (qw (y6 .lt hr (qp .mul (qz hr (qc 0) qg) (qz hr (qc 1) qg)) (qp .mul (qz hr (qc 1) qg) (qz hr (qc 0) qg)))) qh
theorem b_25 (hr:Rm k A s f c "_law_places" 39):Bdy P w K mg base n F f c A outer s H E ["_law_pack_here","_law_many","_law_size","_law_left_here","_law_found"] "_law_places" 39 c_25.body :=
 qd (qv 2 (qz hr (yo false (qb qg (qb qg (qb qg (qb qg (qb qg (qb qg (qb qg (qb qg qf))))))))) (qi a.h_22 (m2 hr) (qb (qc 0) (qb qg qf))))) (qd (qv 3 (qaL true p.gb (qb (qc 1) qf))) (qd (qg8 4 false [3,0] ["_law_left_here","_law_pack_here"] ["_law_turn"] (zX p.gb (qb (qkk p.gb (qb (qc 2) (qb (qc 1) qf))) qf)) (λ_ _ _ _ _=>ql 2) (λ_ _ _ _ _=>qQ) (λ_ _ _ _ _=>qkh (qc 0) (qi a.h_22 (m2 hr) (qb (qc 1) (qb (zo p.gb (qb (qc 0) qf)) qf))))) (qd (qw (qS p.gb (qb (jF false p.gb (qb (qc 4) qf)) qf))) qh)))
theorem b_26 (hr:Rm k A s f c "_law_mass" 40):Bdy P w K mg base n F f c A outer s H E ["_law_web","_law_part"] "_law_mass" 40 c_26.body :=
 qd (qw (qhG p.gb (qb (k_lc false [1] ["_law_part"] ["_law_some","_law_mass_here"] (za (qz hr (qc 0) qg)) (λ_ _ _ _ _=>zy (qD (ql 1) (qD (ql 2) zx))) (λ_ _ _ _ _=>qaM (qU (qfe p.gb (qb (k_lc false [0] ["_law_part"] ["_law_place"] (za (qc 1)) (λ_ _ _ _ _=>ql 1) (λ_ _ _ _ _=>qQ) (λ_ _ _ _ _=>y6 .inn hr (qc 1) (qc 0))) qf))) qQ) (λ_ _ _ _ _=>qc 2)) qf))) qh
theorem b_27 (hr:Rm k A s f c "_law_price" 41):Bdy P w K mg base n F f c A outer s H E ["_law_web","_law_part"] "_law_price" 41 c_27.body :=
 qd (qw (qhG p.gb (qb (qkl false [0] ["_law_web"] ["_law_place"] (qc 1) (λ_ _ _ _ _=>ql 1) (λ_ _ _ _ _=>qQ) (λ_ _ _ _ _=>qz hr (qz hr (qc 0) qg) (qc 1))) qf))) qh
theorem b_28 (hr:Rm k A s f c "_law_ratio" 42):Bdy P w K mg base n F f c A outer s H E ["_law_web","_law_left_here","_law_place","_law_found","_law_some","_law_mass_here"] "_law_ratio" 42 c_28.body :=
 qd (qv 3 qg) (qd (zZ (za (qz hr (qc 0) qg)) (zy (qD (ql 4) (qD (ql 5) zx))) (qd (z_if (Qpt (qki (yH .inn hr (qc 2) (qc 4)) (qiM (qU (qfe p.gb (qb (k_lc false [1] ["_law_left_here"] ["_law_one"] (za (qc 4)) (λ_ _ _ _ _=>ql 1) (λ_ _ _ _ _=>qQ) (λ_ _ _ _ _=>y6 .inn hr (qc 1) (qc 0))) qf)))))) (qd (qv 3 (qp .add (qc 3) (qc 5))) qh) qh) qh)) (qd (qw (qi a.h_23 (m2 hr) (qb (qc 3) (qb (qz hr (qz hr (qc 0) qg) (qc 2)) qf)))) qh))
theorem b_29 (hr:Rm k A s f c "_law_off" 43):Bdy P w K mg base n F f c A outer s H E ["_law_web","_law_left_here","_law_found","_law_place","_law_told"] "_law_off" 43 c_29.body :=
 qd (qv 2 qe7) (qd (qiX (qc 1) (ql 3) (qd (qv 4 (qi a.h_28 (m2 hr) (qb (qc 0) (qb (qc 1) (qb (qc 3) qf))))) (qd (z_if (Qpt (w_or (yH .is hr (qc 2) qe7) (qag (qU (qi a.h_24 (m2 hr) (qb (qc 4) (qb (qz hr (qc 2) qg) qf))))))) (qd (qv 2 (qT (qb (qc 3) (qb (qc 4) qf)))) qh) qh) qh))) (qd (qw (qc 2)) qh))
theorem b_30 (hr:Rm k A s f c "_law_share" 44):Bdy P w K mg base n F f c A outer s H E ["_law_web","_law_part"] "_law_share" 44 c_30.body :=
 qd (qw (qi a.h_23 (m2 hr) (qb (qi a.h_26 (m2 hr) (qb (qc 0) (qb (qc 1) qf))) (qb (qi a.h_27 (m2 hr) (qb (qc 0) (qb (qc 1) qf))) qf)))) qh
theorem b_31 (hr:Rm k A s f c "_law_strip" 45):Bdy P w K mg base n F f c A outer s H E ["_law_web","_law_left_here","_law_order","_law_best_part"] "_law_strip" 45 c_31.body :=
 qd (qv 1 (qaL true p.gb (qb (zo p.gb (qb (qz hr (qc 0) qg) qf)) qf))) (qd (qv 2 (yo true qf)) (qd (qv 3 (qS p.gb (qb (qc 1) qf))) (qd (jd (qko hr (qc 1) (yo false qf)) (qd (z_if (qU (qi a.h_24 (m2 hr) (qb (qi a.h_30 (m2 hr) (qb (qc 0) (qb (qc 3) qf))) (qb (qi a.h_30 (m2 hr) (qb (qc 0) (qb (qc 1) qf))) qf)))) (qd (qv 3 (qS p.gb (qb (qc 1) qf))) qh) qh) (qd (zY (qe8 (qc 2) (qi a.h_29 (m2 hr) (qb (qc 0) (qb (qc 1) qf))))) (qd (zY (qhI (qc 1) (qz hr (qz hr (qc 2) (qhD qg)) qg))) qh)))) (qd (qw (qT (qb (qS p.gb (qb (qc 2) qf)) (qb (qc 3) qf)))) qh))))
theorem b_32 (hr:Rm k A s f c "_law_great_web" 46):Bdy P w K mg base n F f c A outer s H E ["_law_script","_law_k","_law_pack_here","_law_costs","_law_known","_law_turn","_law_more","_law_some"] "_law_great_web" 46 c_32.body :=
 qd (qv 2 (qi a.h_21 (m2 hr) (qb (qc 0) (qb (qc 1) qf)))) (qd (qv 3 (qS p.gb (qb (k_lc false [2] ["_law_pack_here"] ["_law_place"] (zX p.gb (qb qg qf)) (λ_ _ _ _ _=>ql 1) (λ_ _ _ _ _=>qQ) (λ_ _ _ _ _=>qp .add qg (qi a.h_22 (m2 hr) (qb (qc 0) (qb qg qf))))) qf))) (qd (qv 4 (qhE true)) (qd (zZ (zX p.gb (qb qg qf)) (ql 5) (qd (qv 6 (qi a.h_21 (m2 hr) (qb (qc 0) (qb (qp .add (qp .add (qc 1) qg) (qc 5)) qf)))) (qd (qv 7 (qi a.h_25 (m2 hr) (qb (qc 6) (qb qg qf)))) (qd (yp (qp .add qg (qi a.h_22 (m2 hr) (qb (qc 6) (qb (qp .pow qg qg) qf)))) (qbx hr (qc 4) (qc 7))) qh)))) (qd (qw (qT (qb (qc 3) (qb (qS p.gb (qb (k_lc false [4] ["_law_known"] ["_law_some"] (za (jF false p.gb (qb (qc 4) qf))) (λ_ _ _ _ _=>ql 1) (λ_ _ _ _ _=>qQ) (λ_ _ _ _ _=>qT (qb (qc 1) (qb (qz hr (qc 0) (qc 1)) qf)))) qf)) qf)))) qh))))
theorem b_33 (hr:Rm k A s f c "_law_path" 47):Bdy P w K mg base n F f c A outer s H E ["_law_pack_here","_law_falling","_law_first","_law_ties","_law_k"] "_law_path" 47 c_33.body :=
 qd (qv 1 (qi a.h_22 (m2 hr) (qb (qc 0) (qb qg qf)))) (qd (qv 2 (qp .add qg (qi a.h_22 (m2 hr) (qb (qc 0) (qb (qp .mul qg (qp .pow qg qg)) qf))))) (qd (qv 3 (yo true qf)) (qd (zZ (zX p.gb (qb qg qf)) (ql 4) (qd (zY (qe8 (qc 3) (qT (qb (qT (qb (qc 4) (qb (qp .add (qc 4) qg) qf))) (qb (qp .add (qc 2) (qp .mul qg (qz hr (yo false (qb (qc 4) (qb (qp .sub qg (qc 4)) qf))) (qc 1)))) qf))))) qh)) (qd (qw (qT (qb (qp .mul (qT (qb (qp .add qg (qi a.h_22 (m2 hr) (qb (qc 0) (qb qg qf)))) qf)) qg) (qb (qS p.gb (qb (qc 3) qf)) qf)))) qh))))
theorem b_34 (hr:Rm k A s f c "_law_fours" 48):Bdy P w K mg base n F f c A outer s H E ["_law_pack_here","_law_known","_law_k","_law_costs"] "_law_fours" 48 c_34.body :=
 qd (qv 1 (qhE true)) (qd (zZ (zX p.gb (qb qg qf)) (ql 2) (qd (yp (qp .add qg (qi a.h_22 (m2 hr) (qb (qc 0) (qb (qp .pow qg qg) qf)))) (qbx hr (qc 1) (qT (qb (qc 2) (qb (qp .add (qc 2) qg) (qb (qp .add (qc 2) qg) (qb (qp .add (qc 2) qg) qf))))))) qh)) (qd (qv 3 (qS p.gb (qb (k_lc false [0] ["_law_pack_here"] ["_law_place"] (zX p.gb (qb qg qf)) (λ_ _ _ _ _=>ql 1) (λ_ _ _ _ _=>qQ) (λ_ _ _ _ _=>qp .add qg (qi a.h_22 (m2 hr) (qb (qc 0) (qb qg qf))))) qf))) (qd (qw (qT (qb (qc 3) (qb (qS p.gb (qb (k_lc false [1] ["_law_known"] ["_law_some"] (za (jF false p.gb (qb (qc 1) qf))) (λ_ _ _ _ _=>ql 1) (λ_ _ _ _ _=>qQ) (λ_ _ _ _ _=>qT (qb (qc 1) (qb (qz hr (qc 0) (qc 1)) qf)))) qf)) qf)))) qh)))
theorem b_35 (hr:Rm k A s f c "_law_left" 49):Bdy P w K mg base n F f c A outer s H E ["_law_web","_law_number","_law_left_here","_law_turn"] "_law_left" 49 c_35.body :=
 qd (qv 2 (qaL false p.gb (qb (zo p.gb (qb (qz hr (qc 0) qg) qf)) qf))) (qd (zZ (zX p.gb (qb (zo p.gb (qb (qz hr (qc 0) qg) qf)) qf)) (ql 3) (qd (qv 2 (k_lc false [0,2,1] ["_law_web","_law_left_here","_law_number"] ["_law_place"] (za (qc 2)) (λ_ _ _ _ _=>ql 3) (λ_ _ _ _ _=>qaM (zN (qU (qi a.h_24 (m2 hr) (qb (qi a.h_28 (m2 hr) (qb (qc 0) (qb (qc 1) (qb (qc 3) qf)))) (qb (qc 2) qf))))) qQ) (λ_ _ _ _ _=>qc 3))) qh)) (qd (qw (qS p.gb (qb (qc 2) qf))) qh))
theorem b_36 (hr:Rm k A s f c "_law_right" 50):Bdy P w K mg base n F f c A outer s H E ["_law_web","_law_order","_law_part","_law_most","_law_known","_law_place","_law_told"] "_law_right" 50 c_36.body :=
 qd (yp (qi a.h_31 (m2 hr) (qb (qc 0) qf)) (zy (qD (ql 1) (qD (ql 2) zx)))) (qd (z_if (yH .ne hr (qi a.h_16 (m2 hr) (qb (qc 0) qf)) (qT (qb (qc 1) (qb (qc 2) qf)))) (qd (qw zW) qh) qh) (qd (qv 3 (qT (qb qg (qb qg qf)))) (qd (qv 4 (qhH)) (qd (zZ (za (qc 1)) (zy (qD (ql 5) (qD (ql 6) zx))) (qd (z_if (qU (qi a.h_24 (m2 hr) (qb (qc 3) (qb (qc 6) qf)))) (qd (qv 3 (qc 6)) qh) qh) (qd (yp (qc 3) (qbx hr (qc 4) (qc 5))) qh))) (qd (z_if (yH .ne hr (qi a.h_18 (m2 hr) (qb (qc 0) qf)) (qS p.gb (qb (k_lc false [4] ["_law_known"] ["_law_place"] (zX p.gb (qb (zo p.gb (qb (qz hr (qc 0) qg) qf)) qf)) (λ_ _ _ _ _=>ql 1) (λ_ _ _ _ _=>qQ) (λ_ _ _ _ _=>qbz hr (qc 0) (qc 1))) qf))) (qd (qw zW) qh) qh) (qd (qw (qfe p.gb (qb (k_lc false [0,4] ["_law_web","_law_known"] ["_law_place"] (zX p.gb (qb (zo p.gb (qb (qz hr (qc 0) qg) qf)) qf)) (λ_ _ _ _ _=>ql 2) (λ_ _ _ _ _=>qQ) (λ_ _ _ _ _=>y6 .eq hr (qi a.h_19 (m2 hr) (qb (qc 0) (qb (qc 2) qf))) (qi a.h_35 (m2 hr) (qb (qc 0) (qb (qbz hr (qc 1) (qc 2)) qf))))) qf))) qh))))))
theorem b_37 (hr:Rm k A s f c "law" 51):Bdy P w K mg base n F f c A outer s H E ["_law_script","_law_pack_here"] "law" 51 qcU.body :=
 qd (qv 1 (qi a.h_21 (m2 hr) (qb (qc 0) (qb qg qf)))) (qd (qw (y7 (qi a.h_36 (m2 hr) (qb (qi a.h_32 (m2 hr) (qb (qc 0) (qb qg qf))) qf)) (y7 (qi a.h_36 (m2 hr) (qb (qi a.h_33 (m2 hr) (qb (qc 1) qf)) qf)) (yw (qi a.h_36 (m2 hr) (qb (qi a.h_34 (m2 hr) (qb (qc 1) qf)) qf)))))) qh)
end
section
variable {P:Program} {w:World} {K:PySem.W.Frag} {mg:Str→Option Value} {base:Heap} {k N d:Nat} (p:Pre K mg) (a:All P w K mg base k (run prg N d)) {f:Addr} {fd:FuncData} {c t:Addr}
include p a
theorem o_0 (U:FunT K "is_whole" (top 1) f fd c t):FnOk P w K mg base CX0 (k+3) f fd ["thing"] (SpD 1 (run prg N (d+1) 0)):=qB (G:=run prg N (d+1)) (i:=0) U sc_0 rfl rfl (by decide) rfl λA outer s H E hr=>b_0 p a U.tab hr
theorem o_1 (U:FunT K "is_whole_within" (top 2) f fd c t):FnOk P w K mg base CX0 (k+3) f fd ["thing","least","most"] (SpD 3 (run prg N (d+1) 1)):=qB (G:=run prg N (d+1)) (i:=1) U sc_1 rfl rfl (by decide) rfl λA outer s H E hr=>b_1 p a U.tab hr
theorem o_2 (U:FunT K "common_divisor" (top 3) f fd c t):FnOk P w K mg base CX0 (k+3) f fd ["one","other"] (SpD 2 (run prg N (d+1) 2)):=qB (G:=run prg N (d+1)) (i:=2) U sc_2 rfl rfl (by decide) rfl λA outer s H E hr=>b_2 p a U.tab hr
theorem o_3 (U:FunT K "lowest" (top 4) f fd c t):FnOk P w K mg base CX0 (k+3) f fd ["top","bottom"] (SpD 2 (run prg N (d+1) 3)):=qB (G:=run prg N (d+1)) (i:=3) U sc_3 rfl rfl (by decide) rfl λA outer s H E hr=>b_3 p a U.tab hr
theorem o_4 (U:FunT K "is_less" (top 5) f fd c t):FnOk P w K mg base CX0 (k+3) f fd ["one","other"] (SpD 2 (run prg N (d+1) 4)):=qB (G:=run prg N (d+1)) (i:=4) U sc_4 rfl rfl (by decide) rfl λA outer s H E hr=>b_4 p a U.tab hr
theorem o_5 (U:FunT K "is_web" (top 16) f fd c t):FnOk P w K mg base CX0 (k+3) f fd ["thing"] (SpD 1 (run prg N (d+1) 5)):=qB (G:=run prg N (d+1)) (i:=5) U sc_5 rfl rfl (by decide) rfl λA outer s H E hr=>b_5 p a U.tab hr
theorem o_6 (U:FunT K "are_costs" (top 17) f fd c t):FnOk P w K mg base CX0 (k+3) f fd ["thing"] (SpD 1 (run prg N (d+1) 6)):=qB (G:=run prg N (d+1)) (i:=6) U sc_6 rfl rfl (by decide) rfl λA outer s H E hr=>b_6 p a U.tab hr
theorem o_7 (U:FunT K "are_ties" (top 18) f fd c t):FnOk P w K mg base CX0 (k+3) f fd ["thing","many"] (SpD 2 (run prg N (d+1) 7)):=qB (G:=run prg N (d+1)) (i:=7) U sc_7 rfl rfl (by decide) rfl λA outer s H E hr=>b_7 p a U.tab hr
theorem o_8 (U:FunT K "is_tie" (top 19) f fd c t):FnOk P w K mg base CX0 (k+3) f fd ["thing","many"] (SpD 2 (run prg N (d+1) 8)):=qB (G:=run prg N (d+1)) (i:=8) U sc_8 rfl rfl (by decide) rfl λA outer s H E hr=>b_8 p a U.tab hr
theorem o_9 (U:FunT K "are_tied_places" (top 20) f fd c t):FnOk P w K mg base CX0 (k+3) f fd ["thing","many"] (SpD 2 (run prg N (d+1) 9)):=qB (G:=run prg N (d+1)) (i:=9) U sc_9 rfl rfl (by decide) rfl λA outer s H E hr=>b_9 p a U.tab hr
theorem o_10 (U:FunT K "are_places" (top 21) f fd c t):FnOk P w K mg base CX0 (k+3) f fd ["thing","many"] (SpD 2 (run prg N (d+1) 10)):=qB (G:=run prg N (d+1)) (i:=10) U sc_10 rfl rfl (by decide) rfl λA outer s H E hr=>b_10 p a U.tab hr
theorem o_11 (U:FunT K "is_rising" (top 22) f fd c t):FnOk P w K mg base CX0 (k+3) f fd ["things"] (SpD 1 (run prg N (d+1) 11)):=qB (G:=run prg N (d+1)) (i:=11) U sc_11 rfl rfl (by decide) rfl λA outer s H E hr=>b_11 p a U.tab hr
theorem o_12 (U:FunT K "need_web" (top 23) f fd c t):FnOk P w K mg base CX0 (k+3) f fd ["thing"] (SpD 1 (run prg N (d+1) 12)):=qB (G:=run prg N (d+1)) (i:=12) U sc_12 rfl rfl (by decide) rfl λA outer s H E hr=>b_12 p a U.tab hr
theorem o_13 (U:FunT K "is_place" (top 24) f fd c t):FnOk P w K mg base CX0 (k+3) f fd ["web","thing"] (SpD 2 (run prg N (d+1) 13)):=qB (G:=run prg N (d+1)) (i:=13) U sc_13 rfl rfl (by decide) rfl λA outer s H E hr=>b_13 p a U.tab hr
theorem o_14 (U:FunT K "need_place" (top 25) f fd c t):FnOk P w K mg base CX0 (k+3) f fd ["web","thing"] (SpD 2 (run prg N (d+1) 14)):=qB (G:=run prg N (d+1)) (i:=14) U sc_14 rfl rfl (by decide) rfl λA outer s H E hr=>b_14 p a U.tab hr
theorem o_15 (U:FunT K "ties_within" (top 26) f fd c t):FnOk P w K mg base CX0 (k+3) f fd ["web","part"] (SpD 2 (run prg N (d+1) 15)):=qB (G:=run prg N (d+1)) (i:=15) U sc_15 rfl rfl (by decide) rfl λA outer s H E hr=>b_15 p a U.tab hr
theorem o_16 (U:FunT K "stripped" (top 28) f fd c t):FnOk P w K mg base CX0 (k+3) f fd ["web"] (SpD 1 (run prg N (d+1) 16)):=qB (G:=run prg N (d+1)) (i:=16) U sc_16 rfl rfl (by decide) rfl λA outer s H E hr=>b_16 p a U.tab hr
theorem o_17 (U:FunT K "lightest" (top 29) f fd c t):FnOk P w K mg base CX0 (k+3) f fd ["costs","ties","left"] (SpD 3 (run prg N (d+1) 17)):=qB (G:=run prg N (d+1)) (i:=17) U sc_17 rfl rfl (by decide) rfl λA outer s H E hr=>b_17 p a U.tab hr
theorem o_18 (U:FunT K "cores" (top 31) f fd c t):FnOk P w K mg base CX0 (k+3) f fd ["web"] (SpD 1 (run prg N (d+1) 18)):=qB (G:=run prg N (d+1)) (i:=18) U sc_18 rfl rfl (by decide) rfl λA outer s H E hr=>b_18 p a U.tab hr
theorem o_19 (U:FunT K "core_part" (top 32) f fd c t):FnOk P w K mg base CX0 (k+3) f fd ["web","place"] (SpD 2 (run prg N (d+1) 19)):=qB (G:=run prg N (d+1)) (i:=19) U sc_19 rfl rfl (by decide) rfl λA outer s H E hr=>b_19 p a U.tab hr
theorem o_20 (U:FunT K "_law_mixed" (top 34) f fd c t):FnOk P w K mg base CX0 (k+3) f fd ["_law_cell"] (SpD 1 (run prg N (d+1) 20)):=qB (G:=run prg N (d+1)) (i:=20) U sc_20 rfl rfl (by decide) rfl λA outer s H E hr=>b_20 p a U.tab hr
theorem o_21 (U:FunT K "_law_pack" (top 35) f fd c t):FnOk P w K mg base CX0 (k+3) f fd ["_law_script","_law_k"] (SpD 2 (run prg N (d+1) 21)):=qB (G:=run prg N (d+1)) (i:=21) U sc_21 rfl rfl (by decide) rfl λA outer s H E hr=>b_21 p a U.tab hr
theorem o_22 (U:FunT K "_law_take" (top 36) f fd c t):FnOk P w K mg base CX0 (k+3) f fd ["_law_pack_here","_law_size"] (SpD 2 (run prg N (d+1) 22)):=qB (G:=run prg N (d+1)) (i:=22) U sc_22 rfl rfl (by decide) rfl λA outer s H E hr=>b_22 p a U.tab hr
theorem o_23 (U:FunT K "_law_low" (top 37) f fd c t):FnOk P w K mg base CX0 (k+3) f fd ["_law_top","_law_bottom"] (SpD 2 (run prg N (d+1) 23)):=qB (G:=run prg N (d+1)) (i:=23) U sc_23 rfl rfl (by decide) rfl λA outer s H E hr=>b_23 p a U.tab hr
theorem o_24 (U:FunT K "_law_under" (top 38) f fd c t):FnOk P w K mg base CX0 (k+3) f fd ["_law_one","_law_other"] (SpD 2 (run prg N (d+1) 24)):=qB (G:=run prg N (d+1)) (i:=24) U sc_24 rfl rfl (by decide) rfl λA outer s H E hr=>b_24 p a U.tab hr
theorem o_25 (U:FunT K "_law_places" (top 39) f fd c t):FnOk P w K mg base CX0 (k+3) f fd ["_law_pack_here","_law_many"] (SpD 2 (run prg N (d+1) 25)):=qB (G:=run prg N (d+1)) (i:=25) U sc_25 rfl rfl (by decide) rfl λA outer s H E hr=>b_25 p a U.tab hr
theorem o_26 (U:FunT K "_law_mass" (top 40) f fd c t):FnOk P w K mg base CX0 (k+3) f fd ["_law_web","_law_part"] (SpD 2 (run prg N (d+1) 26)):=qB (G:=run prg N (d+1)) (i:=26) U sc_26 rfl rfl (by decide) rfl λA outer s H E hr=>b_26 p a U.tab hr
theorem o_27 (U:FunT K "_law_price" (top 41) f fd c t):FnOk P w K mg base CX0 (k+3) f fd ["_law_web","_law_part"] (SpD 2 (run prg N (d+1) 27)):=qB (G:=run prg N (d+1)) (i:=27) U sc_27 rfl rfl (by decide) rfl λA outer s H E hr=>b_27 p a U.tab hr
theorem o_28 (U:FunT K "_law_ratio" (top 42) f fd c t):FnOk P w K mg base CX0 (k+3) f fd ["_law_web","_law_left_here","_law_place"] (SpD 3 (run prg N (d+1) 28)):=qB (G:=run prg N (d+1)) (i:=28) U sc_28 rfl rfl (by decide) rfl λA outer s H E hr=>b_28 p a U.tab hr
theorem o_29 (U:FunT K "_law_off" (top 43) f fd c t):FnOk P w K mg base CX0 (k+3) f fd ["_law_web","_law_left_here"] (SpD 2 (run prg N (d+1) 29)):=qB (G:=run prg N (d+1)) (i:=29) U sc_29 rfl rfl (by decide) rfl λA outer s H E hr=>b_29 p a U.tab hr
theorem o_30 (U:FunT K "_law_share" (top 44) f fd c t):FnOk P w K mg base CX0 (k+3) f fd ["_law_web","_law_part"] (SpD 2 (run prg N (d+1) 30)):=qB (G:=run prg N (d+1)) (i:=30) U sc_30 rfl rfl (by decide) rfl λA outer s H E hr=>b_30 p a U.tab hr
theorem o_31 (U:FunT K "_law_strip" (top 45) f fd c t):FnOk P w K mg base CX0 (k+3) f fd ["_law_web"] (SpD 1 (run prg N (d+1) 31)):=qB (G:=run prg N (d+1)) (i:=31) U sc_31 rfl rfl (by decide) rfl λA outer s H E hr=>b_31 p a U.tab hr
theorem o_32 (U:FunT K "_law_great_web" (top 46) f fd c t):FnOk P w K mg base CX0 (k+3) f fd ["_law_script","_law_k"] (SpD 2 (run prg N (d+1) 32)):=qB (G:=run prg N (d+1)) (i:=32) U sc_32 rfl rfl (by decide) rfl λA outer s H E hr=>b_32 p a U.tab hr
theorem o_33 (U:FunT K "_law_path" (top 47) f fd c t):FnOk P w K mg base CX0 (k+3) f fd ["_law_pack_here"] (SpD 1 (run prg N (d+1) 33)):=qB (G:=run prg N (d+1)) (i:=33) U sc_33 rfl rfl (by decide) rfl λA outer s H E hr=>b_33 p a U.tab hr
theorem o_34 (U:FunT K "_law_fours" (top 48) f fd c t):FnOk P w K mg base CX0 (k+3) f fd ["_law_pack_here"] (SpD 1 (run prg N (d+1) 34)):=qB (G:=run prg N (d+1)) (i:=34) U sc_34 rfl rfl (by decide) rfl λA outer s H E hr=>b_34 p a U.tab hr
theorem o_35 (U:FunT K "_law_left" (top 49) f fd c t):FnOk P w K mg base CX0 (k+3) f fd ["_law_web","_law_number"] (SpD 2 (run prg N (d+1) 35)):=qB (G:=run prg N (d+1)) (i:=35) U sc_35 rfl rfl (by decide) rfl λA outer s H E hr=>b_35 p a U.tab hr
theorem o_36 (U:FunT K "_law_right" (top 50) f fd c t):FnOk P w K mg base CX0 (k+3) f fd ["_law_web"] (SpD 1 (run prg N (d+1) 36)):=qB (G:=run prg N (d+1)) (i:=36) U sc_36 rfl rfl (by decide) rfl λA outer s H E hr=>b_36 p a U.tab hr
theorem o_37 (U:FunT K "law" (top 51) f fd c t):FnOk P w K mg base CX0 (k+3) f fd ["_law_script"] (SpD 1 (run prg N (d+1) 37)):=qB (G:=run prg N (d+1)) (i:=37) U sc_37 rfl rfl (by decide) rfl λA outer s H E hr=>b_37 p a U.tab hr
theorem qfp:All P w K mg base (k+3) (run prg N (d+1)) where
 h_0:=p.u_0.fn λ_ _ _ _ U=>o_0 p a U
 h_1:=p.u_1.fn λ_ _ _ _ U=>o_1 p a U
 h_2:=p.u_2.fn λ_ _ _ _ U=>o_2 p a U
 h_3:=p.u_3.fn λ_ _ _ _ U=>o_3 p a U
 h_4:=p.u_4.fn λ_ _ _ _ U=>o_4 p a U
 h_5:=p.u_5.fn λ_ _ _ _ U=>o_5 p a U
 h_6:=p.u_6.fn λ_ _ _ _ U=>o_6 p a U
 h_7:=p.u_7.fn λ_ _ _ _ U=>o_7 p a U
 h_8:=p.u_8.fn λ_ _ _ _ U=>o_8 p a U
 h_9:=p.u_9.fn λ_ _ _ _ U=>o_9 p a U
 h_10:=p.u_10.fn λ_ _ _ _ U=>o_10 p a U
 h_11:=p.u_11.fn λ_ _ _ _ U=>o_11 p a U
 h_12:=p.u_12.fn λ_ _ _ _ U=>o_12 p a U
 h_13:=p.u_13.fn λ_ _ _ _ U=>o_13 p a U
 h_14:=p.u_14.fn λ_ _ _ _ U=>o_14 p a U
 h_15:=p.u_15.fn λ_ _ _ _ U=>o_15 p a U
 h_16:=p.u_16.fn λ_ _ _ _ U=>o_16 p a U
 h_17:=p.u_17.fn λ_ _ _ _ U=>o_17 p a U
 h_18:=p.u_18.fn λ_ _ _ _ U=>o_18 p a U
 h_19:=p.u_19.fn λ_ _ _ _ U=>o_19 p a U
 h_20:=p.u_20.fn λ_ _ _ _ U=>o_20 p a U
 h_21:=p.u_21.fn λ_ _ _ _ U=>o_21 p a U
 h_22:=p.u_22.fn λ_ _ _ _ U=>o_22 p a U
 h_23:=p.u_23.fn λ_ _ _ _ U=>o_23 p a U
 h_24:=p.u_24.fn λ_ _ _ _ U=>o_24 p a U
 h_25:=p.u_25.fn λ_ _ _ _ U=>o_25 p a U
 h_26:=p.u_26.fn λ_ _ _ _ U=>o_26 p a U
 h_27:=p.u_27.fn λ_ _ _ _ U=>o_27 p a U
 h_28:=p.u_28.fn λ_ _ _ _ U=>o_28 p a U
 h_29:=p.u_29.fn λ_ _ _ _ U=>o_29 p a U
 h_30:=p.u_30.fn λ_ _ _ _ U=>o_30 p a U
 h_31:=p.u_31.fn λ_ _ _ _ U=>o_31 p a U
 h_32:=p.u_32.fn λ_ _ _ _ U=>o_32 p a U
 h_33:=p.u_33.fn λ_ _ _ _ U=>o_33 p a U
 h_34:=p.u_34.fn λ_ _ _ _ U=>o_34 p a U
 h_35:=p.u_35.fn λ_ _ _ _ U=>o_35 p a U
 h_36:=p.u_36.fn λ_ _ _ _ U=>o_36 p a U
 h_37:=p.u_37.fn λ_ _ _ _ U=>o_37 p a U
omit a
theorem qfq:All P w K mg base 0 (run prg N 0) where
 h_0:=p.u_0.fn λ_ _ _ _ _=>qC (i:=0) rfl
 h_1:=p.u_1.fn λ_ _ _ _ _=>qC (i:=1) rfl
 h_2:=p.u_2.fn λ_ _ _ _ _=>qC (i:=2) rfl
 h_3:=p.u_3.fn λ_ _ _ _ _=>qC (i:=3) rfl
 h_4:=p.u_4.fn λ_ _ _ _ _=>qC (i:=4) rfl
 h_5:=p.u_5.fn λ_ _ _ _ _=>qC (i:=5) rfl
 h_6:=p.u_6.fn λ_ _ _ _ _=>qC (i:=6) rfl
 h_7:=p.u_7.fn λ_ _ _ _ _=>qC (i:=7) rfl
 h_8:=p.u_8.fn λ_ _ _ _ _=>qC (i:=8) rfl
 h_9:=p.u_9.fn λ_ _ _ _ _=>qC (i:=9) rfl
 h_10:=p.u_10.fn λ_ _ _ _ _=>qC (i:=10) rfl
 h_11:=p.u_11.fn λ_ _ _ _ _=>qC (i:=11) rfl
 h_12:=p.u_12.fn λ_ _ _ _ _=>qC (i:=12) rfl
 h_13:=p.u_13.fn λ_ _ _ _ _=>qC (i:=13) rfl
 h_14:=p.u_14.fn λ_ _ _ _ _=>qC (i:=14) rfl
 h_15:=p.u_15.fn λ_ _ _ _ _=>qC (i:=15) rfl
 h_16:=p.u_16.fn λ_ _ _ _ _=>qC (i:=16) rfl
 h_17:=p.u_17.fn λ_ _ _ _ _=>qC (i:=17) rfl
 h_18:=p.u_18.fn λ_ _ _ _ _=>qC (i:=18) rfl
 h_19:=p.u_19.fn λ_ _ _ _ _=>qC (i:=19) rfl
 h_20:=p.u_20.fn λ_ _ _ _ _=>qC (i:=20) rfl
 h_21:=p.u_21.fn λ_ _ _ _ _=>qC (i:=21) rfl
 h_22:=p.u_22.fn λ_ _ _ _ _=>qC (i:=22) rfl
 h_23:=p.u_23.fn λ_ _ _ _ _=>qC (i:=23) rfl
 h_24:=p.u_24.fn λ_ _ _ _ _=>qC (i:=24) rfl
 h_25:=p.u_25.fn λ_ _ _ _ _=>qC (i:=25) rfl
 h_26:=p.u_26.fn λ_ _ _ _ _=>qC (i:=26) rfl
 h_27:=p.u_27.fn λ_ _ _ _ _=>qC (i:=27) rfl
 h_28:=p.u_28.fn λ_ _ _ _ _=>qC (i:=28) rfl
 h_29:=p.u_29.fn λ_ _ _ _ _=>qC (i:=29) rfl
 h_30:=p.u_30.fn λ_ _ _ _ _=>qC (i:=30) rfl
 h_31:=p.u_31.fn λ_ _ _ _ _=>qC (i:=31) rfl
 h_32:=p.u_32.fn λ_ _ _ _ _=>qC (i:=32) rfl
 h_33:=p.u_33.fn λ_ _ _ _ _=>qC (i:=33) rfl
 h_34:=p.u_34.fn λ_ _ _ _ _=>qC (i:=34) rfl
 h_35:=p.u_35.fn λ_ _ _ _ _=>qC (i:=35) rfl
 h_36:=p.u_36.fn λ_ _ _ _ _=>qC (i:=36) rfl
 h_37:=p.u_37.fn λ_ _ _ _ _=>qC (i:=37) rfl
omit p
theorem qfr (p:Pre K mg):∀ d:Nat,All P w K mg base (3*d) (run prg N d)
 | 0=>qfq p
 | d+1=>qfp p (qfr p d)
end
end RP
namespace RP
open R
section
variable {α:Type} {g:α→D}
theorem je {n:Nat} {bind:D→En→Sr→Res En} {test:En→Sr→Res Bool} {elt:En→Sr→Res D} {b:α→Bool} {v:α→D} (R:En→Prop) {S:Sr} (hn:S.length=n):∀ (ds:List α) (made:List D) (ρ:En),made.length+ds.length≤PySem.sizeLine→R ρ →
  (∀ d∈ds,∀ (ρ:En) (m:List D),R ρ→∃ ρ1,bind (g d) ρ (S++[.lst m])=.ok ρ1 (S++[.lst m])∧R ρ1∧test ρ1 (S++[.lst m])=.ok (b d) (S++[.lst m])∧(b d=true→elt ρ1 (S++[.lst m])=.ok (v d) (S++[.lst m])∧refsLt 0 (v d)=true)) →
  ∃ ρ',lcLoop n bind test elt (ds.map g) ρ (S++[.lst made])=.ok ρ' (S++[.lst (made++(ds.filter b).map v)])
 | [],made,ρ,_,_,_=>⟨ρ,by simp [lcLoop]⟩
 | d::ds,made,ρ,hl,hR,H=>by
  obtain ⟨ρ1,e1,hR1,e2,e3⟩:=H d wJ ρ made hR
  simp only [w4] at hl
  rw [wQ]
  unfold lcLoop
  rw [e1,Res.bind_ok,e2,Res.bind_ok]
  cases z:b d with
  | true =>
   obtain ⟨e4,e5⟩:=e3 z
   have ea:appD (S++[.lst made]) (.ref n) (v d)=.ok .non (S++[.lst (made++[v d])]):=by
    subst hn
    have hl':made.length<PySem.sizeLine:=by lia
    simp [appD,e5,hl']
   rw [wL rfl,e4,Res.bind_ok,ea,Res.bind_ok]
   obtain ⟨ρ',e⟩:=je R hn ds (made++[v d]) ρ1 (by simp;lia) hR1 λd' hd=>H d' (wM _ hd)
   exact ⟨ρ',by rw [e];simp [z]⟩
  | false =>
   rw [wN (by simp)]
   obtain ⟨ρ',e⟩:=je R hn ds made ρ1 (by lia) hR1 λd' hd=>H d' (wM _ hd)
   exact ⟨ρ',by rw [e];simp [z]⟩
theorem yI {F:Fs} {fr:List Nat} {nt:Nat} {elt:CE} {tg:CT} {it:CI} {ifs:CBs} {ρ:En} {S S1:Sr} {ds:List D} (xs:List α) (b:α→Bool) (v:α→D) (R:En→Prop) (hI:evI F it ρ S=.ok ds S1) (hd:ds=xs.map g) (h0:R (frE ρ fr nt)) (hl:xs.length≤PySem.sizeLine)
  (H:∀ d∈xs,∀ (ρ:En) (m:List D),R ρ→∃ ρ1,asg F tg (g d) ρ (S1++[.lst m])=.ok ρ1 (S1++[.lst m])∧R ρ1∧tsts F ifs ρ1 (S1++[.lst m])=.ok (b d) (S1++[.lst m])∧(b d=true→ev F elt ρ1 (S1++[.lst m])=.ok (v d) (S1++[.lst m])∧refsLt 0 (v d)=true)) :
  ev F (.lc false fr nt elt tg it ifs) ρ S=.ok (.lst ((xs.filter b).map v)) S1:=by
 obtain ⟨ρ',e⟩:=je (n:=S1.length) (bind:=λd ρ S=>asg F tg d ρ S) (test:=λρ S=>tsts F ifs ρ S) (elt:=λρ S=>ev F elt ρ S) R rfl xs [] _ (by simpa using hl) h0 H
 simp only [ev,hI,Res.bind,hd,e,lcEnd]
 simp
theorem qcV {bind:D→En→Sr→Res En} {test:En→Sr→Res Bool} {elt:En→Sr→Res D} {p:α→Bool} (R:En→Prop) {S:Sr}:∀ (ds:List α) (ρ:En),R ρ →
  (∀ d∈ds,∀ ρ:En,R ρ→∃ ρ1,bind (g d) ρ S=.ok ρ1 S∧R ρ1∧test ρ1 S=.ok true S∧elt ρ1 S=.ok (.bl (p d)) S) →
  genLoop bind test elt (stepG .all) (finG .all) (ds.map g) ρ .non S=.ok (.bl (ds.all p)) S
 | [],ρ,_,_=>by simp [genLoop,finG]
 | d::ds,ρ,hR,H=>by
  obtain ⟨ρ1,e1,hR1,e2,e3⟩:=H d wJ ρ hR
  rw [wQ]
  unfold genLoop
  rw [e1,Res.bind_ok,e2,Res.bind_ok,wL rfl,e3,Res.bind_ok]
  cases z:p d with
  | true=>simp only [stepG];rw [qcV R ds ρ1 hR1 λd' hd=>H d' (wM _ hd)];simp [z]
  | false=>simp [stepG,z]
theorem jf {F:Fs} {fr:List Nat} {nt:Nat} {elt:CE} {tg:CT} {it:CI} {ρ:En} {S S1:Sr} {ds:List D} (xs:List α) (p:α→Bool) (R:En→Prop) (hI:evI F it ρ S=.ok ds S1) (hd:ds=xs.map g) (h0:R (frE ρ fr nt))
  (H:∀ d∈xs,∀ ρ:En,R ρ→∃ ρ1,asg F tg (g d) ρ S1=.ok ρ1 S1∧R ρ1∧ev F elt ρ1 S1=.ok (.bl (p d)) S1) :
  ev F (.gen .all fr nt elt tg it .nil) ρ S=.ok (.bl (xs.all p)) S1:=by
 simp only [ev,hI,Res.bind,hd,startG]
 exact qcV R xs _ h0 λd hd ρ hR=>let ⟨ρ1,a,b,c⟩:=H d hd ρ hR;⟨ρ1,a,b,rfl,c⟩
theorem qaO {bind:D→En→Sr→Res En} {test:En→Sr→Res Bool} {elt:En→Sr→Res D} {b:α→Bool} {v:α→Int} (R:En→Prop) {S:Sr}:∀ (ds:List α) (ρ:En) (acc:Int),R ρ →
  (∀ d∈ds,∀ ρ:En,R ρ→∃ ρ1,bind (g d) ρ S=.ok ρ1 S∧R ρ1∧test ρ1 S=.ok (b d) S∧(b d=true→elt ρ1 S=.ok (.int (v d)) S)) →
  genLoop bind test elt (stepG .sum) (finG .sum) (ds.map g) ρ (.int acc) S=.ok (.int (acc+((ds.filter b).map v).sum)) S
 | [],ρ,acc,_,_=>by simp [genLoop,finG]
 | d::ds,ρ,acc,hR,H=>by
  obtain ⟨ρ1,e1,hR1,e2,e3⟩:=H d wJ ρ hR
  rw [wQ]
  unfold genLoop
  rw [e1,Res.bind_ok,e2,Res.bind_ok]
  cases z:b d with
  | true =>
   rw [wL rfl,e3 z,Res.bind_ok]
   simp only [stepG]
   rw [qaO R ds ρ1 _ hR1 λd' hd=>H d' (wM _ hd)]
   simp [z,Int.add_assoc]
  | false =>
   rw [wN (by simp),qaO R ds ρ1 _ hR1 λd' hd=>H d' (wM _ hd)]
   simp [z]
theorem qhg {F:Fs} {fr:List Nat} {nt:Nat} {elt:CE} {tg:CT} {it:CI} {ifs:CBs} {ρ:En} {S S1:Sr} {ds:List D} (xs:List α) (b:α→Bool) (v:α→Int) (R:En→Prop) (hI:evI F it ρ S=.ok ds S1) (hd:ds=xs.map g) (h0:R (frE ρ fr nt))
  (H:∀ d∈xs,∀ ρ:En,R ρ→∃ ρ1,asg F tg (g d) ρ S1=.ok ρ1 S1∧R ρ1∧tsts F ifs ρ1 S1=.ok (b d) S1∧(b d=true→ev F elt ρ1 S1=.ok (.int (v d)) S1)) :
  ev F (.gen .sum fr nt elt tg it ifs) ρ S=.ok (.int ((xs.filter b).map v).sum) S1:=by
 simp only [ev,hI,Res.bind,hd,startG]
 rw [qaO R xs _ 0 h0 H];simp
end
noncomputable abbrev Tie:=List Int × Int
noncomputable def tieD (t:Tie):D:=.tup [tupI t.1,.int t.2]
structure Wb where
 costs:List Int
 ties:List Tie
noncomputable def webD (w:Wb):D:=.tup [tupI w.costs,.tup (w.ties.map tieD)]
structure PlOk (n:Nat) (p:List Int):Prop where
 ne:p≠[]
 rng:∀ x∈p,0≤x∧x<n
 up:p.Pairwise (· < ·)
structure WbOk (w:Wb):Prop where
 c1:1≤w.costs.length
 c2:w.costs.length≤12
 c3:∀ c∈w.costs,1≤c∧c≤100
 t1:w.ties.length≤30
 t2:∀ t∈w.ties,PlOk w.costs.length t.1∧t.1.length≤4∧1≤t.2∧t.2≤1000000
 t3:(w.ties.map (·.1)).Pairwise λa b=>HT.lexLt a b=true
theorem qM:∀ l:List Int,intsOf (l.map .int)=some l
 | []=>rfl
 | a::r=>by simp [intsOf,qM r]
theorem qfs:∀ {l:List Int},l.Pairwise (· < ·)→(l.zip (l.drop 1)).all (λp=>decide (p.1<p.2))=true
 | [],_=>rfl
 | [a],_=>rfl
 | a::b::r,h=>by
  have h1:=ww.mp h
  have:=qfs h1.2
  simp only [List.drop_succ_cons,List.drop_zero,List.zip_cons_cons,List.all_cons,wU,vH] at this ⊢
  exact ⟨h1.1 b wJ,this⟩
theorem qcW:∀ {l:List (List Int)},l.Pairwise (λa b=>HT.lexLt a b=true)→(l.zip (l.drop 1)).all (λp=>HT.lexLt p.1 p.2)=true
 | [],_=>rfl
 | [a],_=>rfl
 | a::b::r,h=>by
  have h1:=ww.mp h
  have:=qcW h1.2
  simp only [List.drop_succ_cons,List.drop_zero,List.zip_cons_cons,List.all_cons,wU] at this ⊢
  exact ⟨h1.1 b wJ,this⟩
theorem cut1 (l:List D):cutD l (some 1) none=l.drop 1:=by
 unfold cutD HT.sIx
 cases l with
 | nil=>rfl
 | cons a r =>
  have:min (1:Int).toNat (a::r).length=1:=by simp
  simp only [this]
  rw [wN (by lia)]
  simp
end RP
namespace RP
open R
section
variable {F:Fs} {N:Nat} {ρ ρ1:En} {S S1 S2:Sr} {r a b:CSs} {e e1 e2:CE} {t:CT} {c:CB} {X:Res Fl} {d d1 d2:D}
theorem qH (h:ev F e ρ S=.ok d S1):exs F N (.cons (.ret e) r) ρ S=.ok (.rt d) S1:=by simp [exs,ex,h,Res.bind]
theorem qJ:exs F N .nil ρ S=.ok (.nx ρ) S:=by simp [exs]
theorem qm (h:ev F e ρ S=.ok d S1) (h2:asg F t d ρ S1=.ok ρ1 S2) (h3:exs F N r ρ1 S2=X):exs F N (.cons (.set t e) r) ρ S=X:=by simp [exs,ex,h,h2,h3,Res.bind]
theorem z0 (h:ev F e ρ S=.ok d S1) (h3:exs F N r ρ S1=X):exs F N (.cons (.expr e) r) ρ S=X:=by simp [exs,ex,h,h3,Res.bind]
theorem x_no (h:tst F c ρ S=.ok false S1) (h3:exs F N r ρ S1=X):exs F N (.cons (.ifs c a .nil) r) ρ S=X:=by simp [exs,ex,h,h3,Res.bind]
theorem z9 (h:tst F c ρ S=.ok true S1) (h2:exs F N a ρ S1=.ok (.nx ρ1) S2) (h3:exs F N r ρ1 S2=X):exs F N (.cons (.ifs c a b) r) ρ S=X:=by simp [exs,ex,h,h2,h3,Res.bind]
theorem yJ {it:CI} {ds:List D} (h:evI F it ρ S=.ok ds S1) (h2:forLoop (λd ρ S=>(asg F t d ρ S).bind λρ1 S1=>exs F N a ρ1 S1) ds ρ S1=.ok (.nx ρ1) S2) (h3:exs F N r ρ1 S2=X):exs F N (.cons (.forS t it a) r) ρ S=X:=by
 simp only [exs,ex,h,Res.bind] at h2 ⊢
 rw [h2]
 exact h3
theorem qI {f:CF} {l:List D} (hl:l.length=f.np) (h:exs F N f.body (l.map some++List.replicate (f.nn-f.np) none) S=.ok (.rt d) S):callC F N f l S=.ok d S:=by
 simp only [callC,hl,wL,h,Res.bind,leave]
 cases f.keeps <;> simp
theorem qcX {f:CF} {l:List D} (hl:l.length=f.np) (h:exs F N f.body (l.map some++List.replicate (f.nn-f.np) none) S=.ok (.nx ρ) S):callC F N f l S=.ok .non S:=by
 simp only [callC,hl,wL,h,Res.bind,leave]
 cases f.keeps <;> simp
theorem jH {f:CF} {l:List D} (hl:l.length=f.np) (hk:f.keeps=false) (h:exs F N f.body (l.map some++List.replicate (f.nn-f.np) none) S=.ok (.rt d) (S1++S2)) (hs:S1.length=S.length) (hr:refsLt S.length d=true):callC F N f l S=.ok d S1:=by
 simp only [callC,hl,wL,h,Res.bind,leave,hk]
 rw [wN (by simp)]
 split
 ·rename_i z
  have:S2=[]:=by
   rw [wV,hs] at z
   exact w8.mp (by lia)
  rw [this,List.append_nil]
 ·rw [← hs];simp
theorem qi4 {f:CF} {l:List D} (hl:l.length=f.np) (hk:f.keeps=true) (h:exs F N f.body (l.map some++List.replicate (f.nn-f.np) none) S=.ok (.rt d) S1):callC F N f l S=.ok d S1:=by
 simp only [callC,hl,wL,h,Res.bind,leave,hk]
theorem qcY {x y:Bool} (h:ev F e1 ρ S=.ok (.bl x) S) (h2:ev F e2 ρ S=.ok (.bl y) S):ev F (.and e1 e2) ρ S=.ok (.bl (x&&y)) S:=by
 cases x <;> simp [ev,h,h2,Res.bind]
theorem qj {i:Nat} {es:CEs} {l:List D} (h:evs F es ρ S=.ok l S1) (h2:F i l S1=.ok d S2):ev F (.call i es) ρ S=.ok d S2:=by simp [ev,h,h2,Res.bind]
theorem qG {i:Blt} {es:CEs} {l:List D} (h:evs F es ρ S=.ok l S1) (h2:bltD i l S1=.ok d S2):ev F (.blt i es) ρ S=.ok d S2:=by simp [ev,h,h2,Res.bind]
theorem qe {es:CEs} {l:List D} (h:ev F e ρ S=.ok d S1) (h2:evs F es ρ S1=.ok l S2):evs F (.cons e es) ρ S=.ok (d::l) S2:=by simp [evs,h,h2,Res.bind]
theorem qA {o:BOp} (h:ev F e1 ρ S=.ok d1 S1) (h2:ev F e2 ρ S1=.ok d2 S2) (h3:binD o d1 d2 S2=some d):ev F (.bin o e1 e2) ρ S=.ok d S2:=by simp [ev,h,h2,h3,Res.bind]
theorem zH {o:COp} {x:Bool} (h:ev F e1 ρ S=.ok d1 S1) (h2:ev F e2 ρ S1=.ok d2 S2) (h3:cmpD o d1 d2 S2=some x):ev F (.cmp o e1 e2) ρ S=.ok (.bl x) S2:=by simp [ev,h,h2,h3,Res.bind]
theorem qF (h:ev F e1 ρ S=.ok d1 S1) (h2:ev F e2 ρ S1=.ok d2 S2) (h3:idxD S2 d1 d2=some d):ev F (.idx e1 e2) ρ S=.ok d S2:=by simp [ev,h,h2,h3,Res.bind]
theorem qK {es:CEs} {l:List D} (h:evs F es ρ S=.ok l S1) (hl:l.length≤PySem.sizeLine):ev F (.tup es) ρ S=.ok (.tup l) S1:=by simp [ev,h,hl,Res.bind]
theorem t_of {x:Bool} (h:ev F e ρ S=.ok (.bl x) S1):tst F (.val e) ρ S=.ok x S1:=by simp [tst,h,Res.bind,truD]
theorem t_no {x:Bool} (h:tst F c ρ S=.ok x S1):tst F (.not c) ρ S=.ok (!x) S1:=by simp [tst,h,Res.bind]
theorem qkp {c2:CB} {x y:Bool} (h:tst F c ρ S=.ok x S) (h2:x=true→tst F c2 ρ S=.ok y S):tst F (.and c c2) ρ S=.ok (x&&y) S:=by
 cases x <;> simp [tst,h,h2,Res.bind]
theorem qaP {x:Bool} (h:tst F c ρ S=.ok x S):tsts F (.cons c .nil) ρ S=.ok x S:=by
 cases x <;> simp [tsts,h,Res.bind]
end
theorem jI {α:Type} {g:α→D} {F:Fs} {fr:List Nat} {nt:Nat} {elt:CE} {tg:CT} {it:CI} {ρ:En} {S S1:Sr} {ds:List D} (xs:List α) (R:En→Prop) (hI:evI F it ρ S=.ok ds S1) (hd:ds=xs.map g) (h0:R (frE ρ fr nt))
  (H:∀ d∈xs,∀ ρ:En,R ρ→∃ ρ1,asg F tg (g d) ρ S1=.ok ρ1 S1∧R ρ1∧ev F elt ρ1 S1=.ok (.bl true) S1) :
  ev F (.gen .all fr nt elt tg it .nil) ρ S=.ok (.bl true) S1:=by
 have:=jf xs (λ_=>true) R hI hd h0 H
 rw [List.all_eq_true.mpr (λ_ _=>rfl)] at this
 exact this
theorem qN {α:Type} (l:List α):l.filter (λ_=>true)=l:=List.filter_eq_self.mpr λ_ _=>rfl
theorem qft {α:Type} (f:α→D) (p:List α):((p.map f).zip ((p.drop 1).map f)).map (λq=>D.tup [q.1,q.2])=(p.zip (p.drop 1)).map λq=>.tup [f q.1,f q.2]:=by
 rw [List.zip_map,wd];rfl
theorem refsI (k:Nat):∀ l:List Int,refsLts k (l.map .int)=true
 | []=>rfl
 | a::r=>by rw [wQ,refsLts,refsI k r];rfl
theorem yh (k:Nat) (l:List Int):refsLt k (tupI l)=true:=refsI k l
theorem yK (k:Nat) (t:Tie):refsLt k (tieD t)=true:=by
 show (refsLt k (tupI t.1)&&(refsLt k (.int t.2)&&true))=true
 rw [yh];rfl
theorem qaj (k:Nat):∀ l:List Tie,refsLts k (l.map tieD)=true
 | []=>rfl
 | a::r=>by rw [wQ,refsLts,qaj k r,yK];rfl
theorem jJ (k:Nat) (w:Wb):refsLt k (webD w)=true:=by
 show (refsLt k (tupI w.costs)&&(refsLts k (w.ties.map tieD)&&true))=true
 rw [yh,qaj];rfl
theorem zu (l:List Int) (S:Sr):bltD .len [tupI l] S=.ok (.int l.length) S:=by simp [bltD,one,bLen,lenD,tupI]
noncomputable def subB (a p:List Int):Bool:=a.all λx=>p.contains x
noncomputable def tin (w:Wb) (p:List Int):List Tie:=w.ties.filter λt=>subB t.1 p
end RP
namespace RP
open R
theorem jg {a:Int} {n:Nat} (h:a.natAbs<2^n):PySem.Builtin.Int.intBits a≤n:=by
 unfold PySem.Builtin.Int.intBits
 split
 ·lia
 ·rename_i z
  have hz:a.natAbs≠0:=by
   intro e;apply z;simp;lia
  have:=(Nat.log2_lt hz).mpr h
  lia
theorem zz {a b:Int} (h:a.natAbs<2^64):mulOk a b=true:=by
 have:=jg h
 unfold mulOk PySem.shortFactorBits
 have e:decide (PySem.Builtin.Int.intBits a>64)=false:=by simp;lia
 rw [e];rfl
theorem qcZ {a b:Int} (h:a.natAbs<2^250) (h2:b.natAbs<2^250):mulOk a b=true:=by
 have h1:=jg h
 have h2:=jg h2
 unfold mulOk PySem.Builtin.Int.intTooBig PySem.bitsLine
 have e:decide (((PySem.Builtin.Int.intBits a:Int)+(PySem.Builtin.Int.intBits b:Int))>((2^27:Nat):Int))=false:=by
  rw [decide_eq_false_iff_not];norm_cast;lia
 rw [e,Bool.and_false];rfl
theorem qc0 {a b:Int} (h0:0<b) (h:b.natAbs<2^64):divOk a b=true:=by
 have hb:=jg h
 unfold divOk PySem.Builtin.divisionGoesByPylong
 unfold PySem.Builtin.Int.intBits at hb
 have e0:(b == 0)=false:=by rw [vI];lia
 rw [e0] at hb
 simp only [e0,vP,if_false] at hb ⊢
 have e:decide (b.natAbs.log2 / 30+1>300)=false:=by rw [decide_eq_false_iff_not];lia
 simp only [e,Bool.false_and];rfl
theorem bmul {a b:Int} {S:Sr} (h:mulOk a b=true):binD .mul (.int a) (.int b) S=some (.int (a*b)):=by
 simp only [binD,binI];rw [wL h];rfl
theorem badd {a b:Int} {S:Sr}:binD .add (.int a) (.int b) S=some (.int (a+b)):=rfl
noncomputable def pk (S:Sr) (n:Nat) (v:Int):Sr:=S.set n (.lst [.int v])
theorem qr (S:Sr) (n:Nat) (v:Int):(pk S n v).length=S.length:=by simp [pk]
theorem qkq {S:Sr} {n:Nat} (h:n<S.length) (v:Int):(pk S n v)[n]?=some (.lst [.int v]):=by simp [pk,h]
theorem zm {S T:Sr} {n:Nat} (h:n<S.length) (v:Int):pk S n v++T=pk (S++T) n v:=by simp [pk,List.set_append_left _ _ h]
theorem qaQ {S:Sr} {n:Nat} {v:Int} (h:S[n]?=some (.lst [.int v])):pk S n v=S:=by
 unfold pk
 apply List.ext_getElem?
 intro i
 rw [List.getElem?_set]
 split
 ·rename_i e;subst e
  obtain ⟨hl,_⟩:=wK.mp h
  rw [wL hl,h]
 ·rfl
theorem qbB {F:Fs} {ρ:En} {S S1:Sr} {es:CEs} {l:List D} (h:evs F es ρ S=.ok l S1) (hl:l.length≤1000):ev F (.lst false es) ρ S=.ok (.lst l) S1:=by
 have:l.length≤PySem.sizeLine:=by unfold PySem.sizeLine;lia
 simp [ev,h,this,Res.bind,newL]
theorem qaR {F:Fs} {ρ:En} {S S1:Sr} {es:CEs} {l:List D} (h:evs F es ρ S=.ok l S1) (hl:l.length≤1000) (hr:refsLts 0 l=true):ev F (.lst true es) ρ S=.ok (.ref S1.length) (S1++[.lst l]):=by
 have:l.length≤PySem.sizeLine:=by unfold PySem.sizeLine;lia
 simp [ev,h,this,Res.bind,newL,hr]
theorem jK {body:D→En→Sr→Res Fl} {d:D} {r:List D} {ρ ρ1:En} {S S1:Sr} (h:body d ρ S=.ok (.nx ρ1) S1):forLoop body (d::r) ρ S=forLoop body r ρ1 S1:=by
 simp only [forLoop,h,Res.bind]
theorem zA {α:Type} {g:α→D} {body:D→En→Sr→Res Fl} (P:List α→En→Sr→Prop) (xs:List α) {ρ:En} {S:Sr} (h0:P [] ρ S)
  (H:∀ (pre:List α) (x:α) (suf:List α) (ρ:En) (S:Sr),xs=pre++x::suf→P pre ρ S→∃ ρ1 S1,body (g x) ρ S=.ok (.nx ρ1) S1∧P (pre++[x]) ρ1 S1) :
  ∃ ρ' S',forLoop body (xs.map g) ρ S=.ok (.nx ρ') S'∧P xs ρ' S':=by
 have key:∀ (suf pre:List α) (ρ:En) (S:Sr),xs=pre++suf→P pre ρ S→∃ ρ' S',forLoop body (suf.map g) ρ S=.ok (.nx ρ') S'∧P xs ρ' S':=by
  intro suf
  induction suf with
  | nil=>intro pre ρ S e h;rw [List.append_nil] at e;subst e;exact ⟨ρ,S,rfl,h⟩
  | cons x r ih =>
   intro pre ρ S e h
   obtain ⟨ρ1,S1,e1,h1⟩:=H pre x r ρ S e h
   obtain ⟨ρ',S',e2,h2⟩:=ih (pre++[x]) ρ1 S1 (by rw [e];simp) h1
   exact ⟨ρ',S',by rw [wQ,jK e1,e2],h2⟩
 exact key xs [] ρ S rfl h0
theorem qfu {α:Type} {g:α→D} {n:Nat} {bind:D→En→Sr→Res En} {test:En→Sr→Res Bool} {elt:En→Sr→Res D} (R:En→Prop) (I:List D→Sr→Prop) (htest:∀ ρ S,test ρ S=.ok true S):∀ (ds:List α) (made:List D) (ρ:En) (S:Sr),made.length+ds.length≤1000→R ρ→I made S→S.length=n →
  (∀ d∈ds,∀ (ρ:En) (m:List D) (S:Sr),R ρ→I m S→S.length=n→m.length<made.length+ds.length→∃ ρ1 v S',bind (g d) ρ (S++[.lst m])=.ok ρ1 (S++[.lst m])∧R ρ1∧elt ρ1 (S++[.lst m])=.ok v (S'++[.lst m])∧S'.length=n∧refsLt 0 v=true∧I (m++[v]) S') →
  ∃ ρ' made' S',lcLoop n bind test elt (ds.map g) ρ (S++[.lst made])=.ok ρ' (S'++[.lst made'])∧I made' S'∧S'.length=n∧made'.length=made.length+ds.length
 | [],made,ρ,S,_,_,hI,hn,_=>⟨ρ,made,S,by simp [lcLoop],hI,hn,by simp⟩
 | d::ds,made,ρ,S,hl,hR,hI,hn,H=>by
  obtain ⟨ρ1,v,S',e1,hR1,e3,hn',hv,hI'⟩:=H d wJ ρ made S hR hI hn (by simp)
  simp only [w4] at hl
  rw [wQ]
  unfold lcLoop
  have ea:appD (S'++[.lst made]) (.ref n) v=.ok .non (S'++[.lst (made++[v])]):=by
   subst hn'
   have hl':made.length<PySem.sizeLine:=by unfold PySem.sizeLine;lia
   simp [appD,hv,hl']
  rw [e1,Res.bind_ok,htest,Res.bind_ok,wL rfl,e3,Res.bind_ok,ea,Res.bind_ok]
  obtain ⟨ρ',made',S2,e,hI2,hn2,hl2⟩:=qfu R I htest ds (made++[v]) ρ1 S' (by simp;lia) hR1 hI' hn' λd' hd ρ m S a b c hlt=>H d' (wM _ hd) ρ m S a b c (by simp at hlt ⊢;lia)
  exact ⟨ρ',made',S2,e,hI2,hn2,by rw [hl2];simp;lia⟩
theorem qfv {α:Type} {g:α→D} {F:Fs} {fr:List Nat} {nt:Nat} {elt:CE} {tg:CT} {it:CI} {ρ:En} {S S1:Sr} {ds:List D} (xs:List α) (R:En→Prop) (I:List D→Sr→Prop) (hI:evI F it ρ S=.ok ds S1) (hd:ds=xs.map g) (h0:R (frE ρ fr nt)) (hl:xs.length≤1000) (hi:I [] S1)
  (H:∀ d∈xs,∀ (ρ:En) (m:List D) (S:Sr),R ρ→I m S→S.length=S1.length→m.length<xs.length→∃ ρ1 v S',asg F tg (g d) ρ (S++[.lst m])=.ok ρ1 (S++[.lst m])∧R ρ1∧ev F elt ρ1 (S++[.lst m])=.ok v (S'++[.lst m])∧S'.length=S1.length∧refsLt 0 v=true∧I (m++[v]) S') :
  ∃ made S',ev F (.lc false fr nt elt tg it .nil) ρ S=.ok (.lst made) S'∧I made S'∧S'.length=S1.length∧made.length=xs.length:=by
 obtain ⟨ρ',made',S',e,h1,h2,h3⟩:=qfu (n:=S1.length) (bind:=λd ρ S=>asg F tg d ρ S) (test:=λρ S=>tsts F .nil ρ S) (elt:=λρ S=>ev F elt ρ S) R I (λ_ _=>by simp [tsts]) xs [] _ S1 (by simpa using hl) h0 hi rfl (by simpa using H)
 refine ⟨made',S',?_,h1,h2,by simpa using h3⟩
 simp only [ev,hI,Res.bind,hd,e,lcEnd]
 rw [← h2]
 simp
end RP
namespace RP
open R
noncomputable def rI (n:Nat):List Int:=(List.range n).map λ(k:Nat)=>(k:Int)
theorem qE (n:Nat):(rI n).length=n:=by simp [rI]
theorem zh {n:Nat} {x:Int}:x∈rI n ↔ 0≤x∧x<n:=by
 unfold rI
 rw [vN]
 constructor
 ·rintro ⟨k,hk,rfl⟩;have:=List.mem_range.mp hk;lia
 ·rintro ⟨h0,h1⟩;exact ⟨x.toNat,List.mem_range.mpr (by lia),by lia⟩
theorem jL (n:Nat):(rI n).Nodup:=by
 unfold rI
 exact List.Pairwise.map _ (λa b h e=>h (by lia)) List.nodup_range
theorem qkr (n:Nat):(rI n).Pairwise (· < ·):=by
 unfold rI
 exact List.Pairwise.map _ (λa b h=>by lia) List.pairwise_lt_range
theorem qhh (n:Nat):rngL 0 n 1=(rI n).map .int:=by
 unfold rngL rI
 have:(((n:Int)-0+1-1) / 1).toNat=n:=by lia
 rw [this,wd]
 apply vK
 intro k _
 simp
theorem qcg {n:Nat} (h:n≤1000):rngD [.int n]=some ((rI n).map .int):=by
 have h1:-(2^62)≤(n:Int):=by lia
 have h2:(n:Int)<2^62:=by lia
 simp only [rngD,h1,h2,and_self,if_true,qhh]
theorem qhJ {n:Nat} (h:n≤1000):((rI n).map D.int).length≤1000000:=by
 rw [wO,qE];exact wv h (by decide)
theorem qfw {α β:Type} (f:α→β):∀ (l:List α) (i:Nat),(l.map f).eraseIdx i=(l.eraseIdx i).map f
 | [],_=>by simp
 | a::r,0=>by simp
 | a::r,i+1=>by simp [qfw f r i]
theorem qc1 {α:Type}:∀ {l:List α} {i:Nat} {x:α},l[i]?=some x→(x::l.eraseIdx i).Perm l
 | [],i,x,h=>by simp at h
 | a::r,0,x,h=>by simp at h;subst h;simp
 | a::r,i+1,x,h=>by
  simp at h
  have:=qc1 h
  simp only [List.eraseIdx_cons_succ]
  exact (List.Perm.swap a x _).trans (this.cons a)
theorem qfx {l:List Int} (h:l.Nodup):(sortI l).Pairwise (· < ·):=by
 have h1:=jz l
 have h2:(sortI l).Nodup:=(zf l).nodup_iff.mpr h
 exact (h1.and h2).imp λ⟨a,b⟩=>by lia
theorem qdV {l:List Int} (h:l.length<64):sortL (l.map .int)=some ((sortI l).map .int):=by
 unfold sortL
 rw [wL (by simpa using h),qM]
theorem fm {v m:Int} (h:0<m):0≤v.fmod m∧v.fmod m<m:=⟨wc v h,Int.fmod_lt_of_pos v h⟩
theorem qfy {F:Fs} {ρ:En} {S S1:Sr} {es:CEs} {l:List D} {k:Option Bool} (h:evs F es ρ S=.ok l S1) {ds:List D} (h2:rngD l=some ds) (h3:ds.length≤1000000):ev F (.rng k es) ρ S=match k with | some m=>newL m ds S1 | none=>.ok (.tup ds) S1:=by
 cases k <;> simp only [ev,h,Res.bind,h2,h3,if_true]
theorem qch {F:Fs} {ρ:En} {S S1:Sr} {es:CEs} {n:Nat} (h:evs F es ρ S=.ok [.int n] S1) (hn:n≤1000):ev F (.rng (some true) es) ρ S=.ok (.ref S1.length) (S1++[.lst ((rI n).map .int)]):=by
 rw [qfy h (qcg hn) (qhJ hn)]
 simp only [newL,refsI,if_true]
theorem qi5 {F:Fs} {ρ:En} {S S1:Sr} {es:CEs} {n:Nat} (h:evs F es ρ S=.ok [.int n] S1) (hn:n≤1000):ev F (.rng (some false) es) ρ S=.ok (.lst ((rI n).map .int)) S1:=by
 rw [qfy h (qcg hn) (qhJ hn)]
 rfl
theorem i_rng {F:Fs} {ρ:En} {S S1:Sr} {es:CEs} {n:Nat} (h:evs F es ρ S=.ok [.int n] S1) (hn:n≤1000):evI F (.rng es) ρ S=.ok ((rI n).map .int) S1:=by
 simp only [evI,h,Res.bind,qcg hn];rfl
theorem qks {F:Fs} {ρ:En} {S S1 S2 S3:Sr} {o i:CE} {x y d:D} (h:ev F o ρ S=.ok x S1) (hi:isLst S1 x=true) (h2:ev F i ρ S1=.ok y S2) (h3:popD S2 x y=.ok d S3):ev F (.popAt o i) ρ S=.ok d S3:=by
 simp only [ev,h,Res.bind,hi,if_true,h2,h3]
theorem qfz {F:Fs} {ρ:En} {S S1 S2 S3:Sr} {o i:CE} {x y d:D} (h:ev F o ρ S=.ok x S1) (hi:isLst S1 x=true) (h2:ev F i ρ S1=.ok y S2) (h3:appD S2 x y=.ok d S3):ev F (.app o i) ρ S=.ok d S3:=by
 simp only [ev,h,Res.bind,hi,if_true,h2,h3]
end RP
namespace RP
open R
noncomputable def ent (t:Tie):List Int × D:=(t.1,.int t.2)
noncomputable def dicD (ts:List Tie):SO:=.dic (ts.map ent)
structure KnOk (many:Nat) (ts:List Tie):Prop where
 nd:(ts.map (·.1)).Nodup
 ok:∀ t∈ts,PlOk many t.1∧t.1.length≤4∧1≤t.2∧t.2≤1000000
noncomputable def putTie (k:List Int) (w:Int) (ts:List Tie):List Tie :=
 if ts.any (λt=>decide (t.1=k)) then ts.map (λt=>if t.1=k then (t.1,w) else t) else ts++[(k,w)]
theorem qfA (k:List Int) (w:Int) (ts:List Tie):putT k (.int w) (ts.map ent)=(putTie k w ts).map ent:=by
 unfold putT putTie
 have e:(ts.map ent).any (λp=>decide (p.1=k))=ts.any (λt=>decide (t.1=k)):=by rw [List.any_map];rfl
 rw [e]
 split
 ·rw [wd,wd]
  apply vK
  intro t _
  show (if t.1=k then (t.1,D.int w) else ent t)=ent (if t.1=k then (t.1,w) else t)
  split <;> rfl
 ·simp [ent]
theorem KnOk.put {many:Nat} {ts:List Tie} (h:KnOk many ts) {k:List Int} {w:Int} (hk:PlOk many k) (hl:k.length≤4) (h1:1≤w) (h2:w≤1000000):KnOk many (putTie k w ts)∧(putTie k w ts).length≤ts.length+1:=by
 unfold putTie
 split
 ·refine ⟨⟨?_,?_⟩,by simp⟩
  ·rw [wd]
   have:ts.map ((·.1)∘λt=>if t.1=k then (t.1,w) else t)=ts.map (·.1):=by
    apply vK
    intro t _
    show (if t.1=k then (t.1,w) else t).1=t.1
    split <;> rfl
   rw [this];exact h.nd
  ·intro t ht
   obtain ⟨s,hs,rfl⟩:=vN.mp ht
   split
   ·rename_i e;exact ⟨(h.ok s hs).1,(h.ok s hs).2.1,h1,h2⟩
   ·exact h.ok s hs
 ·rename_i hn
  refine ⟨⟨?_,?_⟩,by simp⟩
  ·rw [List.map_append,List.nodup_append]
   refine ⟨h.nd,by simp,λa ha b hb e=>?_⟩
   simp at hb
   obtain ⟨s,hs,rfl⟩:=vN.mp ha
   apply hn
   rw [List.any_eq_true]
   exact ⟨s,hs,by rw [vH,e,hb]⟩
  ·intro t ht
   rcases vO.mp ht with z | z
   ·exact h.ok t z
   ·simp at z;subst z;exact ⟨hk,hl,h1,h2⟩
noncomputable def look (ts:List Tie) (k:List Int):Int:=match ts with
 | []=>0
 | t::r=>if t.1=k then t.2 else look r k
theorem qaS:∀ {ts:List Tie} {k:List Int},k∈ts.map (·.1)→lookT k (ts.map ent)=some (.int (look ts k))∧∃ t∈ts,t.1=k∧t.2=look ts k
 | [],k,h=>by simp at h
 | t::r,k,h=>by
  rw [wQ]
  show (if t.1=k then some (D.int t.2) else lookT k (r.map ent))=some (.int (if t.1=k then t.2 else look r k))∧∃ s∈t::r,s.1=k∧s.2=(if t.1=k then t.2 else look r k)
  by_cases e:t.1=k
  ·rw [wL e,wL e];exact ⟨rfl,t,wJ,e,rfl⟩
  ·rw [wN e,wN e]
   have h':k∈r.map (·.1):=by
    rw [wQ] at h
    rcases wZ.mp h with z | z
    ·exact absurd z.symm e
    ·exact z
   obtain ⟨a,s,hs,b⟩:=qaS h'
   exact ⟨a,s,wM _ hs,b⟩
noncomputable def srt (ts:List Tie):List Tie:=(sortT (ts.map (·.1))).map λk=>(k,look ts k)
theorem qfB (ts:List Tie):(srt ts).map (·.1)=sortT (ts.map (·.1)):=by
 unfold srt;rw [wd]
 have:((λt:Tie=>t.1)∘λk=>(k,look ts k))=id:=rfl
 rw [this,List.map_id]
theorem qc2 (ts:List Tie):(srt ts).length=ts.length:=by
 unfold srt;rw [wO,(qP _).length_eq,wO]
theorem qfC {many:Nat} {ts:List Tie} (h:KnOk many ts):(∀ t∈srt ts,PlOk many t.1∧t.1.length≤4∧1≤t.2∧t.2≤1000000)∧((srt ts).map (·.1)).Pairwise λa b=>HT.lexLt a b=true:=by
 refine ⟨λt ht=>?_,by rw [qfB];exact yX h.nd⟩
 unfold srt at ht
 obtain ⟨k,hk,rfl⟩:=vN.mp ht
 obtain ⟨_,s,hs,e1,e2⟩:=qaS ((qP _).mem_iff.mp hk)
 have:=h.ok s hs
 rw [e1,e2] at this
 exact this
theorem jM:∀ l:List (List Int),tupsOf (l.map tupI)=some l
 | []=>rfl
 | a::r=>by simp [tupsOf,tupI,qM];exact jM r
theorem qdW {l:List (List Int)} (h:l.length<64) (nd:l.Nodup) (ne:∀ t∈l,t≠[]):sortL (l.map tupI)=some ((sortT l).map tupI):=by
 unfold sortL
 rw [wL (by simpa using h)]
 cases l with
 | nil=>rfl
 | cons a r =>
  have:intsOf ((a::r).map tupI)=none:=rfl
  rw [this]
  show (tupsOf ((a::r).map tupI)).bind _=_
  rw [jM,wP,wL ⟨nd,ne⟩]
theorem qfD {F:Fs} {ρ:En} {T:Sr} {kx j many:Nat} {ts:List Tie} (hρ:ρ[kx]?=some (some (.ref j))) (hT:T[j]?=some (dicD ts)) (h:KnOk many ts) (hl:ts.length<64) :
  ev F (.blt .tuple (.cons (.lc false [kx] 1 (.tup (.cons (.var 1) (.cons (.idx (.var 0) (.var 1)) .nil))) (.var 1) (.seq (.blt (.sorted false) (.cons (.var kx) .nil))) .nil) .nil)) ρ T=.ok (.tup ((srt ts).map tieD)) T:=by
 have hv:ev F (.var kx) ρ T=.ok (.ref j) T:=by simp only [ev,varE,hρ]
 have hw:walkD T (.ref j)=some ((ts.map (·.1)).map tupI):=by
  simp only [walkD,hT,dicD,wd];rfl
 have hs:bltD (.sorted false) [.ref j] T=.ok (.lst ((sortT (ts.map (·.1))).map tupI)) T:=by
  simp only [bltD,one,bSorted,hw,wP]
  rw [qdW (by simpa using hl) h.nd (λt ht=>by obtain ⟨s,hs,rfl⟩:=vN.mp ht;exact (h.ok s hs).1.ne)]
  rfl
 have hsd:ev F (.blt (.sorted false) (.cons (.var kx) .nil)) ρ T=.ok (.lst ((sortT (ts.map (·.1))).map tupI)) T:=qG (qe hv rfl) hs
 have e:=yI (g:=tupI) (F:=F) (fr:=[kx]) (nt:=1) (elt:=.tup (.cons (.var 1) (.cons (.idx (.var 0) (.var 1)) .nil))) (tg:=.var 1) (it:=.seq (.blt (.sorted false) (.cons (.var kx) .nil))) (ifs:=.nil) (ρ:=ρ) (S:=T) (S1:=T) (ds:=(sortT (ts.map (·.1))).map tupI) (sortT (ts.map (·.1))) (λ_=>true) (λk=>tieD (k,look ts k)) (λρ=>∃ x,ρ=[some (.ref j),x])
  (by simp only [evI,hsd,Res.bind]) rfl ⟨none,by simp [frE,hρ]⟩ (by rw [(qP _).length_eq,wO];unfold PySem.sizeLine;lia) (by
   rintro k hk ρ m ⟨x,rfl⟩
   refine ⟨_,rfl,⟨_,rfl⟩,rfl,λ_=>⟨qK (l:=[tupI k,.int (look ts k)]) (qe rfl (qe (qF (d1:=.ref j) (d2:=tupI k) rfl rfl ?_) rfl)) (by simp [PySem.sizeLine]),yK _ _⟩⟩
   have hj:j<T.length:=(wK.mp hT).1
   have:(T++[SO.lst m])[j]?=some (dicD ts):=by rw [wW hj,hT]
   simp only [idxD,tupI,this,dicD,qM,wP]
   exact (qaS ((qP _).mem_iff.mp hk)).1)
 rw [qN] at e
 refine qG (qe e rfl) ?_
 simp only [bltD,one,bTuple,seqOf,lstOf,wa,ofO]
 unfold srt
 rw [wd];rfl
end RP
namespace RP
open R
noncomputable def deg (T:List Tie) (x:Int):Int:=((T.filter λt=>t.1.contains x).map (·.2)).sum
theorem qhi {p t:List Int} (hp:p.Nodup) (ht:t.Nodup) (h:∀ x∈t,x∈p):(p.filter λx=>t.contains x).length=t.length:=by
 apply List.Perm.length_eq
 refine (List.perm_ext_iff_of_nodup (hp.filter _) ht).mpr λx=>?_
 rw [wm]
 constructor
 ·rintro ⟨_,b⟩;simpa using b
 ·intro hx;exact ⟨h x hx,by simpa using hx⟩
theorem jN {p:List Int} (h:p.Pairwise (· < ·)):p.Nodup:=h.imp λa=>by lia
end RP
namespace RP
open R
noncomputable def eu:Nat→Int→Int→Int
 | 0,a,_=>a
 | n+1,a,b=>if b=0 then a else eu n b (a.fmod b)
theorem qfE:∀ (n:Nat) {a b:Int},0<a→0≤b→0<eu n a b
 | 0,a,b,ha,_=>ha
 | n+1,a,b,ha,hb=>by
  unfold eu
  split
  ·exact ha
  ·exact qfE n (by omega) (wc a (by omega))
theorem qhK:∀ (n:Nat) {a b m:Int},0≤b→a≤m→b≤m→eu n a b≤m
 | 0,a,b,m,_,ha,_=>ha
 | n+1,a,b,m,hb0,ha,hb=>by
  unfold eu
  split
  ·exact ha
  ·have:=Int.fmod_lt_of_pos a (show 0<b by omega)
   exact qhK n (wc a (by omega)) hb (by omega)
theorem qbC {n:Nat} {a b:Int} (ha:0≤a) (hb:0<b):0<eu (n+1) a b∧eu (n+1) a b≤b:=by
 unfold eu
 rw [wN (by omega)]
 have h1:=wc a hb
 have h2:=Int.fmod_lt_of_pos a hb
 exact ⟨qfE n hb h1,qhK n h1 (by omega) (by omega)⟩
theorem half {a b:Int} (h:0<b) (hr:0<a.fmod b):2*b.fmod (a.fmod b)<b:=by
 have h1:=Int.fmod_lt_of_pos a h
 have h2:=Int.fmod_lt_of_pos b hr
 have h3:=wc b hr
 have h4:=Int.mul_fdiv_add_fmod b (a.fmod b)
 have h5:0<b.fdiv (a.fmod b):=by
  rcases Int.lt_or_le 0 (b.fdiv (a.fmod b)) with z | z
  ·exact z
  ·exfalso
   have:a.fmod b*b.fdiv (a.fmod b)≤0:=by
    have:=Int.mul_le_mul_of_nonneg_left z (Int.le_of_lt hr)
    simpa using this
   omega
 have h6:a.fmod b≤a.fmod b*b.fdiv (a.fmod b):=by
  have:=Int.mul_le_mul_of_nonneg_left (show (1:Int)≤b.fdiv (a.fmod b) by omega) (Int.le_of_lt hr)
  simpa using this
 omega
theorem wl {test:En→Sr→Res Bool} {body:En→Sr→Res Fl} {E:Int→Int→En} {S:Sr} (ht:∀ a b,test (E a b) S=.ok (!(b == 0)) S) (hb:∀ a b,0<b→body (E a b) S=.ok (.nx (E b (a.fmod b))) S):∀ (k n:Nat) (a b:Int),0≤a→0≤b→b<2^k→2*k+1≤n→whileLoop test body n (E a b) S=.ok (.nx (E (eu n a b) 0)) S:=by
 have stop:∀ (n:Nat) (a:Int),0<n→whileLoop test body n (E a 0) S=.ok (.nx (E (eu n a 0) 0)) S:=by
  intro n a h
  cases n with
  | zero=>omega
  | succ n =>
   unfold whileLoop eu
   rw [ht,wL rfl];rfl
 have go:∀ (n:Nat) (a b:Int),0<b→whileLoop test body (n+1) (E a b) S=whileLoop test body n (E b (a.fmod b)) S:=by
  intro n a b h
  rw [whileLoop,ht,Res.bind_ok]
  have:(!(b == 0))=true:=by simp;omega
  rw [wL this,hb a b h,Res.bind_ok]
 have eug:∀ (n:Nat) (a b:Int),0<b→eu (n+1) a b=eu n b (a.fmod b):=λn a b h=>by rw [eu,wN (by omega)]
 intro k
 induction k with
 | zero =>
  intro n a b ha hb0 hb1 hn
  have:b=0:=by simp at hb1;omega
  subst this
  exact stop n a (by omega)
 | succ k ih =>
  intro n a b ha hb0 hb1 hn
  by_cases z:b=0
  ·subst z;exact stop n a (by omega)
  ·have hbp:0<b:=by omega
   obtain ⟨m,rfl⟩:∃ m,n=m+2:=⟨n-2,by omega⟩
   have h1:=wc a hbp
   rw [go _ _ _ hbp,eug _ _ _ hbp]
   by_cases z2:a.fmod b=0
   ·rw [z2];exact stop _ _ (by omega)
   ·have hr:0<a.fmod b:=by omega
    rw [go _ _ _ hr,eug _ _ _ hr]
    have h2:=half hbp hr
    have e:(2:Int)^(k+1)=2*2^k:=by rw [Int.pow_succ];omega
    exact ih m _ _ h1 (wc b hr) (by omega) (by omega)
theorem jh {F:Fs} {N:Nat} {ρ ρ1:En} {S S1:Sr} {r a:CSs} {c:CB} {X:Res Fl} (h:whileLoop (λρ S=>tst F c ρ S) (λρ S=>exs F N a ρ S) N ρ S=.ok (.nx ρ1) S1) (h3:exs F N r ρ1 S1=X):exs F N (.cons (.whileS c a) r) ρ S=X:=by
 simp only [exs,ex,h,Res.bind]
 exact h3
theorem bmod {a b:Int} {S:Sr} (h:b≠0):binD .mod (.int a) (.int b) S=some (.int (a.fmod b)):=by
 simp only [binD,binI];rw [wN h];rfl
theorem bdiv {a b:Int} {S:Sr} (h:0<b) (h2:b.natAbs<2^64):binD .fdiv (.int a) (.int b) S=some (.int (a.fdiv b)):=by
 simp only [binD,binI];rw [wL (qc0 h h2)];rfl
theorem qfF {a:Int} {S:Sr} (h:0≤a):bltD .abs [.int a] S=.ok (.int a) S:=by
 simp only [bltD,one,bAbs];rw [wN (by omega)]
noncomputable def cstI (w:Wb) (x:Int):Int:=w.costs.getD x.toNat 0
noncomputable def price (w:Wb) (p:List Int):Int:=(p.map (cstI w)).sum
theorem yd {w:Wb} {x:Int} {S:Sr} (h:0≤x) (h2:x<w.costs.length):idxD S (tupI w.costs) (.int x)=some (.int (cstI w x)):=by
 have hx:x.toNat<w.costs.length:=by omega
 have:L2.ixN (w.costs.map D.int).length x=some x.toNat:=by
  unfold L2.ixN;rw [wL h,wO,wL h2]
 show (L2.ixN (w.costs.map D.int).length x).bind (λj=>(w.costs.map D.int)[j]?)=_
 rw [this]
 simp only [wP,w5,cstI,we,wD hx,wa,Option.getD_some]
theorem qi6 {w:Wb} (h:WbOk w) {x:Int} (h0:0≤x) (h1:x<w.costs.length):1≤cstI w x∧cstI w x≤100:=by
 have hx:x.toNat<w.costs.length:=by omega
 unfold cstI
 rw [we,wD hx]
 exact h.c3 _ (List.getElem_mem hx)
theorem qfG {f:Int→Int}:∀ {l:List Int},(∀ x∈l,1≤f x∧f x≤100)→(l.length:Int)≤(l.map f).sum∧(l.map f).sum≤100*l.length
 | [],_=>by simp
 | a::r,h=>by
  have h1:=qfG (f:=f) (l:=r) λx hx=>h x (wM _ hx)
  have h2:=h a wJ
  simp only [wQ,List.sum_cons,w4]
  omega
theorem yL {w:Wb} {p:List Int} (h:WbOk w) (hp:PlOk w.costs.length p):1≤p.length∧p.length≤12:=by
 have h1:=qhi (p:=rI w.costs.length) (t:=p) (jL _) (jN hp.up) (λx hx=>zh.mpr (hp.rng x hx))
 have h2:=List.length_filter_le (λx=>p.contains x) (rI w.costs.length)
 rw [qE] at h2
 have:=h.c2
 refine ⟨?_,by omega⟩
 cases hz:p with
 | nil=>exact absurd hz hp.ne
 | cons a r=>simp
theorem jO {w:Wb} {p:List Int} (h:WbOk w) (hp:PlOk w.costs.length p):1≤price w p∧price w p≤1200:=by
 have h1:=yL h hp
 have h2:=qfG (f:=cstI w) (l:=p) λx hx=>qi6 h (hp.rng x hx).1 (hp.rng x hx).2
 unfold price;omega
noncomputable def mass (w:Wb) (p:List Int):Int:=((tin w p).map (·.2)).sum
noncomputable def low (n:Nat) (t b:Int):D:=.tup [.int (t.fdiv (eu n t b)),.int (b.fdiv (eu n t b))]
end RP
namespace RP
open R
section
variable {F:Fs} {N:Nat} {ρ ρ1:En} {S S1 S2:Sr} {e1 e2:CE} {c c2:CB}
theorem qkt (h:tst F c ρ S=.ok true S1):tst F (.or c c2) ρ S=.ok true S1:=by simp [tst,h,Res.bind]
theorem qku {y:Bool} (h:tst F c ρ S=.ok false S) (h2:tst F c2 ρ S=.ok y S):tst F (.or c c2) ρ S=.ok y S:=by simp [tst,h,h2,Res.bind]
end
theorem pow6 (F:Fs) (ρ:En) (T:Sr):ev F (.bin .pow (.cst (.int 10)) (.cst (.int 6))) ρ T=.ok (.int 1000000) T:=by
 simp [ev,Res.bind,binD,binI]
end RP
namespace RP
open R
mutual
noncomputable def gd:D→Bool
 | .ref _=>false
 | .tup l=>decide (l.length≤900)&&gds l
 | .lst l=>gds l
 | .non=>true
 | .bl _=>true
 | .int _=>true
 | .str _=>true
 | .emp=>true
noncomputable def gds:List D→Bool
 | []=>true
 | x::r=>gd x&&gds r
end
mutual
noncomputable def tr:D→Bool
 | .int i=>decide (i.natAbs≤10000000)
 | .tup l=>decide (l.length≤60)&&trs l
 | _=>false
noncomputable def trs:List D→Bool
 | []=>true
 | x::r=>tr x&&trs r
end
noncomputable def tl:CSs→CSs
 | .cons _ r=>r
 | .nil=>.nil
end RP
namespace RP
open R
@[irreducible] noncomputable def Ok {α:Type} (r:Res α) (Q:α→Sr→Prop):Prop:=∃ a S,r=.ok a S∧Q a S
theorem Ok.ex {α:Type} {r:Res α} {Q:α→Sr→Prop} (h:Ok r Q):∃ a S,r=.ok a S∧Q a S:=by unfold Ok at h;exact h
theorem Ok.mk {α:Type} {r:Res α} {Q:α→Sr→Prop} (h:∃ a S,r=.ok a S∧Q a S):Ok r Q:=by unfold Ok;exact h
theorem qfH {α:Type} {a:α} {S:Sr} {Q:α→Sr→Prop} (h:Q a S):Ok (.ok a S) Q:=.mk ⟨a,S,rfl,h⟩
theorem Ok.of {α:Type} {r:Res α} {a:α} {S:Sr} {Q:α→Sr→Prop} (e:r=.ok a S) (h:Q a S):Ok r Q:=.mk ⟨a,S,e,h⟩
section
variable {F:Fs} {N:Nat} {ρ:En} {S:Sr} {r a b:CSs} {e e1 e2:CE} {t:CT} {c:CB} {Q:Fl→Sr→Prop} {s:CS}
theorem qfI (h:Q (.nx ρ) S):Ok (exs F N .nil ρ S) Q:=by rw [qJ];exact qfH h
theorem qc3 (h:Ok (ev F e ρ S) λd S1=>Q (.rt d) S1):Ok (exs F N (.cons (.ret e) r) ρ S) Q:=by
 obtain ⟨d,S1,e1,h1⟩:=h.ex
 rw [qH e1];exact qfH h1
theorem zI (h:Ok (ev F e ρ S) λd S1=>Ok (asg F t d ρ S1) λρ1 S2=>Ok (exs F N r ρ1 S2) Q):Ok (exs F N (.cons (.set t e) r) ρ S) Q:=by
 obtain ⟨d,S1,e1,h1⟩:=h.ex
 obtain ⟨ρ1,S2,e2,h2⟩:=h1.ex
 rw [qm e1 e2 rfl];exact h2
theorem qi7 (h:Ok (ev F e ρ S) λ_ S1=>Ok (exs F N r ρ S1) Q):Ok (exs F N (.cons (.expr e) r) ρ S) Q:=by
 obtain ⟨d,S1,e1,h1⟩:=h.ex
 rw [z0 e1 rfl];exact h1
theorem qfJ {α:Type} {g:α→D} {it:CI} (P:List α→En→Sr→Prop) (xs:List α) (h:Ok (evI F it ρ S) λds S1=>ds=xs.map g∧P [] ρ S1)
  (H:∀ (pre:List α) (x:α) (suf:List α) (ρ:En) (S:Sr),xs=pre++x::suf→P pre ρ S→Ok (asg F t (g x) ρ S) λρ1 S1=>Ok (exs F N a ρ1 S1) λf S2=>match f with | .nx ρ2=>P (pre++[x]) ρ2 S2 | _=>False)
  (K:∀ ρ' S',P xs ρ' S'→Ok (exs F N r ρ' S') Q):Ok (exs F N (.cons (.forS t it a) r) ρ S) Q:=by
 obtain ⟨ds,S1,e1,rfl,h0⟩:=h.ex
 obtain ⟨ρ',S',e2,h2⟩:=zA (g:=g) (body:=λd ρ S=>(asg F t d ρ S).bind λρ1 S1=>exs F N a ρ1 S1) P xs h0 (by
  intro pre x suf ρ S hp h1
  obtain ⟨ρ1,S2,e3,h3⟩:=(H pre x suf ρ S hp h1).ex
  obtain ⟨f,S3,e4,h4⟩:=h3.ex
  cases f with
  | nx ρ2=>exact ⟨ρ2,S3,by rw [e3,Res.bind_ok,e4],h4⟩
  | _=>exact h4.elim)
 rw [yJ e1 e2 rfl]
 exact K ρ' S' h2
theorem ji {f:CF} {l:List D} {Q:D→Sr→Prop} (hl:l.length=f.np) (hk:f.keeps=false) (h:Ok (exs F N f.body (l.map some++List.replicate (f.nn-f.np) none) S) λx S1=>match x with
  | .rt d=>S.length≤S1.length∧refsLt S.length d=true∧Q d (S1.take S.length)
  | _=>False):Ok (callC F N f l S) Q:=by
 obtain ⟨x,S1,e1,h1⟩:=h.ex
 cases x with
 | rt d =>
  obtain ⟨h2,h3,h4⟩:=h1
  have:callC F N f l S=.ok d (S1.take S.length):=by
   simp only [callC,hl,wL,e1,Res.bind,leave,hk]
   rw [wN (by simp)]
   split
   ·rename_i z;rw [← z,List.take_length]
   ·first | rfl | rw [wL h3]
  rw [this];exact qfH h4
 | _=>exact h1.elim
end
end RP
namespace RP
open R
theorem qbD (a b:Int) (hb:0<b):Int.gcd b (a.fmod b)=Int.gcd a b:=by
 have e:a=a.fmod b+b*a.fdiv b:=by have:=Int.mul_fdiv_add_fmod a b;lia
 have h1:Int.gcd a b=Int.gcd (a.fmod b+b*a.fdiv b) b:=by rw [← e]
 rw [h1,Int.gcd_comm b]
 simp
theorem qi8:∀ (k n:Nat) (a b:Int),0≤a→0≤b→b<2^k→2*k+1≤n→eu n a b=(Int.gcd a b:Int):=by
 have stop:∀ (n:Nat) (a:Int),0≤a→0<n→eu n a 0=(Int.gcd a 0:Int):=by
  intro n a ha h
  cases n with
  | zero=>lia
  | succ n=>unfold eu;rw [wL rfl,Int.gcd_zero_right];lia
 have eug:∀ (n:Nat) (a b:Int),0<b→eu (n+1) a b=eu n b (a.fmod b):=λn a b h=>by rw [eu,wN (by lia)]
 intro k
 induction k with
 | zero =>
  intro n a b ha hb0 hb1 hn
  have:b=0:=by simp at hb1;lia
  subst this
  exact stop n a ha (by lia)
 | succ k ih =>
  intro n a b ha hb0 hb1 hn
  by_cases z:b=0
  ·subst z;exact stop n a ha (by lia)
  ·have hbp:0<b:=by lia
   obtain ⟨m,rfl⟩:∃ m,n=m+2:=⟨n-2,by lia⟩
   have h1:=wc a hbp
   rw [eug _ _ _ hbp,← qbD a b hbp]
   by_cases z2:a.fmod b=0
   ·rw [z2];exact stop _ _ (by lia) (by lia)
   ·have hr:0<a.fmod b:=by lia
    rw [eug _ _ _ hr,← qbD b _ hr]
    have h2:=half hbp hr
    have e:(2:Int)^(k+1)=2*2^k:=by rw [Int.pow_succ];lia
    exact ih m _ _ (by lia) (wc b hr) (by lia) (by lia)
noncomputable def lw (t b:Int):Int × Int:=(t.fdiv (Int.gcd t b:Int),b.fdiv (Int.gcd t b:Int))
structure Lw (p:Int × Int):Prop where
 pos:1≤p.2
 one:Int.gcd p.1 p.2=1
theorem yi {t b:Int} (hb:1≤b):0<Int.gcd t b:=Int.gcd_pos_of_ne_zero_right t (by lia)
theorem qbE {t g:Int} (hg:0<g) (h:g∣t):t.fdiv g*g=t:=by
 rw [Int.fdiv_eq_ediv_of_nonneg _ (by lia)]
 exact Int.ediv_mul_cancel h
theorem jP {t b:Int} (hb:1≤b):(lw t b).1*(Int.gcd t b:Int)=t∧(lw t b).2*(Int.gcd t b:Int)=b :=
 ⟨qbE (by have:=yi (t:=t) hb;lia) (Int.gcd_dvd_left t b),qbE (by have:=yi (t:=t) hb;lia) (Int.gcd_dvd_right t b)⟩
theorem qhL {t b:Int} (hb:1≤b):(lw t b).1*b=t*(lw t b).2:=by
 obtain ⟨h1,h2⟩:=jP (t:=t) hb
 calc (lw t b).1*b=(lw t b).1*((lw t b).2*(Int.gcd t b:Int)):=by rw [h2]
  _=((lw t b).1*(Int.gcd t b:Int))*(lw t b).2:=by rw [Int.mul_assoc,Int.mul_comm (lw t b).2]
  _=t*(lw t b).2:=by rw [h1]
theorem qc4 {t b:Int} (hb:1≤b):Lw (lw t b):=by
 have hg:=yi (t:=t) hb
 obtain ⟨h1,h2⟩:=jP (t:=t) hb
 have hg':0<(Int.gcd t b:Int):=by lia
 refine ⟨?_,?_⟩
 ·rcases Int.lt_or_le 0 (lw t b).2 with z | z
  ·exact z
  ·exfalso
   have:=Int.mul_le_mul_of_nonneg_right z (show 0≤(Int.gcd t b:Int) by lia)
   rw [h2] at this;lia
 ·have e1:(lw t b).1=t / (Int.gcd t b:Int):=Int.fdiv_eq_ediv_of_nonneg _ (by lia)
  have e2:(lw t b).2=b / (Int.gcd t b:Int):=Int.fdiv_eq_ediv_of_nonneg _ (by lia)
  rw [e1,e2]
  exact Int.gcd_ediv_gcd_ediv_gcd hg
end RP
namespace RP
open R
section
variable {many:Nat} {o:List Int} (hp:o.Perm (rI many))
include hp
end
section
variable {many:Nat} {o:List Int} (hp:o.Perm (rI many))
include hp
end
section
variable {w:Wb} (hw:WbOk w) {o:List Int} (hp:o.Perm (rI w.costs.length))
include hw hp
end
end RP
namespace RP
open R PySem
noncomputable def tx (p:Int × Int):Str:=if p.2=1 then Str.ofString (toString p.1) else Str.ofString (toString p.1)++Str.ofString "/"++Str.ofString (toString p.2)
end RP
namespace RP
open R
noncomputable abbrev NW:Nat:=60
@[irreducible] noncomputable def G (d:Nat):Fs:=run prg NW d
theorem qfK (d:Nat):G d=run prg NW d:=by unfold G;rfl
theorem G_at {d i:Nat} {c:CF} (h:prg[i]?=some c) (l:List D) (S:Sr):G (d+1) i l S=callC (G d) NW c l S:=by
 rw [qfK,qfK]
 show (match prg[i]? with | some c=>callC (run prg NW d) NW c l S | none=>.no)=_
 rw [h]
theorem qci {d:Nat} {i:Int} {S:Sr}:G (d+1) 0 [.int i] S=.ok (.bl true) S:=by
 rw [G_at (c:=c_0) rfl]
 simp [callC,c_0,Res.bind,exs,ex,ev,varE,isiD,leave]
theorem qO {d:Nat} {i a b:Int} {S:Sr}:G (d+2) 1 [.int i,.int a,.int b] S=.ok (.bl (decide (a≤i)&&decide (i≤b))) S:=by
 rw [G_at (c:=c_1) rfl]
 by_cases h:a≤i <;> simp [callC,c_1,exs,ex,ev,evs,varE,Res.bind,qci,cmpD,h,leave]
theorem qbF {d:Nat} {p:List Int} {S:Sr} (hne:p≠[]) (h:p.Pairwise (· < ·)):G (d+1) 11 [tupI p] S=.ok (.bl true) S:=by
 rw [G_at (c:=c_11) rfl]
 have e:evI (G d) (.zip (.var 0) (.slc (.var 0) (.some (.cst (.int 1))) .none)) [some (tupI p)] S=.ok ((p.zip (p.drop 1)).map λq=>.tup [.int q.1,.int q.2]) S:=by
  have:slcD S (tupI p) (some 1) none=some (tupI (p.drop 1)):=by
   unfold slcD tupI
   simp only [cut1];simp
  simp [Res.bind,callC,exs,ex,ev,evs,evO,evI,asg,asgs,tst,tsts,varE,frE,bltD,one,two,leave,ofO,truD,this]
  simp only [tupI,walkF,List.zip_map',List.zip_map,wd]
  simp
 refine qI rfl (qH ?_)
 rw [← qfs h]
 exact jf (p.zip (p.drop 1)) (λq=>decide (q.1<q.2)) (λρ=>∃ x y,ρ=[x,y]) e rfl ⟨_,_,rfl⟩ (by
  rintro q _ ρ ⟨x,y,rfl⟩
  exact ⟨_,rfl,⟨_,_,rfl⟩,by simp [Res.bind,callC,exs,ex,ev,evs,evO,evI,asg,asgs,tst,tsts,varE,frE,bltD,one,two,leave,ofO,truD,cmpD]⟩)
theorem qaT {d:Nat} {p:List (List Int)} {S:Sr} (h:p.Pairwise λa b=>HT.lexLt a b=true):G (d+1) 11 [.lst (p.map tupI)] S=.ok (.bl true) S:=by
 rw [G_at (c:=c_11) rfl]
 have e:evI (G d) (.zip (.var 0) (.slc (.var 0) (.some (.cst (.int 1))) .none)) [some (.lst (p.map tupI))] S=.ok ((p.zip (p.drop 1)).map λq=>.tup [tupI q.1,tupI q.2]) S:=by
  have:slcD S (.lst (p.map tupI)) (some 1) none=some (.lst ((p.drop 1).map tupI)):=by
   unfold slcD lstOf
   simp [cut1]
  rw [← qft]
  simp only [evI,ev,evO,varE,Res.bind,List.getElem?_cons_zero,this,ofO,walkF]
 refine qI rfl (qH ?_)
 rw [← qcW h]
 exact jf (p.zip (p.drop 1)) (λq=>HT.lexLt q.1 q.2) (λρ=>∃ x y,ρ=[x,y]) e rfl ⟨_,_,rfl⟩ (by
  rintro q _ ρ ⟨x,y,rfl⟩
  exact ⟨_,rfl,⟨_,_,rfl⟩,by simp [Res.bind,callC,exs,ex,ev,evs,evO,evI,asg,asgs,tst,tsts,varE,frE,bltD,one,two,leave,ofO,truD,cmpD,tupI,qM]⟩)
theorem qaU {d n:Nat} {p:List Int} {S:Sr} (h:PlOk n p):G (d+3) 10 [tupI p,.int n] S=.ok (.bl true) S:=by
 rw [G_at (c:=c_10) rfl]
 have hn:(List.map D.int p).isEmpty=false:=by
  cases p with
  | nil=>exact absurd rfl h.ne
  | cons a r=>rfl
 refine qI rfl (x_no (S1:=S) ?_ (qH (qcY (x:=true) (y:=true) ?_ ?_)))
 ·simp [Res.bind,callC,exs,ex,ev,evs,evO,evI,asg,asgs,tst,tsts,varE,frE,bltD,one,two,leave,ofO,truD,tupI,isiD,hn]
 ·exact jI (g:=.int) p (λρ=>∃ x,ρ=[some (.int n),x]) rfl rfl ⟨_,rfl⟩ (by
   rintro q hq ρ ⟨x,rfl⟩
   have h1:=(h.rng q hq).1
   have h2:q≤(n:Int)-1:=by have:=(h.rng q hq).2;omega
   exact ⟨_,rfl,⟨_,rfl⟩,by simp [Res.bind,callC,exs,ex,ev,evs,evO,evI,asg,asgs,tst,tsts,varE,frE,bltD,one,two,leave,ofO,truD,binD,binI,qO,h1,h2]⟩)
 ·exact qj rfl (qbF h.ne h.up)
theorem yM {d n:Nat} {p:List Int} {S:Sr} (h:PlOk n p) (h2:p.length≤4):G (d+4) 9 [tupI p,.int n] S=.ok (.bl true) S:=by
 rw [G_at (c:=c_9) rfl]
 exact qI rfl (qH (qcY (x:=true) (y:=true) (qj rfl (qaU h)) (zH (qG rfl (zu _ _)) rfl (by simp [cmpD];omega))))
theorem qfL {d n:Nat} {t:Tie} {S:Sr} (h:PlOk n t.1) (h2:t.1.length≤4) (h3:1≤t.2∧t.2≤1000000):G (d+5) 8 [tieD t,.int n] S=.ok (.bl true) S:=by
 rw [G_at (c:=c_8) rfl]
 refine qI rfl (x_no (S1:=S) ?_ (qm (d:=tieD t) (S1:=S) rfl (ρ1:=[some (tieD t),some (.int n),some (tupI t.1),some (.int t.2)]) rfl (qH (qcY (x:=true) (y:=true) (qj rfl (yM h h2)) ?_))))
 ·simp [Res.bind,callC,exs,ex,ev,evs,evO,evI,asg,asgs,tst,tsts,varE,frE,bltD,one,two,leave,ofO,truD,tieD,isiD,bLen,lenD,cmpD,eqD]
 ·simp [Res.bind,callC,exs,ex,ev,evs,evO,evI,asg,asgs,tst,tsts,varE,frE,bltD,one,two,leave,ofO,truD,qO,h3.1,h3.2]
theorem qcj {d:Nat} {w:Wb} {S:Sr} (h:WbOk w):G (d+6) 7 [.tup (w.ties.map tieD),.int w.costs.length] S=.ok (.bl true) S:=by
 rw [G_at (c:=c_7) rfl]
 refine qI rfl (x_no (S1:=S) ?_ (x_no (S1:=S) (t_no (x:=true) (t_of ?_)) (qH (qj (l:=[.lst ((w.ties.map (·.1)).map tupI)]) (qe ?_ rfl) (qaT h.t3)))))
 ·simp [Res.bind,callC,exs,ex,ev,evs,evO,evI,asg,asgs,tst,tsts,varE,frE,bltD,one,two,leave,ofO,truD,isiD,bLen,lenD,cmpD];have:=h.t1;omega
 ·exact jI (g:=tieD) w.ties (λρ=>∃ x,ρ=[some (.int w.costs.length),x]) rfl rfl ⟨_,rfl⟩ (by
   rintro t ht ρ ⟨x,rfl⟩
   obtain ⟨a,b,c⟩:=h.t2 t ht
   exact ⟨_,rfl,⟨_,rfl⟩,qj rfl (qfL a b c)⟩)
 ·have:=yI (g:=tieD) (F:=G (d+5)) (fr:=[]) (nt:=2) (elt:=.var 0) (tg:=.tup (.cons (.var 0) (.cons (.var 1) .nil))) (it:=.seq (.var 0)) (ifs:=.nil) (ρ:=[some (.tup (w.ties.map tieD)),some (.int w.costs.length)]) (S:=S) (S1:=S) w.ties (λ_=>true) (λt=>tupI t.1) (λρ=>∃ x y,ρ=[x,y]) rfl rfl ⟨_,_,rfl⟩ (by have:=h.t1;unfold PySem.sizeLine;omega) (by
   rintro t ht ρ m ⟨x,y,rfl⟩
   exact ⟨_,rfl,⟨_,_,rfl⟩,rfl,λ_=>⟨rfl,yh _ t.1⟩⟩)
  rw [qN] at this
  rw [wd]
  exact this
theorem qbG {d:Nat} {w:Wb} {S:Sr} (h:WbOk w):G (d+4) 6 [tupI w.costs] S=.ok (.bl true) S:=by
 rw [G_at (c:=c_6) rfl]
 refine qI rfl (x_no (S1:=S) ?_ (qH ?_))
 ·have h1:(1:Int)≤w.costs.length:=by have:=h.c1;omega
  have h2:(w.costs.length:Int)≤12:=by have:=h.c2;omega
  simp [Res.bind,callC,exs,ex,ev,evs,evO,evI,asg,asgs,tst,tsts,varE,frE,bltD,one,two,leave,ofO,truD,tupI,isiD,bLen,lenD,cmpD,h1,h2]
 ·exact jI (g:=.int) w.costs (λρ=>∃ x,ρ=[x]) rfl rfl ⟨_,rfl⟩ (by
   rintro q hq ρ ⟨x,rfl⟩
   exact ⟨_,rfl,⟨_,rfl⟩,by simp [Res.bind,callC,exs,ex,ev,evs,evO,evI,asg,asgs,tst,tsts,varE,frE,bltD,one,two,leave,ofO,truD,qO,(h.c3 q hq).1,(h.c3 q hq).2]⟩)
theorem qfM {d:Nat} {w:Wb} {S:Sr} (h:WbOk w):G (d+7) 5 [webD w] S=.ok (.bl true) S:=by
 rw [G_at (c:=c_5) rfl]
 refine qI rfl (x_no (S1:=S) ?_ (qm (d:=webD w) (S1:=S) rfl rfl (qH (qcY (x:=true) (y:=true) (qj rfl (qbG h)) (qj (l:=[.tup (w.ties.map tieD),.int w.costs.length]) (qe rfl (qe (qG rfl (zu _ _)) rfl)) (qcj h))))))
 simp [Res.bind,callC,exs,ex,ev,evs,evO,evI,asg,asgs,tst,tsts,varE,frE,bltD,one,two,leave,ofO,truD,webD,isiD,bLen,lenD,cmpD,eqD]
theorem jQ {d:Nat} {w:Wb} {S:Sr} (h:WbOk w):G (d+8) 12 [webD w] S=.ok .non S:=by
 rw [G_at (c:=c_12) rfl]
 exact qcX rfl (x_no (S1:=S) (t_no (x:=true) (t_of (qj rfl (qfM h)))) qJ)
theorem jj (x:Int) (p:List Int):inD (.int x) (p.map .int)=some (p.contains x):=by
 have h1:(p.map D.int).all flatD=true:=by simp [flatD]
 unfold inD
 rw [h1]
 simp only [flatD,Bool.and_self,if_true,List.any_map]
 congr 1
 rw [← List.any_beq']
 rfl
end RP
namespace RP
open R
theorem qhj {d:Nat} {c:Int} {S:Sr}:∃ m:Int,0≤m∧m<10^60∧G (d+1) 20 [.int c] S=.ok (.int m) S:=by
 have p0:(0:Int)<10^60:=by decide
 have h1:=wc c p0
 have h2:=Int.fmod_lt_of_pos c p0
 refine ⟨(c.fmod (10^60)*845098040014256830712216258592636193483572396323965406503637).fmod (10^60),wc _ p0,Int.fmod_lt_of_pos _ p0,?_⟩
 rw [G_at (c:=c_20) rfl]
 refine qI rfl (qH (qA (d1:=.int (c.fmod (10^60)*845098040014256830712216258592636193483572396323965406503637)) (d2:=.int (10^60)) (S1:=S) (qA (d1:=.int (c.fmod (10^60))) (S1:=S) (qA (d1:=.int c) (d2:=.int (10^60)) (S1:=S) rfl rfl rfl) rfl ?_) rfl rfl))
 exact bmul (qcZ (by
  have e:(10:Int)^60<2^250:=by decide
  have:(((2:Nat)^250:Nat):Int)=(2:Int)^250:=by norm_cast
  lia) (by decide))
theorem ye {d n:Nat} {v m:Int} {S:Sr} (hn:n<S.length) (h0:0<m) (hm:m.natAbs<2^64):G (d+1) 22 [.ref n,.int m] (pk S n v)=.ok (.int (v.fmod m)) (pk S n (v.fdiv m)):=by
 rw [G_at (c:=c_22) rfl]
 have e:=qkq hn v
 have hx:exs (G d) NW c_22.body [some (.ref n),some (.int m),none] (pk S n v)=.ok (.rt (.int (v.fmod m))) (pk S n (v.fdiv m)):=by
  refine qm (d:=.tup [.int (v.fdiv m),.int (v.fmod m)]) (S1:=pk S n v) (qG (qe (qF (d:=.int v) rfl rfl ?_) (qe rfl rfl)) ?_) (ρ1:=[some (.ref n),some (.int m),some (.int (v.fmod m))]) (S2:=pk S n (v.fdiv m)) ?_ (qH rfl)
  ·simp [idxD,seqOf,lstOf,e,L2.atI,L2.ixN]
  ·simp [bltD,two,bDivmod,qc0 h0 hm]
  ·have:putE (pk S n v) (.ref n) (.int 0) (.int (v.fdiv m))=some (pk S n (v.fdiv m)):=by
    simp [putE,putN,e,L2.ixN,refsLt]
    unfold pk;simp
   simp only [asg,asgs,ev,varE,Res.bind,List.getElem?_cons_zero,this]
   rfl
 exact jH (S2:=[]) rfl rfl (by rw [List.append_nil];exact hx) (by simp [qr]) rfl
theorem qbH (l:List Int) (x:Int) (S:Sr):∃ c:Int,idxD S (.lst (l.map .int++[.int x])) (.int 0)=some (.int c):=by
 cases l with
 | nil=>exact ⟨x,rfl⟩
 | cons a r=>exact ⟨a,by simp [idxD,seqOf,lstOf,L2.atI,L2.ixN]⟩
theorem qhk (l:List Int) (a b:Option Int):∃ m:List Int,cutD (l.map .int) a b=m.map .int∧m.length≤l.length:=by
 unfold cutD
 rw [wO,← List.map_drop,← List.map_take]
 exact ⟨_,rfl,by simp;lia⟩
theorem bcat {a b:List D} {S:Sr} (h:a.length+b.length≤1000):binD .add (.lst a) (.lst b) S=some (.lst (a++b)):=by
 have:catOk a b=true:=by unfold catOk PySem.sizeLine;rw [vH];lia
 simp [binD,lstOf,this]
theorem qak {d:Nat} {ns:List Int} (h63:ns.length≤63) {k f a:Int} {x y:Option D} {S:Sr} (hf0:0≤f) (hf:f<10^60) (ha:0≤a) (ha2:a<100):∃ m c:Int,0≤m∧m<10^60 ∧
  (asg (G (d+1)) (.var 3) (.int a) [some (.lst (ns.map .int)),some (.int k),some (.int f),x,y] S).bind (λρ1 S1=>exs (G (d+1)) NW (.cons (.set (.var 4) (.idx (.bin .add (.slc (.var 0) (.some (.var 3)) (.some (.bin .add (.var 3) (.cst (.int 1))))) (.lst false (.cons (.bin .add (.bin .add (.bin .mul (.cst (.int 5701)) (.var 3)) (.cst (.int 43))) (.bin .mul (.cst (.int 7)) (.idx (.bin .add (.var 0) (.lst false (.cons (.cst (.int 0)) .nil))) (.cst (.int 0))))) .nil))) (.cst (.int 0)))) (.cons (.set (.var 2) (.bin .add (.bin .mul (.var 2) (.bin .pow (.cst (.int 10)) (.cst (.int 60)))) (.call 20 (.cons (.var 4) .nil)))) .nil)) ρ1 S1)
   = .ok (.nx [some (.lst (ns.map .int)),some (.int k),some (.int (f*10^60+m)),some (.int a),some (.int c)]) S:=by
 obtain ⟨x0,hx0⟩:=qbH ns 0 S
 obtain ⟨ms,hms,hl⟩:=qhk ns (some a) (some (a+1))
 obtain ⟨c,hc⟩:=qbH ms (5701*a+43+7*x0) S
 obtain ⟨m,hm0,hm1,hm⟩:=qhj (d:=d) (c:=c) (S:=S)
 refine ⟨m,c,hm0,hm1,?_⟩
 rw [show asg (G (d+1)) (.var 3) (.int a) [some (.lst (ns.map .int)),some (.int k),some (.int f),x,y] S=.ok [some (.lst (ns.map .int)),some (.int k),some (.int f),some (.int a),y] S from rfl,Res.bind_ok]
 refine qm (d:=.int c) (S1:=S) (qF (d1:=.lst (ms.map .int++[.int (5701*a+43+7*x0)])) (S1:=S) (qA (d1:=.lst (ms.map .int)) (d2:=.lst [.int (5701*a+43+7*x0)]) (S1:=S) ?_ ?_ (bcat (by simp;lia))) rfl hc) rfl (qm (d:=.int (f*10^60+m)) (S1:=S) (qA (d1:=.int (f*10^60)) (S1:=S) (qA (d2:=.int (10^60)) (S1:=S) rfl rfl (bmul (qcZ ?_ (by decide)))) (qj rfl hm) badd) rfl qJ)
 ·simp only [ev,evO,varE,Res.bind,List.getElem?_cons_zero,List.getElem?_cons_succ,badd,ofO,slcD,lstOf]
  simp only [wa,hms]
 ·have e1:ev (G (d+1)) (.bin .mul (.cst (.int 7)) (.idx (.bin .add (.var 0) (.lst false (.cons (.cst (.int 0)) .nil))) (.cst (.int 0)))) [some (.lst (ns.map .int)),some (.int k),some (.int f),some (.int a),y] S=.ok (.int (7*x0)) S :=
   qA (S1:=S) rfl (qF (d1:=.lst (ns.map .int++[.int 0])) (S1:=S) (qA (d2:=.lst [.int 0]) (S1:=S) rfl rfl (bcat (by simp;lia))) rfl hx0) (bmul (zz (by decide)))
  have e2:=qA (F:=G (d+1)) (o:=.add) (S:=S) (S1:=S) (e1:=.bin .add (.bin .mul (.cst (.int 5701)) (.var 3)) (.cst (.int 43))) (d1:=.int (5701*a+43)) (qA (S1:=S) (qA (S1:=S) rfl rfl (bmul (zz (by decide)))) rfl badd) e1 badd
  exact qbB (qe e2 rfl) (by simp)
 ·have e:(10:Int)^60<2^250:=by decide
  have:(((2:Nat)^250:Nat):Int)=(2:Int)^250:=by norm_cast
  lia
theorem qck {d:Nat} {ns:List Int} (h63:ns.length≤63) {k:Int} {S:Sr} (hk:0≤k) (hk2:k<90):∃ v:Int,0≤v∧G (d+2) 21 [.lst (ns.map .int),.int k] S=.ok (.ref S.length) (S++[.lst [.int v]]):=by
 obtain ⟨m,c,hm0,hm1,e1⟩:=qak (d:=d) h63 (k:=k) (f:=0) (a:=k+1) (x:=none) (y:=none) (S:=S) (Int.le_refl 0) (by decide) (by lia) (by lia)
 obtain ⟨m2,c2,hm20,hm21,e2⟩:=qak (d:=d) h63 (k:=k) (f:=0*10^60+m) (a:=k) (x:=some (.int (k+1))) (y:=some (.int c)) (S:=S) (by lia) (by lia) (by lia) (by lia)
 refine ⟨(0*10^60+m)*10^60+m2,by lia,?_⟩
 rw [G_at (c:=c_21) rfl]
 refine qi4 rfl rfl (qm (d:=.int 0) (S1:=S) rfl (ρ1:=[some (.lst (ns.map .int)),some (.int k),some (.int 0),none,none]) rfl (yJ (ds:=[.int (k+1),.int k]) (S1:=S) ?_ (ρ1:=[some (.lst (ns.map .int)),some (.int k),some (.int ((0*10^60+m)*10^60+m2)),some (.int k),some (.int c2)]) (S2:=S) ?_ (qH (qaR rfl (by simp) rfl))))
 ·have:ev (G (d+1)) (.lst false (.cons (.bin .add (.var 1) (.cst (.int 1))) (.cons (.var 1) .nil))) [some (.lst (ns.map .int)),some (.int k),some (.int 0),none,none] S=.ok (.lst [.int (k+1),.int k]) S:=qbB (qe (qA (S1:=S) rfl rfl badd) (qe rfl rfl)) (by simp)
  simp only [evI,this,Res.bind]
 ·rw [jK e1,jK e2];rfl
end RP
namespace RP
open R
theorem qhl {r:Int} (h:0≤r∧r<8) (S:Sr):∃ s:Nat,1≤s∧s≤4∧idxD S (.lst [.int 2,.int 2,.int 2,.int 3,.int 3,.int 1,.int 4,.int 2]) (.int r)=some (.int s):=by
 have:r=0∨r=1∨r=2∨r=3∨r=4∨r=5∨r=6∨r=7:=by lia
 rcases this with rfl | rfl | rfl | rfl | rfl | rfl | rfl | rfl
 ·exact ⟨2,by decide,by decide,rfl⟩
 ·exact ⟨2,by decide,by decide,rfl⟩
 ·exact ⟨2,by decide,by decide,rfl⟩
 ·exact ⟨3,by decide,by decide,rfl⟩
 ·exact ⟨3,by decide,by decide,rfl⟩
 ·exact ⟨1,by decide,by decide,rfl⟩
 ·exact ⟨4,by decide,by decide,rfl⟩
 ·exact ⟨2,by decide,by decide,rfl⟩
theorem qfN {d n many:Nat} {v:Int} {S:Sr} (hn:n<S.length) (hv:0≤v) (h1:1≤many) (h2:many≤60):∃ (p:List Int) (u:Int),PlOk many p∧p.length≤4∧0≤u∧G (d+2) 25 [.ref n,.int many] (pk S n v)=.ok (tupI p) (pk S n u):=by
 obtain ⟨s,hs1,hs4,hs⟩:=qhl (fm (v:=v) (m:=8) (by decide)) (pk S n (v.fdiv 8))
 have hu0:0≤v.fdiv 8:=Int.fdiv_nonneg hv (by decide)
 have hL:(pk S n (v.fdiv 8)).length=S.length:=qr ..
 have hcnt:(if (many:Int)<(s:Int) then (many:Int) else (s:Int))=((min s many:Nat):Int):=by split <;> lia
 obtain ⟨made,S',e,⟨ms,ls,u,rfl,rfl,hu,hp⟩,hlen,hml⟩:=qfv (g:=.int) (F:=G (d+1)) (fr:=[3,0]) (nt:=1) (elt:=.popAt (.var 0) (.call 22 (.cons (.var 1) (.cons (.blt .len (.cons (.var 0) .nil)) .nil)))) (tg:=.var 2) (it:=.rng (.cons (.blt .min2 (.cons (.var 2) (.cons (.var 1) .nil))) .nil))
  (ρ:=[some (.ref n),some (.int many),some (.int s),some (.ref S.length),none]) (S:=pk S n (v.fdiv 8)++[.lst ((rI many).map .int)]) (S1:=pk S n (v.fdiv 8)++[.lst ((rI many).map .int)]) (rI (min s many)) (λρ=>∃ x,ρ=[some (.ref S.length),some (.ref n),x])
  (λmade T=>∃ ms ls u,made=ms.map .int∧T=pk S n u++[.lst (ls.map .int)]∧0≤u∧(ms++ls).Perm (rI many))
  (i_rng (n:=min s many) (qe (qG (qe rfl (qe rfl rfl)) (by simp only [bltD,two,bMin,hcnt])) rfl) (by lia)) rfl ⟨_,rfl⟩ (by rw [qE];lia) ⟨[],rI many,_,rfl,rfl,hu0,.refl _⟩ (by
   rintro q hq ρ m T ⟨x,rfl⟩ ⟨ms,ls,u,rfl,rfl,hu,hp⟩ hT hm
   have hpl:=hp.length_eq
   rw [wV,qE] at hpl
   rw [wO,qE] at hm
   have hls:0<ls.length:=by lia
   have f:=fm (v:=u) (m:=(ls.length:Int)) (by lia)
   have et:=ye (d:=d) (n:=n) (v:=u) (m:=ls.length) (S:=(S++[.lst (ls.map .int)])++[.lst (ms.map .int)]) (by simp;lia) (by lia) (by lia)
   rw [← zm (by simp;lia),← zm hn,← zm (by simp;lia),← zm hn] at et
   obtain ⟨y,hy⟩:∃ y,ls[(u.fmod ls.length).toNat]?=some y:=⟨_,wD (by lia)⟩
   refine ⟨[some (.ref S.length),some (.ref n),some (.int q)],.int y,pk S n (u.fdiv ls.length)++[.lst ((ls.eraseIdx (u.fmod ls.length).toNat).map .int)],rfl,⟨_,rfl⟩,?_,by simp [qr],rfl,ms++[y],ls.eraseIdx (u.fmod ls.length).toNat,u.fdiv ls.length,by simp,rfl,Int.fdiv_nonneg hu (by lia),?_⟩
   ·have at1:∀ u,(pk S n u++[.lst (ls.map .int)]++[.lst (ms.map .int)])[S.length]?=some (.lst (ls.map .int)):=by
     intro u
     rw [List.append_assoc,wS (by rw [qr];lia),qr];simp
    have hl:bltD .len [.ref S.length] (pk S n u++[.lst (ls.map .int)]++[.lst (ms.map .int)])=.ok (.int ls.length) (pk S n u++[.lst (ls.map .int)]++[.lst (ms.map .int)]):=by
     simp only [bltD,one,bLen,lenD,at1,wa,wO,ofO];rfl
    have hc:ev (G (d+1)) (.call 22 (.cons (.var 1) (.cons (.blt .len (.cons (.var 0) .nil)) .nil))) [some (.ref S.length),some (.ref n),some (.int q)] (pk S n u++[.lst (ls.map .int)]++[.lst (ms.map .int)])=.ok (.int (u.fmod ls.length)) (pk S n (u.fdiv ls.length)++[.lst (ls.map .int)]++[.lst (ms.map .int)]) :=
     qj (qe rfl (qe (qG rfl hl) rfl)) et
    have hpop:popD (pk S n (u.fdiv ls.length)++[.lst (ls.map .int)]++[.lst (ms.map .int)]) (.ref S.length) (.int (u.fmod ls.length))=.ok (.int y) (pk S n (u.fdiv ls.length)++[.lst ((ls.eraseIdx (u.fmod ls.length).toNat).map .int)]++[.lst (ms.map .int)]):=by
     unfold popD
     simp only [at1]
     rw [wL ⟨f.1,by lia⟩,w5,hy]
     simp only [wa]
     rw [qfw,List.append_assoc,List.set_append_right _ _ (by rw [qr];lia),qr]
     simp
    have hi:isLst (pk S n u++[.lst (ls.map .int)]++[.lst (ms.map .int)]) (.ref S.length)=true:=by simp only [isLst,at1]
    exact qks rfl hi hc hpop
   ·rw [List.append_assoc]
    exact ((qc1 hy).append_left ms).trans hp)
 have hnd:ms.Nodup:=(List.nodup_append.mp (hp.nodup_iff.mpr (jL many))).1
 have hmem:∀ x∈ms,0≤x∧x<many:=λx hx=>zh.mp (hp.mem_iff.mp (wu _ hx))
 rw [wO,qE] at hml
 refine ⟨sortI ms,u,⟨?_,?_,qfx hnd⟩,?_,hu,?_⟩
 ·intro e0
  have:=(zf ms).length_eq
  rw [e0] at this;simp at this;lia
 ·exact λx hx=>hmem x ((zf ms).mem_iff.mp hx)
 ·rw [(zf ms).length_eq];lia
 ·rw [G_at (c:=c_25) rfl]
  refine jH (S2:=[.lst (ls.map .int)]) rfl rfl (qm (d:=.int s) (S1:=pk S n (v.fdiv 8)) (qF (S1:=pk S n v) (d2:=.int (v.fmod 8)) rfl (qj rfl (ye hn (by decide) (by decide))) hs) (ρ1:=[some (.ref n),some (.int many),some (.int s),none,none]) rfl (qm (qch (n:=many) rfl (by lia)) (ρ1:=[some (.ref n),some (.int many),some (.int s),some (.ref S.length),none]) (by rw [hL];rfl) (qm e rfl (qH (qG (qe (qG (d:=.lst ((sortI ms).map .int)) (S2:=pk S n u++[.lst (ls.map .int)]) rfl ?_) rfl) ?_))))) (by rw [qr,qr]) (yh _ _)
  ·simp only [bltD,one,bSorted,walkD,wP]
   rw [qdV (by lia)];rfl
  ·rfl
end RP
namespace RP
open R
theorem qkv {d:Nat} {a b:Int} {S:Sr} (ha:0≤a) (hb:0≤b) (hb2:b<2^20):G (d+1) 2 [.int a,.int b] S=.ok (.int (eu NW a b)) S:=by
 rw [G_at (c:=c_2) rfl]
 have h:=wl (S:=S) (test:=λρ S=>tst (G d) (.val (.var 1)) ρ S) (body:=λρ S=>exs (G d) NW (.cons (.set (.tup (.cons (.var 0) (.cons (.var 1) .nil))) (.tup (.cons (.var 1) (.cons (.bin .mod (.var 0) (.var 1)) .nil)))) .nil) ρ S) (E:=λa b=>[some (.int a),some (.int b)]) (λa b=>rfl) (λa b h=>qm (qK (qe rfl (qe (qA rfl rfl (bmod (by omega))) rfl)) (by simp [PySem.sizeLine])) rfl qJ) 20 NW a b ha hb hb2 (by decide)
 exact qI rfl (jh h (qH rfl))
theorem qfO {d:Nat} {t b:Int} {S:Sr} (ht:0≤t) (hb:1≤b) (hb2:b<2^20):G (d+2) 3 [.int t,.int b] S=.ok (low NW t b) S:=by
 rw [G_at (c:=c_3) rfl]
 have hg:=qbC (n:=59) ht (show 0<b by omega)
 refine qI rfl (qm (d:=.int (eu NW t b)) (S1:=S) (qj (qe (qG rfl (qfF ht)) rfl) (qkv ht (by omega) hb2)) (ρ1:=[some (.int t),some (.int b),some (.int (eu NW t b))]) rfl (qH (qK (qe (qA rfl rfl (bdiv hg.1 (by have:=hg.2;show (eu (59+1) t b).natAbs<2^64;omega))) (qe (qA rfl rfl (bdiv hg.1 (by have:=hg.2;show (eu (59+1) t b).natAbs<2^64;omega))) rfl)) (by simp [PySem.sizeLine]))))
noncomputable def nmD (p:Int × Int):D:=.tup [.int p.1,.int p.2]
theorem qfP {t b:Int} (ht:0≤t) (hb:1≤b) (hb2:b<2^20):low NW t b=nmD (lw t b):=by
 unfold low nmD lw
 rw [qi8 20 NW t b ht (by lia) hb2 (by decide)]
theorem qfQ {d:Nat} {t b:Int} {S:Sr} (ht:0≤t) (hb:1≤b) (hb2:b<2^20):G (d+2) 3 [.int t,.int b] S=.ok (nmD (lw t b)) S:=by
 rw [← qfP ht hb hb2];exact qfO ht hb hb2
theorem qfR {d:Nat} {t b:Int} {S:Sr} (ht:0≤t) (hb:1≤b) (hb2:b<2^20):G (d+1) 23 [.int t,.int b] S=.ok (nmD (lw t b)) S:=by
 rw [← qfP ht hb hb2]
 have hg:=qbC (n:=59) ht (show 0<b by lia)
 have h:=wl (S:=S) (test:=λρ S=>tst (G d) (.val (.cmp .ne (.var 3) (.cst (.int 0)))) ρ S) (body:=λρ S=>exs (G d) NW (.cons (.set (.tup (.cons (.var 2) (.cons (.var 3) .nil))) (.tup (.cons (.var 3) (.cons (.bin .mod (.var 2) (.var 3)) .nil)))) .nil) ρ S) (E:=λx y=>[some (.int t),some (.int b),some (.int x),some (.int y)]) (λx y=>rfl) (λx y h=>qm (qK (qe rfl (qe (qA rfl rfl (bmod (by lia))) rfl)) (by simp [PySem.sizeLine])) rfl qJ) 20 NW t b ht (by lia) hb2 (by decide)
 have hlt:cmpD .lt (.int b) (.int 0) S=some false:=by simp only [cmpD];rw [wj (by lia)]
 rw [G_at (c:=c_23) rfl]
 exact qI rfl (qm (qK (qe (qG rfl (qfF ht)) (qe (qG rfl (qfF (show 0≤b by lia))) rfl)) (by simp [PySem.sizeLine])) (ρ1:=[some (.int t),some (.int b),some (.int t),some (.int b)]) rfl (jh h (x_no (t_of (zH rfl rfl hlt)) (qH (qK (qe (qA rfl rfl (bdiv hg.1 (by have:=hg.2;show (eu (59+1) t b).natAbs<2^64;lia))) (qe (qA rfl rfl (bdiv hg.1 (by have:=hg.2;show (eu (59+1) t b).natAbs<2^64;lia))) rfl)) (by simp [PySem.sizeLine]))))))
structure Nm (p:Int × Int):Prop where
 t:p.1.natAbs<2^60
 b1:1≤p.2
 b2:p.2<2^60
theorem qi9 {t b:Int} (hb:1≤b):(lw t b).1.natAbs≤t.natAbs:=by
 obtain ⟨h1,_⟩:=jP (t:=t) hb
 have hg:=yi (t:=t) hb
 have:((lw t b).1*(Int.gcd t b:Int)).natAbs=t.natAbs:=by rw [h1]
 rw [Int.natAbs_mul] at this
 rw [← this]
 exact Nat.le_mul_of_pos_right _ (by lia)
theorem qhM {t b:Int} (ht:0≤t) (hb:1≤b):0≤(lw t b).1:=by
 obtain ⟨h1,_⟩:=jP (t:=t) hb
 have hg:=yi (t:=t) hb
 rcases Int.lt_or_le (lw t b).1 0 with z | z
 ·have:=Int.mul_neg_of_neg_of_pos z (show (0:Int)<(Int.gcd t b:Int) by lia)
  lia
 ·exact z
theorem qkw {t b:Int} (hb:1≤b):(lw t b).2≤b:=by
 obtain ⟨h1,h2⟩:=jP (t:=t) hb
 have hg:=yi (t:=t) hb
 have hp:=(qc4 (t:=t) hb).pos
 have:=Int.mul_le_mul_of_nonneg_left (show (1:Int)≤(Int.gcd t b:Int) by lia) (show 0≤(lw t b).2 by lia)
 rw [h2] at this;lia
theorem qhN {t b:Int} (ht:t.natAbs<2^60) (hb:1≤b) (hb2:b<2^60):Nm (lw t b):=⟨Nat.lt_of_le_of_lt (qi9 hb) ht,(qc4 hb).pos,Int.lt_of_le_of_lt (qkw hb) hb2⟩
noncomputable def und (p q:Int × Int):Bool:=decide (p.1*q.2<q.1*p.2)
theorem yN (p:Int × Int):und p p=false:=by unfold und;rw [wj (by lia)]
theorem yO {d:Nat} {p q:Int × Int} {S:Sr} (hp:Nm p) (hq:Nm q):G (d+1) 4 [nmD p,nmD q] S=.ok (.bl (und p q)) S:=by
 rw [G_at (c:=c_4) rfl]
 have h1:=hp.t
 have h2:=hq.t
 exact qI rfl (qH (zH (qA (S1:=S) (qF (S1:=S) rfl rfl rfl) (qF (S1:=S) rfl rfl rfl) (bmul (zz (by lia)))) (qA (S1:=S) (qF (S1:=S) rfl rfl rfl) (qF (S1:=S) rfl rfl rfl) (bmul (zz (by lia)))) rfl))
theorem jk {d:Nat} {p q:Int × Int} {S:Sr} (hp:Nm p) (hq:Nm q):G (d+1) 24 [nmD p,nmD q] S=.ok (.bl (und p q)) S:=by
 rw [G_at (c:=c_24) rfl]
 have h1:=hp.t
 have h2:=hq.t
 exact qI rfl (qH (zH (qA (S1:=S) (qF (S1:=S) rfl rfl rfl) (qF (S1:=S) rfl rfl rfl) (bmul (zz (by lia)))) (qA (S1:=S) (qF (S1:=S) rfl rfl rfl) (qF (S1:=S) rfl rfl rfl) (bmul (zz (by lia)))) rfl))
structure Rdl (x:D) (S:Sr) (p:List Int):Prop where
 sq:∀ X,seqOf (S++X) x=some (p.map .int)
 rx:∃ gd,refX x S=some (p.map .int,gd)∧∀ X,gd (S++X)
theorem qja (S:Sr) (p:List Int):Rdl (tupI p) S p:=⟨λ_=>rfl,λ_=>True,rfl,λ_=>trivial⟩
theorem qfS {S:Sr} {n:Nat} {p:List Int} (h:S[n]?=some (.lst (p.map .int))):Rdl (.ref n) S p:=by
 have hl:=(wK.mp h).1
 have hX:∀ X,(S++X)[n]?=some (.lst (p.map .int)):=λX=>by rw [wW hl];exact h
 refine ⟨λX=>?_,own n (p.map .int),?_,λX=>hX X⟩
 ·simp only [seqOf,lstOf,hX X]
 ·simp only [refX,h]
theorem qjb {α:Type} {g:α→D} {F:Fs} {fr:List Nat} {nt:Nat} {elt:CE} {tg:CT} {e:CE} {ifs:CBs} {ρ:En} {S S1:Sr} {x:D} {gd:Sr→Prop} (xs:List α) (b:α→Bool) (v:α→D) (R:En→Prop) (hI:ev F e ρ S=.ok x S1) (hn:refX x S1=some (xs.map g,gd)) (hg:∀ X,gd (S1++X)) (h0:R (frE ρ fr nt)) (hl:xs.length≤PySem.sizeLine)
  (H:∀ d∈xs,∀ (ρ:En) (m:List D),R ρ→∃ ρ1,asg F tg (g d) ρ (S1++[.lst m])=.ok ρ1 (S1++[.lst m])∧R ρ1∧tsts F ifs ρ1 (S1++[.lst m])=.ok (b d) (S1++[.lst m])∧(b d=true→ev F elt ρ1 (S1++[.lst m])=.ok (v d) (S1++[.lst m])∧refsLt 0 (v d)=true)) :
  ev F (.lcX false fr nt elt tg e ifs) ρ S=.ok (.lst ((xs.filter b).map v)) S1:=by
 obtain ⟨ρ',e1⟩:=je (n:=S1.length) (bind:=λd ρ S=>grd gd S (asg F tg d ρ S)) (test:=λρ S=>tsts F ifs ρ S) (elt:=λρ S=>ev F elt ρ S) R rfl xs [] _ (by simpa using hl) h0 (λd hd ρ m hR=>by
  obtain ⟨ρ1,a,b⟩:=H d hd ρ m hR
  exact ⟨ρ1,by rw [qV (hg _)];exact a,b⟩)
 simp only [ev,hI,Res.bind,hn,e1,qV (hg _),lcEnd]
 simp
theorem qbI {α:Type} {g:α→D} {gd:Sr→Prop} {bind:D→En→Sr→Res En} {test:En→Sr→Res Bool} {elt:En→Sr→Res D} {v:α→Int} (R:En→Prop) {S:Sr} (hg:gd S):∀ (ds:List α) (ρ:En) (acc:Int),R ρ →
  (∀ d∈ds,∀ ρ:En,R ρ→∃ ρ1,bind (g d) ρ S=.ok ρ1 S∧R ρ1∧test ρ1 S=.ok true S∧elt ρ1 S=.ok (.int (v d)) S) →
  genLoopG gd bind test elt (stepG .sum) (finG .sum) (ds.map g) ρ (.int acc) S=.ok (.int (acc+(ds.map v).sum)) S
 | [],ρ,acc,_,_=>by rw [List.map_nil];unfold genLoopG;rw [qV hg];simp [finG]
 | d::ds,ρ,acc,hR,H=>by
  obtain ⟨ρ1,e1,hR1,e2,e3⟩:=H d wJ ρ hR
  rw [wQ]
  unfold genLoopG
  rw [qV hg,e1,Res.bind_ok,e2,Res.bind_ok,wL rfl,e3,Res.bind_ok]
  simp only [stepG]
  rw [qbI R hg ds ρ1 _ hR1 λd' hd=>H d' (wM _ hd)]
  simp [Int.add_assoc]
theorem qjc {F:Fs} {ρ:En} {S S1:Sr} {w:GW} {fr:List Nat} {nt:Nat} {ce e:CE} {t:CT} {ci:CBs} {x:D} {ds:List D} {gd:Sr→Prop} {r:Res D} (h:ev F e ρ S=.ok x S1) (hr:refX x S1=some (ds,gd)) (h2:genLoopG gd (λd ρ S=>asg F t d ρ S) (λρ S=>tsts F ci ρ S) (λρ S=>ev F ce ρ S) (stepG w) (finG w) ds (frE ρ fr nt) (startG w) S1=r):ev F (.genX w fr nt ce t e ci) ρ S=r:=by
 simp only [ev,h,Res.bind,hr];exact h2
theorem qjd {F:Fs} {N:Nat} {ρ ρ1:En} {S S1 S2:Sr} {r a:CSs} {t:CT} {e:CE} {x:D} {ds:List D} {gd:Sr→Prop} {Y:Res Fl} (h:ev F e ρ S=.ok x S1) (hr:refX x S1=some (ds,gd)) (h2:forLoop (λd ρ S=>(grd gd S (asg F t d ρ S)).bind λρ1 S1=>exs F N a ρ1 S1) ds ρ S1=.ok (.nx ρ1) S2) (hg:gd S2) (h3:exs F N r ρ1 S2=Y):exs F N (.cons (.forX t e a) r) ρ S=Y:=by
 simp only [exs,ex,h,Res.bind,hr,h2,endG,qV hg]
 exact h3
theorem y8:∀ l:List Bool,boolsOf (l.map .bl)=some l
 | []=>rfl
 | a::r=>by simp [boolsOf,y8 r]
theorem qfT (l:List Bool) (S:Sr):bltD .all [.lst (l.map .bl)] S=.ok (.bl (l.all id)) S:=by
 simp only [bltD,one,bAll,seqOf,lstOf,wP,y8,wa,ofO]
theorem qhO (l:List Int) (S:Sr):bltD .sum [.lst (l.map .int)] S=.ok (.int l.sum) S:=by
 simp only [bltD,one,bSum,seqOf,lstOf,wP,qM,wa,ofO]
theorem e_tw {d:Nat} {w:Wb} {x:D} {p:List Int} {S:Sr} (h:WbOk w) (hx:Rdl x S p):G (d+2) 15 [webD w,x] S=.ok (.lst ((tin w p).map tieD)) S:=by
 rw [G_at (c:=c_15) rfl]
 refine qI rfl (qH ?_)
 exact yI (g:=tieD) (S1:=S) w.ties (λt=>subB t.1 p) tieD (λρ=>∃ y,ρ=[some x,y]) rfl rfl ⟨_,rfl⟩ (by have:=h.t1;unfold PySem.sizeLine;lia) (by
   rintro t ht ρ m ⟨y,rfl⟩
   refine ⟨_,rfl,⟨_,rfl⟩,qaP (t_of ?_),λ_=>⟨rfl,yK _ t⟩⟩
   exact jf (g:=.int) t.1 (λq=>p.contains q) (λρ=>∃ y,ρ=[some x,y]) rfl rfl ⟨_,rfl⟩ (by
    rintro q hq ρ ⟨y,rfl⟩
    exact ⟨_,rfl,⟨_,rfl⟩,zH rfl rfl (by show (seqOf (S++[.lst m]) x).bind (inD (.int q))=_;rw [hx.sq,wP,jj])⟩))
theorem qje {d:Nat} {w:Wb} {x:D} {p:List Int} {S:Sr} (h:WbOk w) (hx:Rdl x S p):G (d+1) 26 [webD w,x] S=.ok (.int (mass w p)) S:=by
 rw [G_at (c:=c_26) rfl]
 have e:=yI (g:=tieD) (F:=G d) (fr:=[1]) (nt:=2) (elt:=.var 2) (tg:=.tup (.cons (.var 1) (.cons (.var 2) .nil))) (it:=.seq (.idx (.var 0) (.cst (.int 1)))) (ifs:=.cons (.val (.blt .all (.cons (.lc false [0] 1 (.cmp .inn (.var 1) (.var 0)) (.var 1) (.seq (.var 1)) .nil) .nil))) .nil) (ρ:=[some (webD w),some x]) (S:=S) (S1:=S) (ds:=w.ties.map tieD) w.ties (λt=>subB t.1 p) (λt=>.int t.2) (λρ=>∃ y z,ρ=[some x,y,z]) rfl rfl ⟨_,_,rfl⟩ (by have:=h.t1;unfold PySem.sizeLine;lia) (by
  rintro t ht ρ m ⟨y,z,rfl⟩
  refine ⟨_,rfl,⟨_,_,rfl⟩,qaP (t_of ?_),λ_=>⟨rfl,rfl⟩⟩
  have hl:t.1.length≤4:=(h.t2 t ht).2.1
  have e:=yI (g:=.int) (F:=G d) (fr:=[0]) (nt:=1) (elt:=.cmp .inn (.var 1) (.var 0)) (tg:=.var 1) (it:=.seq (.var 1)) (ifs:=.nil) (ρ:=[some x,some (tupI t.1),some (.int t.2)]) (S:=S++[.lst m]) (S1:=S++[.lst m]) (ds:=t.1.map .int) t.1 (λ_=>true) (λq=>.bl (p.contains q)) (λρ=>∃ y,ρ=[some x,y]) rfl rfl ⟨_,rfl⟩ (by unfold PySem.sizeLine;lia) (by
   rintro q hq ρ m' ⟨y,rfl⟩
   exact ⟨_,rfl,⟨_,rfl⟩,rfl,λ_=>⟨zH rfl rfl (by show (seqOf (S++[.lst m]++[.lst m']) x).bind (inD (.int q))=_;rw [List.append_assoc,hx.sq,wP,jj]),rfl⟩⟩)
  rw [qN] at e
  have e2:=qfT (t.1.map λx=>p.contains x) (S++[.lst m])
  rw [wd,List.all_map] at e2
  exact qG (qe e rfl) e2)
 have e4:=qhO ((tin w p).map (·.2)) S
 rw [wd] at e4
 exact qI rfl (qH (qG (qe e rfl) e4))
theorem qhm {d:Nat} {w:Wb} {x:D} {p:List Int} {S:Sr} (h:WbOk w) (hx:Rdl x S p) (hp:∀ q∈p,0≤q∧q<w.costs.length) (hl:p.length≤12):G (d+1) 27 [webD w,x] S=.ok (.int (price w p)) S:=by
 rw [G_at (c:=c_27) rfl]
 obtain ⟨gd,h1,h2⟩:=hx.rx
 have e:=qjb (g:=.int) (F:=G d) (fr:=[0]) (nt:=1) (elt:=.idx (.idx (.var 0) (.cst (.int 0))) (.var 1)) (tg:=.var 1) (e:=.var 1) (ifs:=.nil) (ρ:=[some (webD w),some x]) (S:=S) (S1:=S) (x:=x) (gd:=gd) p (λ_=>true) (λq=>.int (cstI w q)) (λρ=>∃ y,ρ=[some (webD w),y]) rfl h1 h2 ⟨_,rfl⟩ (by unfold PySem.sizeLine;lia) (by
   rintro q hq ρ m ⟨y,rfl⟩
   exact ⟨_,rfl,⟨_,rfl⟩,rfl,λ_=>⟨qF (d1:=tupI w.costs) (d2:=.int q) (S1:=S++[.lst m]) (qF rfl rfl rfl) rfl (yd (hp q hq).1 (hp q hq).2),rfl⟩⟩)
 rw [qN] at e
 have e4:=qhO (p.map (cstI w)) S
 rw [wd] at e4
 exact qI rfl (qH (qG (qe e rfl) e4))
noncomputable def shr (w:Wb) (p:List Int):Int × Int:=lw (mass w p) (price w p)
end RP
namespace RP
open R
theorem qfU {M:Int} (hM:0≤M):∀ l:List Tie,(∀ t∈l,0≤t.2∧t.2≤M)→0≤(l.map (·.2)).sum∧(l.map (·.2)).sum≤M*l.length
 | [],_=>by simp
 | a::r,h=>by
  have h1:=qfU hM r λt ht=>h t (wM _ ht)
  have h2:=h a wJ
  rw [wQ,List.sum_cons,w4]
  have e:M*((r.length+1:Nat):Int)=M*r.length+M:=by rw [Int.natCast_add,Int.mul_add];simp
  rw [e]
  lia
theorem qal {w:Wb} (h:WbOk w) (p:List Int):(tin w p).length≤30∧∀ t∈tin w p,0≤t.2∧t.2≤1000000:=by
 refine ⟨wv (List.length_filter_le _ _) h.t1,λt ht=>?_⟩
 have:=(h.t2 t (wm.mp ht).1).2.2
 lia
theorem qcl {w:Wb} (h:WbOk w) (p:List Int):0≤mass w p∧mass w p≤30000000:=by
 obtain ⟨a,b⟩:=qal h p
 have:=qfU (M:=1000000) (by decide) (tin w p) b
 unfold mass
 lia
theorem qc5 {T:List Tie} (h:T.length≤30) (h2:∀ t∈T,0≤t.2∧t.2≤1000000) (x:Int):0≤deg T x∧deg T x≤30000000:=by
 have:=qfU (M:=1000000) (by decide) (T.filter λt=>t.1.contains x) λt ht=>h2 t (wm.mp ht).1
 have hl:=List.length_filter_le (λt:Tie=>t.1.contains x) T
 unfold deg
 lia
theorem qbJ {w:Wb} (h:WbOk w) {x:Int} (h0:0≤x) (h1:x<w.costs.length):1≤cstI w x∧cstI w x≤100:=by
 have hx:x.toNat<w.costs.length:=by lia
 refine h.c3 _ ?_
 unfold cstI
 rw [we,wD hx]
 exact List.getElem_mem hx
theorem qaV {w:Wb} (h:WbOk w) {p:List Int} (hp:PlOk w.costs.length p):Nm (shr w p):=by
 obtain ⟨a,b⟩:=qcl h p
 obtain ⟨c,d⟩:=jO h hp
 exact qhN (by lia) c (by lia)
theorem qc6 {d:Nat} {w:Wb} {x:D} {p:List Int} {S:Sr} (h:WbOk w) (hx:Rdl x S p) (hp:PlOk w.costs.length p):G (d+2) 30 [webD w,x] S=.ok (nmD (shr w p)) S:=by
 rw [G_at (c:=c_30) rfl]
 obtain ⟨a,b⟩:=qcl h p
 obtain ⟨c,e⟩:=jO h hp
 exact qI rfl (qH (qj (qe (qj rfl (qje h hx)) (qe (qj rfl (qhm h hx (λq hq=>hp.rng q hq) (yL h hp).2)) rfl)) (qfR a c (by lia))))
noncomputable def rat (w:Wb) (left:List Int) (x:Int):Int × Int:=lw (deg (tin w left) x) (cstI w x)
theorem yy {w:Wb} (h:WbOk w) (left:List Int) {x:Int} (h0:0≤x) (h1:x<w.costs.length):Nm (rat w left x):=by
 obtain ⟨a,b⟩:=qal h left
 obtain ⟨c,d⟩:=qc5 a b x
 obtain ⟨e,f⟩:=qbJ h h0 h1
 exact qhN (by lia) e (by lia)
noncomputable abbrev Of:=Int × (Int × Int)
noncomputable def offD (o:Of):D:=.tup [.int o.1,nmD o.2]
noncomputable def offS (r:Int→Int × Int) (acc:Of) (x:Int):Of:=if und (r x) acc.2 then (x,r x) else acc
noncomputable def offP (r:Int→Int × Int):List Int→Of
 | []=>(0,(0,1))
 | p::ps=>ps.foldl (offS r) (p,r p)
theorem yj (r:Int→Int × Int) {l:List Int} (h:l≠[]) (x:Int):offP r (l++[x])=offS r (offP r l) x:=by
 cases l with
 | nil=>exact absurd rfl h
 | cons a l=>simp [offP]
theorem yP (r:Int→Int × Int):∀ (n:Nat) (l:List Int),l.length=n→l≠[]→∃ x∈l,offP r l=(x,r x):=by
 intro n
 induction n with
 | zero=>intro l h hne;exact absurd (w8.mp h) hne
 | succ n ih =>
  intro l h hne
  rcases List.eq_nil_or_concat l with rfl | ⟨ys,y,rfl⟩
  ·exact absurd rfl hne
  ·rw [List.concat_eq_append] at h hne ⊢
   by_cases hy:ys=[]
   ·subst hy;exact ⟨y,by simp,rfl⟩
   ·obtain ⟨x,hx,e⟩:=ih ys (by simpa using h) hy
    rw [yj r hy]
    unfold offS
    split
    ·exact ⟨y,by simp,rfl⟩
    ·exact ⟨x,by simp [hx],e⟩
theorem qbK (T:List Tie) (t:Tie) (x:Int):deg (T++[t]) x=deg T x+if t.1.contains x then t.2 else 0:=by
 unfold deg
 rw [List.filter_append,List.map_append,List.sum_append]
 congr 1
 by_cases h:t.1.contains x=true
 ·rw [wL h,List.filter_cons,wL h];simp
 ·rw [wN h,List.filter_cons,wN h];simp
theorem qc7 {d:Nat} {w:Wb} {x:D} {left:List Int} {q:Int} {S:Sr} (h:WbOk w) (hx:Rdl x S left) (h0:0≤q) (h1:q<w.costs.length):G (d+2) 28 [webD w,x,.int q] S=.ok (nmD (rat w left q)) S:=by
 rw [G_at (c:=c_28) rfl]
 obtain ⟨ρ',S',ef,a4,a5,rfl,rfl⟩:=zA (g:=tieD) (body:=λdd ρ S=>(asg (G (d+1)) (.tup (.cons (.var 4) (.cons (.var 5) .nil))) dd ρ S).bind λρ1 S1=>exs (G (d+1)) NW (.cons (.ifs (.and (.val (.cmp .inn (.var 2) (.var 4))) (.val (.blt .all (.cons (.lc false [1] 1 (.cmp .inn (.var 1) (.var 0)) (.var 1) (.seq (.var 4)) .nil) .nil)))) (.cons (.set (.var 3) (.bin .add (.var 3) (.var 5))) .nil) .nil) .nil) ρ1 S1)
  (λpre ρ T=>∃ a b,ρ=[some (webD w),some x,some (.int q),some (.int (deg (pre.filter λt=>subB t.1 left) q)),a,b]∧T=S) w.ties (ρ:=[some (webD w),some x,some (.int q),some (.int 0),none,none]) (S:=S) ⟨_,_,rfl,rfl⟩ (by
   rintro pre t suf ρ T hpre ⟨a,b,rfl,rfl⟩
   have ht:t∈w.ties:=by rw [hpre];simp
   have hl:t.1.length≤4:=(h.t2 t ht).2.1
   have e:=yI (g:=.int) (F:=G (d+1)) (fr:=[1]) (nt:=1) (elt:=.cmp .inn (.var 1) (.var 0)) (tg:=.var 1) (it:=.seq (.var 4)) (ifs:=.nil) (ρ:=[some (webD w),some x,some (.int q),some (.int (deg (pre.filter λt=>subB t.1 left) q)),some (tupI t.1),some (.int t.2)]) (S:=T) (S1:=T) (ds:=t.1.map .int) t.1 (λ_=>true) (λy=>.bl (left.contains y)) (λρ=>∃ y,ρ=[some x,y]) rfl rfl ⟨_,rfl⟩ (by unfold PySem.sizeLine;lia) (by
    rintro y hy ρ m' ⟨z,rfl⟩
    exact ⟨_,rfl,⟨_,rfl⟩,rfl,λ_=>⟨zH rfl rfl (by show (seqOf (T++[.lst m']) x).bind (inD (.int y))=_;rw [hx.sq,wP,jj]),rfl⟩⟩)
   rw [qN] at e
   have e2:=qfT (t.1.map λx=>left.contains x) T
   rw [wd,List.all_map] at e2
   have t1:tst (G (d+1)) (.and (.val (.cmp .inn (.var 2) (.var 4))) (.val (.blt .all (.cons (.lc false [1] 1 (.cmp .inn (.var 1) (.var 0)) (.var 1) (.seq (.var 4)) .nil) .nil)))) [some (webD w),some x,some (.int q),some (.int (deg (pre.filter λt=>subB t.1 left) q)),some (tupI t.1),some (.int t.2)] T=.ok (t.1.contains q&&subB t.1 left) T:=qkp (t_of (zH rfl rfl (jj q t.1))) λ_=>t_of (qG (qe e rfl) e2)
   rw [show asg (G (d+1)) (.tup (.cons (.var 4) (.cons (.var 5) .nil))) (tieD t) [some (webD w),some x,some (.int q),some (.int (deg (pre.filter λt=>subB t.1 left) q)),a,b] T=.ok [some (webD w),some x,some (.int q),some (.int (deg (pre.filter λt=>subB t.1 left) q)),some (tupI t.1),some (.int t.2)] T from rfl,Res.bind_ok]
   have ed:deg ((pre++[t]).filter λt=>subB t.1 left) q=deg (pre.filter λt=>subB t.1 left) q+if (t.1.contains q&&subB t.1 left)=true then t.2 else 0:=by
    rw [List.filter_append]
    by_cases hs:subB t.1 left=true
    ·rw [List.filter_cons_of_pos (by simpa using hs),List.filter_nil,qbK,hs,Bool.and_true]
    ·rw [List.filter_cons_of_neg (by simpa using hs),List.filter_nil,List.append_nil]
     rw [Bool.not_eq_true] at hs
     rw [hs,Bool.and_false];simp
   rw [ed]
   cases hc:(t.1.contains q&&subB t.1 left) with
   | true =>
    rw [hc] at t1
    rw [wL rfl]
    exact ⟨_,_,z9 t1 (qm (qA (S1:=T) rfl rfl badd) rfl qJ) qJ,_,_,rfl,rfl⟩
   | false =>
    rw [hc] at t1
    rw [wN (by simp),Int.add_zero]
    exact ⟨_,_,x_no t1 qJ,_,_,rfl,rfl⟩)
 obtain ⟨a,b⟩:=qal h left
 obtain ⟨c,f⟩:=qc5 a b q
 obtain ⟨u,v⟩:=qbJ h h0 h1
 exact qI rfl (qm (d:=.int 0) (S1:=S') rfl (ρ1:=[some (webD w),some x,some (.int q),some (.int 0),none,none]) rfl (yJ (ds:=w.ties.map tieD) (S1:=S') rfl ef (qH (qj (qe rfl (qe (qF (d1:=tupI w.costs) (d2:=.int q) (S1:=S') (qF rfl rfl rfl) rfl (yd h0 h1)) rfl)) (qfR c u (by lia))))))
noncomputable def offO (r:Int→Int × Int):List Int→D
 | []=>.non
 | l=>offD (offP r l)
theorem qaW (r:Int→Int × Int) {l:List Int} (h:l≠[]):offO r l=offD (offP r l):=by cases l with | nil=>exact absurd rfl h | cons a l=>rfl
theorem qkx {d:Nat} {w:Wb} {x:D} {left:List Int} {S:Sr} (h:WbOk w) (hx:Rdl x S left) (hp:PlOk w.costs.length left):G (d+3) 29 [webD w,x] S=.ok (offD (offP (rat w left) left)) S:=by
 rw [G_at (c:=c_29) rfl]
 obtain ⟨gd,h1,h2⟩:=hx.rx
 have hg:gd S:=by have:=h2 [];rwa [List.append_nil] at this
 obtain ⟨ρ',S',ef,a3,a4,rfl,rfl⟩:=zA (g:=D.int) (body:=λdd ρ S=>(grd gd S (asg (G (d+2)) (.var 3) dd ρ S)).bind λρ1 S1=>exs (G (d+2)) NW (.cons (.set (.var 4) (.call 28 (.cons (.var 0) (.cons (.var 1) (.cons (.var 3) .nil))))) (.cons (.ifs (.or (.val (.cmp .is (.var 2) (.cst .non))) (.val (.call 24 (.cons (.var 4) (.cons (.idx (.var 2) (.cst (.int 1))) .nil))))) (.cons (.set (.var 2) (.tup (.cons (.var 3) (.cons (.var 4) .nil)))) .nil) .nil) .nil)) ρ1 S1)
  (λpre ρ T=>∃ a b,ρ=[some (webD w),some x,some (offO (rat w left) pre),a,b]∧T=S) left (ρ:=[some (webD w),some x,some .non,none,none]) (S:=S) ⟨_,_,rfl,rfl⟩ (by
   rintro pre q suf ρ T hpre ⟨a,b,rfl,rfl⟩
   have hq:q∈left:=by rw [hpre];simp
   obtain ⟨q0,q1⟩:=hp.rng q hq
   rw [qV hg,show asg (G (d+2)) (.var 3) (.int q) [some (webD w),some x,some (offO (rat w left) pre),a,b] T=.ok [some (webD w),some x,some (offO (rat w left) pre),some (.int q),b] T from rfl,Res.bind_ok]
   have er:=qc7 (d:=d) (S:=T) h hx q0 q1
   have z2:PySem.sizeLine≥2:=by unfold PySem.sizeLine;lia
   by_cases hne:pre=[]
   ·subst hne
    exact ⟨_,_,qm (qj rfl er) (ρ1:=[some (webD w),some x,some .non,some (.int q),some (nmD (rat w left q))]) rfl (z9 (S1:=T) (qkt (t_of (zH rfl rfl rfl))) (qm (qK (qe rfl (qe rfl rfl)) z2) rfl qJ) qJ),_,_,rfl,rfl⟩
   ·obtain ⟨y,hy,ey⟩:=yP (rat w left) _ pre rfl hne
    have hyl:y∈left:=by rw [hpre];simp [hy]
    obtain ⟨y0,y1⟩:=hp.rng y hyl
    have hn1:=yy h left q0 q1
    have hn2:Nm (offP (rat w left) pre).2:=by rw [ey];exact yy h left y0 y1
    have eu:=jk (d:=d+1) (S:=T) hn1 hn2
    rw [qaW _ (by simp:pre++[q]≠[]),yj _ hne]
    have tu:tst (G (d+2)) (.or (.val (.cmp .is (.var 2) (.cst .non))) (.val (.call 24 (.cons (.var 4) (.cons (.idx (.var 2) (.cst (.int 1))) .nil))))) [some (webD w),some x,some (offD (offP (rat w left) pre)),some (.int q),some (nmD (rat w left q))] T=.ok (und (rat w left q) (offP (rat w left) pre).2) T:=qku (t_of (zH rfl rfl rfl)) (t_of (qj (qe rfl (qe (qF (S1:=T) rfl rfl rfl) rfl)) eu))
    rw [qaW _ hne]
    unfold offS
    cases hu:und (rat w left q) (offP (rat w left) pre).2 with
    | true =>
     rw [hu] at tu
     rw [wL rfl]
     exact ⟨_,_,qm (qj rfl er) (ρ1:=[some (webD w),some x,some (offD (offP (rat w left) pre)),some (.int q),some (nmD (rat w left q))]) rfl (z9 tu (qm (qK (qe rfl (qe rfl rfl)) z2) rfl qJ) qJ),_,_,rfl,rfl⟩
    | false =>
     rw [hu] at tu
     rw [wN (by simp)]
     exact ⟨_,_,qm (qj rfl er) (ρ1:=[some (webD w),some x,some (offD (offP (rat w left) pre)),some (.int q),some (nmD (rat w left q))]) rfl (x_no tu qJ),_,_,rfl,rfl⟩)
 rw [qaW _ hp.ne] at ef
 exact qI rfl (qm (d:=.non) (S1:=S') rfl (ρ1:=[some (webD w),some x,some .non,none,none]) rfl (qjd rfl h1 ef hg (qH rfl)))
end RP
namespace RP
open R
noncomputable def dgL (f:Int→Int) (ps:List Int):List ((Int ⊕ PySem.Str) × D):=ps.map λp=>((.inl p:Int ⊕ PySem.Str),.int (f p))
theorem qc8 (f:Int→Int) {p:Int}:∀ {ps:List Int},p∈ps→lookT (.inl p:Int ⊕ PySem.Str) (dgL f ps)=some (.int (f p))
 | [],h=>by simp at h
 | a::r,h=>by
  show lookT _ (((.inl a:Int ⊕ PySem.Str),D.int (f a))::dgL f r)=_
  unfold lookT
  by_cases e:a=p
  ·subst e;rw [wL rfl]
  ·rw [wN (by simpa using e)]
   exact qc8 f ((wZ.mp h).resolve_left λz=>e z.symm)
theorem qjf (f:Int→Int) {p v:Int} {ps:List Int} (h:p∈ps):putT (.inl p:Int ⊕ PySem.Str) (.int v) (dgL f ps)=dgL (λx=>if x=p then v else f x) ps:=by
 unfold putT
 have ha:(dgL f ps).any (λq=>decide (q.1=(.inl p:Int ⊕ PySem.Str)))=true:=by
  rw [List.any_eq_true]
  exact ⟨_,List.mem_map_of_mem h,by simp⟩
 rw [wL ha]
 unfold dgL
 rw [wd]
 apply vK
 intro x _
 show (if (.inl x:Int ⊕ PySem.Str)=.inl p then ((.inl x:Int ⊕ PySem.Str),D.int v) else (.inl x,.int (f x)))=_
 by_cases e:x=p
 ·subst e;rw [wL rfl];simp
 ·rw [wN (by simpa using e)];simp [e]
theorem qfV:∀ (ns:List Int) (acc:List Int),(acc++ns).Nodup→ns.foldl (λl k=>putT (.inl k:Int ⊕ PySem.Str) (.int 0) l) (dgL (λ_=>0) acc)=dgL (λ_=>0) (acc++ns)
 | [],acc,_=>by simp
 | k::r,acc,nd=>by
  have hk:k ∉ acc:=λh=>(List.nodup_append.mp nd).2.2 k h k (by simp) rfl
  have e:putT (.inl k:Int ⊕ PySem.Str) (.int 0) (dgL (λ_=>0) acc)=dgL (λ_=>0) (acc++[k]):=by
   unfold putT
   have ha:¬ (dgL (λ_=>0) acc).any (λq=>decide (q.1=(.inl k:Int ⊕ PySem.Str)))=true:=by
    rw [List.any_eq_true]
    rintro ⟨q,hq,e⟩
    obtain ⟨x,hx,rfl⟩:=vN.mp hq
    simp at e
    exact hk (e ▸ hx)
   rw [wN ha]
   unfold dgL
   rw [List.map_append];rfl
  rw [List.foldl_cons,e,qfV r (acc++[k]) (by simpa using nd)]
  simp
theorem qhn {ns:List Int} (nd:ns.Nodup):dcKL 0 ns=dgL (λ_=>0) ns:=qfV ns [] (by simpa using nd)
theorem qjg {F:Fs} {N:Nat} {ρ:En} {S S4:Sr} {o i e:CE} {r:CSs} {x y:D} {a b:Int} {Y:Res Fl} (h1:ev F o ρ S=.ok x S) (h2:ev F i ρ S=.ok y S) (h3:idkD S x y=some (.int a)) (h4:ev F e ρ S=.ok (.int b) S) (h5:putE S x y (.int (a+b))=some S4) (h6:exs F N r ρ S4=Y):exs F N (.cons (.augK o i e) r) ρ S=Y:=by
 simp only [exs,ex,h1,h2,h3,h4,h5,Res.bind];exact h6
theorem qbL {F:Fs} {ρ:En} {S S1 S2:Sr} {a i:CE} {x y d:D} (h:ev F a ρ S=.ok x S1) (h2:ev F i ρ S1=.ok y S2) (h3:idkD S2 x y=some d):ev F (.idk a i) ρ S=.ok d S2:=by
 simp only [ev,h,h2,h3,Res.bind];rfl
theorem qky {F:Fs} {ρ:En} {S S1:Sr} {e:CE} {x:D} {ns:List Int} {gd:Sr→Prop} (h:ev F e ρ S=.ok x S1) (hr:refX x S1=some (ns.map .int,gd)) (hl:ns.length≤100) (nd:ns.Nodup):ev F (.dcK 0 e) ρ S=.ok (.ref S1.length) (S1++[.dis (dgL (λ_=>0) ns)]):=by
 simp only [ev,h,Res.bind,hr,qM,qhn nd]
 rw [wL (by lia)]
noncomputable abbrev dS (S:Sr) (f:Int→Int) (ps:List Int):Sr:=S++[.dis (dgL f ps)]
theorem qhP (S:Sr) (f:Int→Int) (ps:List Int):(dS S f ps)[S.length]?=some (.dis (dgL f ps)):=by simp [dS]
theorem qcm {S:Sr} {f:Int→Int} {ps:List Int} {p:Int} (h:p∈ps):idkD (dS S f ps) (.ref S.length) (.int p)=some (.int (f p)):=by
 simp only [idkD,qhP,keyD,wP,qc8 f h]
theorem qjh {S:Sr} {f:Int→Int} {ps:List Int} {p v:Int} (h:p∈ps) (hl:ps.length≤100):putE (dS S f ps) (.ref S.length) (.int p) (.int v)=some (dS S (λx=>if x=p then v else f x) ps):=by
 have h1:(dgL f ps).length<1000:=by unfold dgL;rw [wO];lia
 unfold putE
 rw [wL (show refsLt 0 (D.int v)=true from rfl)]
 simp only [putN,qhP,keyD,wP]
 rw [wL h1,qjf f h]
 simp [dS]
theorem jR {S:Sr} {f g:Int→Int} {ps:List Int} (h:∀ p∈ps,f p=g p):dS S f ps=dS S g ps:=by
 unfold dS dgL
 congr 3
 apply vK
 intro x hx
 rw [h x hx]
theorem qfW {S:Sr} {n:Nat} {l:List Int} {x:Int} {r:List Int} (h:S[n]?=some (.lst (l.map .int))) (hl:l=x::r):idxD S (.ref n) (.int 0)=some (.int x):=by
 subst hl
 have hx:L2.ixN ((x::r).map D.int).length (0:Int)=some 0:=by
  unfold L2.ixN
  rw [wL (by decide),wL (by simp)];rfl
 simp only [idxD,seqOf,lstOf,h,wP,L2.atI,hx]
 rfl
theorem qcn {d n:Nat} {w:Wb} {left:List Int} {S:Sr} (h:WbOk w) (hn:S[n]?=some (.lst (left.map .int))) (hp:PlOk w.costs.length left):G (d+3) 17 [tupI w.costs,.lst ((tin w left).map tieD),.ref n] S=.ok (offD (offP (rat w left) left)) S:=by
 have hl:=yL h hp
 have nd:=jN hp.up
 have hlt:=(wK.mp hn).1
 have hnX:∀ X,(S++X)[n]?=some (.lst (left.map .int)):=λX=>by rw [wW hlt];exact hn
 have z2:PySem.sizeLine≥2:=by unfold PySem.sizeLine;lia
 rw [G_at (c:=c_17) rfl]
 obtain ⟨T,hT⟩:∃ T,T=tin w left:=⟨_,rfl⟩
 rw [← hT]
 have hTin:∀ t∈T,t∈w.ties∧subB t.1 left=true:=λt ht=>by rw [hT] at ht;exact wm.mp ht
 have hrat:∀ x,lw (deg T x) (cstI w x)=rat w left x:=λx=>by rw [hT];rfl
 obtain ⟨b1,b2⟩:=qal h left
 rw [← hT] at b1 b2
 obtain ⟨ρ1,S1,ef,a4,a5,a6,rfl,rfl⟩:=zA (g:=tieD) (body:=λdd ρ S=>(asg (G (d+2)) (.tup (.cons (.var 5) (.cons (.var 6) .nil))) dd ρ S).bind λρ1 S1=>exs (G (d+2)) NW (.cons (.forS (.var 4) (.seq (.var 5)) (.cons (.augK (.var 3) (.var 4) (.var 6)) .nil)) .nil) ρ1 S1)
  (λpre ρ U=>∃ a b c,ρ=[some (tupI w.costs),some (.lst (T.map tieD)),some (.ref n),some (.ref S.length),a,b,c,none,none]∧U=dS S (deg pre) left) T (ρ:=[some (tupI w.costs),some (.lst (T.map tieD)),some (.ref n),some (.ref S.length),none,none,none,none,none]) (S:=dS S (deg []) left) ⟨_,_,_,rfl,rfl⟩ (by
   rintro pre t suf ρ U hpre ⟨a,b,c,rfl,rfl⟩
   obtain ⟨ht,hs⟩:=hTin t (by rw [hpre];simp)
   have hin:∀ q∈t.1,q∈left:=λq hq=>by
    have:=List.all_eq_true.mp hs q hq
    exact List.contains_iff_mem.mp this
   have ndt:=jN (h.t2 t ht).1.up
   rw [show asg (G (d+2)) (.tup (.cons (.var 5) (.cons (.var 6) .nil))) (tieD t) [some (tupI w.costs),some (.lst (T.map tieD)),some (.ref n),some (.ref S.length),a,b,c,none,none] (dS S (deg pre) left)=.ok [some (tupI w.costs),some (.lst (T.map tieD)),some (.ref n),some (.ref S.length),a,some (tupI t.1),some (.int t.2),none,none] (dS S (deg pre) left) from rfl,Res.bind_ok]
   obtain ⟨ρ2,S2,ef2,a',rfl,rfl⟩:=zA (g:=D.int) (body:=λdd ρ S=>(asg (G (d+2)) (.var 4) dd ρ S).bind λρ1 S1=>exs (G (d+2)) NW (.cons (.augK (.var 3) (.var 4) (.var 6)) .nil) ρ1 S1)
    (λpr ρ U=>∃ a,ρ=[some (tupI w.costs),some (.lst (T.map tieD)),some (.ref n),some (.ref S.length),a,some (tupI t.1),some (.int t.2),none,none]∧U=dS S (λx=>deg pre x+if pr.contains x then t.2 else 0) left) t.1 (ρ:=[some (tupI w.costs),some (.lst (T.map tieD)),some (.ref n),some (.ref S.length),a,some (tupI t.1),some (.int t.2),none,none]) (S:=dS S (deg pre) left) ⟨_,rfl,jR λp _=>by simp⟩ (by
     rintro pr q su ρ U hpr ⟨a,rfl,rfl⟩
     have hq:q∈left:=hin q (by rw [hpr];simp)
     have hqn:q ∉ pr:=λz=>by
      rw [hpr] at ndt
      exact (List.nodup_append.mp ndt).2.2 q z q (by simp) rfl
     rw [show asg (G (d+2)) (.var 4) (.int q) [some (tupI w.costs),some (.lst (T.map tieD)),some (.ref n),some (.ref S.length),a,some (tupI t.1),some (.int t.2),none,none] (dS S (λx=>deg pre x+if pr.contains x then t.2 else 0) left)=.ok [some (tupI w.costs),some (.lst (T.map tieD)),some (.ref n),some (.ref S.length),some (.int q),some (tupI t.1),some (.int t.2),none,none] (dS S (λx=>deg pre x+if pr.contains x then t.2 else 0) left) from rfl,Res.bind_ok]
     refine ⟨_,_,qjg rfl rfl (qcm hq) rfl (qjh hq (by lia)) qJ,_,rfl,jR λx hx=>?_⟩
     have hqc:pr.contains q=false:=by rw [← Bool.not_eq_true,List.contains_iff_mem];exact hqn
     by_cases e:x=q
     ·subst e
      rw [wL rfl,hqc]
      simp
     ·rw [wN e]
      have:(pr++[q]).contains x=pr.contains x:=by
       rw [Bool.eq_iff_iff,List.contains_iff_mem,List.contains_iff_mem];simp [e]
      rw [this])
   have e3:dS S (λx=>deg pre x+if t.1.contains x then t.2 else 0) left=dS S (deg (pre++[t])) left:=jR λx _=>(qbK pre t x).symm
   rw [e3] at ef2
   exact ⟨_,_,yJ (ds:=t.1.map .int) (S1:=dS S (deg pre) left) rfl ef2 qJ,_,_,_,rfl,rfl⟩)
 obtain ⟨p0,ps,hps⟩:∃ p0 ps,left=p0::ps:=by
  cases left with
  | nil=>exact absurd rfl hp.ne
  | cons a r=>exact ⟨a,r,rfl⟩
 have hp0:p0∈left:=by rw [hps];simp
 have num:∀ (x:Int),x∈left→∀ U,G (d+2) 3 [.int (deg T x),.int (cstI w x)] U=.ok (nmD (rat w left x)) U:=λx hx U=>by
  obtain ⟨q0,q1⟩:=hp.rng x hx
  obtain ⟨c1,c2⟩:=qc5 b1 b2 x
  obtain ⟨c3,c4⟩:=qbJ h q0 q1
  rw [← hrat]
  exact qfQ c1 c3 (by lia)
 obtain ⟨ρ3,S3,ef3,a4',a8,rfl,rfl⟩:=zA (g:=D.int) (body:=λdd ρ S=>(asg (G (d+2)) (.var 4) dd ρ S).bind λρ1 S1=>exs (G (d+2)) NW (.cons (.set (.var 8) (.call 3 (.cons (.idk (.var 3) (.var 4)) (.cons (.idx (.var 0) (.var 4)) .nil)))) (.cons (.ifs (.val (.call 4 (.cons (.var 8) (.cons (.idx (.var 7) (.cst (.int 1))) .nil)))) (.cons (.set (.var 7) (.tup (.cons (.var 4) (.cons (.var 8) .nil)))) .nil) .nil) .nil)) ρ1 S1)
  (λpre ρ U=>∃ a b,ρ=[some (tupI w.costs),some (.lst (T.map tieD)),some (.ref n),some (.ref S.length),a,a5,a6,some (offD (offP (rat w left) (p0::pre))),b]∧U=dS S (deg T) left) ps (ρ:=[some (tupI w.costs),some (.lst (T.map tieD)),some (.ref n),some (.ref S.length),a4,a5,a6,some (offD (offP (rat w left) [p0])),none]) (S:=dS S (deg T) left) ⟨_,_,rfl,rfl⟩ (by
   rintro pre q suf ρ U hpre ⟨a,b,rfl,rfl⟩
   have hq:q∈left:=by rw [hps,hpre];simp
   obtain ⟨q0,q1⟩:=hp.rng q hq
   rw [show asg (G (d+2)) (.var 4) (.int q) [some (tupI w.costs),some (.lst (T.map tieD)),some (.ref n),some (.ref S.length),a,a5,a6,some (offD (offP (rat w left) (p0::pre))),b] (dS S (deg T) left)=.ok [some (tupI w.costs),some (.lst (T.map tieD)),some (.ref n),some (.ref S.length),some (.int q),a5,a6,some (offD (offP (rat w left) (p0::pre))),b] (dS S (deg T) left) from rfl,Res.bind_ok]
   have es:ev (G (d+2)) (.call 3 (.cons (.idk (.var 3) (.var 4)) (.cons (.idx (.var 0) (.var 4)) .nil))) [some (tupI w.costs),some (.lst (T.map tieD)),some (.ref n),some (.ref S.length),some (.int q),a5,a6,some (offD (offP (rat w left) (p0::pre))),b] (dS S (deg T) left)=.ok (nmD (rat w left q)) (dS S (deg T) left):=qj (qe (qbL rfl rfl (qcm hq)) (qe (qF rfl rfl (yd q0 q1)) rfl)) (num q hq _)
   obtain ⟨y,hy,ey⟩:=yP (rat w left) _ (p0::pre) rfl (by simp)
   have hyl:y∈left:=by
    rw [hps,hpre]
    rcases wZ.mp hy with z | z
    ·simp [z]
    ·simp [z]
   obtain ⟨y0,y1⟩:=hp.rng y hyl
   have eu:=yO (d:=d+1) (S:=dS S (deg T) left) (yy h left q0 q1) (show Nm (offP (rat w left) (p0::pre)).2 by rw [ey];exact yy h left y0 y1)
   have tu:tst (G (d+2)) (.val (.call 4 (.cons (.var 8) (.cons (.idx (.var 7) (.cst (.int 1))) .nil)))) [some (tupI w.costs),some (.lst (T.map tieD)),some (.ref n),some (.ref S.length),some (.int q),a5,a6,some (offD (offP (rat w left) (p0::pre))),some (nmD (rat w left q))] (dS S (deg T) left)=.ok (und (rat w left q) (offP (rat w left) (p0::pre)).2) (dS S (deg T) left):=t_of (qj (qe rfl (qe (qF rfl rfl rfl) rfl)) eu)
   have ec:p0::(pre++[q])=(p0::pre)++[q]:=rfl
   rw [ec,yj _ (by simp:p0::pre≠[])]
   unfold offS
   cases hu:und (rat w left q) (offP (rat w left) (p0::pre)).2 with
   | true =>
    rw [hu] at tu
    rw [wL rfl]
    exact ⟨_,_,qm es rfl (z9 tu (qm (qK (qe rfl (qe rfl rfl)) z2) rfl qJ) qJ),_,_,rfl,rfl⟩
   | false =>
    rw [hu] at tu
    rw [wN (by simp)]
    exact ⟨_,_,qm es rfl (x_no tu qJ),_,_,rfl,rfl⟩)
 rw [← hps] at ef3
 refine jH (f:=c_17) (S1:=S) (S2:=[.dis (dgL (deg T) left)]) rfl rfl ?_ rfl rfl
 have ed:ev (G (d+2)) (.dcK 0 (.var 2)) [some (tupI w.costs),some (.lst (T.map tieD)),some (.ref n),none,none,none,none,none,none] S=.ok (.ref S.length) (dS S (deg []) left):=by
  have:=qky (F:=G (d+2)) (e:=.var 2) (ρ:=[some (tupI w.costs),some (.lst (T.map tieD)),some (.ref n),none,none,none,none,none,none]) (S:=S) (S1:=S) (x:=.ref n) (ns:=left) (gd:=own n (left.map .int)) rfl (by simp only [refX,hn]) (by lia) nd
  refine this.trans ?_
  congr 1
 have e0:∀ ρ,ρ[2]?=some (some (.ref n))→ev (G (d+2)) (.idx (.var 2) (.cst (.int 0))) ρ (dS S (deg T) left)=.ok (.int p0) (dS S (deg T) left):=λρ hρ=>qF (by simp only [ev,varE,hρ]) rfl (qfW (hnX _) hps)
 have e7:ev (G (d+2)) (.tup (.cons (.idx (.var 2) (.cst (.int 0))) (.cons (.call 3 (.cons (.idk (.var 3) (.idx (.var 2) (.cst (.int 0)))) (.cons (.idx (.var 0) (.idx (.var 2) (.cst (.int 0)))) .nil))) .nil))) [some (tupI w.costs),some (.lst (T.map tieD)),some (.ref n),some (.ref S.length),a4,a5,a6,none,none] (dS S (deg T) left)=.ok (offD (offP (rat w left) [p0])) (dS S (deg T) left):=by
  have i0:=hp.rng p0 hp0
  exact qK (qe (e0 _ rfl) (qe (qj (qe (qbL rfl (e0 _ rfl) (qcm hp0)) (qe (qF rfl (e0 _ rfl) (yd i0.1 i0.2)) rfl)) (num p0 hp0 _)) rfl)) z2
 have esl:evI (G (d+2)) (.seq (.slc (.var 2) (.some (.cst (.int 1))) .none)) [some (tupI w.costs),some (.lst (T.map tieD)),some (.ref n),some (.ref S.length),a4,a5,a6,some (offD (offP (rat w left) [p0])),none] (dS S (deg T) left)=.ok (ps.map .int) (dS S (deg T) left):=by
  have hcut:slcD (dS S (deg T) left) (.ref n) (some 1) none=some (.lst (ps.map .int)):=by
   simp only [slcD,lstOf,hnX,wa,cut1]
   rw [hps];rfl
  have:ev (G (d+2)) (.slc (.var 2) (.some (.cst (.int 1))) .none) [some (tupI w.costs),some (.lst (T.map tieD)),some (.ref n),some (.ref S.length),a4,a5,a6,some (offD (offP (rat w left) [p0])),none] (dS S (deg T) left)=.ok (.lst (ps.map .int)) (dS S (deg T) left):=by
   simp only [ev,evO,varE,List.getElem?_cons_succ,List.getElem?_cons_zero,Res.bind,hcut,ofO]
  simp only [evI,this,Res.bind]
 exact qm ed rfl (yJ (ds:=T.map tieD) (S1:=dS S (deg []) left) rfl ef (qm e7 rfl (yJ esl ef3 (qH rfl))))
end RP
namespace RP
open R
noncomputable def stp (w:Wb):Nat→List Int→List Of→List Int→List Of × List Int
 | 0,_,ord,best=>(ord,best)
 | _+1,[],ord,best=>(ord,best)
 | k+1,a::l,ord,best=>stp w k ((a::l).erase (offP (rat w (a::l)) (a::l)).1) (ord++[offP (rat w (a::l)) (a::l)]) (if und (shr w best) (shr w (a::l)) then a::l else best)
noncomputable abbrev stS (S:Sr) (left:List Int) (ord:List Of):Sr:=S++[.lst (left.map .int),.lst (ord.map offD)]
theorem yq (S:Sr) (left:List Int) (ord:List Of):(stS S left ord)[S.length]?=some (.lst (left.map .int)):=by simp [stS]
theorem qam (S:Sr) (left:List Int) (ord:List Of):(stS S left ord)[S.length+1]?=some (.lst (ord.map offD)):=by simp [stS]
theorem qc9 {S:Sr} {left:List Int} {ord:List Of} (o:Of) (h:ord.length≤100):appD (stS S left ord) (.ref (S.length+1)) (offD o)=.ok .non (stS S left (ord++[o])):=by
 have hl:ord.length<PySem.sizeLine:=by unfold PySem.sizeLine;lia
 simp only [appD,qam]
 rw [wL ⟨by rw [wO];exact hl,rfl⟩]
 simp [stS]
theorem qda {S:Sr} {left:List Int} {ord:List Of} {x:Int} (h:x∈left):remD (stS S left ord) (.ref S.length) (.int x)=.ok .non (stS S (left.erase x) ord):=by
 simp only [remD,yq,qM]
 rw [wL h]
 simp [stS]
theorem qhQ {F:Fs} {ρ:En} {S S1 S2 S3:Sr} {o i:CE} {x y d:D} (h:ev F o ρ S=.ok x S1) (hi:isLst S1 x=true) (h2:ev F i ρ S1=.ok y S2) (h3:remD S2 x y=.ok d S3):ev F (.rem o i) ρ S=.ok d S3:=by
 simp only [ev,h,Res.bind,hi,if_true,h2,h3]
theorem qbM {m:Nat} {left:List Int} (h:PlOk m left) (x:Int):left.erase x=[]∨PlOk m (left.erase x):=by
 by_cases e:left.erase x=[]
 ·exact .inl e
 ·exact .inr ⟨e,λy hy=>h.rng y (List.mem_of_mem_erase hy),h.up.sublist List.erase_sublist⟩
theorem qaX {m:Nat} {left:List Int} (h:PlOk m left) (r:Int→Int × Int):(offP r left).1∈left:=by
 obtain ⟨x,hx,e⟩:=yP r _ left rfl h.ne
 rw [e];exact hx
theorem qfX {m:Nat} (h:1≤m):PlOk m (rI m):=⟨λe=>by have:=congrArg List.length e;rw [qE] at this;simp at this;lia,λx hx=>zh.mp hx,qkr m⟩
theorem qaY {S:Sr} {n:Nat} {p:List Int} (h:S[n]?=some (.lst (p.map .int))):bltD .tuple [.ref n] S=.ok (tupI p) S:=by
 simp only [bltD,one,bTuple,seqOf,lstOf,h,wa,ofO];rfl
noncomputable def Agr (w:Wb) (left best:List Int) (part:List Int) (most:Int × Int):Prop:=(part=best∧most=shr w best)∨(most=(-1,1)∧left=best∧left≠[])
theorem qdX {p:Int × Int} (h1:0≤p.1) (h2:1≤p.2):und (-1,1) p=true:=by unfold und;rw [vH];show -1*p.2<p.1*1;lia
noncomputable abbrev pE (w:Wb) (n:Nat) (part:List Int) (most:Int × Int) (a6 a7 a8:Option D):En:=[some (webD w),some (tupI w.costs),some (.ref n),some (.ref (n+1)),some (tupI part),some (nmD most),a6,a7,a8]
noncomputable def sBody:CSs:=match c_16.body with | .cons _ (.cons _ (.cons _ (.cons _ (.cons _ (.cons (.whileS _ b) _)))))=>b | _=>.nil
theorem qdb {S:Sr} {n:Nat} {p:List Int} (h:S[n]?=some (.lst (p.map .int))):truD S (.ref n)=some (!p.isEmpty):=by
 simp only [truD,lstOf,h,wa];cases p <;> rfl
theorem qji {d:Nat} {w:Wb} {S:Sr} {left best part:List Int} {most:Int × Int} {ord:List Of} {a6 a7 a8:Option D} (h:WbOk w) (hp:PlOk w.costs.length left) (hb:PlOk w.costs.length best) (ha:Agr w left best part most) (ho:ord.length≤100) :
  ∃ b6 b7 b8,exs (G (d+3)) NW sBody (pE w S.length part most a6 a7 a8) (stS S left ord)=.ok (.nx (pE w S.length (if und (shr w best) (shr w left) then left else best) (shr w (if und (shr w best) (shr w left) then left else best)) b6 b7 b8)) (stS S (left.erase (offP (rat w left) left).1) (ord++[offP (rat w left) left])):=by
 have h0:=yq S left ord
 have hx:=qfS h0
 obtain ⟨m1,m2⟩:=qcl h left
 obtain ⟨p1,p2⟩:=jO h hp
 have hl:=yL h hp
 have e6:=e_tw (d:=d+1) (S:=stS S left ord) h hx
 obtain ⟨gd,g1,g2⟩:=hx.rx
 have hg:gd (stS S left ord):=by have:=g2 [];rwa [List.append_nil] at this
 have e7:ev (G (d+3)) (.call 3 (.cons (.gen .sum [] 2 (.var 1) (.tup (.cons (.var 0) (.cons (.var 1) .nil))) (.seq (.var 6)) .nil) (.cons (.genX .sum [1] 1 (.idx (.var 0) (.var 1)) (.var 1) (.var 2) .nil) .nil))) (pE w S.length part most (some (.lst ((tin w left).map tieD))) a7 a8) (stS S left ord)=.ok (nmD (shr w left)) (stS S left ord):=by
  have s1:=qhg (g:=tieD) (F:=G (d+3)) (fr:=[]) (nt:=2) (elt:=.var 1) (tg:=.tup (.cons (.var 0) (.cons (.var 1) .nil))) (it:=.seq (.var 6)) (ifs:=.nil) (ρ:=pE w S.length part most (some (.lst ((tin w left).map tieD))) a7 a8) (S:=stS S left ord) (S1:=stS S left ord) (tin w left) (λ_=>true) (·.2) (λρ=>∃ x y,ρ=[x,y]) rfl rfl ⟨_,_,rfl⟩ (by
   rintro t ht ρ ⟨x,y,rfl⟩
   exact ⟨_,rfl,⟨_,_,rfl⟩,rfl,λ_=>rfl⟩)
  rw [qN] at s1
  have s2:=qbI (g:=D.int) (v:=cstI w) (bind:=λdd ρ T=>asg (G (d+3)) (.var 1) dd ρ T) (test:=λρ T=>tsts (G (d+3)) .nil ρ T) (elt:=λρ T=>ev (G (d+3)) (.idx (.var 0) (.var 1)) ρ T) (λρ=>∃ y,ρ=[some (tupI w.costs),y]) hg left [some (tupI w.costs),none] 0 ⟨_,rfl⟩ (by
   rintro q hq ρ ⟨y,rfl⟩
   obtain ⟨q0,q1⟩:=hp.rng q hq
   exact ⟨_,rfl,⟨_,rfl⟩,rfl,qF rfl rfl (yd q0 q1)⟩)
  rw [Int.zero_add] at s2
  exact qj (qe s1 (qe (qjc rfl g1 s2) rfl)) (qfQ m1 p1 (Int.lt_of_le_of_lt p2 (by decide)))
 have eL:=qcn (d:=d) (S:=stS S left ord) h h0 hp
 have hin:=qaX hp (rat w left)
 have hn1:=qaV h hp
 have hn2:=qaV h hb
 generalize hO:offP (rat w left) left=O at eL hin ⊢
 have tail:∀ (pt:List Int) (mo:Int × Int),exs (G (d+3)) NW (tl (tl (tl sBody))) (pE w S.length pt mo (some (.lst ((tin w left).map tieD))) (some (nmD (shr w left))) a8) (stS S left ord)=.ok (.nx (pE w S.length pt mo (some (.lst ((tin w left).map tieD))) (some (nmD (shr w left))) (some (offD O)))) (stS S (left.erase O.1) (ord++[O])):=by
  intro pt mo
  have e8:ev (G (d+3)) (.call 17 (.cons (.var 1) (.cons (.var 6) (.cons (.var 2) .nil)))) (pE w S.length pt mo (some (.lst ((tin w left).map tieD))) (some (nmD (shr w left))) a8) (stS S left ord)=.ok (offD O) (stS S left ord):=qj rfl eL
  have e9:ev (G (d+3)) (.app (.var 3) (.var 8)) (pE w S.length pt mo (some (.lst ((tin w left).map tieD))) (some (nmD (shr w left))) (some (offD O))) (stS S left ord)=.ok .non (stS S left (ord++[O])):=qfz rfl (by simp only [isLst,qam]) rfl (qc9 O ho)
  have e10:ev (G (d+3)) (.rem (.var 2) (.idx (.var 8) (.cst (.int 0)))) (pE w S.length pt mo (some (.lst ((tin w left).map tieD))) (some (nmD (shr w left))) (some (offD O))) (stS S left (ord++[O]))=.ok .non (stS S (left.erase O.1) (ord++[O])):=qhQ rfl (by simp only [isLst,yq]) (qF rfl rfl rfl) (qda hin)
  exact qm e8 rfl (z0 e9 (z0 e10 qJ))
 have key:∃ b:Bool,und most (shr w left)=b∧(if b then left else part)=(if und (shr w best) (shr w left) then left else best)∧(if b then shr w left else most)=shr w (if und (shr w best) (shr w left) then left else best)∧Nm most:=by
  rcases ha with ⟨rfl,rfl⟩ | ⟨rfl,rfl,_⟩
  ·refine ⟨_,rfl,rfl,?_,hn2⟩
   split <;> rfl
  ·refine ⟨true,qdX ?_ hn1.b1,?_,?_,⟨by decide,by decide,by decide⟩⟩
   ·exact qhM m1 p1
   ·rw [yN];simp
   ·rw [yN];simp
 obtain ⟨b,k1,k2,k3,k4⟩:=key
 have eu:=yO (d:=d+2) (S:=stS S left ord) k4 hn1
 rw [k1] at eu
 rw [← k3,← k2]
 have t1:tst (G (d+3)) (.val (.call 4 (.cons (.var 5) (.cons (.var 7) .nil)))) (pE w S.length part most (some (.lst ((tin w left).map tieD))) (some (nmD (shr w left))) a8) (stS S left ord)=.ok b (stS S left ord):=t_of (qj rfl eu)
 refine ⟨some (.lst ((tin w left).map tieD)),some (nmD (shr w left)),some (offD O),?_⟩
 show exs (G (d+3)) NW (.cons (.set (.var 6) (.call 15 (.cons (.var 0) (.cons (.var 2) .nil)))) _) _ _=_
 refine qm (qj rfl e6) (ρ1:=pE w S.length part most (some (.lst ((tin w left).map tieD))) a7 a8) rfl (qm e7 (ρ1:=pE w S.length part most (some (.lst ((tin w left).map tieD))) (some (nmD (shr w left))) a8) rfl ?_)
 cases b with
 | true=>exact z9 t1 (qm (qK (qe (qG rfl (qaY h0)) (qe rfl rfl)) (by simp [PySem.sizeLine])) rfl qJ) (tail left (shr w left))
 | false=>exact x_no t1 (tail part most)
theorem qjj {d:Nat} {w:Wb} {S:Sr} (h:WbOk w):∀ (k N:Nat) (left best part:List Int) (most:Int × Int) (ord:List Of) (a6 a7 a8:Option D),left.length=k→k<N→(left=[]∨PlOk w.costs.length left)→PlOk w.costs.length best→Agr w left best part most→ord.length+k≤100 →
  ∃ most' b6 b7 b8,whileLoop (λρ S=>tst (G (d+3)) (.val (.var 2)) ρ S) (λρ S=>exs (G (d+3)) NW sBody ρ S) N (pE w S.length part most a6 a7 a8) (stS S left ord)=.ok (.nx (pE w S.length (stp w k left ord best).2 most' b6 b7 b8)) (stS S [] (stp w k left ord best).1):=by
 intro k
 induction k with
 | zero =>
  intro N left best part most ord a6 a7 a8 hk hN hp hb ha ho
  have hl:left=[]:=w8.mp hk
  subst hl
  obtain ⟨N,rfl⟩:∃ M,N=M+1:=⟨N-1,by lia⟩
  have hpart:part=best:=by
   rcases ha with ⟨rfl,_⟩ | ⟨_,_,z⟩
   ·rfl
   ·exact absurd rfl z
  subst hpart
  refine ⟨most,a6,a7,a8,?_⟩
  have t:tst (G (d+3)) (.val (.var 2)) (pE w S.length part most a6 a7 a8) (stS S [] ord)=.ok false (stS S [] ord):=by
   show (Res.ok (D.ref S.length) (stS S [] ord)).bind (λx S1=>ofO (truD S1 x) S1)=_
   rw [Res.bind_ok,qdb (yq S [] ord)];rfl
  simp only [whileLoop,t,Res.bind]
  rfl
 | succ k ih =>
  intro N left best part most ord a6 a7 a8 hk hN hp hb ha ho
  obtain ⟨N,rfl⟩:∃ M,N=M+1:=⟨N-1,by lia⟩
  have hne:left≠[]:=λz=>by rw [z] at hk;simp at hk
  have hpl:=hp.resolve_left hne
  obtain ⟨x0,xs,hxs⟩:∃ x0 xs,left=x0::xs:=by
   cases left with
   | nil=>exact absurd rfl hne
   | cons a r=>exact ⟨a,r,rfl⟩
  have t:tst (G (d+3)) (.val (.var 2)) (pE w S.length part most a6 a7 a8) (stS S left ord)=.ok true (stS S left ord):=by
   show (Res.ok (D.ref S.length) (stS S left ord)).bind (λx S1=>ofO (truD S1 x) S1)=_
   rw [Res.bind_ok,qdb (yq S left ord),hxs];rfl
  obtain ⟨b6,b7,b8,et⟩:=qji (d:=d) (S:=S) (ord:=ord) (a6:=a6) (a7:=a7) (a8:=a8) h hpl hb ha (by lia)
  have hin:=qaX hpl (rat w left)
  have hbest:PlOk w.costs.length (if und (shr w best) (shr w left) then left else best):=by split <;> assumption
  have ee:stp w (k+1) left ord best=stp w k (left.erase (offP (rat w left) left).1) (ord++[offP (rat w left) left]) (if und (shr w best) (shr w left) then left else best):=by rw [hxs];rfl
  obtain ⟨m',c6,c7,c8,el⟩:=ih N (left.erase (offP (rat w left) left).1) _ _ _ (ord++[offP (rat w left) left]) b6 b7 b8 (by rw [List.length_erase_of_mem hin];lia) (by lia) (qbM hpl _) hbest (.inl ⟨rfl,rfl⟩) (by rw [wV,wx];lia)
  refine ⟨m',c6,c7,c8,?_⟩
  rw [ee,← el]
  simp only [whileLoop,t,Res.bind,et]
  rfl
noncomputable def strD (r:List Of × List Int):D:=.tup [.tup (r.1.map offD),tupI r.2]
noncomputable def strW (w:Wb):List Of × List Int:=stp w w.costs.length (rI w.costs.length) [] (rI w.costs.length)
theorem qan:∀ l:List Of,refsLts 0 (l.map offD)=true
 | []=>rfl
 | a::r=>by rw [wQ,refsLts,qan r];rfl
theorem qbN (r:List Of × List Int):refsLt 0 (strD r)=true:=by
 show (refsLts 0 (r.1.map offD)&&(refsLts 0 (r.2.map .int)&&true))=true
 rw [qan,refsI];rfl
theorem qbO {S:Sr} {n:Nat} {l:List Of} (h:S[n]?=some (.lst (l.map offD))):bltD .tuple [.ref n] S=.ok (.tup (l.map offD)) S:=by
 simp only [bltD,one,bTuple,seqOf,lstOf,h,wa,ofO]
theorem jS {d:Nat} {w:Wb} {S:Sr} (h:WbOk w):G (d+9) 16 [webD w] S=.ok (strD (strW w)) S:=by
 have hm:=h.c2
 have hall:=qfX h.c1
 rw [G_at (c:=c_16) rfl]
 obtain ⟨mo,b6,b7,b8,el⟩:=qjj (d:=d+5) (S:=S) h w.costs.length NW (rI w.costs.length) (rI w.costs.length) [] (-1,1) [] none none none (qE _) (by show _<60;lia) (.inr hall) hall (.inr ⟨rfl,rfl,hall.ne⟩) (by simp;lia)
 have z2:PySem.sizeLine≥2:=by unfold PySem.sizeLine;lia
 refine jH (f:=c_16) (S1:=S) (S2:=[.lst (([]:List Int).map .int),.lst ((strW w).1.map offD)]) rfl rfl ?_ rfl (q8 _ (qbN _))
 have e2:=qch (F:=G (d+8)) (ρ:=[some (webD w),some (tupI w.costs),none,none,none,none,none,none,none]) (S:=S) (S1:=S) (es:=.cons (.blt .len (.cons (.var 1) .nil)) .nil) (n:=w.costs.length) (qe (qG rfl (zu _ _)) rfl) (by lia)
 have e3:=qaR (F:=G (d+8)) (ρ:=[some (webD w),some (tupI w.costs),some (.ref S.length),none,none,none,none,none,none]) (S:=S++[.lst ((rI w.costs.length).map .int)]) (S1:=S++[.lst ((rI w.costs.length).map .int)]) (es:=.nil) (l:=[]) rfl (by simp) rfl
 have es:S++[.lst ((rI w.costs.length).map .int)]++[.lst []]=stS S (rI w.costs.length) []:=by simp [stS]
 have en:(S++[SO.lst ((rI w.costs.length).map .int)]).length=S.length+1:=by simp
 rw [es,en] at e3
 have e4:ev (G (d+8)) (.tup (.cons (.tup .nil) (.cons (.tup (.cons (.neg (.cst (.int 1))) (.cons (.cst (.int 1)) .nil))) .nil))) [some (webD w),some (tupI w.costs),some (.ref S.length),some (.ref (S.length+1)),none,none,none,none,none] (stS S (rI w.costs.length) [])=.ok (.tup [tupI [],nmD (-1,1)]) (stS S (rI w.costs.length) []):=qK (qe (qK rfl (by simp)) (qe (qK (qe rfl (qe rfl rfl)) z2) rfl)) z2
 have hend:strW w=stp w w.costs.length (rI w.costs.length) [] (rI w.costs.length):=rfl
 rw [← hend] at el
 exact z0 (S1:=S) (qj rfl (jQ h)) (qm (qF (S1:=S) rfl rfl rfl) rfl (qm e2 rfl (qm e3 rfl (qm e4 (ρ1:=pE w S.length [] (-1,1) none none none) rfl (jh el (qH (qK (qe (qG rfl (qbO (qam S [] (strW w).1))) (qe rfl rfl)) z2)))))))
noncomputable abbrev wE (w:Wb) (n:Nat) (best:List Int):En:=[some (webD w),some (.ref n),some (.ref (n+1)),some (tupI best)]
noncomputable def lBody:CSs:=match c_31.body with | .cons _ (.cons _ (.cons _ (.cons (.whileS _ b) _)))=>b | _=>.nil
theorem qfY (n:Nat):L2.ixN (n+1) (-1)=some n:=by
 unfold L2.ixN
 rw [wN (by decide),wL (by lia)]
 congr 1;lia
theorem qjk {d:Nat} {w:Wb} {S:Sr} {left best:List Int} {ord:List Of} (h:WbOk w) (hp:PlOk w.costs.length left) (hb:PlOk w.costs.length best) (ho:ord.length≤100) :
  exs (G (d+3)) NW lBody (wE w S.length best) (stS S left ord)=.ok (.nx (wE w S.length (if und (shr w best) (shr w left) then left else best))) (stS S (left.erase (offP (rat w left) left).1) (ord++[offP (rat w left) left])):=by
 have h0:=yq S left ord
 have hx:=qfS h0
 have e1:=qc6 (d:=d+1) (S:=stS S left ord) h (qja _ best) hb
 have e2:=qc6 (d:=d+1) (S:=stS S left ord) h hx hp
 have eo:=qkx (d:=d) (S:=stS S left ord) h hx hp
 have hin:=qaX hp (rat w left)
 have eu:=jk (d:=d+2) (S:=stS S left ord) (qaV h hb) (qaV h hp)
 generalize offP (rat w left) left=O at eo hin ⊢
 have t1:tst (G (d+3)) (.val (.call 24 (.cons (.call 30 (.cons (.var 0) (.cons (.var 3) .nil))) (.cons (.call 30 (.cons (.var 0) (.cons (.var 1) .nil))) .nil)))) (wE w S.length best) (stS S left ord)=.ok (und (shr w best) (shr w left)) (stS S left ord):=t_of (qj (qe (qj rfl e1) (qe (qj rfl e2) rfl)) eu)
 have tail:∀ pt:List Int,exs (G (d+3)) NW (tl lBody) (wE w S.length pt) (stS S left ord)=.ok (.nx (wE w S.length pt)) (stS S (left.erase O.1) (ord++[O])):=by
  intro pt
  have e9:ev (G (d+3)) (.app (.var 2) (.call 29 (.cons (.var 0) (.cons (.var 1) .nil)))) (wE w S.length pt) (stS S left ord)=.ok .non (stS S left (ord++[O])):=qfz rfl (by simp only [isLst,qam]) (qj rfl eo) (qc9 O ho)
  have hi:idxD (stS S left (ord++[O])) (.ref (S.length+1)) (.int (-1))=some (offD O):=by
   have hx:L2.ixN ((ord++[O]).map offD).length (-1)=some ord.length:=by rw [wO,wV,wx];exact qfY _
   simp only [idxD,seqOf,lstOf,qam,wP,L2.atI,hx]
   rw [w5,wS (wF _)];simp
  have e10:ev (G (d+3)) (.rem (.var 1) (.idx (.idx (.var 2) (.neg (.cst (.int 1)))) (.cst (.int 0)))) (wE w S.length pt) (stS S left (ord++[O]))=.ok .non (stS S (left.erase O.1) (ord++[O])):=qhQ rfl (by simp only [isLst,yq]) (qF (qF rfl rfl hi) rfl rfl) (qda hin)
  exact z0 e9 (z0 e10 qJ)
 show exs (G (d+3)) NW (.cons (.ifs (.val (.call 24 (.cons (.call 30 (.cons (.var 0) (.cons (.var 3) .nil))) (.cons (.call 30 (.cons (.var 0) (.cons (.var 1) .nil))) .nil)))) (.cons (.set (.var 3) (.blt .tuple (.cons (.var 1) .nil))) .nil) .nil) (tl lBody)) _ _=_
 cases hu:und (shr w best) (shr w left) with
 | true =>
  rw [hu] at t1
  exact z9 t1 (qm (qG rfl (qaY h0)) rfl qJ) (tail left)
 | false =>
  rw [hu] at t1
  exact x_no t1 (tail best)
theorem qhR {F:Fs} {ρ:En} {S S1 S2:Sr} {a b:CE} {x y:D} {c:Bool} (h:ev F a ρ S=.ok x S1) (h2:ev F b ρ S1=.ok y S2) (h3:neFD S2 x y=some c):ev F (.neF a b) ρ S=.ok (.bl c) S2:=by
 simp only [ev,h,h2,h3,Res.bind];rfl
theorem qfZ {S:Sr} {n:Nat} {p:List Int} (h:S[n]?=some (.lst (p.map .int))):neFD S (.ref n) (.lst [])=some (!p.isEmpty):=by
 simp only [neFD,h]
 cases p with
 | nil=>rfl
 | cons a r=>rfl
theorem qjl {d:Nat} {w:Wb} {S:Sr} (h:WbOk w):∀ (k N:Nat) (left best:List Int) (ord:List Of),left.length=k→k<N→(left=[]∨PlOk w.costs.length left)→PlOk w.costs.length best→ord.length+k≤100 →
  whileLoop (λρ S=>tst (G (d+3)) (.val (.neF (.var 1) (.lst false .nil))) ρ S) (λρ S=>exs (G (d+3)) NW lBody ρ S) N (wE w S.length best) (stS S left ord)=.ok (.nx (wE w S.length (stp w k left ord best).2)) (stS S [] (stp w k left ord best).1):=by
 intro k
 induction k with
 | zero =>
  intro N left best ord hk hN hp hb ho
  have hl:left=[]:=w8.mp hk
  subst hl
  obtain ⟨N,rfl⟩:∃ M,N=M+1:=⟨N-1,by lia⟩
  have t:tst (G (d+3)) (.val (.neF (.var 1) (.lst false .nil))) (wE w S.length best) (stS S [] ord)=.ok false (stS S [] ord):=t_of (qhR rfl (qbB rfl (by simp)) (qfZ (yq S [] ord)))
  simp only [whileLoop,t,Res.bind]
  rfl
 | succ k ih =>
  intro N left best ord hk hN hp hb ho
  obtain ⟨N,rfl⟩:∃ M,N=M+1:=⟨N-1,by lia⟩
  have hne:left≠[]:=λz=>by rw [z] at hk;simp at hk
  have hpl:=hp.resolve_left hne
  obtain ⟨x0,xs,hxs⟩:∃ x0 xs,left=x0::xs:=by
   cases left with
   | nil=>exact absurd rfl hne
   | cons a r=>exact ⟨a,r,rfl⟩
  have t:tst (G (d+3)) (.val (.neF (.var 1) (.lst false .nil))) (wE w S.length best) (stS S left ord)=.ok true (stS S left ord):=t_of (qhR rfl (qbB rfl (by simp)) (by rw [qfZ (yq S left ord),hxs];rfl))
  have et:=qjk (d:=d) (S:=S) h hpl hb (ord:=ord) (by lia)
  have hin:=qaX hpl (rat w left)
  have hbest:PlOk w.costs.length (if und (shr w best) (shr w left) then left else best):=by split <;> assumption
  have ee:stp w (k+1) left ord best=stp w k (left.erase (offP (rat w left) left).1) (ord++[offP (rat w left) left]) (if und (shr w best) (shr w left) then left else best):=by rw [hxs];rfl
  have el:=ih N (left.erase (offP (rat w left) left).1) _ (ord++[offP (rat w left) left]) (by rw [List.length_erase_of_mem hin];lia) (by lia) (qbM hpl _) hbest (by rw [wV,wx];lia)
  rw [ee,← el]
  simp only [whileLoop,t,Res.bind,et]
  rfl
theorem qho {d:Nat} {w:Wb} {S:Sr} (h:WbOk w):G (d+4) 31 [webD w] S=.ok (strD (strW w)) S:=by
 have hm:=h.c2
 have hall:=qfX h.c1
 rw [G_at (c:=c_31) rfl]
 have el:=qjl (d:=d) (S:=S) h w.costs.length NW (rI w.costs.length) (rI w.costs.length) [] (qE _) (by show _<60;lia) (.inr hall) hall (by simp;lia)
 have z2:PySem.sizeLine≥2:=by unfold PySem.sizeLine;lia
 refine jH (f:=c_31) (S1:=S) (S2:=[.lst (([]:List Int).map .int),.lst ((strW w).1.map offD)]) rfl rfl ?_ rfl (q8 _ (qbN _))
 have e2:=qch (F:=G (d+3)) (ρ:=[some (webD w),none,none,none]) (S:=S) (S1:=S) (es:=.cons (.blt .len (.cons (.idx (.var 0) (.cst (.int 0))) .nil)) .nil) (n:=w.costs.length) (qe (qG (qe (qF (S1:=S) rfl rfl rfl) rfl) (zu _ _)) rfl) (by lia)
 have e3:=qaR (F:=G (d+3)) (ρ:=[some (webD w),some (.ref S.length),none,none]) (S:=S++[.lst ((rI w.costs.length).map .int)]) (S1:=S++[.lst ((rI w.costs.length).map .int)]) (es:=.nil) (l:=[]) rfl (by simp) rfl
 have es:S++[.lst ((rI w.costs.length).map .int)]++[.lst []]=stS S (rI w.costs.length) []:=by simp [stS]
 have en:(S++[SO.lst ((rI w.costs.length).map .int)]).length=S.length+1:=by simp
 rw [es,en] at e3
 have hend:strW w=stp w w.costs.length (rI w.costs.length) [] (rI w.costs.length):=rfl
 rw [← hend] at el
 exact qm e2 rfl (qm e3 rfl (qm (qG rfl (qaY (yq S (rI w.costs.length) []))) (ρ1:=wE w S.length (rI w.costs.length)) rfl (jh el (qH (qK (qe (qG rfl (qbO (qam S [] (strW w).1))) (qe rfl rfl)) z2)))))
end RP
namespace RP
open R
theorem qf0 {S:Sr} {j:Nat} {ts:List Tie} {k:List Int} {w:Int} (h:S[j]?=some (dicD ts)) (hl:ts.length<1000):putE S (.ref j) (tupI k) (.int w)=some (S.set j (dicD (putTie k w ts))):=by
 unfold putE
 rw [wL (show refsLt 0 (D.int w)=true from rfl)]
 simp only [putN,h,dicD,tupI,qM,wP,wO,hl,if_true,qfA]
theorem qao {F:Fs} {ρ:En} {S S1 S2 S3:Sr} {o i:CE} {x y v:D} (h:ev F o ρ S=.ok x S1) (h2:ev F i ρ S1=.ok y S2) (h3:putE S2 x y v=some S3):asg F (.sub o i) v ρ S=.ok ρ S3:=by
 simp only [asg,h,h2,h3,Res.bind]
theorem qf1 (B X:Sr) (o:SO):(B++(o::X))[B.length]?=some o:=by
 rw [wS (by lia)];simp
theorem qjm {j:Nat} (B X:Sr) (o:SO) (v:Int) (h:B.length<j):(pk (B++(o::X)) j v)[B.length]?=some o:=by
 unfold pk
 rw [List.getElem?_set_ne (by lia),qf1]
theorem qhp {j:Nat} (B X:Sr) (o o':SO) (v:Int) (h:B.length<j):(pk (B++(o::X)) j v).set B.length o'=pk (B++(o'::X)) j v:=by
 unfold pk
 rw [List.set_comm _ _ (by lia),List.set_append_right _ _ (by lia)];simp
theorem qbP {d n kx:Nat} {v:Int} {ρ:En} {S:Sr} (hn:n<S.length) (hv:0≤v) (hρ:ρ[kx]?=some (some (.ref n))):∃ (cs:List Int) (u:Int),0≤u∧cs.length=12∧(∀ c∈cs,(1:Int)≤c∧c≤100) ∧
  ev (G (d+1)) (.blt .tuple (.cons (.lc false [kx] 1 (.bin .add (.cst (.int 1)) (.call 22 (.cons (.var 0) (.cons (.cst (.int 100)) .nil)))) (.var 1) (.rng (.cons (.cst (.int 12)) .nil)) .nil) .nil)) ρ (pk S n v)=.ok (tupI cs) (pk S n u):=by
 obtain ⟨made,B,e,⟨cs,u,rfl,rfl,hu,hcs⟩,hBl,hml⟩:=qfv (g:=.int) (F:=G (d+1)) (fr:=[kx]) (nt:=1) (elt:=.bin .add (.cst (.int 1)) (.call 22 (.cons (.var 0) (.cons (.cst (.int 100)) .nil)))) (tg:=.var 1) (it:=.rng (.cons (.cst (.int 12)) .nil))
  (ρ:=ρ) (S:=pk S n v) (S1:=pk S n v) (rI 12) (λρ=>∃ x,ρ=[some (.ref n),x])
  (λmade T=>∃ cs u,made=cs.map .int∧T=pk S n u∧0≤u∧∀ c∈cs,(1:Int)≤c∧c≤100) (i_rng (n:=12) rfl (by decide)) rfl ⟨none,by simp [frE,hρ]⟩ (by rw [qE];decide) ⟨[],v,rfl,rfl,hv,by simp⟩ (by
   rintro q hq ρ m T ⟨x,rfl⟩ ⟨cs,u,rfl,rfl,hu,hcs⟩ _ _
   have ek:=ye (d:=d) (n:=n) (v:=u) (m:=100) (S:=S++[.lst (cs.map .int)]) (by simp;lia) (by decide) (by decide)
   rw [← zm hn,← zm hn] at ek
   have f:=fm (v:=u) (m:=100) (by decide)
   refine ⟨_,.int (1+u.fmod 100),pk S n (u.fdiv 100),rfl,⟨_,rfl⟩,qA rfl (qj rfl ek) badd,by rw [qr,qr],rfl,cs++[1+u.fmod 100],_,by simp,rfl,Int.fdiv_nonneg hu (by decide),?_⟩
   intro c hc
   rcases vO.mp hc with z | z
   ·exact hcs c z
   ·simp at z;lia)
 rw [wO,qE] at hml
 exact ⟨cs,u,hu,hml,hcs,qG (qe e rfl) rfl⟩
noncomputable abbrev gE (ns:List Int) (k:Int) (n:Nat) (cs:List Int) (j:Nat) (a b c:Option D):En:=[some (.lst (ns.map .int)),some (.int k),some (.ref n),some (tupI cs),some (.ref j),a,b,c]
theorem qhq {d:Nat} {ns:List Int} (h63:ns.length≤63) {k:Int} {S:Sr} (hk:0≤k) (hk2:k<50):Ok (G (d+3) 32 [.lst (ns.map .int),.int k] S) λy T=>∃ w,WbOk w∧y=webD w∧T=S:=by
 rw [G_at (c:=c_32) rfl]
 refine ji (f:=c_32) rfl rfl ?_
 obtain ⟨v,hv,ep⟩:=qck (d:=d) h63 (k:=k) (S:=S) hk (by lia)
 refine zI (Ok.of (qj rfl ep) (Ok.of (a:=[some (.lst (ns.map .int)),some (.int k),some (.ref S.length),none,none,none,none,none]) rfl ?_))
 have hself:pk (S++[.lst [.int v]]) S.length v=S++[.lst [.int v]]:=qaQ (by simp)
 have hlen:S.length<(S++[SO.lst [.int v]]).length:=by simp
 obtain ⟨cs,u,hu,hcl,hcs,ec⟩:=qbP (d:=d+1) (kx:=2) (ρ:=[some (.lst (ns.map .int)),some (.int k),some (.ref S.length),none,none,none,none,none]) hlen hv rfl
 rw [hself] at ec
 obtain ⟨B,hB⟩:∃ B,B=pk (S++[.lst [.int v]]) S.length u:=⟨_,rfl⟩
 rw [← hB] at ec
 have hBl:B.length=S.length+1:=by rw [hB,qr];simp
 have hB0:B.take S.length=S:=by rw [hB];unfold pk;rw [List.set_append_right _ _ (by lia)];simp
 refine zI (Ok.of ec (Ok.of (a:=[some (.lst (ns.map .int)),some (.int k),some (.ref S.length),some (tupI cs),none,none,none,none]) rfl ?_))
 refine zI (Ok.of (a:=.ref B.length) (S:=B++[dicD []]) (by simp [ev,dicD]) (Ok.of (a:=gE ns k S.length cs B.length none none none) rfl ?_))
 refine qfJ (g:=.int) (λpre ρ T=>∃ a b c ts X,ρ=gE ns k S.length cs B.length a b c∧T=B++(dicD ts::X)∧KnOk 12 ts∧ts.length≤pre.length) (rI 30) (Ok.of (a:=(rI 30).map .int) (S:=B++[dicD []]) (i_rng (n:=30) rfl (by decide)) ⟨rfl,_,_,_,[],[],rfl,rfl,⟨List.nodup_nil,λt h=>by simp at h⟩,by simp⟩) ?_ ?_
 ·rintro pre q suf ρ T hpre ⟨a0,b0,c0,ts,X,rfl,rfl,hkn,hkl⟩
  have hq:q∈rI 30:=by rw [hpre];simp
  have hq':=zh.mp hq
  have hl:=congrArg List.length hpre
  rw [qE,wV,w4] at hl
  refine Ok.of (a:=gE ns k S.length cs B.length (some (.int q)) b0 c0) rfl ?_
  obtain ⟨v2,hv2,ep2⟩:=qck (d:=d) h63 (k:=k+1+q) (S:=B++(dicD ts::X)) (by lia) (by lia)
  have hj:B.length<(B++(dicD ts::X)).length:=by simp
  generalize hjj:(B++(dicD ts::X)).length=j at ep2 hj
  refine zI (Ok.of (a:=.ref j) (S:=B++(dicD ts::X)++[.lst [.int v2]]) (qj (qe rfl (qe (qA (qA rfl rfl badd) rfl badd) rfl)) ep2) (Ok.of (a:=gE ns k S.length cs B.length (some (.int q)) (some (.ref j)) c0) rfl ?_))
  have hs2:pk (B++(dicD ts::(X++[.lst [.int v2]]))) j v2=B++(dicD ts::X)++[.lst [.int v2]]:=by
   have:B++(dicD ts::(X++[SO.lst [.int v2]]))=B++(dicD ts::X)++[.lst [.int v2]]:=by simp
   rw [this]
   exact qaQ (by rw [← hjj];simp)
  rw [← hs2]
  have hjl:j<(B++(dicD ts::(X++[SO.lst [.int v2]]))).length:=by rw [← hjj];simp
  generalize X++[SO.lst [.int v2]]=X2 at hjl ⊢
  obtain ⟨p,u3,hp,hp4,hu3,epl⟩:=qfN (d:=d) (n:=j) (many:=12) (v:=v2) (S:=B++(dicD ts::X2)) hjl hv2 (by decide) (by decide)
  refine zI (Ok.of (qj (l:=[.ref j,.int ((12:Nat):Int)]) rfl epl) (Ok.of (a:=gE ns k S.length cs B.length (some (.int q)) (some (.ref j)) (some (tupI p))) rfl ?_))
  have et:=ye (d:=d+1) (n:=j) (v:=u3) (m:=1000000) (S:=B++(dicD ts::X2)) hjl (by decide) (by decide)
  have f6:=fm (v:=u3) (m:=1000000) (by decide)
  obtain ⟨hk3,hl3⟩:=hkn.put (k:=p) (w:=1+u3.fmod 1000000) hp hp4 (by lia) (by lia)
  have hput:=qf0 (k:=p) (w:=1+u3.fmod 1000000) (qjm B X2 (dicD ts) (u3.fdiv 1000000) hj) (by lia)
  rw [qhp _ _ _ _ _ hj] at hput
  refine zI (Ok.of (qA rfl (qj (qe rfl (qe (pow6 _ _ _) rfl)) et) badd) (Ok.of (qao rfl rfl hput) ?_))
  refine qfI ⟨_,_,_,_,X2.set (j-(B.length+1)) (.lst [.int (u3.fdiv 1000000)]),rfl,?_,hk3,by rw [wV];simp;lia⟩
  unfold pk
  rw [List.set_append_right _ _ (by lia)]
  obtain ⟨i,hi⟩:∃ i,j-B.length=i+1:=⟨j-B.length-1,by lia⟩
  rw [hi,List.set_cons_succ]
  have:j-(B.length+1)=i:=by lia
  rw [this]
 rintro ρ T ⟨a0,b0,c0,ts,X,rfl,rfl,hkn,hkl⟩
 rw [qE] at hkl
 obtain ⟨hs1,hs2⟩:=qfC hkn
 refine qc3 (Ok.of (qK (qe rfl (qe (qfD (kx:=4) (j:=B.length) rfl (qf1 _ _ _) hkn (by lia)) rfl)) (by simp [PySem.sizeLine])) ⟨by simp;lia,jJ _ ⟨cs,srt ts⟩,⟨cs,srt ts⟩,⟨by show 1≤cs.length;lia,by show cs.length≤12;lia,hcs,by show (srt ts).length≤30;rw [qc2];lia,by show ∀ t∈srt ts,PlOk cs.length t.1∧_;rw [hcl];exact hs1,hs2⟩,rfl,?_⟩)
 rw [List.take_append_of_le_length (by lia),hB0]
noncomputable def pth (f:Int) (g:Int) (i:Int):Tie:=([i,i+1],f+1000*(if g=0 then i else 11-i))
theorem qjn {d n:Nat} {v:Int} {S:Sr} (hn:n<S.length) (hv:0≤v):Ok (G (d+2) 33 [.ref n] (pk S n v)) λy T=>∃ w u,WbOk w∧0≤u∧y=webD w∧T=pk S n u:=by
 rw [G_at (c:=c_33) rfl]
 refine ji (f:=c_33) rfl rfl ?_
 have z2:PySem.sizeLine≥2:=by simp [PySem.sizeLine]
 have f1:=fm (v:=v) (m:=2) (by decide)
 have et1:=ye (d:=d) (n:=n) (v:=v) (m:=2) (S:=S) hn (by decide) (by decide)
 have hv1:0≤v.fdiv 2:=Int.fdiv_nonneg hv (by decide)
 generalize v.fdiv 2=v1 at et1 hv1
 generalize v.fmod 2=g at et1 f1
 refine zI (Ok.of (qj rfl et1) (Ok.of (a:=[some (.ref n),some (.int g),none,none,none]) rfl ?_))
 have f2:=fm (v:=v1) (m:=900000) (by decide)
 have et2:=ye (d:=d) (n:=n) (v:=v1) (m:=900000) (S:=S) hn (by decide) (by decide)
 have hv2:0≤v1.fdiv 900000:=Int.fdiv_nonneg hv1 (by decide)
 generalize v1.fdiv 900000=v2 at et2 hv2
 generalize v1.fmod 900000=f at et2 f2
 have e9:∀ ρ T,ev (G (d+1)) (.bin .mul (.cst (.int 9)) (.bin .pow (.cst (.int 10)) (.cst (.int 5)))) ρ T=.ok (.int 900000) T:=λρ T=>qA (d1:=.int 9) (d2:=.int 100000) (S1:=T) rfl (by simp [ev,Res.bind,binD,binI]) (bmul (zz (by decide)))
 refine zI (Ok.of (qA rfl (qj (qe rfl (qe (e9 _ _) rfl)) et2) badd) (Ok.of (a:=[some (.ref n),some (.int g),some (.int (1+f)),none,none]) rfl ?_))
 refine zI (Ok.of (a:=.ref S.length) (S:=pk S n v2++[.lst []]) (by have:=qaR (F:=G (d+1)) (ρ:=[some (.ref n),some (.int g),some (.int (1+f)),none,none]) (S:=pk S n v2) (S1:=pk S n v2) (es:=.nil) (l:=[]) rfl (by simp) rfl;rwa [qr] at this) (Ok.of (a:=[some (.ref n),some (.int g),some (.int (1+f)),some (.ref S.length),none]) rfl ?_))
 refine qfJ (g:=.int) (λpre ρ T=>∃ a,ρ=[some (.ref n),some (.int g),some (.int (1+f)),some (.ref S.length),a]∧T=pk S n v2++[.lst ((pre.map (pth (1+f) g)).map tieD)]) (rI 11) (Ok.of (a:=(rI 11).map .int) (S:=pk S n v2++[.lst []]) (i_rng (n:=11) rfl (by decide)) ⟨rfl,_,rfl,rfl⟩) ?_ ?_
 ·rintro pre q suf ρ T hpre ⟨a0,rfl,rfl⟩
  have hq':=zh.mp (show q∈rI 11 by rw [hpre];simp)
  have hl:=congrArg List.length hpre
  rw [qE,wV,w4] at hl
  refine Ok.of (a:=[some (.ref n),some (.int g),some (.int (1+f)),some (.ref S.length),some (.int q)]) rfl ?_
  have hat:∀ l:List D,(pk S n v2++[SO.lst l])[S.length]?=some (.lst l):=λl=>by
   rw [wS (by rw [qr];lia),qr];simp
  have hi:∀ T,idxD T (.lst [.int q,.int (11-q)]) (.int g)=some (.int (if g=0 then q else 11-q)):=λT=>by
   have:g=0∨g=1:=by lia
   rcases this with rfl | rfl
   ·rfl
   ·rfl
  have e1:∀ T,ev (G (d+1)) (.bin .add (.var 2) (.bin .mul (.cst (.int 1000)) (.idx (.lst false (.cons (.var 4) (.cons (.bin .sub (.cst (.int 11)) (.var 4)) .nil))) (.var 1)))) [some (.ref n),some (.int g),some (.int (1+f)),some (.ref S.length),some (.int q)] T=.ok (.int (1+f+1000*(if g=0 then q else 11-q))) T:=λT =>
   qA rfl (qA rfl (qF (qbB (qe rfl (qe (qA rfl rfl rfl) rfl)) (by simp)) rfl (hi _)) (bmul (zz (by decide)))) badd
  have e2:∀ T,ev (G (d+1)) (.tup (.cons (.tup (.cons (.var 4) (.cons (.bin .add (.var 4) (.cst (.int 1))) .nil))) (.cons (.bin .add (.var 2) (.bin .mul (.cst (.int 1000)) (.idx (.lst false (.cons (.var 4) (.cons (.bin .sub (.cst (.int 11)) (.var 4)) .nil))) (.var 1)))) .nil))) [some (.ref n),some (.int g),some (.int (1+f)),some (.ref S.length),some (.int q)] T=.ok (tieD (pth (1+f) g q)) T:=λT =>
   qK (qe (qK (qe rfl (qe (qA rfl rfl badd) rfl)) z2) (qe (e1 T) rfl)) z2
  refine qi7 (Ok.of (a:=.non) (qfz rfl (by simp only [isLst,hat]) (e2 _) (S3:=pk S n v2++[.lst (((pre++[q]).map (pth (1+f) g)).map tieD)]) ?_) (qfI ⟨_,rfl,rfl⟩))
  simp only [appD,hat]
  rw [wL ⟨by rw [wO,wO];unfold PySem.sizeLine;lia,yK _ _⟩]
  rw [List.set_append_right _ _ (by rw [qr];lia),qr]
  simp
 rintro ρ T ⟨a0,rfl,rfl⟩
 have hat:(pk S n v2++[SO.lst (((rI 11).map (pth (1+f) g)).map tieD)])[S.length]?=some (.lst (((rI 11).map (pth (1+f) g)).map tieD)):=by
  rw [wS (by rw [qr];lia),qr];simp
 have f3:=fm (v:=v2) (m:=3) (by decide)
 have et3:=ye (d:=d) (n:=n) (v:=v2) (m:=3) (S:=S++[SO.lst (((rI 11).map (pth (1+f) g)).map tieD)]) (by simp;lia) (by decide) (by decide)
 rw [← zm hn,← zm hn] at et3
 have hv3:0≤v2.fdiv 3:=Int.fdiv_nonneg hv2 (by decide)
 have hat3:(pk S n (v2.fdiv 3)++[SO.lst (((rI 11).map (pth (1+f) g)).map tieD)])[S.length]?=some (.lst (((rI 11).map (pth (1+f) g)).map tieD)):=by
  rw [wS (by rw [qr];lia),qr];simp
 generalize v2.fdiv 3=v3 at et3 hv3 hat3
 generalize v2.fmod 3=c at et3 f3
 have e1:ev (G (d+1)) (.bin .mul (.tup (.cons (.bin .add (.cst (.int 1)) (.call 22 (.cons (.var 0) (.cons (.cst (.int 3)) .nil)))) .nil)) (.cst (.int 12))) [some (.ref n),some (.int g),some (.int (1+f)),some (.ref S.length),a0] (pk S n v2++[SO.lst (((rI 11).map (pth (1+f) g)).map tieD)])=.ok (tupI (List.replicate 12 (1+c))) (pk S n v3++[SO.lst (((rI 11).map (pth (1+f) g)).map tieD)]):=by
  refine qA (qK (qe (qA rfl (qj rfl et3) badd) rfl) (by simp [PySem.sizeLine])) rfl ?_
  simp [binD,repOk,rep,PySem.sizeLine]
  rfl
 have e2:bltD .tuple [.ref S.length] (pk S n v3++[SO.lst (((rI 11).map (pth (1+f) g)).map tieD)])=.ok (.tup (((rI 11).map (pth (1+f) g)).map tieD)) (pk S n v3++[SO.lst (((rI 11).map (pth (1+f) g)).map tieD)]):=by
  simp only [bltD,one,bTuple,seqOf,lstOf,hat3,wa,ofO]
 refine qc3 (Ok.of (qK (qe e1 (qe (qG rfl e2) rfl)) z2) ⟨by rw [wV,qr,qr];lia,jJ _ ⟨List.replicate 12 (1+c),(rI 11).map (pth (1+f) g)⟩,⟨List.replicate 12 (1+c),(rI 11).map (pth (1+f) g)⟩,v3,⟨by simp,by simp,?_,by rw [wO,qE];decide,?_,?_⟩,hv3,rfl,?_⟩)
 ·intro x hx
  rw [List.mem_replicate] at hx;lia
 ·intro t ht
  obtain ⟨i,hi,rfl⟩:=vN.mp ht
  have hi':=zh.mp hi
  refine ⟨⟨by simp [pth],λx hx=>?_,?_⟩,by simp [pth],?_,?_⟩
  ·simp [pth] at hx ⊢;lia
  ·simp [pth];lia
  ·show 1≤1+f+1000*(if g=0 then i else 11-i);split <;> lia
  ·show 1+f+1000*(if g=0 then i else 11-i)≤1000000;split <;> lia
 ·rw [wd,show ((·.1)∘pth (1+f) g)=λi:Int=>[i,i+1] from rfl]
  decide
 ·rw [show (pk S n v).length=(pk S n v3).length by rw [qr,qr],List.take_left'];rfl
theorem qhr {d n:Nat} {v:Int} {S:Sr} (hn:n<S.length) (hv:0≤v):Ok (G (d+2) 34 [.ref n] (pk S n v)) λy T=>∃ w u,WbOk w∧0≤u∧y=webD w∧T=pk S n u:=by
 rw [G_at (c:=c_34) rfl]
 refine ji (f:=c_34) rfl rfl ?_
 have z2:PySem.sizeLine≥2:=by simp [PySem.sizeLine]
 have z4:PySem.sizeLine≥4:=by simp [PySem.sizeLine]
 refine zI (Ok.of (a:=.ref S.length) (S:=pk S n v++[dicD []]) (by simp [ev,dicD,qr]) (Ok.of (a:=[some (.ref n),some (.ref S.length),none,none]) rfl ?_))
 refine qfJ (g:=.int) (λpre ρ T=>∃ a ts u,ρ=[some (.ref n),some (.ref S.length),a,none]∧T=pk S n u++[dicD ts]∧0≤u∧KnOk 12 ts∧ts.length≤pre.length) (rI 9) (Ok.of (a:=(rI 9).map .int) (S:=pk S n v++[dicD []]) (i_rng (n:=9) rfl (by decide)) ⟨rfl,_,[],v,rfl,rfl,hv,⟨List.nodup_nil,λt h=>by simp at h⟩,by simp⟩) ?_ ?_
 ·rintro pre q suf ρ T hpre ⟨a0,ts,u,rfl,rfl,hu,hkn,hkl⟩
  have hq':=zh.mp (show q∈rI 9 by rw [hpre];simp)
  have hl:=congrArg List.length hpre
  rw [qE,wV,w4] at hl
  refine Ok.of (a:=[some (.ref n),some (.ref S.length),some (.int q),none]) rfl ?_
  have et:=ye (d:=d) (n:=n) (v:=u) (m:=1000000) (S:=S++[dicD ts]) (by simp;lia) (by decide) (by decide)
  rw [← zm hn,← zm hn] at et
  have f6:=fm (v:=u) (m:=1000000) (by decide)
  have hat:(pk S n (u.fdiv 1000000)++[dicD ts])[S.length]?=some (dicD ts):=by
   rw [wS (by rw [qr];lia),qr];simp
  obtain ⟨hk3,hl3⟩:=hkn.put (k:=[q,q+1,q+2,q+3]) (w:=1+u.fmod 1000000) ⟨by simp,λx hx=>by simp at hx;lia,by simp;lia⟩ (by simp) (by lia) (by lia)
  refine zI (Ok.of (qA rfl (qj (qe rfl (qe (pow6 _ _ _) rfl)) et) badd) (Ok.of (qao rfl (qK (l:=[.int q,.int (q+1),.int (q+2),.int (q+3)]) (qe rfl (qe (qA rfl rfl badd) (qe (qA rfl rfl badd) (qe (qA rfl rfl badd) rfl)))) z4) (qf0 (k:=[q,q+1,q+2,q+3]) hat (by lia))) (qfI ⟨_,_,u.fdiv 1000000,rfl,?_,Int.fdiv_nonneg hu (by decide),hk3,by rw [wV];simp;lia⟩)))
  rw [List.set_append_right _ _ (by rw [qr];lia),qr]
  simp
 rintro ρ T ⟨a0,ts,u,rfl,rfl,hu,hkn,hkl⟩
 rw [qE] at hkl
 rw [zm hn]
 obtain ⟨cs,u2,hu2,hcl,hcs,ec⟩:=qbP (d:=d) (kx:=0) (ρ:=[some (.ref n),some (.ref S.length),a0,none]) (S:=S++[dicD ts]) (n:=n) (by simp;lia) hu rfl
 refine zI (Ok.of ec (Ok.of (a:=[some (.ref n),some (.ref S.length),a0,some (tupI cs)]) rfl ?_))
 rw [← zm hn]
 have hat:(pk S n u2++[dicD ts])[S.length]?=some (dicD ts):=by
  rw [wS (by rw [qr];lia),qr];simp
 obtain ⟨hs1,hs2⟩:=qfC hkn
 refine qc3 (Ok.of (qK (qe rfl (qe (qfD (kx:=1) (j:=S.length) rfl hat hkn (by lia)) rfl)) z2) ⟨by rw [wV,qr,qr];lia,jJ _ ⟨cs,srt ts⟩,⟨cs,srt ts⟩,u2,⟨by show 1≤cs.length;lia,by show cs.length≤12;lia,hcs,by show (srt ts).length≤30;rw [qc2];lia,by show ∀ t∈srt ts,PlOk cs.length t.1∧_;rw [hcl];exact hs1,hs2⟩,hu2,rfl,?_⟩)
 rw [show (pk S n v).length=(pk S n u2).length by rw [qr,qr],List.take_left'];rfl
end RP
namespace RP
open R
theorem qaZ {p q:Int × Int}:und q p=false ↔ p.1*q.2≤q.1*p.2:=by
 unfold und
 rw [decide_eq_false_iff_not]
 constructor <;> intro h <;> lia
theorem y9 {p q r:Int × Int} (hp:0<p.2) (hq:0<q.2) (hr:0<r.2) (h1:und q p=false) (h2:und r q=false):und r p=false:=by
 rw [qaZ] at h1 h2 ⊢
 have a1:=Int.mul_le_mul_of_nonneg_right h1 (Int.le_of_lt hr)
 have a2:=Int.mul_le_mul_of_nonneg_right h2 (Int.le_of_lt hp)
 have e1:p.1*q.2*r.2=p.1*r.2*q.2:=by ac_rfl
 have e2:q.1*p.2*r.2=q.1*r.2*p.2:=by ac_rfl
 have e3:r.1*q.2*p.2=r.1*p.2*q.2:=by ac_rfl
 rw [e1,e2] at a1
 rw [e3] at a2
 exact Int.le_of_mul_le_mul_right (Int.le_trans a1 a2) hq
theorem qf2 {p q:Int × Int} (h:und p q=true):und q p=false:=by
 unfold und at h
 rw [vH] at h
 rw [qaZ];lia
theorem qf3 {a b c:Int} (hc:1≤c) (h:a≤b):und (lw b c) (lw a c)=false:=by
 rw [qaZ]
 have e1:=qhL (t:=a) hc
 have e2:=qhL (t:=b) hc
 have p1:=(qc4 (t:=a) hc).pos
 have p2:=(qc4 (t:=b) hc).pos
 refine Int.le_of_mul_le_mul_right (show (lw a c).1*(lw b c).2*c≤(lw b c).1*(lw a c).2*c from ?_) (show 0<c by lia)
 have e3:(lw a c).1*(lw b c).2*c=a*((lw a c).2*(lw b c).2):=by
  rw [← Int.mul_assoc,← e1];ac_rfl
 have e4:(lw b c).1*(lw a c).2*c=b*((lw a c).2*(lw b c).2):=by
  rw [Int.mul_comm (lw a c).2,← Int.mul_assoc,← e2];ac_rfl
 rw [e3,e4]
 exact Int.mul_le_mul_of_nonneg_right h (Int.mul_nonneg (by lia) (by lia))
theorem qdc:∀ (T:List Tie) (p q:Tie→Bool),(∀ t∈T,0≤t.2)→(∀ t∈T,p t=true→q t=true)→((T.filter p).map (·.2)).sum≤((T.filter q).map (·.2)).sum
 | [],_,_,_,_=>by simp
 | t::r,p,q,h1,h2=>by
  have ih:=qdc r p q (λs hs=>h1 s (wM _ hs)) λs hs=>h2 s (wM _ hs)
  have a1:=h1 t wJ
  have a2:=h2 t wJ
  rw [List.filter_cons,List.filter_cons]
  cases hp:p t with
  | true =>
   rw [a2 hp,wL rfl,wL rfl,wQ,wQ,List.sum_cons,List.sum_cons];lia
  | false =>
   rw [wN (by simp)]
   split
   ·rw [wQ,List.sum_cons];lia
   ·exact ih
theorem qf4 {w:Wb} (h:WbOk w) {X Y:List Int} (hXY:∀ x∈X,x∈Y) (x:Int):deg (tin w X) x≤deg (tin w Y) x:=by
 unfold deg tin
 rw [List.filter_filter,List.filter_filter]
 refine qdc _ _ _ (λt ht=>by have:=h.t2 t ht;lia) λt ht e=>?_
 rw [wU] at e ⊢
 refine ⟨e.1,?_⟩
 have:=e.2
 unfold subB at this ⊢
 rw [List.all_eq_true] at this ⊢
 exact λq hq=>List.contains_iff_mem.mpr (hXY q (List.contains_iff_mem.mp (this q hq)))
theorem jT {w:Wb} (h:WbOk w) {X Y:List Int} (hXY:∀ x∈X,x∈Y) {x:Int} (h0:0≤x) (h1:x<w.costs.length):und (rat w Y x) (rat w X x)=false:=qf3 (qbJ h h0 h1).1 (qf4 h hXY x)
theorem qhs (r:Int→Int × Int):∀ (n:Nat) (l:List Int),l.length=n→l≠[]→(∀ x∈l,0<(r x).2)→∀ x∈l,und (r x) (offP r l).2=false:=by
 intro n
 induction n with
 | zero=>intro l h hne;exact absurd (w8.mp h) hne
 | succ n ih =>
  intro l hl hne hpos x hx
  obtain ⟨i,a,rfl⟩:∃ i a,l=i++[a]:=by
   rcases List.eq_nil_or_concat l with rfl | ⟨ys,y,rfl⟩
   ·exact absurd rfl hne
   ·exact ⟨ys,y,by rw [List.concat_eq_append]⟩
  rw [wV,wx] at hl
  by_cases hi:i=[]
  ·subst hi
   simp at hx;subst hx
   exact yN _
  ·have ih1:=ih i (by lia) hi λy hy=>hpos y (wu _ hy)
   obtain ⟨z,hz,ez⟩:=yP r _ i rfl hi
   have pz:=hpos z (wu _ hz)
   have pa:=hpos a (by simp)
   have px:=hpos x hx
   rw [yj r hi]
   unfold offS
   rw [ez] at ih1 ⊢
   cases hu:und (r a) (r z) with
   | true =>
    rw [wL rfl]
    show und (r x) (r a)=false
    rcases vO.mp hx with q | q
    ·exact y9 pa pz px (qf2 hu) (ih1 x q)
    ·simp at q;subst q;exact yN _
   | false =>
    rw [wN (by simp)]
    rcases vO.mp hx with q | q
    ·exact ih1 x q
    ·simp at q;subst q;exact hu
noncomputable def seqO (w:Wb):Nat→List Int→List Of
 | 0,_=>[]
 | _+1,[]=>[]
 | k+1,a::l=>offP (rat w (a::l)) (a::l)::seqO w k ((a::l).erase (offP (rat w (a::l)) (a::l)).1)
theorem qdd (w:Wb):∀ (k:Nat) (left:List Int) (ord:List Of) (best:List Int),(stp w k left ord best).1=ord++seqO w k left
 | 0,left,ord,best=>by simp [stp,seqO]
 | k+1,[],ord,best=>by simp [stp,seqO]
 | k+1,a::l,ord,best=>by
  rw [stp,qdd w k,seqO,List.append_assoc];rfl
noncomputable abbrev mx (m n:Int × Int):Int × Int:=if und m n then n else m
noncomputable def runC:Int × Int→List Of→List Of
 | _,[]=>[]
 | m,o::r=>(o.1,mx m o.2)::runC (mx m o.2) r
noncomputable def lkC:List Of→Int→Int × Int
 | [],_=>(0,1)
 | o::r,x=>if o.1=x then o.2 else lkC r x
theorem yZ {l:List Int} (nd:l.Nodup) {a x:Int}:x∈l.erase a ↔ x∈l∧x≠a:=by
 rw [nd.mem_erase_iff];exact And.comm
structure Lft (w:Wb) (k:Nat) (L:List Int):Prop where
 len:L.length=k
 nd:L.Nodup
 rng:∀ x∈L,0≤x∧x<w.costs.length
theorem zd {w:Wb} (h:WbOk w) (L:List Int) {x:Int} (hx:0≤x∧x<w.costs.length):0<(rat w L x).2:=by
 have:=(yy h L hx.1 hx.2).b1;lia
theorem Lft.next {w:Wb} {k:Nat} {a:Int} {l:List Int} (h:Lft w (k+1) (a::l)):(offP (rat w (a::l)) (a::l)).1∈a::l∧(offP (rat w (a::l)) (a::l)).2=rat w (a::l) (offP (rat w (a::l)) (a::l)).1∧Lft w k ((a::l).erase (offP (rat w (a::l)) (a::l)).1):=by
 obtain ⟨z,hz,ez⟩:=yP (rat w (a::l)) _ (a::l) rfl (by simp)
 rw [ez]
 refine ⟨hz,rfl,?_,h.nd.erase _,λx hx=>h.rng x (List.mem_of_mem_erase hx)⟩
 have:=h.len
 rw [List.length_erase_of_mem hz];lia
theorem jU {w:Wb}:∀ (k:Nat) (L:List Int),Lft w k L→∀ x,x∈(seqO w k L).map (·.1) ↔ x∈L
 | 0,L,h,x=>by
  have:=w8.mp h.len
  subst this;simp [seqO]
 | k+1,[],h,x=>by simp [seqO]
 | k+1,a::l,h,x=>by
  obtain ⟨h1,_,h3⟩:=h.next
  rw [seqO,wQ,wZ,jU k _ h3,yZ h.nd]
  generalize (offP (rat w (a::l)) (a::l)).1=b at h1 ⊢
  constructor
  ·rintro (rfl | ⟨q,_⟩)
   ·exact h1
   ·exact q
  ·intro q
   by_cases e:x=b
   ·exact .inl e
   ·exact .inr ⟨q,e⟩
theorem qde {w:Wb}:∀ (k:Nat) (L:List Int),Lft w k L→((seqO w k L).map (·.1)).Nodup
 | 0,L,h=>by simp [seqO]
 | k+1,[],h=>by simp [seqO]
 | k+1,a::l,h=>by
  obtain ⟨h1,_,h3⟩:=h.next
  rw [seqO,wQ,List.nodup_cons,jU k _ h3,yZ h.nd]
  exact ⟨λq=>q.2 rfl,qde k _ h3⟩
theorem qco {w:Wb} (h:WbOk w) {c:Int × Int} (hc:0<c.2):∀ (k:Nat) (L:List Int) (m:Int × Int),Lft w k L→0<m.2→und m c=false→∀ x∈L,und (lkC (runC m (seqO w k L)) x) c=false
 | 0,L,m,hL,hm,hu,x,hx=>by
  have:=w8.mp hL.len
  subst this;simp at hx
 | k+1,[],m,hL,hm,hu,x,hx=>by simp at hx
 | k+1,a::l,m,hL,hm,hu,x,hx=>by
  obtain ⟨h1,h2,h3⟩:=hL.next
  rw [seqO,runC,lkC]
  obtain ⟨O,hO⟩:∃ O,O=offP (rat w (a::l)) (a::l):=⟨_,rfl⟩
  rw [← hO] at h1 h2 h3 ⊢
  have hOp:0<O.2.2:=by rw [h2];exact zd h _ (hL.rng _ h1)
  have hm':0<(mx m O.2).2:=by unfold mx;split <;> assumption
  have hu':und (mx m O.2) c=false:=by
   unfold mx
   split
   ·rename_i z
    exact y9 hc hm hOp hu (qf2 z)
   ·exact hu
  split
  ·exact hu'
  ·rename_i z
   exact qco h hc k _ _ h3 hm' hu' x ((yZ hL.nd).mpr ⟨hx,λe=>z e.symm⟩)
theorem jV {w:Wb} (h:WbOk w) {c:Int × Int} (hc:0<c.2):∀ (k:Nat) (L:List Int) (m:Int × Int),Lft w k L→0<m.2→und m c=true →
  (∀ K:List Int,(∀ x,x∈K ↔ x∈L∧und (lkC (runC m (seqO w k L)) x) c=false)→∀ x∈K,und (rat w K x) c=false) ∧
  (∀ X:List Int,(∀ x∈X,x∈L)→(∀ x∈X,und (rat w X x) c=false)→∀ x∈X,und (lkC (runC m (seqO w k L)) x) c=false)
 | 0,L,m,hL,hm,hu=>by
  have:=w8.mp hL.len
  subst this
  exact ⟨λK hK x hx=>by simpa using ((hK x).mp hx).1,λX hX _ x hx=>by simpa using hX x hx⟩
 | k+1,[],m,hL,hm,hu=>⟨λK hK x hx=>by simpa using ((hK x).mp hx).1,λX hX _ x hx=>by simpa using hX x hx⟩
 | k+1,a::l,m,hL,hm,hu=>by
  obtain ⟨h1,h2,h3⟩:=hL.next
  have hle:=qhs (rat w (a::l)) _ (a::l) rfl (by simp) λx hx=>zd h _ (hL.rng x hx)
  rw [seqO,runC]
  obtain ⟨O,hO⟩:∃ O,O=offP (rat w (a::l)) (a::l):=⟨_,rfl⟩
  rw [← hO] at h1 h2 h3 hle ⊢
  have hOp:0<O.2.2:=by rw [h2];exact zd h _ (hL.rng _ h1)
  have hm':0<(mx m O.2).2:=by unfold mx;split <;> assumption
  cases hu':und (mx m O.2) c with
  | true =>
   have ih:=jV h hc k _ _ h3 hm' hu'
   have hOc:und O.2 c=true:=by
    unfold mx at hu'
    split at hu'
    ·exact hu'
    ·rename_i z
     cases q:und O.2 c with
     | true=>rfl
     | false =>
      have:=y9 hc hOp hm q (by simpa using z)
      rw [hu] at this;cases this
   refine ⟨λK hK x hx=>ih.1 K (λy=>?_) x hx,λX hX hr x hx=>?_⟩
   ·rw [hK y,lkC,yZ hL.nd]
    constructor
    ·rintro ⟨q1,q2⟩
     by_cases e:O.1=y
     ·rw [wL e,hu'] at q2;cases q2
     ·rw [wN e] at q2
      exact ⟨⟨q1,λz=>e z.symm⟩,q2⟩
    ·rintro ⟨⟨q1,q2⟩,q3⟩
     rw [wN λz=>q2 z.symm]
     exact ⟨q1,q3⟩
   ·have hn:O.1 ∉ X:=λz=>by
     have a1:=jT h hX (hL.rng _ h1).1 (hL.rng _ h1).2
     have a2:=hr _ z
     have:=y9 hc (zd h X (hL.rng _ h1)) (zd h (a::l) (hL.rng _ h1)) a2 a1
     rw [← h2,hOc] at this;cases this
    rw [lkC,wN λz=>hn (by rw [z];exact hx)]
    exact ih.2 X (λy hy=>(yZ hL.nd).mpr ⟨hX y hy,λe=>hn (by rw [← e];exact hy)⟩) hr x hx
  | false =>
   have hOc:und O.2 c=false:=by
    unfold mx at hu'
    split at hu'
    ·exact hu'
    ·rw [hu] at hu';cases hu'
   have all:∀ x∈a::l,und (lkC ((O.1,mx m O.2)::runC (mx m O.2) (seqO w k ((a::l).erase O.1))) x) c=false:=by
    intro x hx
    rw [lkC]
    split
    ·exact hu'
    ·rename_i z
     exact qco h hc k _ _ h3 hm' hu' x ((yZ hL.nd).mpr ⟨hx,λe=>z e.symm⟩)
   refine ⟨λK hK x hx=>?_,λX hX hr x hx=>all x (hX x hx)⟩
   have hxl:=((hK x).mp hx).1
   have a1:=jT h (X:=a::l) (Y:=K) (λy hy=>(hK y).mpr ⟨hy,all y hy⟩) (hL.rng _ hxl).1 (hL.rng _ hxl).2
   have a2:=y9 hc hOp (zd h (a::l) (hL.rng _ hxl)) hOc (hle x hxl)
   exact y9 hc (zd h (a::l) (hL.rng _ hxl)) (zd h K (hL.rng _ hxl)) a2 a1
noncomputable def cor (w:Wb) (x:Int):Int × Int:=lkC (runC (0,1) (strW w).1) x
theorem yk (w:Wb):(strW w).1=seqO w w.costs.length (rI w.costs.length):=by
 unfold strW
 rw [qdd];rfl
theorem zM (w:Wb):Lft w w.costs.length (rI w.costs.length):=⟨qE _,jL _,λx hx=>zh.mp hx⟩
theorem und0 {w:Wb} (h:WbOk w) {c:Int × Int} (hc:0<c.2) (L:List Int) {x:Int} (hx:0≤x∧x<w.costs.length) (hu:und (0,1) c=false):und (rat w L x) c=false:=by
 have h0:und (rat w L x) (0,1)=false:=by
  rw [qaZ]
  have:0≤(rat w L x).1:=qhM (qc5 (qal h L).1 (qal h L).2 x).1 (qbJ h hx.1 hx.2).1
  lia
 exact y9 hc (by decide) (zd h L hx) hu h0
theorem qht {w:Wb} (h:WbOk w) {c:Int × Int} (hc:0<c.2) (K:List Int) (hK:∀ x,x∈K ↔ x∈rI w.costs.length∧und (cor w x) c=false):∀ x∈K,und (rat w K x) c=false:=by
 cases hu:und (0,1) c with
 | true=>exact (jV h hc _ _ (0,1) (zM w) (by decide) hu).1 K λx=>by rw [hK x,cor,yk]
 | false=>exact λx hx=>und0 h hc K (zh.mp ((hK x).mp hx).1) hu
theorem qf5 {w:Wb} (h:WbOk w) {c:Int × Int} (hc:0<c.2) (X:List Int) (hX:∀ x∈X,x∈rI w.costs.length) (hr:∀ x∈X,und (rat w X x) c=false):∀ x∈X,und (cor w x) c=false:=by
 unfold cor
 rw [yk]
 cases hu:und (0,1) c with
 | true=>exact (jV h hc _ _ (0,1) (zM w) (by decide) hu).2 X hX hr
 | false=>exact λx hx=>qco h hc _ _ (0,1) (zM w) (by decide) hu x (hX x hx)
noncomputable def lfF (w:Wb) (c:Int × Int) (L:List Int):List Int:=L.filter λx=>!und (rat w L x) c
noncomputable def lft (w:Wb) (c:Int × Int):Nat→List Int→List Int
 | 0,L=>L
 | k+1,L=>lft w c k (lfF w c L)
theorem qdf (w:Wb) (c:Int × Int) {L:List Int} (h:lfF w c L=L):∀ k,lft w c k L=L
 | 0=>rfl
 | k+1=>by rw [lft,h,qdf w c h k]
theorem jW (w:Wb) (c:Int × Int):∀ (k:Nat) (L:List Int),L.length≤k→lfF w c (lft w c k L)=lft w c k L
 | 0,L,h=>by
  have:L=[]:=w8.mp (by lia)
  subst this;rfl
 | k+1,L,h=>by
  rw [lft]
  by_cases e:(lfF w c L).length=L.length
  ·have:lfF w c L=L:=List.filter_sublist.eq_of_length e
   rw [this,qdf w c this,this]
  ·have:(lfF w c L).length≤L.length:=List.length_filter_le _ _
   exact jW w c k _ (by lia)
theorem yz (w:Wb) (c:Int × Int):∀ (k:Nat) (L:List Int),∃ p:Int→Bool,lft w c k L=L.filter p
 | 0,L=>⟨λ_=>true,by rw [qN];rfl⟩
 | k+1,L=>by
  obtain ⟨p,e⟩:=yz w c k (lfF w c L)
  rw [lft,e,lfF,List.filter_filter]
  exact ⟨_,rfl⟩
theorem qbQ {w:Wb} (h:WbOk w) {c:Int × Int} (hc:0<c.2) {K:List Int} (hK:∀ x∈K,x∈rI w.costs.length) (hr:∀ x∈K,und (rat w K x) c=false):∀ (k:Nat) (L:List Int),(∀ x∈K,x∈L)→∀ x∈K,x∈lft w c k L
 | 0,L,h1,x,hx=>h1 x hx
 | k+1,L,h1,x,hx=>by
  refine qbQ h hc hK hr k _ (λy hy=>wm.mpr ⟨h1 y hy,?_⟩) x hx
  have hy':=zh.mp (hK y hy)
  rw [y9 hc (zd h K hy') (zd h L hy') (hr y hy) (jT h h1 hy'.1 hy'.2)];rfl
theorem qf6 {w:Wb} (h:WbOk w) {c:Int × Int} (hc:0<c.2):lft w c w.costs.length (rI w.costs.length)=(rI w.costs.length).filter λx=>!und (cor w x) c:=by
 obtain ⟨p,e⟩:=yz w c w.costs.length (rI w.costs.length)
 have st:=jW w c w.costs.length (rI w.costs.length) (by rw [qE];lia)
 have hsub:∀ x∈lft w c w.costs.length (rI w.costs.length),x∈rI w.costs.length:=λx hx=>by
  rw [e] at hx;exact (wm.mp hx).1
 have hr:∀ x∈lft w c w.costs.length (rI w.costs.length),und (rat w (lft w c w.costs.length (rI w.costs.length)) x) c=false:=λx hx=>by
  rw [← st] at hx
  unfold lfF at hx
  simpa using (wm.mp hx).2
 have o1:=qf5 h hc _ hsub hr
 have hK:∀ x,x∈(rI w.costs.length).filter (λx=>!und (cor w x) c) ↔ x∈rI w.costs.length∧und (cor w x) c=false:=λx=>by
  rw [wm];simp
 have i1:=qht h hc _ hK
 have o2:=qbQ h hc (λx hx=>((hK x).mp hx).1) i1 w.costs.length (rI w.costs.length) λx hx=>((hK x).mp hx).1
 rw [e] at o1 o2 ⊢
 apply List.filter_congr
 intro x hx
 rw [Bool.eq_iff_iff]
 constructor
 ·intro q
  rw [o1 x (wm.mpr ⟨hx,q⟩)];rfl
 ·intro q
  exact (wm.mp (o2 x (wm.mpr ⟨hx,q⟩))).2
end RP
namespace RP
open R
theorem qa0 {α:Type} {g:α→D} {bind:D→En→Sr→Res En} {test:En→Sr→Res Bool} {elt:En→Sr→Res D} {b:α→Bool} {v:α→D} (R:En→Prop) {S:Sr}:∀ (ds:List α) (ρ:En) (acc:List D),acc.length+ds.length≤PySem.sizeLine→R ρ →
  (∀ d∈ds,∀ ρ:En,R ρ→∃ ρ1,bind (g d) ρ S=.ok ρ1 S∧R ρ1∧test ρ1 S=.ok (b d) S∧(b d=true→elt ρ1 S=.ok (v d) S)) →
  genLoop bind test elt (stepG .tuple) (finG .tuple) (ds.map g) ρ (.tup acc) S=.ok (.tup (acc++(ds.filter b).map v)) S
 | [],ρ,acc,_,_,_=>by simp [genLoop,finG]
 | d::ds,ρ,acc,hl,hR,H=>by
  obtain ⟨ρ1,e1,hR1,e2,e3⟩:=H d wJ ρ hR
  rw [w4] at hl
  rw [wQ]
  unfold genLoop
  rw [e1,Res.bind_ok,e2,Res.bind_ok]
  cases z:b d with
  | false =>
   rw [wN (by simp),qa0 R ds ρ1 acc (by lia) hR1 λd' hd=>H d' (wM _ hd),List.filter_cons,wN (by rw [z];simp)]
  | true =>
   rw [wL rfl,e3 z,Res.bind_ok]
   simp only [stepG]
   rw [wL (show acc.length<PySem.sizeLine by lia)]
   have:=qa0 R ds ρ1 (acc++[v d]) (by rw [wV,wx];lia) hR1 λd' hd=>H d' (wM _ hd)
   rw [List.filter_cons,wL z,wQ]
   refine this.trans ?_
   simp
theorem qdg {α:Type} {g:α→D} {F:Fs} {fr:List Nat} {nt:Nat} {elt:CE} {tg:CT} {it:CI} {ifs:CBs} {ρ:En} {S S1:Sr} {ds:List D} (xs:List α) (b:α→Bool) (v:α→D) (R:En→Prop) (hI:evI F it ρ S=.ok ds S1) (hd:ds=xs.map g) (h0:R (frE ρ fr nt)) (hl:xs.length≤PySem.sizeLine)
  (H:∀ d∈xs,∀ ρ:En,R ρ→∃ ρ1,asg F tg (g d) ρ S1=.ok ρ1 S1∧R ρ1∧tsts F ifs ρ1 S1=.ok (b d) S1∧(b d=true→ev F elt ρ1 S1=.ok (v d) S1)) :
  ev F (.gen .tuple fr nt elt tg it ifs) ρ S=.ok (.tup ((xs.filter b).map v)) S1:=by
 simp only [ev,hI,Res.bind,hd,startG]
 rw [qa0 R xs _ [] (by simpa using hl) h0 H];rfl
noncomputable def cD (l:List Of):List ((Int ⊕ PySem.Str) × D):=l.map λo=>((.inl o.1:Int ⊕ PySem.Str),nmD o.2)
theorem qdh:∀ {l:List Of} {x:Int},x∈l.map (·.1)→lookT (.inl x:Int ⊕ PySem.Str) (cD l)=some (nmD (lkC l x))
 | [],x,h=>by simp at h
 | o::r,x,h=>by
  show lookT _ ((_,_)::cD r)=_
  rw [lookT,lkC]
  by_cases e:o.1=x
  ·rw [wL (by rw [e]),wL e]
  ·rw [wN (by simpa using e),wN e]
   refine qdh ?_
   rw [wQ,wZ] at h
   exact h.resolve_left λz=>e z.symm
theorem qjo {l:List Of} {x:Int} {m:Int × Int} (h:x ∉ l.map (·.1)):putT (.inl x:Int ⊕ PySem.Str) (nmD m) (cD l)=cD (l++[(x,m)]):=by
 unfold putT
 have:(cD l).any (λp=>decide (p.1=(.inl x:Int ⊕ PySem.Str)))=false:=by
  rw [List.any_eq_false]
  intro p hp
  obtain ⟨o,ho,rfl⟩:=vN.mp hp
  simp only [vH,Sum.inl.injEq]
  exact λe=>h (vN.mpr ⟨o,ho,e⟩)
 rw [this,wN (by simp)]
 unfold cD;simp
theorem qkz {T:Sr} {j:Nat} {l:List Of} {x:Int} (hT:T[j]?=some (.dis (cD l))) (h:x∈l.map (·.1)):idkD T (.ref j) (.int x)=some (nmD (lkC l x)):=by
 simp only [idkD,hT,keyD,wP,qdh h]
theorem qhS {S:Sr} {l:List Of} {x:Int} {m:Int × Int} (hl:l.length≤100) (h:x ∉ l.map (·.1)):putE (S++[.dis (cD l)]) (.ref S.length) (.int x) (nmD m)=some (S++[.dis (cD (l++[(x,m)]))]):=by
 have h1:(cD l).length<1000:=by unfold cD;rw [wO];lia
 have hat:(S++[SO.dis (cD l)])[S.length]?=some (.dis (cD l)):=by simp
 unfold putE
 rw [wL (show refsLt 0 (nmD m)=true from rfl)]
 simp only [putN,hat,keyD,wP]
 rw [wL h1,qjo h]
 simp
theorem yQ:∀ (l:List Of) (m:Int × Int),(runC m l).map (·.1)=l.map (·.1)
 | [],_=>rfl
 | o::r,m=>by rw [runC,wQ,wQ,yQ r]
noncomputable def mxE (m:Int × Int) (l:List Of):Int × Int:=l.foldl (λm o=>mx m o.2) m
theorem qbR:∀ (l:List Of) (m:Int × Int) (o:Of),runC m (l++[o])=runC m l++[(o.1,mx (mxE m l) o.2)]
 | [],m,o=>rfl
 | a::r,m,o=>by rw [List.cons_append,runC,qbR r,runC];rfl
theorem qf7 (l:List Of) (m:Int × Int) (o:Of):mxE m (l++[o])=mx (mxE m l) o.2:=by unfold mxE;rw [List.foldl_append];rfl
theorem qdi {w:Wb} (h:WbOk w):∀ (k:Nat) (L:List Int),Lft w k L→∀ o∈seqO w k L,Nm o.2
 | 0,L,hL,o,ho=>by simp [seqO] at ho
 | k+1,[],hL,o,ho=>by simp [seqO] at ho
 | k+1,a::l,hL,o,ho=>by
  obtain ⟨h1,h2,h3⟩:=hL.next
  rw [seqO,wZ] at ho
  rcases ho with rfl | ho
  ·rw [h2];exact yy h _ (hL.rng _ h1).1 (hL.rng _ h1).2
  ·exact qdi h k _ h3 o ho
theorem qhT {m n:Int × Int} (h:Nm m) (h2:Nm n):Nm (mx m n):=by
 unfold mx
 split
 ·exact h2
 ·exact h
theorem qf8:∀ (l:List Of) (m:Int × Int),Nm m→(∀ o∈l,Nm o.2)→Nm (mxE m l)
 | [],m,h,_=>h
 | o::r,m,h,h2=>qf8 r _ (qhT h (h2 o wJ)) λx hx=>h2 x (wM _ hx)
theorem qf9:∀ (l:List Of) (m:Int × Int),Nm m→(∀ o∈l,Nm o.2)→∀ x,Nm (lkC (runC m l) x)
 | [],m,h,_,x=>⟨by show (0:Int).natAbs<_;decide,by show (1:Int)≤1;decide,by show (1:Int)<_;decide⟩
 | o::r,m,h,h2,x=>by
  have hm:Nm (mx m o.2):=qhT h (h2 o wJ)
  rw [runC,lkC]
  split
  ·exact hm
  ·exact qf9 r _ hm (λy hy=>h2 y (wM _ hy)) x
theorem nm0:Nm (0,1):=⟨by decide,by decide,by decide⟩
theorem qdj (w:Wb):(strW w).1.length=w.costs.length:=by
 have key:∀ (k:Nat) (L:List Int),Lft w k L→(seqO w k L).length=k:=by
  intro k
  induction k with
  | zero=>intro L _;rfl
  | succ k ih =>
   intro L hL
   cases L with
   | nil=>have:=hL.len;simp at this
   | cons a l=>rw [seqO,w4,ih _ hL.next.2.2]
 rw [yk,key _ _ (zM w)]
theorem qhu (w:Wb) (x:Int):x∈(strW w).1.map (·.1) ↔ x∈rI w.costs.length:=by rw [yk];exact jU _ _ (zM w) x
theorem qcp {w:Wb} (h:WbOk w):∀ o∈(strW w).1,Nm o.2:=by rw [yk];exact qdi h _ _ (zM w)
theorem qcq {w:Wb} (h:WbOk w) (x:Int):Nm (cor w x):=qf9 _ _ nm0 (qcp h) x
theorem qga {w:Wb} {T:Sr} {j:Nat} (hT:T[j]?=some (.dis (cD (runC (0,1) (strW w).1)))) {x:Int} (h:x∈rI w.costs.length):idkD T (.ref j) (.int x)=some (nmD (cor w x)):=qkz hT (by rw [yQ];exact (qhu w x).mpr h)
theorem qbS {F:Fs} {w:Wb} {S:Sr} {c:Nat} (h:WbOk w) (n1 n2 n3 n4:Nat) (mk:D→Option D→Option D→En) {x5 x6:Option D}
  (H:∀ (o:Of) (m:Int × Int) (l:List Of) (a b:Option D),Nm m→Nm o.2→l.length≤100→o.1 ∉ l.map (·.1)→(asg F (.tup (.cons (.var n1) (.cons (.var n2) .nil))) (offD o) (mk (nmD m) a b) (S++[.dis (cD l)])).bind (λρ1 S1=>exs F NW (.cons (.ifs (.val (.call c (.cons (.var n3) (.cons (.var n2) .nil)))) (.cons (.set (.var n3) (.var n2)) .nil) .nil) (.cons (.set (.sub (.var n4) (.var n1)) (.var n3)) .nil)) ρ1 S1)=.ok (.nx (mk (nmD (mx m o.2)) (some (.int o.1)) (some (nmD o.2)))) (S++[.dis (cD (l++[(o.1,mx m o.2)]))])) :
  ∃ m a b,forLoop (λdd ρ S=>(asg F (.tup (.cons (.var n1) (.cons (.var n2) .nil))) dd ρ S).bind λρ1 S1=>exs F NW (.cons (.ifs (.val (.call c (.cons (.var n3) (.cons (.var n2) .nil)))) (.cons (.set (.var n3) (.var n2)) .nil) .nil) (.cons (.set (.sub (.var n4) (.var n1)) (.var n3)) .nil)) ρ1 S1) ((strW w).1.map offD) (mk (nmD (0,1)) x5 x6) (S++[.dis []])=.ok (.nx (mk m a b)) (S++[.dis (cD (runC (0,1) (strW w).1))]):=by
 have hc:=h.c2
 have hnd:((strW w).1.map (·.1)).Nodup:=by rw [yk];exact qde _ _ (zM w)
 obtain ⟨ρ1,S1,e,a,b,rfl,rfl⟩:=zA (g:=offD) (body:=λdd ρ S=>(asg F (.tup (.cons (.var n1) (.cons (.var n2) .nil))) dd ρ S).bind λρ1 S1=>exs F NW (.cons (.ifs (.val (.call c (.cons (.var n3) (.cons (.var n2) .nil)))) (.cons (.set (.var n3) (.var n2)) .nil) .nil) (.cons (.set (.sub (.var n4) (.var n1)) (.var n3)) .nil)) ρ1 S1)
  (λpre ρ U=>∃ a b,ρ=mk (nmD (mxE (0,1) pre)) a b∧U=S++[.dis (cD (runC (0,1) pre))]) (strW w).1 (ρ:=mk (nmD (0,1)) x5 x6) (S:=S++[.dis []]) ⟨_,_,rfl,rfl⟩ (by
   rintro pre o suf ρ U hpre ⟨a,b,rfl,rfl⟩
   have hl:=congrArg List.length hpre
   rw [qdj,wV,w4] at hl
   have hno:o.1 ∉ (runC (0,1) pre).map (·.1):=λz=>by
    rw [yQ] at z
    rw [hpre,List.map_append,wQ] at hnd
    exact (List.nodup_append.mp hnd).2.2 _ z _ wJ rfl
   have hrl:(runC (0,1) pre).length≤100:=by
    have:=congrArg List.length (yQ pre (0,1))
    rw [wO,wO] at this;lia
   refine ⟨_,_,H o _ _ a b (qf8 _ _ nm0 λx hx=>qcp h x (by rw [hpre];simp [hx])) (qcp h o (by rw [hpre];simp)) hrl hno,_,_,by rw [qf7],by rw [qbR]⟩)
 exact ⟨_,_,_,e⟩
theorem qdk {d:Nat} {w:Wb} {S:Sr} (h:WbOk w):G (d+10) 18 [webD w] S=.ok (.tup ((rI w.costs.length).map λx=>nmD (cor w x))) S:=by
 have hm:=h.c2
 have z2:PySem.sizeLine≥2:=by unfold PySem.sizeLine;lia
 rw [G_at (c:=c_18) rfl]
 obtain ⟨m,a,b,el⟩:=qbS (F:=G (d+9)) (S:=S) (c:=4) h 5 6 4 3 (λm a b=>[some (webD w),some (.tup ((strW w).1.map offD)),some (tupI (strW w).2),some (.ref S.length),some m,a,b]) (x5:=none) (x6:=none) (λo m l a b h1 h2 h3 h4=>by
  have eu:=yO (d:=d+8) (S:=S++[.dis (cD l)]) h1 h2
  rw [show asg (G (d+9)) (.tup (.cons (.var 5) (.cons (.var 6) .nil))) (offD o) [some (webD w),some (.tup ((strW w).1.map offD)),some (tupI (strW w).2),some (.ref S.length),some (nmD m),a,b] (S++[.dis (cD l)])=.ok [some (webD w),some (.tup ((strW w).1.map offD)),some (tupI (strW w).2),some (.ref S.length),some (nmD m),some (.int o.1),some (nmD o.2)] (S++[.dis (cD l)]) from rfl,Res.bind_ok]
  have tu:tst (G (d+9)) (.val (.call 4 (.cons (.var 4) (.cons (.var 6) .nil)))) [some (webD w),some (.tup ((strW w).1.map offD)),some (tupI (strW w).2),some (.ref S.length),some (nmD m),some (.int o.1),some (nmD o.2)] (S++[.dis (cD l)])=.ok (und m o.2) (S++[.dis (cD l)]):=t_of (qj rfl eu)
  have hp:=λm=>qhS (S:=S) (m:=m) h3 h4
  unfold mx
  cases hu:und m o.2 with
  | true =>
   rw [hu] at tu
   rw [wL rfl]
   exact z9 tu (qm rfl rfl qJ) (qm rfl (qao rfl rfl (hp _)) qJ)
  | false =>
   rw [hu] at tu
   rw [wN (by simp)]
   exact x_no tu (qm rfl (qao rfl rfl (hp _)) qJ))
 refine jH (f:=c_18) (S1:=S) (S2:=[.dis (cD (runC (0,1) (strW w).1))]) rfl rfl ?_ rfl ?_
 ·have hat:(S++[SO.dis (cD (runC (0,1) (strW w).1))])[S.length]?=some (.dis (cD (runC (0,1) (strW w).1))):=by simp
  have hln:bltD .len [.tup ((strW w).1.map offD)] (S++[SO.dis (cD (runC (0,1) (strW w).1))])=.ok (.int w.costs.length) (S++[SO.dis (cD (runC (0,1) (strW w).1))]):=by
   rw [← qdj w];simp [bltD,one,bLen,lenD]
  have eg:=qdg (g:=.int) (F:=G (d+9)) (fr:=[3]) (nt:=1) (elt:=.idk (.var 0) (.var 1)) (tg:=.var 1) (it:=.rng (.cons (.blt .len (.cons (.var 1) .nil)) .nil)) (ifs:=.nil) (ρ:=[some (webD w),some (.tup ((strW w).1.map offD)),some (tupI (strW w).2),some (.ref S.length),some m,a,b]) (S:=S++[SO.dis (cD (runC (0,1) (strW w).1))]) (S1:=S++[SO.dis (cD (runC (0,1) (strW w).1))]) (rI w.costs.length) (λ_=>true) (λx=>nmD (cor w x)) (λρ=>∃ x,ρ=[some (.ref S.length),x]) (i_rng (n:=w.costs.length) (qe (qG rfl hln) rfl) (by lia)) rfl ⟨_,rfl⟩ (by rw [qE];unfold PySem.sizeLine;lia) (by
   rintro q hq ρ ⟨x,rfl⟩
   exact ⟨_,rfl,⟨_,rfl⟩,rfl,λ_=>qbL rfl rfl (qga hat hq)⟩)
  rw [qN] at eg
  exact qm (qj rfl (jS h)) (ρ1:=[some (webD w),some (.tup ((strW w).1.map offD)),some (tupI (strW w).2),none,none,none,none]) rfl (qm (d:=.ref S.length) (S1:=S++[.dis []]) (by simp only [ev]) (ρ1:=[some (webD w),some (.tup ((strW w).1.map offD)),some (tupI (strW w).2),some (.ref S.length),none,none,none]) rfl (qm (d:=nmD (0,1)) (qK (qe rfl (qe rfl rfl)) z2) (ρ1:=[some (webD w),some (.tup ((strW w).1.map offD)),some (tupI (strW w).2),some (.ref S.length),some (nmD (0,1)),none,none]) rfl (yJ rfl el (qH eg))))
 ·refine q8 _ ?_
  show refsLts 0 _=true
  generalize rI w.costs.length=l
  induction l with
  | nil=>rfl
  | cons a r ih=>rw [wQ,refsLts,ih];rfl
theorem qdl {f:Int→D} {n:Nat} {q:Int} (h0:0≤q) (h1:q<n) (T:Sr):idxD T (.tup ((rI n).map f)) (.int q)=some (f q):=by
 obtain ⟨k,rfl⟩:∃ k:Nat,q=k:=⟨q.toNat,by lia⟩
 have hk:k<n:=by lia
 have hx:L2.ixN ((rI n).map f).length (k:Int)=some k:=by
  unfold L2.ixN
  rw [wL (by lia),wO,qE,wL (by lia)];rfl
 simp only [idxD,seqOf,wP,L2.atI,hx]
 unfold rI
 rw [wd,w5,List.getElem?_range hk];rfl
theorem qa1 {d:Nat} {w:Wb} {q:Int} {S:Sr} (h0:0≤q) (h1:q<w.costs.length):G (d+4) 14 [webD w,.int q] S=.ok .non S:=by
 rw [G_at (c:=c_14) rfl]
 have e1:G (d+3) 13 [webD w,.int q] S=.ok (.bl true) S:=by
  rw [G_at (c:=c_13) rfl]
  have:=qO (d:=d) (i:=q) (a:=0) (b:=(w.costs.length:Int)-1) (S:=S)
  rw [vM h0,vM (show q≤(w.costs.length:Int)-1 by lia)] at this
  exact qI rfl (qH (qj (qe rfl (qe rfl (qe (qA (qG (qe (qF (S1:=S) rfl rfl rfl) rfl) (zu _ _)) rfl rfl) rfl))) this))
 exact qcX rfl (x_no (S1:=S) (t_no (x:=true) (t_of (qj rfl e1))) qJ)
noncomputable def cprt (w:Wb) (c:Int × Int):List Int:=(rI w.costs.length).filter λx=>!und (cor w x) c
theorem qbT {d:Nat} {w:Wb} {q:Int} {S:Sr} (h:WbOk w) (h0:0≤q) (h1:q<w.costs.length):G (d+11) 19 [webD w,.int q] S=.ok (tupI (cprt w (cor w q))) S:=by
 have hm:=h.c2
 rw [G_at (c:=c_19) rfl]
 have hln:bltD .len [.tup ((rI w.costs.length).map λx=>nmD (cor w x))] S=.ok (.int w.costs.length) S:=by
  have:=qE w.costs.length
  simp [bltD,one,bLen,lenD,this]
 have eg:=qdg (g:=.int) (F:=G (d+10)) (fr:=[2,1]) (nt:=1) (elt:=.var 2) (tg:=.var 2) (it:=.rng (.cons (.blt .len (.cons (.var 2) .nil)) .nil)) (ifs:=.cons (.not (.val (.call 4 (.cons (.idx (.var 0) (.var 2)) (.cons (.idx (.var 0) (.var 1)) .nil))))) .nil) (ρ:=[some (webD w),some (.int q),some (.tup ((rI w.costs.length).map λx=>nmD (cor w x)))]) (S:=S) (S1:=S) (rI w.costs.length) (λx=>!und (cor w x) (cor w q)) D.int (λρ=>∃ x,ρ=[some (.tup ((rI w.costs.length).map λx=>nmD (cor w x))),some (.int q),x]) (i_rng (n:=w.costs.length) (qe (qG rfl hln) rfl) (by lia)) rfl ⟨_,rfl⟩ (by rw [qE];unfold PySem.sizeLine;lia) (by
  rintro x hx ρ ⟨y,rfl⟩
  have hx':=zh.mp hx
  exact ⟨_,rfl,⟨_,rfl⟩,qaP (t_no (t_of (qj (qe (qF rfl rfl (qdl hx'.1 hx'.2 S)) (qe (qF rfl rfl (qdl h0 h1 S)) rfl)) (yO (d:=d+9) (qcq h x) (qcq h q))))),λ_=>rfl⟩)
 exact qI rfl (z0 (qj rfl (jQ h)) (z0 (qj rfl (qa1 h0 h1)) (qm (qj rfl (qdk h)) rfl (qH eg))))
theorem qbU (w:Wb) (c:Int × Int):∀ (k:Nat) (L:List Int),lft w c (k+1) L=lfF w c (lft w c k L)
 | 0,L=>rfl
 | k+1,L=>by rw [lft,qbU w c k,lft]
theorem rd_lst (S:Sr) (p:List Int):Rdl (.lst (p.map .int)) S p:=⟨λ_=>rfl,λ_=>True,rfl,λ_=>trivial⟩
theorem qjp {d:Nat} {w:Wb} {c:Int × Int} {S:Sr} (h:WbOk w) (hc:Nm c):G (d+4) 35 [webD w,nmD c] S=.ok (tupI (lft w c w.costs.length (rI w.costs.length))) S:=by
 have hm:=h.c2
 rw [G_at (c:=c_35) rfl]
 have en:∀ ρ:En,ρ[0]?=some (some (webD w))→evs (G (d+3)) (.cons (.blt .len (.cons (.idx (.var 0) (.cst (.int 0))) .nil)) .nil) ρ S=.ok [.int w.costs.length] S:=λρ hρ=>by
  have hv:ev (G (d+3)) (.var 0) ρ S=.ok (webD w) S:=by simp only [ev,varE,hρ]
  exact qe (qG (qe (qF hv rfl rfl) rfl) (zu _ _)) rfl
 obtain ⟨ρ1,S1,ef,a,rfl,rfl⟩:=zA (g:=D.int) (body:=λdd ρ S=>(asg (G (d+3)) (.var 3) dd ρ S).bind λρ1 S1=>exs (G (d+3)) NW (.cons (.set (.var 2) (.lc false [0,2,1] 1 (.var 3) (.var 3) (.seq (.var 2)) (.cons (.not (.val (.call 24 (.cons (.call 28 (.cons (.var 0) (.cons (.var 1) (.cons (.var 3) .nil)))) (.cons (.var 2) .nil))))) .nil))) .nil) ρ1 S1)
  (λpre ρ U=>∃ a,ρ=[some (webD w),some (nmD c),some (.lst ((lft w c pre.length (rI w.costs.length)).map .int)),a]∧S=U) (rI w.costs.length) (ρ:=[some (webD w),some (nmD c),some (.lst ((rI w.costs.length).map .int)),none]) (S:=S) ⟨_,rfl,rfl⟩ (by
   rintro pre q suf ρ U hpre ⟨a,rfl,rfl⟩
   rw [show asg (G (d+3)) (.var 3) (.int q) [some (webD w),some (nmD c),some (.lst ((lft w c pre.length (rI w.costs.length)).map .int)),a] S=.ok [some (webD w),some (nmD c),some (.lst ((lft w c pre.length (rI w.costs.length)).map .int)),some (.int q)] S from rfl,Res.bind_ok]
   obtain ⟨p,ep⟩:=yz w c pre.length (rI w.costs.length)
   have hlen:(lft w c pre.length (rI w.costs.length)).length≤w.costs.length:=by
    rw [ep]
    have:=List.length_filter_le p (rI w.costs.length)
    rwa [qE] at this
   have hmem:∀ x∈lft w c pre.length (rI w.costs.length),0≤x∧x<w.costs.length:=λx hx=>by
    rw [ep] at hx;exact zh.mp (wm.mp hx).1
   have e:=yI (g:=D.int) (F:=G (d+3)) (fr:=[0,2,1]) (nt:=1) (elt:=.var 3) (tg:=.var 3) (it:=.seq (.var 2)) (ifs:=.cons (.not (.val (.call 24 (.cons (.call 28 (.cons (.var 0) (.cons (.var 1) (.cons (.var 3) .nil)))) (.cons (.var 2) .nil))))) .nil) (ρ:=[some (webD w),some (nmD c),some (.lst ((lft w c pre.length (rI w.costs.length)).map .int)),some (.int q)]) (S:=S) (S1:=S) (lft w c pre.length (rI w.costs.length)) (λx=>!und (rat w (lft w c pre.length (rI w.costs.length)) x) c) D.int (λρ=>∃ y,ρ=[some (webD w),some (.lst ((lft w c pre.length (rI w.costs.length)).map .int)),some (nmD c),y]) rfl rfl ⟨_,rfl⟩ (by unfold PySem.sizeLine;lia) (by
    rintro x hx ρ m ⟨y,rfl⟩
    obtain ⟨x0,x1⟩:=hmem x hx
    exact ⟨_,rfl,⟨_,rfl⟩,qaP (t_no (t_of (qj (qe (qj rfl (qc7 (d:=d+1) h (rd_lst _ _) x0 x1)) (qe rfl rfl)) (jk (d:=d+2) (yy h _ x0 x1) hc)))),λ_=>⟨rfl,rfl⟩⟩)
   exact ⟨_,_,qm e rfl qJ,some (.int q),by rw [wV,wx,qbU];rfl,rfl⟩)
 rw [qE] at ef
 have z:bltD .tuple [.lst ((lft w c w.costs.length (rI w.costs.length)).map .int)] S=.ok (tupI (lft w c w.costs.length (rI w.costs.length))) S:=rfl
 exact qI rfl (qm (qi5 (en _ rfl) (by lia)) rfl (yJ (i_rng (en _ rfl) (by lia)) ef (qH (qG rfl z))))
end RP
namespace RP
open R
theorem qgb (n:Nat):∀ ps:List Int,eqL (eqD (n+1)) (ps.map .int) (ps.map .int)=some true
 | []=>rfl
 | p::r=>by
  have e:eqD (n+1) (.int p) (.int p)=some true:=by
   show some (p == p)=_
   simp
  rw [wQ,eqL,e,qgb n r];rfl
theorem qdm (n:Nat):∀ ps:List Of,eqL (eqD (n+3)) (ps.map offD) (ps.map offD)=some true
 | []=>rfl
 | p::r=>by
  have e:eqD (n+3) (offD p) (offD p)=some true:=by
   show some ((p.1 == p.1)&&(((p.2.1 == p.2.1)&&((p.2.2 == p.2.2)&&true))&&true))=_
   simp
  rw [wQ,eqL,e,qdm n r];rfl
theorem qjq (r:List Of × List Int) (S:Sr):cmpD .ne (strD r) (strD r) S=some false:=by
 have e:eqD 20 (strD r) (strD r)=some true:=by
  have e1:eqD 19 (.tup (r.1.map offD)) (.tup (r.1.map offD))=some true:=qdm 15 r.1
  have e2:eqD 19 (tupI r.2) (tupI r.2)=some true:=qgb 17 r.2
  show eqL (eqD 19) [.tup (r.1.map offD),tupI r.2] [.tup (r.1.map offD),tupI r.2]=_
  rw [eqL,eqL,eqL,e1,e2];rfl
 simp only [cmpD,e];rfl
theorem qgc (n:Nat) (f:Int→Int × Int):∀ ps:List Int,eqL (eqD (n+2)) (ps.map λx=>nmD (f x)) (ps.map λx=>nmD (f x))=some true
 | []=>rfl
 | p::r=>by
  have e:eqD (n+2) (nmD (f p)) (nmD (f p))=some true:=by
   show some (((f p).1 == (f p).1)&&(((f p).2 == (f p).2)&&true))=_
   simp
  rw [wQ,eqL,e,qgc n f r];rfl
theorem qkA (f:Int→Int × Int) (ps:List Int) (S:Sr):cmpD .ne (.tup (ps.map λx=>nmD (f x))) (.tup (ps.map λx=>nmD (f x))) S=some false:=by
 have e:eqD 20 (.tup (ps.map λx=>nmD (f x))) (.tup (ps.map λx=>nmD (f x)))=some true:=qgc 17 f ps
 simp only [cmpD,e];rfl
theorem eq_i (ps:List Int) (S:Sr):cmpD .eq (tupI ps) (tupI ps) S=some true:=by
 have e:eqD 20 (tupI ps) (tupI ps)=some true:=qgb 18 ps
 simp only [cmpD,e]
noncomputable abbrev rE (w:Wb) (S:Sr) (m a b:Option D) (j:Option D):En:=[some (webD w),some (.tup ((strW w).1.map offD)),some (tupI (strW w).2),m,j,a,b]
theorem qa2 {d:Nat} {w:Wb} {S:Sr} (h:WbOk w):G (d+12) 36 [webD w] S=.ok (.bl true) S:=by
 have hm:=h.c2
 have z2:PySem.sizeLine≥2:=by unfold PySem.sizeLine;lia
 rw [G_at (c:=c_36) rfl]
 obtain ⟨m,a,b,el⟩:=qbS (F:=G (d+11)) (S:=S) (c:=24) h 5 6 3 4 (λm a b=>rE w S (some m) a b (some (.ref S.length))) (x5:=none) (x6:=none) (λo m l a b h1 h2 h3 h4=>by
  have eu:=jk (d:=d+10) (S:=S++[.dis (cD l)]) h1 h2
  rw [show asg (G (d+11)) (.tup (.cons (.var 5) (.cons (.var 6) .nil))) (offD o) (rE w S (some (nmD m)) a b (some (.ref S.length))) (S++[.dis (cD l)])=.ok (rE w S (some (nmD m)) (some (.int o.1)) (some (nmD o.2)) (some (.ref S.length))) (S++[.dis (cD l)]) from rfl,Res.bind_ok]
  have tu:tst (G (d+11)) (.val (.call 24 (.cons (.var 3) (.cons (.var 6) .nil)))) (rE w S (some (nmD m)) (some (.int o.1)) (some (nmD o.2)) (some (.ref S.length))) (S++[.dis (cD l)])=.ok (und m o.2) (S++[.dis (cD l)]):=t_of (qj rfl eu)
  have hp:=λm=>qhS (S:=S) (m:=m) h3 h4
  unfold mx
  cases hu:und m o.2 with
  | true =>
   rw [hu] at tu
   rw [wL rfl]
   exact z9 tu (qm rfl rfl qJ) (qm rfl (qao rfl rfl (hp _)) qJ)
  | false =>
   rw [hu] at tu
   rw [wN (by simp)]
   exact x_no tu (qm rfl (qao rfl rfl (hp _)) qJ))
 obtain ⟨T,hT⟩:∃ T,T=S++[SO.dis (cD (runC (0,1) (strW w).1))]:=⟨_,rfl⟩
 have hat:∀ X,(T++X)[S.length]?=some (.dis (cD (runC (0,1) (strW w).1))):=λX=>by
  rw [hT,List.append_assoc,wS (by lia)];simp
 have en:∀ ρ:En,ρ[0]?=some (some (webD w))→evI (G (d+11)) (.rng (.cons (.blt .len (.cons (.idx (.var 0) (.cst (.int 0))) .nil)) .nil)) ρ T=.ok ((rI w.costs.length).map .int) T:=λρ hρ=>by
  have hv:ev (G (d+11)) (.var 0) ρ T=.ok (webD w) T:=by simp only [ev,varE,hρ]
  exact i_rng (qe (qG (qe (qF hv rfl rfl) rfl) (zu _ _)) rfl) (by lia)
 refine jH (f:=c_36) (S1:=S) (S2:=[.dis (cD (runC (0,1) (strW w).1))]) rfl rfl ?_ rfl rfl
 rw [← hT] at el ⊢
 have s1:ev (G (d+11)) (.call 31 (.cons (.var 0) .nil)) [some (webD w),none,none,none,none,none,none] S=.ok (strD (strW w)) S:=qj rfl (qho (d:=d+7) h)
 have t1:tst (G (d+11)) (.val (.cmp .ne (.call 16 (.cons (.var 0) .nil)) (.tup (.cons (.var 1) (.cons (.var 2) .nil))))) (rE w S none none none none) S=.ok false S:=t_of (zH (qj rfl (jS (d:=d+2) h)) (qK (qe rfl (qe rfl rfl)) z2) (qjq _ _))
 have f1:=yI (g:=.int) (F:=G (d+11)) (fr:=[4]) (nt:=1) (elt:=.idk (.var 0) (.var 1)) (tg:=.var 1) (it:=.rng (.cons (.blt .len (.cons (.idx (.var 0) (.cst (.int 0))) .nil)) .nil)) (ifs:=.nil) (ρ:=rE w S (some m) a b (some (.ref S.length))) (S:=T) (S1:=T) (rI w.costs.length) (λ_=>true) (λx=>nmD (cor w x)) (λρ=>∃ y,ρ=[some (.ref S.length),y]) (en _ rfl) rfl ⟨_,rfl⟩ (by rw [qE];unfold PySem.sizeLine;lia) (by
  rintro x hx ρ m ⟨y,rfl⟩
  exact ⟨_,rfl,⟨_,rfl⟩,rfl,λ_=>⟨qbL rfl rfl (qga (hat _) hx),rfl⟩⟩)
 rw [qN] at f1
 have t2:tst (G (d+11)) (.val (.cmp .ne (.call 18 (.cons (.var 0) .nil)) (.blt .tuple (.cons (.lc false [4] 1 (.idk (.var 0) (.var 1)) (.var 1) (.rng (.cons (.blt .len (.cons (.idx (.var 0) (.cst (.int 0))) .nil)) .nil)) .nil) .nil)))) (rE w S (some m) a b (some (.ref S.length))) T=.ok false T:=t_of (zH (qj rfl (qdk (d:=d+1) h)) (qG (qe f1 rfl) rfl) (qkA _ _ _))
 have f2:=yI (g:=.int) (F:=G (d+11)) (fr:=[0,4]) (nt:=1) (elt:=.cmp .eq (.call 19 (.cons (.var 0) (.cons (.var 2) .nil))) (.call 35 (.cons (.var 0) (.cons (.idk (.var 1) (.var 2)) .nil)))) (tg:=.var 2) (it:=.rng (.cons (.blt .len (.cons (.idx (.var 0) (.cst (.int 0))) .nil)) .nil)) (ifs:=.nil) (ρ:=rE w S (some m) a b (some (.ref S.length))) (S:=T) (S1:=T) (rI w.costs.length) (λ_=>true) (λx=>.bl true) (λρ=>∃ y,ρ=[some (webD w),some (.ref S.length),y]) (en _ rfl) rfl ⟨_,rfl⟩ (by rw [qE];unfold PySem.sizeLine;lia) (by
  rintro x hx ρ m ⟨y,rfl⟩
  have hx':=zh.mp hx
  have hc:=qcq h x
  have e2:=qjp (d:=d+7) (S:=T++[.lst m]) h hc
  rw [qf6 h (by have:=hc.b1;lia)] at e2
  exact ⟨_,rfl,⟨_,rfl⟩,rfl,λ_=>⟨zH (qj rfl (qbT (d:=d) h hx'.1 hx'.2)) (qj (qe rfl (qe (qbL rfl rfl (qga (hat _) hx)) rfl)) e2) (eq_i _ _),rfl⟩⟩)
 rw [qN] at f2
 have b2:=qfT ((rI w.costs.length).map λ_=>true) T
 rw [wd,List.all_map] at b2
 have e3:ev (G (d+11)) (.blt .all (.cons (.lc false [0,4] 1 (.cmp .eq (.call 19 (.cons (.var 0) (.cons (.var 2) .nil))) (.call 35 (.cons (.var 0) (.cons (.idk (.var 1) (.var 2)) .nil)))) (.var 2) (.rng (.cons (.blt .len (.cons (.idx (.var 0) (.cst (.int 0))) .nil)) .nil)) .nil) .nil)) (rE w S (some m) a b (some (.ref S.length))) T=.ok (.bl true) T:=by
  rw [show (rI w.costs.length).all (id∘λ_=>true)=true from List.all_eq_true.mpr λ_ _=>rfl] at b2
  exact qG (qe f2 rfl) b2
 exact qm s1 (ρ1:=rE w S none none none none) rfl (x_no t1 (qm (d:=nmD (0,1)) (qK (qe rfl (qe rfl rfl)) z2) (ρ1:=rE w S (some (nmD (0,1))) none none none) rfl (qm (d:=.ref S.length) (S1:=S++[.dis []]) (by simp only [ev]) (ρ1:=rE w S (some (nmD (0,1))) none none (some (.ref S.length))) rfl (yJ rfl el (x_no t2 (qH e3))))))
theorem qgd {F:Fs} {ρ:En} {S S1:Sr} {e1 e2:CE} {r:Res D} (h:ev F e1 ρ S=.ok (.bl true) S1) (h2:ev F e2 ρ S1=r):ev F (.and e1 e2) ρ S=r:=by
 simp only [ev,h,Res.bind];exact h2
theorem qjr {d:Nat} {ns:List Int} (h63:ns.length≤63):Ok (G (d+14) 37 [.lst (ns.map .int)] []) λy _=>y=.bl true:=by
 rw [G_at (c:=qcU) rfl]
 refine ji (f:=qcU) rfl rfl ?_
 obtain ⟨v,hv,ep⟩:=qck (d:=d+11) h63 (k:=32) (S:=[]) (by decide) (by decide)
 refine zI (Ok.of (qj rfl ep) (Ok.of (a:=[some (.lst (ns.map .int)),some (.ref 0)]) rfl ?_))
 have hself:pk ([]++[.lst [.int v]]) 0 v=[]++[.lst [.int v]]:=qaQ (by simp)
 have hlen:0<(([]:Sr)++[SO.lst [.int v]]).length:=by simp
 obtain ⟨y,T1,e1,w1,hw1,rfl,rfl⟩:=(qhq (d:=d+10) h63 (k:=0) (S:=[]++[.lst [.int v]]) (by decide) (by decide)).ex
 obtain ⟨y,T1,e2,w2,u2,hw2,hu2,rfl,rfl⟩:=(qjn (d:=d+11) (n:=0) (v:=v) (S:=[]++[.lst [.int v]]) hlen hv).ex
 rw [hself] at e2
 obtain ⟨y,T1,e3,w3,u3,hw3,hu3,rfl,rfl⟩:=(qhr (d:=d+11) (n:=0) (v:=u2) (S:=[]++[.lst [.int v]]) hlen hu2).ex
 have r1:=qa2 (d:=d+1) (S:=[]++[.lst [.int v]]) hw1
 have r2:=qa2 (d:=d+1) (S:=pk ([]++[.lst [.int v]]) 0 u2) hw2
 have r3:=qa2 (d:=d+1) (S:=pk ([]++[.lst [.int v]]) 0 u3) hw3
 exact qc3 (Ok.of (qgd (qj (qe (qj rfl e1) rfl) r1) (qgd (qj (qe (qj rfl e2) rfl) r2) (qj (qe (qj rfl e3) rfl) r3))) ⟨by simp,rfl,rfl⟩)
theorem pure_law:∀ ns:List Int,ns.length≤63→∃ S',run prg NW 16 37 [.lst (ns.map .int)] []=.ok (.bl true) S':=λns h=>by
 obtain ⟨a,S,e,rfl⟩:=(qjr (d:=2) h).ex
 exact ⟨S,by rw [← qfK];exact e⟩
end RP
section
def PySem.W.Fast.tw6737633659699704854:Nat:=0
noncomputable def PySem.W.Fast.tw4660647746423935045:Nat:=0
noncomputable def PySem.W.Fast.tw11151454645869064379:Nat:=0
noncomputable def PySem.W.Fast.tw11120277179012394411:Nat:=0
noncomputable def PySem.W.Fast.tw1576929948518787455:Nat:=0
noncomputable def PySem.W.Fast.tw8690785061646014416:Nat:=0
noncomputable def PySem.W.Fast.tw2823590918198094422:Nat:=0
noncomputable def PySem.W.Fast.tw4672541518947113713:Nat:=0
noncomputable def PySem.W.Fast.tw9180840120238452453:Nat:=0
noncomputable def PySem.W.Fast.tw1926496324827285847:Nat:=0
noncomputable def PySem.W.Fast.tw15537114449405772962:Nat:=0
noncomputable def PySem.W.Fast.tw1970437064300845063:Nat:=0
noncomputable def PySem.W.Fast.tw5720037734853284861:Nat:=0
noncomputable def PySem.W.Fast.tw16436549204472250904:Nat:=0
noncomputable def PySem.W.Fast.tw16329895537618718627:Nat:=0
noncomputable def PySem.W.Fast.tw16401301215403343781:Nat:=0
noncomputable def PySem.W.Fast.tw4251478711350254017:Nat:=0
noncomputable def PySem.W.Fast.tw3925039709958469881:Nat:=0
noncomputable def PySem.W.Fast.tw14705342106741755544:Nat:=0
noncomputable def PySem.W.Fast.tw2764195436950759797:Nat:=0
noncomputable def PySem.W.Fast.tw17975974532743675819:Nat:=0
noncomputable def PySem.W.Fast.tw12504266759648737367:Nat:=0
noncomputable def PySem.W.Fast.tw10029307020251356228:Nat:=0
noncomputable def PySem.W.Fast.tw5694020009278157778:Nat:=0
noncomputable def PySem.W.Fast.tw12349110476002903030:Nat:=0
noncomputable def PySem.W.Fast.tw5578582856500594804:Nat:=0
noncomputable def PySem.W.Fast.tw14668287314011778186:Nat:=0
noncomputable def PySem.W.Fast.tw14542556649495543210:Nat:=0
noncomputable def PySem.W.Fast.tw12459797822856310290:Nat:=0
noncomputable def PySem.W.Fast.tw1591241723539952185:Nat:=0
noncomputable def PySem.W.Fast.tw3224404424348027799:Nat:=0
noncomputable def PySem.W.Fast.tw9513110755909372765:Nat:=0
noncomputable def PySem.W.Fast.tw15223747033132924424:Nat:=0
noncomputable def PySem.W.Fast.tw3456872985590352894:Nat:=0
noncomputable def PySem.W.Fast.tw570945885485349155:Nat:=0
noncomputable def PySem.W.Fast.tw3974838935779912736:Nat:=0
noncomputable def PySem.W.Fast.tw15091539330335837913:Nat:=0
noncomputable def PySem.W.Fast.tw9607305458208085670:Nat:=0
noncomputable def PySem.W.Fast.tw4904162544890327753:Nat:=0
noncomputable def PySem.W.Fast.tw17223334587503305222:Nat:=0
noncomputable def PySem.W.Fast.tw17787181602664785450:Nat:=0
noncomputable def PySem.W.Fast.tw6512426780876540594:Nat:=0
noncomputable def PySem.W.Fast.tw11851479185598264305:Nat:=0
noncomputable def PySem.W.Fast.tw7498233976795128790:Nat:=0
noncomputable def PySem.W.Fast.tw8139304431302658180:Nat:=0
noncomputable def PySem.W.Fast.tw2120910133486213497:Nat:=0
noncomputable def PySem.W.Fast.tw8455230591434281582:Nat:=0
noncomputable def PySem.W.Fast.tw735564721036356180:Nat:=0
noncomputable def PySem.W.Fast.tw7707059926290373222:Nat:=0
noncomputable def PySem.W.Fast.tw9310983139756014814:Nat:=0
noncomputable def PySem.W.Fast.tw4526903907005054986:Nat:=0
noncomputable def PySem.W.Fast.tw205529478110739491:Nat:=0
noncomputable def PySem.W.Fast.tw744697507044483866:Nat:=0
noncomputable def PySem.W.Fast.tw11113551831349106674:Nat:=0
noncomputable def PySem.W.Fast.tw17618787536798792521:Nat:=0
noncomputable def PySem.W.Fast.tw12379361343352458534:Nat:=0
noncomputable def PySem.W.Fast.tw6905063797499481439:Nat:=0
noncomputable def PySem.W.Fast.tw18354373727278713444:Nat:=0
noncomputable def PySem.W.Fast.tw6582450682639567240:Nat:=0
noncomputable def PySem.W.Fast.tw16940628922676706649:Nat:=0
noncomputable def PySem.W.Fast.tw7930603932022732016:Nat:=0
noncomputable def PySem.W.Fast.tw1768911958393335329:Nat:=0
noncomputable def PySem.W.Fast.tw3929693135526905119:Nat:=0
noncomputable def PySem.W.Fast.tw16325698220075646903:Nat:=0
noncomputable def PySem.W.Fast.tw8678001536435483690:Nat:=0
noncomputable def PySem.W.Fast.tw10877782388560532403:Nat:=0
noncomputable def PySem.W.Fast.tw17286402147965884742:Nat:=0
noncomputable def PySem.W.Fast.tw7605083234246680742:Nat:=0
noncomputable def PySem.W.Fast.tw15572717836507146156:PySem.Program:=PySem.Challenge.pw_weblayers_k40_great_webs_stripped
theorem PySem.W.Fast.te15572717836507146156:PySem.Challenge.pw_weblayers_k40_great_webs_stripped=PySem.W.Fast.tw15572717836507146156:=rfl
namespace RP
open PySem PySem.W PyProof.Rows R
noncomputable abbrev KOf2 {K:PySem.W.Frag} {h:Heap} (_:K.In h):PySem.W.Frag:=K
end RP
open PySem PySem.W PyProof.Rows R
set_option maxRecDepth 100000 in
set_option maxHeartbeats 0 in
theorem PySem.Challenge.cw_weblayers_k40_great_webs_stripped_holds : PySem.Challenge.rw_weblayers_k40_great_webs_stripped.Holds := by
 w_on;o_law;k_head;(case hw=>w_witness2)
 k_fill
 refine R.qiO (l:=PySem.Challenge.rw_weblayers_k40_great_webs_stripped) (n:=63) (k:=48) (x:="_law_script") (g:=R.run RP.prg RP.NW 16 37) rfl (by decide) rfl ⟨rfl,by decide,by decide⟩ (λw h Y=>PySem.W.kIn_of Y) ?zp ?zc ?zF RP.pure_law
 case zp=>intro P;rfl
 case zc=>intro P;rfl
 case zF =>
  intro w mg fa h KX G hmg
  have p:RP.Pre (RP.KOf2 KX) mg:=by
   dsimp only [RP.KOf2]
   refine ⟨?gb,?c_MOST_COST,?c_MOST_PLACES,?c_MOST_PLACES_OF_TIE,?c_MOST_TIES,?c_MOST_WEIGHT,?u_0,?u_1,?u_2,?u_3,?u_4,?u_5,?u_6,?u_7,?u_8,?u_9,?u_10,?u_11,?u_12,?u_13,?u_14,?u_15,?u_16,?u_17,?u_18,?u_19,?u_20,?u_21,?u_22,?u_23,?u_24,?u_25,?u_26,?u_27,?u_28,?u_29,?u_30,?u_31,?u_32,?u_33,?u_34,?u_35,?u_36,?u_37⟩
   case gb =>
    refine ⟨mg_none_of KX G ?x0,mg_none_of KX G ?x1,mg_none_of KX G ?x2,mg_none_of KX G ?x3,mg_none_of KX G ?x4,mg_none_of KX G ?x5,mg_none_of KX G ?x6,mg_none_of KX G ?x7,mg_none_of KX G ?x8,mg_none_of KX G ?x9,mg_none_of KX G ?x10,mg_none_of KX G ?x11,mg_none_of KX G ?x12,mg_none_of KX G ?x13,mg_none_of KX G ?x14,mg_none_of KX G ?x15,mg_none_of KX G ?x16,mg_none_of KX G ?x17⟩
    (case x0=>k_is);(case x1=>k_is);(case x2=>k_is);(case x3=>k_is);(case x4=>k_is);(case x5=>k_is);(case x6=>k_is);(case x7=>k_is);(case x8=>k_is);(case x9=>k_is);(case x10=>k_is);(case x11=>k_is);(case x12=>k_is);(case x13=>k_is);(case x14=>k_is);(case x15=>k_is);(case x16=>k_is);(case x17=>k_is)
   case c_MOST_COST=>refine' jG KX G ?a ?b;(case a=>k_is);(case b=>exact rfl)
   case c_MOST_PLACES=>refine' jG KX G ?a ?b;(case a=>k_is);(case b=>exact rfl)
   case c_MOST_PLACES_OF_TIE=>refine' jG KX G ?a ?b;(case a=>k_is);(case b=>exact rfl)
   case c_MOST_TIES=>refine' jG KX G ?a ?b;(case a=>k_is);(case b=>exact rfl)
   case c_MOST_WEIGHT=>refine' jG KX G ?a ?b;(case a=>k_is);(case b=>exact rfl)
   case u_0 =>
    refine' qo KX G (ps:=["thing"]) ?a ?l ?c ?d ?h ?t ?k ?b
    (case a=>k_is);(case l=>k_is);(case c=>k_is);(case d=>k_is);(case h=>rfl);(case t=>rfl);(case k=>k_is)
    (case b=>intro _ _ _ _ _ _ _ q;obtain ⟨_,rfl⟩:=len1 q;rfl)
   case u_1 =>
    refine' qo KX G (ps:=["thing","least","most"]) ?a ?l ?c ?d ?h ?t ?k ?b
    (case a=>k_is);(case l=>k_is);(case c=>k_is);(case d=>k_is);(case h=>rfl);(case t=>rfl);(case k=>k_is)
    (case b=>intro _ _ _ _ _ _ _ q;obtain ⟨_,_,_,rfl⟩:=len3 q;rfl)
   case u_2 =>
    refine' qo KX G (ps:=["one","other"]) ?a ?l ?c ?d ?h ?t ?k ?b
    (case a=>k_is);(case l=>k_is);(case c=>k_is);(case d=>k_is);(case h=>rfl);(case t=>rfl);(case k=>k_is)
    (case b=>intro _ _ _ _ _ _ _ q;obtain ⟨_,_,rfl⟩:=len2 q;rfl)
   case u_3 =>
    refine' qo KX G (ps:=["top","bottom"]) ?a ?l ?c ?d ?h ?t ?k ?b
    (case a=>k_is);(case l=>k_is);(case c=>k_is);(case d=>k_is);(case h=>rfl);(case t=>rfl);(case k=>k_is)
    (case b=>intro _ _ _ _ _ _ _ q;obtain ⟨_,_,rfl⟩:=len2 q;rfl)
   case u_4 =>
    refine' qo KX G (ps:=["one","other"]) ?a ?l ?c ?d ?h ?t ?k ?b
    (case a=>k_is);(case l=>k_is);(case c=>k_is);(case d=>k_is);(case h=>rfl);(case t=>rfl);(case k=>k_is)
    (case b=>intro _ _ _ _ _ _ _ q;obtain ⟨_,_,rfl⟩:=len2 q;rfl)
   case u_5 =>
    refine' qo KX G (ps:=["thing"]) ?a ?l ?c ?d ?h ?t ?k ?b
    (case a=>k_is);(case l=>k_is);(case c=>k_is);(case d=>k_is);(case h=>rfl);(case t=>rfl);(case k=>k_is)
    (case b=>intro _ _ _ _ _ _ _ q;obtain ⟨_,rfl⟩:=len1 q;rfl)
   case u_6 =>
    refine' qo KX G (ps:=["thing"]) ?a ?l ?c ?d ?h ?t ?k ?b
    (case a=>k_is);(case l=>k_is);(case c=>k_is);(case d=>k_is);(case h=>rfl);(case t=>rfl);(case k=>k_is)
    (case b=>intro _ _ _ _ _ _ _ q;obtain ⟨_,rfl⟩:=len1 q;rfl)
   case u_7 =>
    refine' qo KX G (ps:=["thing","many"]) ?a ?l ?c ?d ?h ?t ?k ?b
    (case a=>k_is);(case l=>k_is);(case c=>k_is);(case d=>k_is);(case h=>rfl);(case t=>rfl);(case k=>k_is)
    (case b=>intro _ _ _ _ _ _ _ q;obtain ⟨_,_,rfl⟩:=len2 q;rfl)
   case u_8 =>
    refine' qo KX G (ps:=["thing","many"]) ?a ?l ?c ?d ?h ?t ?k ?b
    (case a=>k_is);(case l=>k_is);(case c=>k_is);(case d=>k_is);(case h=>rfl);(case t=>rfl);(case k=>k_is)
    (case b=>intro _ _ _ _ _ _ _ q;obtain ⟨_,_,rfl⟩:=len2 q;rfl)
   case u_9 =>
    refine' qo KX G (ps:=["thing","many"]) ?a ?l ?c ?d ?h ?t ?k ?b
    (case a=>k_is);(case l=>k_is);(case c=>k_is);(case d=>k_is);(case h=>rfl);(case t=>rfl);(case k=>k_is)
    (case b=>intro _ _ _ _ _ _ _ q;obtain ⟨_,_,rfl⟩:=len2 q;rfl)
   case u_10 =>
    refine' qo KX G (ps:=["thing","many"]) ?a ?l ?c ?d ?h ?t ?k ?b
    (case a=>k_is);(case l=>k_is);(case c=>k_is);(case d=>k_is);(case h=>rfl);(case t=>rfl);(case k=>k_is)
    (case b=>intro _ _ _ _ _ _ _ q;obtain ⟨_,_,rfl⟩:=len2 q;rfl)
   case u_11 =>
    refine' qo KX G (ps:=["things"]) ?a ?l ?c ?d ?h ?t ?k ?b
    (case a=>k_is);(case l=>k_is);(case c=>k_is);(case d=>k_is);(case h=>rfl);(case t=>rfl);(case k=>k_is)
    (case b=>intro _ _ _ _ _ _ _ q;obtain ⟨_,rfl⟩:=len1 q;rfl)
   case u_12 =>
    refine' qo KX G (ps:=["thing"]) ?a ?l ?c ?d ?h ?t ?k ?b
    (case a=>k_is);(case l=>k_is);(case c=>k_is);(case d=>k_is);(case h=>rfl);(case t=>rfl);(case k=>k_is)
    (case b=>intro _ _ _ _ _ _ _ q;obtain ⟨_,rfl⟩:=len1 q;rfl)
   case u_13 =>
    refine' qo KX G (ps:=["web","thing"]) ?a ?l ?c ?d ?h ?t ?k ?b
    (case a=>k_is);(case l=>k_is);(case c=>k_is);(case d=>k_is);(case h=>rfl);(case t=>rfl);(case k=>k_is)
    (case b=>intro _ _ _ _ _ _ _ q;obtain ⟨_,_,rfl⟩:=len2 q;rfl)
   case u_14 =>
    refine' qo KX G (ps:=["web","thing"]) ?a ?l ?c ?d ?h ?t ?k ?b
    (case a=>k_is);(case l=>k_is);(case c=>k_is);(case d=>k_is);(case h=>rfl);(case t=>rfl);(case k=>k_is)
    (case b=>intro _ _ _ _ _ _ _ q;obtain ⟨_,_,rfl⟩:=len2 q;rfl)
   case u_15 =>
    refine' qo KX G (ps:=["web","part"]) ?a ?l ?c ?d ?h ?t ?k ?b
    (case a=>k_is);(case l=>k_is);(case c=>k_is);(case d=>k_is);(case h=>rfl);(case t=>rfl);(case k=>k_is)
    (case b=>intro _ _ _ _ _ _ _ q;obtain ⟨_,_,rfl⟩:=len2 q;rfl)
   case u_16 =>
    refine' qo KX G (ps:=["web"]) ?a ?l ?c ?d ?h ?t ?k ?b
    (case a=>k_is);(case l=>k_is);(case c=>k_is);(case d=>k_is);(case h=>rfl);(case t=>rfl);(case k=>k_is)
    (case b=>intro _ _ _ _ _ _ _ q;obtain ⟨_,rfl⟩:=len1 q;rfl)
   case u_17 =>
    refine' qo KX G (ps:=["costs","ties","left"]) ?a ?l ?c ?d ?h ?t ?k ?b
    (case a=>k_is);(case l=>k_is);(case c=>k_is);(case d=>k_is);(case h=>rfl);(case t=>rfl);(case k=>k_is)
    (case b=>intro _ _ _ _ _ _ _ q;obtain ⟨_,_,_,rfl⟩:=len3 q;rfl)
   case u_18 =>
    refine' qo KX G (ps:=["web"]) ?a ?l ?c ?d ?h ?t ?k ?b
    (case a=>k_is);(case l=>k_is);(case c=>k_is);(case d=>k_is);(case h=>rfl);(case t=>rfl);(case k=>k_is)
    (case b=>intro _ _ _ _ _ _ _ q;obtain ⟨_,rfl⟩:=len1 q;rfl)
   case u_19 =>
    refine' qo KX G (ps:=["web","place"]) ?a ?l ?c ?d ?h ?t ?k ?b
    (case a=>k_is);(case l=>k_is);(case c=>k_is);(case d=>k_is);(case h=>rfl);(case t=>rfl);(case k=>k_is)
    (case b=>intro _ _ _ _ _ _ _ q;obtain ⟨_,_,rfl⟩:=len2 q;rfl)
   case u_20 =>
    refine' qo KX G (ps:=["_law_cell"]) ?a ?l ?c ?d ?h ?t ?k ?b
    (case a=>k_is);(case l=>k_is);(case c=>k_is);(case d=>k_is);(case h=>rfl);(case t=>rfl);(case k=>k_is)
    (case b=>intro _ _ _ _ _ _ _ q;obtain ⟨_,rfl⟩:=len1 q;rfl)
   case u_21 =>
    refine' qo KX G (ps:=["_law_script","_law_k"]) ?a ?l ?c ?d ?h ?t ?k ?b
    (case a=>k_is);(case l=>k_is);(case c=>k_is);(case d=>k_is);(case h=>rfl);(case t=>rfl);(case k=>k_is)
    (case b=>intro _ _ _ _ _ _ _ q;obtain ⟨_,_,rfl⟩:=len2 q;rfl)
   case u_22 =>
    refine' qo KX G (ps:=["_law_pack_here","_law_size"]) ?a ?l ?c ?d ?h ?t ?k ?b
    (case a=>k_is);(case l=>k_is);(case c=>k_is);(case d=>k_is);(case h=>rfl);(case t=>rfl);(case k=>k_is)
    (case b=>intro _ _ _ _ _ _ _ q;obtain ⟨_,_,rfl⟩:=len2 q;rfl)
   case u_23 =>
    refine' qo KX G (ps:=["_law_top","_law_bottom"]) ?a ?l ?c ?d ?h ?t ?k ?b
    (case a=>k_is);(case l=>k_is);(case c=>k_is);(case d=>k_is);(case h=>rfl);(case t=>rfl);(case k=>k_is)
    (case b=>intro _ _ _ _ _ _ _ q;obtain ⟨_,_,rfl⟩:=len2 q;rfl)
   case u_24 =>
    refine' qo KX G (ps:=["_law_one","_law_other"]) ?a ?l ?c ?d ?h ?t ?k ?b
    (case a=>k_is);(case l=>k_is);(case c=>k_is);(case d=>k_is);(case h=>rfl);(case t=>rfl);(case k=>k_is)
    (case b=>intro _ _ _ _ _ _ _ q;obtain ⟨_,_,rfl⟩:=len2 q;rfl)
   case u_25 =>
    refine' qo KX G (ps:=["_law_pack_here","_law_many"]) ?a ?l ?c ?d ?h ?t ?k ?b
    (case a=>k_is);(case l=>k_is);(case c=>k_is);(case d=>k_is);(case h=>rfl);(case t=>rfl);(case k=>k_is)
    (case b=>intro _ _ _ _ _ _ _ q;obtain ⟨_,_,rfl⟩:=len2 q;rfl)
   case u_26 =>
    refine' qo KX G (ps:=["_law_web","_law_part"]) ?a ?l ?c ?d ?h ?t ?k ?b
    (case a=>k_is);(case l=>k_is);(case c=>k_is);(case d=>k_is);(case h=>rfl);(case t=>rfl);(case k=>k_is)
    (case b=>intro _ _ _ _ _ _ _ q;obtain ⟨_,_,rfl⟩:=len2 q;rfl)
   case u_27 =>
    refine' qo KX G (ps:=["_law_web","_law_part"]) ?a ?l ?c ?d ?h ?t ?k ?b
    (case a=>k_is);(case l=>k_is);(case c=>k_is);(case d=>k_is);(case h=>rfl);(case t=>rfl);(case k=>k_is)
    (case b=>intro _ _ _ _ _ _ _ q;obtain ⟨_,_,rfl⟩:=len2 q;rfl)
   case u_28 =>
    refine' qo KX G (ps:=["_law_web","_law_left_here","_law_place"]) ?a ?l ?c ?d ?h ?t ?k ?b
    (case a=>k_is);(case l=>k_is);(case c=>k_is);(case d=>k_is);(case h=>rfl);(case t=>rfl);(case k=>k_is)
    (case b=>intro _ _ _ _ _ _ _ q;obtain ⟨_,_,_,rfl⟩:=len3 q;rfl)
   case u_29 =>
    refine' qo KX G (ps:=["_law_web","_law_left_here"]) ?a ?l ?c ?d ?h ?t ?k ?b
    (case a=>k_is);(case l=>k_is);(case c=>k_is);(case d=>k_is);(case h=>rfl);(case t=>rfl);(case k=>k_is)
    (case b=>intro _ _ _ _ _ _ _ q;obtain ⟨_,_,rfl⟩:=len2 q;rfl)
   case u_30 =>
    refine' qo KX G (ps:=["_law_web","_law_part"]) ?a ?l ?c ?d ?h ?t ?k ?b
    (case a=>k_is);(case l=>k_is);(case c=>k_is);(case d=>k_is);(case h=>rfl);(case t=>rfl);(case k=>k_is)
    (case b=>intro _ _ _ _ _ _ _ q;obtain ⟨_,_,rfl⟩:=len2 q;rfl)
   case u_31 =>
    refine' qo KX G (ps:=["_law_web"]) ?a ?l ?c ?d ?h ?t ?k ?b
    (case a=>k_is);(case l=>k_is);(case c=>k_is);(case d=>k_is);(case h=>rfl);(case t=>rfl);(case k=>k_is)
    (case b=>intro _ _ _ _ _ _ _ q;obtain ⟨_,rfl⟩:=len1 q;rfl)
   case u_32 =>
    refine' qo KX G (ps:=["_law_script","_law_k"]) ?a ?l ?c ?d ?h ?t ?k ?b
    (case a=>k_is);(case l=>k_is);(case c=>k_is);(case d=>k_is);(case h=>rfl);(case t=>rfl);(case k=>k_is)
    (case b=>intro _ _ _ _ _ _ _ q;obtain ⟨_,_,rfl⟩:=len2 q;rfl)
   case u_33 =>
    refine' qo KX G (ps:=["_law_pack_here"]) ?a ?l ?c ?d ?h ?t ?k ?b
    (case a=>k_is);(case l=>k_is);(case c=>k_is);(case d=>k_is);(case h=>rfl);(case t=>rfl);(case k=>k_is)
    (case b=>intro _ _ _ _ _ _ _ q;obtain ⟨_,rfl⟩:=len1 q;rfl)
   case u_34 =>
    refine' qo KX G (ps:=["_law_pack_here"]) ?a ?l ?c ?d ?h ?t ?k ?b
    (case a=>k_is);(case l=>k_is);(case c=>k_is);(case d=>k_is);(case h=>rfl);(case t=>rfl);(case k=>k_is)
    (case b=>intro _ _ _ _ _ _ _ q;obtain ⟨_,rfl⟩:=len1 q;rfl)
   case u_35 =>
    refine' qo KX G (ps:=["_law_web","_law_number"]) ?a ?l ?c ?d ?h ?t ?k ?b
    (case a=>k_is);(case l=>k_is);(case c=>k_is);(case d=>k_is);(case h=>rfl);(case t=>rfl);(case k=>k_is)
    (case b=>intro _ _ _ _ _ _ _ q;obtain ⟨_,_,rfl⟩:=len2 q;rfl)
   case u_36 =>
    refine' qo KX G (ps:=["_law_web"]) ?a ?l ?c ?d ?h ?t ?k ?b
    (case a=>k_is);(case l=>k_is);(case c=>k_is);(case d=>k_is);(case h=>rfl);(case t=>rfl);(case k=>k_is)
    (case b=>intro _ _ _ _ _ _ _ q;obtain ⟨_,rfl⟩:=len1 q;rfl)
   case u_37 =>
    refine' qo KX G (ps:=["_law_script"]) ?a ?l ?c ?d ?h ?t ?k ?b
    (case a=>k_is);(case l=>k_is);(case c=>k_is);(case d=>k_is);(case h=>rfl);(case t=>rfl);(case k=>k_is)
    (case b=>intro _ _ _ _ _ _ _ q;obtain ⟨_,rfl⟩:=len1 q;rfl)
  obtain ⟨f,fd,c,t,hm,U,hb⟩:=p.u_37
  have e0:=hmg.symm.trans hm
  cases e0
  obtain ⟨oc,od,kV,doc,pm,an,ct,osl,rfl,lk,hcd⟩:=U.ex
  exact ⟨_,λs u=>.of_eq rfl,λbase _ _=>RP.o_37 p (RP.qfr p 15) U⟩
end
